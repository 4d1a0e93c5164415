import PyProof.Rows.All
import Wide.All
import OpenK.AllK
import Wide.FinOn
import Lean
import PyProof.EqAt
import PyProof.EqKinds
import PyProof.TupleCall
import PySem.Challenge.RW_swapbook_k76_whole_what_is_lost_behind
set_option Elab.async false
set_option linter.all false
set_option maxRecDepth 100000
namespace Hd
open PySem PySem.W PyProof.Rows
def runT (p:Program) (w:World) (m:Nat) (a:Option Value):Nat->SharedT->Thread->Option SharedT
 | 0,_,_=>none
 | n+1,s,t=>match through t with
  | true=>some s
  | false=>match stepOk m a t with
   | true=>(match stepT (denote treeTable) p w s t with
    | some x=>runT p w m a n x.1 x.2
    | none=>none)
   | false=>none
theorem zp0 {p:Program} {w:World} {m:Nat} {a:Option Value}:∀ {n:Nat} {s z:SharedT} {t:Thread},runT p w m a n s t=some z->topRun treeTable p w m a n s.abs t=some z.abs
 | 0,_,_,_,h=>by cases h
 | n+1,s,z,t,h=>by
  rw [runT] at h
  rw [topRun]
  cases h1:through t<;>rw [h1] at h
  ·cases h2:stepOk m a t<;>rw [h2] at h
   ·cases h
   ·cases h3:stepT (denote treeTable) p w s t with
    | none=>rw [h3] at h;cases h
    | some x=>rw [h3] at h;rw [stepT_spec (s':=x.1) (t':=x.2) h3];exact zp0 h
  ·cases h;rfl
def tr:List Obj->Nat->BT->BT
 | [],_,t=>t
 | o :: r,n,t=>tr r (n+1) (t.ins n o)
noncomputable def boot (P:Params) (os:OsState):SharedT:=⟨tr (boot_heap P).objs.toList 0 .nil,11,(boot_heap P).life,Array.mk [],boot_drawn,boot_toks,os⟩
theorem zo1 (P:Params) (os:OsState):(boot P os).abs=⟨boot_heap P,Array.mk [],boot_drawn,boot_toks,os⟩:=by kernel_rfl
theorem zrx (P:Params):((boot_heap P).isNs mainGlobals&&(Array.mk ([]:List GenState)).size == 0)=true:=by kernel_rfl
theorem zrd (P:Params):(boot_heap P).objs.size=11:=by kernel_rfl
theorem zqU (P:Params):(boot_heap P).nsMap mainGlobals "__annotations__"=some (.ref 6):=by kernel_rfl
noncomputable def lk (p:Program) (w:World) (s:Shared):Bool:=staticsOk (importedModules p.main.body) (boot_heap w.params) s.heap&&namesBound p s.heap&&gensDone s&&laidKept (boot_heap w.params) s.heap
def getT (s:SharedT) (a:Nat):Option Obj:=match Nat.blt a s.n with
 | true=>alive ((s.tree.get a).getD default)
 | false=>none
theorem zrv (s:SharedT) (a:Nat):s.abs.heap.get? a=getT s a:=by
 show (absHeap s.tree s.n s.life).get? a=_
 unfold Heap.get? getT
 rw [absHeap_at]
 by_cases h:a<s.n
 ·have e:Nat.blt a s.n=true:=by simpa [Nat.blt_eq] using h
  rw [if_pos h,e]
  generalize (s.tree.get a).getD default=o
  obtain ⟨c,d,dt,sl⟩:=o
  cases dt<;>rfl
 ·have e:Nat.blt a s.n=false:=by
   cases q:Nat.blt a s.n with
   | false=>rfl
   | true=>exact absurd (by simpa [Nat.blt_eq] using q) h
  rw [if_neg h,e]
theorem y_is (as:List Addr) (s:SharedT):as.map s.abs.heap.get?=as.map (getT s):=by
 congr 1
 funext a
 exact zrv s a
theorem left_of {p q:Program} {loose:List Str} {Xt:Shared->Bool} {α:Type} {Yf:Shared->α} {Ya:World->α} {N:Nat} {g0:Bool} {YT:SharedT->α}
  (e:opening p=plainProg p.main.scope.names) (hN:Nat.ble 600 N=true) (f:∀ s,fenceModules? p s=some s) (hy:∀ s:SharedT,Yf s.abs=YT s)
  (h:∀ w os,(runT p w 11 (some (.ref 6)) N (boot w.params os) (topStub p)).map (λs=>(lk p w s.abs,openSeen q loose (importedModules p.main.body) Xt g0 s.abs,YT s))=some (true,openGood q loose,Ya w)):LeftO p q loose Xt Yf Ya N g0:=λw=>by
 obtain ⟨s,h1,h2⟩:=Option.map_eq_some_iff.mp (boot_open e hN f w)
 obtain ⟨hp,gs,dr,tk,os⟩:=s
 have h3:hp=boot_heap w.params∧gs=Array.mk []∧dr=boot_drawn∧tk=boot_toks:=by simpa using h2
 obtain ⟨rfl,rfl,rfl,rfl⟩:=h3
 obtain ⟨z,h4,h5⟩:=Option.map_eq_some_iff.mp (h w os)
 have h6:=zp0 h4
 rw [zo1] at h6
 obtain ⟨l1,l2,l3⟩:_∧_∧_:=by simpa only [Prod.mk.injEq] using h5
 unfold openEnds
 rw [h1]
 show (topFrom treeTable p w N _).map _=_
 have h7:topFrom treeTable p w N ⟨boot_heap w.params,Array.mk [],boot_drawn,boot_toks,os⟩=some z.abs:=by
  unfold topFrom
  dsimp only
  rw [zrx,zrd,zqU,h6]
  show (match lk p w z.abs with | true=>_ | false=>_)=_
  rw [l1]
 rw [h7]
 exact congrArg some (Prod.ext l2 ((hy z).trans l3))
end Hd
set_option maxRecDepth 100000
namespace My
open PySem PySem.W PyProof.Rows
noncomputable def hdF (q:Program) (as:List Addr) (N:Nat) (w:World) (os:OsState) (bh:Heap) :=
 (Hd.runT PySem.Challenge.rw_swapbook_k76_whole_what_is_lost_behind.row.prog w 11 (some (.ref 6)) N ⟨Hd.tr bh.objs.toList 0 .nil,11,bh.life,Array.mk [],boot_drawn,boot_toks,os⟩ (topStub PySem.Challenge.rw_swapbook_k76_whole_what_is_lost_behind.row.prog)).map (λs=>(staticsOk (importedModules PySem.Challenge.rw_swapbook_k76_whole_what_is_lost_behind.row.prog.main.body) bh s.abs.heap&&namesBound PySem.Challenge.rw_swapbook_k76_whole_what_is_lost_behind.row.prog s.abs.heap&&gensDone s.abs&&laidKept bh s.abs.heap,
  openSeen q [] (importedModules PySem.Challenge.rw_swapbook_k76_whole_what_is_lost_behind.row.prog.main.body) (λs=>xlAt q [] s&&recOk (RowW.records PySem.Challenge.rw_swapbook_k76_whole_what_is_lost_behind.row.toRowW) s) true s.abs,as.map (Hd.getT s)))
noncomputable def hdG (q:Program) (K:Params->Frag) (w:World):=some (true,openGood q [],(K w.params).map λp=>some p.2)
end My
set_option Elab.async false
lay_quick My.hdF My.hdG
namespace My
open PySem PySem.W PyProof.Rows
theorem zr6 {q:Program} {K:Params->Frag} {as:List Addr} {N:Nat} {e:∀ P,as=(K P).map (·.1)} (hN:Nat.ble 600 N=true)
  (h:∀ w os,W.Fast.tw6084617276858994590 q as N w os (boot_heap w.params)=W.Fast.tw7309032369996461460 q K w) :
  LeftO PySem.Challenge.rw_swapbook_k76_whole_what_is_lost_behind.row.prog q [] (λs=>xlAt q [] s&&recOk (RowW.records PySem.Challenge.rw_swapbook_k76_whole_what_is_lost_behind.row.toRowW) s) (kHook K as e).obs (kHook K as e).val N:=by
 rw [← W.Fast.te6084617276858994590,← W.Fast.te7309032369996461460] at h
 exact Hd.left_of (by kernel_rfl) hN (λs=>by kernel_rfl) (Hd.y_is as) h
end My
section
local macro_rules
 | `(tactic| refine $e:term)=>do
  if e.raw.isOfKind `Lean.Parser.Term.app&&e.raw[0].getId.eraseMacroScopes == `PySem.W.holds_open then
   let some _:=e.raw.find? (λs=>s.isOfKind `Lean.Parser.Term.syntheticHole&&s[1].getId.eraseMacroScopes == `hl) | Lean.Macro.throwUnsupported
   let h ← `(My.zr6 (by decide) (λw os=>by kernel_rfl))
   let e' ← e.raw.replaceM λs=>pure (if s.isOfKind `Lean.Parser.Term.syntheticHole&&s[1].getId.eraseMacroScopes == `hl then some h.raw else none)
   `(tactic| refine $(⟨e'⟩))
  else Lean.Macro.throwUnsupported
open PySem PySem.W PyProof.Rows
set_option maxRecDepth 100000 in
set_option maxHeartbeats 0 in
open_top My.headT for PySem.Challenge.rw_swapbook_k76_whole_what_is_lost_behind
end
set_option hygiene false in
local macro_rules
 | `(↑4)=>`(⟨rfl,rfl,rfl,by decide+kernel,rfl,by decide+kernel,by decide+kernel⟩)
 | `(↑44)=>`((λ(p:(T4 Jq Jq Ji Jq))=>dT [dL (List.map lI p.a),dL (List.map lI p.b),dL (List.map dI p.c),dL (List.map lI p.d)]))
 | `(↑8)=>`((by first|(rw [List.map_map];rfl)|(simp only [cond_true,cond_false];rw [List.map_map];rfl)))
 | `(↥1)=>`((hr.mono (by decide)))
 | `(↥0)=>`((by assumption))
 | `(↑0)=>`((by omega))
 | `(↑2)=>`((zaa (i:=0) rfl))
 | `(⇑0)=>`((Or.inl rfl))
 | `(⇑2)=>`((zaa (i:=1) rfl))
 | `(↑91)=>`((λ(s296:Ji)=>([⇑[dT [dL (List.map lI P0.a),dL (List.map lI P0.b),dL (List.map dI P0.c),dL (List.map lI P0.d)]],⇑[dT [dL (List.map lI P1.a),dL (List.map lI P1.b),dL (List.map dI P1.c),dL (List.map lI P1.d)]],⇑[dI P2],⇑[dI P3],.ow true (List.map lI s290),↥[dI x291],↥[dL (List.map dI s296)],.no,.no,.no]:L2.Ctx)))
 | `(↑6)=>`((λcdv Ar outer s H E x hr hp=> ?_))
 | `(↑17)=>`((.eq (.eq (.eq (.eq (.eq (.eq .nil)))))))
 | `(↑76)=>`((λ(s266:Jq×Jq)=>([⇑[dQ K (List.map lI P0)],⇑[dQ K (List.map dI P1)],⇑[dI P2],⇑[dQ K (List.map dI P3)],.ow true (List.map lI s266.1),.no,.no,↥[dI v254],.tl (dRI s266.2),.no,.no,.no,.no,.no]:L2.Ctx)))
 | `(↑5)=>`(⟨by decide,by decide⟩)
 | `(↑132)=>`((λ(s296:Ji) (x297:Int)=>(Let ((zae P2 (((P3+((8:Int)*x291))+x297)%(60:Int)) (7:Int))-(3:Int)) (λ(v301:Int)=>(Let (ixD P1.c x297) (λ(v302:Int)=>(Let (bif ((decide ((0:Int)<(ixD P0.c x291))) && (decide (v302=(0:Int)))) then (0:Int) else (bif (decide ((0:Int)<(ixD P0.c x291))) then (v301*(v302/(zaC v302 ((ixD P0.c x291)%v302)))) else v301)) (λ(v305:Int)=>(Let (List.map (λ(x306:(Int×Int))=>(x306.1+(v305*x306.2))) (List.zip s296 (ixD P1.a x297))) (λ(v309:Ji)=>v309))))))))))
 | `(↑18)=>`((zaa (i:=2) rfl))
 | `(↥8)=>`((λ(r:Bool)=>Oc.rt true (dB r)))
 | `(⇑3)=>`((model X.prog X.w))
 | `(↑77)=>`((λ(s215:Jq×Jq)=>([⇑[dI P0],⇑[dQ K (List.map dI P1)],.ow true (List.map lI s215.1),.ow true (List.map lI s215.2),.no,.no,.no,.no]:L2.Ctx)))
 | `(↑10)=>`((Ev.any (m:=true) (zaa (i:=5) rfl)))
 | `(↑78)=>`((λ(s21:Int×Int×Int×Int)=>([⇑[dI P0],⇑[dI P1],↥[dI s21.1],↥[dI s21.2.1],↥[dI s21.2.2.1],↥[dI s21.2.2.2],.no,.no]:L2.Ctx)))
 | `(↑53)=>`((λ(r:(Jq×Jq))=>Oc.rt true (dT [dL (List.map lI r.1),dL (List.map lI r.2)])))
 | `(↑79)=>`(["_law_script","_law_sides","_law_left","_law_right","_law_books","_law_first","_law_second","_law_both","_law_lost_here","_law_cell_here","_law_basket","_law_number"])
 | `(⇑1)=>`((CXE P w))
 | `(↑133)=>`((λ(s266:Jq×Jq) (x267:Int)=>(Let (zae x267 (4:Int) (max (1:Int) ((s266.1.length:Nat):Int))) (λ(v271:Int)=>(Let (zae x267 (5:Int) (max (1:Int) ((s266.1.length:Nat):Int))) (λ(v272:Int)=>(Let ((zae x267 (6:Int) (5:Int))-(2:Int)) (λ(v273:Int)=>(Let (bif (!decide (v271=v272)) then (zc7 s266.1 v272 (List.map (λ(x275:(Int×Int))=>(x275.1+(v273*x275.2))) (List.zip (ixD s266.1 v272) (ixD s266.1 v271)))) else s266.1) (λ(v279:Jq)=>(Let (bif (!decide (v271=v272)) then (List.map (λ(ns278:Ji)=>zc7 ns278 v271 ((ixD ns278 v271)-(v273*(ixD ns278 v272)))) s266.2) else s266.2) (λ(v280:Jq)=>(v279,v280)))))))))))))
 | `(↑9)=>`((zas (K:=K) rfl (pv 0) rfl))
 | `(↥5)=>`((by decide+kernel))
 | `(⇑6)=>`((zap (K:=K) rfl))
 | `(↑113)=>`((λ(s290:Jq)=>([⇑[dT [dL (List.map lI P0.a),dL (List.map lI P0.b),dL (List.map dI P0.c),dL (List.map lI P0.d)]],⇑[dT [dL (List.map lI P1.a),dL (List.map lI P1.b),dL (List.map dI P1.c),dL (List.map lI P1.d)]],⇑[dI P2],⇑[dI P3],.ow true (List.map lI s290),.no,.no,.no,.no,.no]:L2.Ctx)))
 | `(↑134)=>`((λ(s215:Jq×Jq) (x216:Int)=>(Let (zae x216 (1:Int) P0) (λ(v220:Int)=>(Let (zae x216 (2:Int) P0) (λ(v221:Int)=>(Let ((zae x216 (3:Int) (5:Int))-(2:Int)) (λ(v222:Int)=>(Let (bif (!decide (v220=v221)) then (zc7 s215.1 v221 (List.map (λ(x224:(Int×Int))=>(x224.1+(v222*x224.2))) (List.zip (ixD s215.1 v221) (ixD s215.1 v220)))) else s215.1) (λ(v230:Jq)=>(Let (bif (!decide (v220=v221)) then (zc7 s215.2 v220 (List.map (λ(x227:(Int×Int))=>(x227.1-(v222*x227.2))) (List.zip (ixD s215.2 v220) (ixD s215.2 v221)))) else s215.2) (λ(v231:Jq)=>(v230,v231)))))))))))))
 | `(⇑9)=>`((zaa (i:=3) rfl))
 | `(↑3)=>`((λ_ _=>rfl))
 | `(↑92)=>`(["_law_rows","_law_bottoms_here","_law_idle","_law_cells","_law_swaps","_law_row","_law_number","_law_kept","_law_trips","_law_cell_here","_law_one","_law_two","_law_many","_law_trip"])
 | `(↑50)=>`((EvO.ev (zdl (zab zaL zag) (by show 1≤sizeLine;decide))))
 | `(↑80)=>`((Ev.old (zbg (f:=(zaM A.Book)) (xs:=v371) (Ev.weak (K:=K) (zaa (i:=4) rfl)) zaL ↥(zrK hT hK (by decide)))))
 | `(↑65)=>`((λ(x:Int)=>List.map (λ(y:Int)=>(if (decide (y=x)) then (1:Int) else 0)) (za6 0 w.toNat)))
 | `(↑36)=>`((λ(r:Jq)=>Oc.rt true (dL (List.map lI r))))
 | `(↑93)=>`((λ(r:(T4 Jq Jq Ji Jq))=>Oc.rt true (dT [dL (List.map lI r.a),dL (List.map lI r.b),dL (List.map dI r.c),dL (List.map lI r.d)])))
 | `(↑94)=>`((λ(s:Jq) (x:Ji×Int)=>Let (bif (decide ((0:Int)<x.2)) then (s++[List.map (λ(y:Int)=>(x.2*y)) x.1]) else s) (λ(z:Jq)=>z)))
 | `(↑101)=>`((show (["_law_a","_law_b","_law_many"]:List Str).Nodup by decide+kernel))
set_option hygiene false in
local macro_rules
 | `(↑1)=>`((by decide))
 | `(↑57)=>`((λ(r:(T3 (List (T4 Jq Jq Ji Jq)) Jq Jq))=>Oc.rt true (dT [dL (List.map ↑44 r.a),dL (List.map lI r.b),dL (List.map lI r.c)])))
 | `(↑102)=>`((λ(s384:Unit)=>([⇑[dQ K (List.map dI P0)],↥[dL (List.map ↑44 p367.a)],↥[dL (List.map lI p367.b)],↥[dL (List.map lI p367.c)],↥[dL (List.map (zaM A.Book) v371)],⇑[zaQ A A.Sender v375],⇑[zaQ A A.Sender v379],⇑[zaQ A A.Sender v380],↥[dL (List.map (zaM A.Book) v381)],.no,.no,.no]:L2.Ctx)))
 | `(⇑7)=>`((Ev.any (m:=false) ⇑2))
 | `(↑51)=>`((Ev.any (m:=false) (zaU ⇑2 T.Book_cl T.Book_many rfl)))
 | `(↥4)=>`((CXE l.prog w))
 | `(↑135)=>`((λ(s384:Unit) (x385:Int)=>(((Let (List.map (λ(x389:Int)=>(zbi x385 x389 (4:Int))) (za6 0 ((p367.b.length:Nat):Int).toNat)) (λ(v392:Ji)=>(Let (bif (decide ((x385%(3:Int))=(1:Int))) then (List.map (λ(x394:Int)=>(((1:Int)+(zae x385 (10:Int) (12:Int)))*x394)) (ixD ((ixD p367.a (0:Int)).a) (zae x385 (11:Int) ((p367.b.length:Nat):Int)))) else v392) (λ(v397:Ji)=>(bif (!(zcJ [v375,v379,v380] v381 v397)) then (Sum.inr false) else (Sum.inl ()))))))):(Unit)⊕Bool)))
 | `(↑7)=>`((List.map dI P1))
 | `(↑20)=>`((λ(r:Int)=>Oc.rt true (dI r)))
 | `(↑136)=>`((λ(s54:Jq×Ji) (x55:(Int×Ji))=>(((bif (decide ((zak s54.2)<(zak x55.2))) then (Sum.inr ((s54.1++[(zbT s54.2)])++(zcQ P0 (some x55.1) none))) else (Let (bif (decide ((zak s54.2)=(zak x55.2))) then (s54.1++[(zbE x55.2 s54.2).1]) else (s54.1++[x55.2])) (λ(v61:Jq)=>(Let (bif (decide ((zak s54.2)=(zak x55.2))) then (m_lowered ((zbE x55.2 s54.2).2) (zcQ P0 (some (x55.1+(1:Int))) none)) else s54.2) (λ(v62:Ji)=>(Sum.inl (v61,v62)))))))):(Jq×Ji)⊕Jq)))
 | `(↑114)=>`(([.ob true A.Sender p dx [("first",dV v1),("second",dV v2),("baskets",dL (List.map lI (List.map (λ(x150:Ji)=>x150) P2)))],⇑[dX (v1) (zaM A.Book P0)],⇑[dX (v2) (zaM A.Book P1)],⇑[dQ K (List.map lI P2)],.no,.no,.no]:L2.Ctx))
 | `(⇑8)=>`((List.map lI P0))
 | `(↥9)=>`((Ev.any (m:=false) ↑2))
 | `(↥2)=>`((Addr×Obj))
 | `(↑115)=>`((zb3 (K:=K) (n:=2) rfl rfl (zaH (zao (i:=0) (show (["a","b"]:List Str).Nodup by decide+kernel) rfl ⇑0 (Or.inr rfl)) (zaH (zao (i:=1) (show (["a","b"]:List Str).Nodup by decide+kernel) rfl ⇑0 (Or.inr rfl)) zcA))))
 | `(↑29)=>`(((List.getElem?_eq_some_iff.mp e)))
 | `(↑116)=>`((by ((try simp only [decide_eq_true_eq,decide_eq_false_iff_not,Bool.not_eq_true',Bool.not_eq_false',Bool.and_eq_true,Bool.or_eq_false_iff,Bool.or_eq_true,Bool.and_eq_false_iff,Bool.cond_eq_ite] at*)<;>omega)))
 | `(↑117)=>`((λ(s312:Jq)=>([⇑[dT [dL (List.map lI P0.a),dL (List.map lI P0.b),dL (List.map dI P0.c),dL (List.map lI P0.d)]],⇑[dQ K (List.map lI P1)],⇑[dI P2],.ow true (List.map lI s312),.no,.no,.no]:L2.Ctx)))
 | `(↑81)=>`((λ(r:(Int×(Option (LineD⊕RestD))))=>Oc.rt true (dT [dI r.1,dOpt (dSc A) r.2])))
 | `(↑82)=>`((λ(p:(Int×(LineD⊕RestD)))=>dT [dI p.1,dSc A p.2]))
 | `(↑30)=>`((zaz (K:=K) rfl))
 | `(↑118)=>`((λ_ _ _ _ _=>⟨(zb3 (K:=K) (n:=2) rfl rfl (zaH (zao (i:=0) ↑101 rfl ⇑0 (Or.inr rfl)) (zaH (zao (i:=1) ↑101 rfl ⇑0 (Or.inr rfl)) zcA))),zbc,(zaD zcH (pv 0) (zaD zbK (pv 2) (pv 1)))⟩))
 | `(↑66)=>`((zdm (zdx (K:=K) rfl) rfl T.list PyProof.Rows.boot_list ↑[pv 0]))
 | `(↑119)=>`((λ(s332:(List (T4 Jq Jq Ji Jq)))=>([⇑[dQ K (List.map dI P0)],↥[dI v329],↥[dL (List.map dI v330)],↥[dI v331],.ow true (List.map ↑44 s332),.no,.no,.no,.no,.no,.no,.no]:L2.Ctx)))
 | `(↑11)=>`((Ev.weak (K:=K) ↑18))
 | `(↑14)=>`((zaa (i:=4) rfl))
 | `(↑137)=>`((λ(s233:Ji) (x234:Int)=>(Let (zae P1 (P2+x234) (7:Int)) (λ(v238:Int)=>(Let (ixD [(0:Int),(1:Int),(2:Int),(3:Int),(6:Int),(0:Int),(4:Int)] v238) (λ(v239:Int)=>(Let (bif ((decide (v238=(6:Int))) && (decide ((P1%(2:Int))=(1:Int)))) then ((2:Int)+(zae P1 ((P2+(20:Int))+x234) ((10:Int) ^ (9:Int).toNat))) else v239) (λ(v241:Int)=>(s233++[v241])))))))))
 | `(↑45)=>`((Lat.zek n f.baskets f.second.swaps))
 | `(↑46)=>`((λcdv Ar outer s H E P0 hr hp=> ?_))
 | `(↥7)=>`((Nat.le_refl _))
 | `(↑103)=>`((λ(s30:Ji)=>([⇑[dQ K (List.map dI P0)],⇑[dQ K (List.map lI P1)],↥[dL (List.map dI s30)],.no,.no,.no]:L2.Ctx)))
 | `(↑28)=>`((zas (K:=K) rfl (pv 1) rfl))
 | `(↑40)=>`((λ(xs:Jq)=>dL (List.map lI xs)))
 | `(↑95)=>`((λxs H Q=>∃p ys,xs=[.ref p]∧(SqL K H p ys∨SqT K H p ys)∧Q (.int ys.length) H))
 | `(↑31)=>`((.eq (.eq (.eq (.eq ↑17)))))
 | `(↑138)=>`((λ(s312:Jq) (x313:Int)=>(Let (zch P2 [(0:Int)]) (λ(v317:Ji)=>(Let (List.foldl (λ(s318:Ji) (x319:Int)=>(Let (List.map (λ(x323:(Int×Int))=>(x323.1+((ixD (ixD P0.b x319) x313)*x323.2))) (List.zip s318 (ixD P1 x319))) (λ(v326:Ji)=>v326))) v317 (za6 0 ((P0.c.length:Nat):Int).toNat)) (λ(r327:Ji)=>(s312++[r327])))))))
 | `(↑52)=>`((zcy X (own++fvn) scope cl C fp s H))
 | `(⇑4)=>`(["one","other"])
 | `(↑67)=>`((Ev.any (m:=false) (zaU ↑2 T.Book_cl T.Book_many rfl)))
 | `(↑19)=>`(((P0.length:Nat):Int))
set_option hygiene false in
local macro_rules
 | `(↑104)=>`((λ(s54:Jq×Ji)=>([⇑[dQ K ⇑8],⇑[dQ K ↑7],↥[dL (List.map dI s54.2)],.ow false (List.map lI s54.1),.no,.no,.no]:L2.Ctx)))
 | `(↑96)=>`((λ(s110:Ji)=>([⇑[dQ K ⇑8],⇑[dI P1],.ow true (List.map dI s110),.no,.no,.no]:L2.Ctx)))
 | `(↑83)=>`((zcc (f:=↑44) (xs:=r339) rfl zaL ↥(zps hI ↑1)))
 | `(↑25)=>`((Ev.any (m:=false) ↑18))
 | `(↑58)=>`((λ(r:Ji)=>Oc.rt true (dL (List.map dI r))))
 | `(↑105)=>`((List.map (λ(x227:(Int×Int))=>(x227.1-(v222*x227.2))) (List.zip (ixD s215.2 v220) (ixD s215.2 v221))))
 | `(↥6)=>`((Or.inr rfl))
 | `(↑15)=>`((zbN I q (by simp)))
 | `(↑97)=>`(["_law_wide","_law_cells","_law_rows","_law_duals","_law_cell_here","_law_one","_law_two","_law_many"])
 | `(↑98)=>`((λ(r:(Ji×Ji))=>Oc.rt true (dT [dL (List.map dI r.1),dL (List.map dI r.2)])))
 | `(↑37)=>`(((steps.length+1)*(s+9000)))
 | `(↑38)=>`((List.mem_cons_of_mem _ ht))
 | `(↑39)=>`((za1 ⇑6 (pv 4) zaj ↑3))
 | `(↑120)=>`(((scope.names.map λ(n,k)=>if (k==NameKind.free && X.env.scope.kind== .function && X.env.kindOf n==some .cell) then (n,NameKind.cell) else (n,k))))
 | `(↑139)=>`((λ(s332:(List (T4 Jq Jq Ji Jq))) (x333:Int)=>(Let ((1:Int)+((v329/(ixD [(1:Int),(3:Int),(9:Int)] x333))%(3:Int))) (λ(v337:Int)=>(Let (zcQ v330 (some (v331*x333)) (some ((v331*x333)+v331))) (λ(v338:Ji)=>(s332++[(zbz v338 v337 (zbd P0 ((1:Int)+x333)) ((v329/(27:Int))%(2:Int)))])))))))
 | `(↑54)=>`((max (1:Int) ((s.1.length:Nat):Int)))
 | `(↑106)=>`((λ(s233:Ji)=>([⇑[dI P0],⇑[dI P1],⇑[dI P2],.ow true (List.map dI s233),.no,.no,.no]:L2.Ctx)))
 | `(⇑5)=>`((-(1:Int)))
 | `(↑12)=>`((za9 (K:=K) rfl))
 | `(↑55)=>`((Ev.any (m:=true) (zaa (i:=6) rfl)))
 | `(↑21)=>`((s.heap.objs.size+1))
 | `(↥3)=>`((λ_=>rfl))
 | `(↑121)=>`((λ(x:Int)=>List.map (λ(y:Int)=>(if (decide (y=(((a.length:Nat):Int)+x))) then (1:Int) else 0)) (za6 0 (((a.length:Nat):Int)+idle).toNat)))
 | `(↑68)=>`((zcy X (own++fvn) scope cl' G2.objs.size fp s H2))
 | `(↑60)=>`((zaU ↑2 T.Sender_cl T.Sender_second rfl))
 | `(↑26)=>`((Ev.weak (K:=K) ↑2))
 | `(↑32)=>`(((List.range B.length)))
 | `(↑33)=>`(⟨by omega,by omega⟩)
 | `(↑84)=>`((⟨P0,P1,(List.map (λ(x150:Ji)=>x150) P2)⟩:SenderD))
 | `(↑69)=>`(((decide ((0:Int)<y)) && (decide (b=(0:Int)))))
 | `(↑70)=>`((zaK ↑30 rfl T.len PySem.boot_len ↑[pv 1]))
 | `(↑71)=>`((zaK ↑30 rfl T.len PySem.boot_len ↑[pv 2]))
 | `(↑85)=>`((λz=>hc (by rw [z];exact List.mem_singleton.mpr rfl)))
 | `(↑41)=>`(((p367.b.length:Nat):Int))
 | `(↑34)=>`(((f.c.length:Nat):Int))
 | `(↑35)=>`((Ev.weak (K:=K) ⇑9))
 | `(↑56)=>`(["_law_cell_here","_law_k","_law_many"])
 | `(↑72)=>`((λ(r:Jq)=>Oc.rt false (dL (List.map lI r))))
 | `(↑122)=>`((.of (osc:=(zaf zd1)) (N:=["book","rows","steps","heads","roads"]) (own:=["row"]) (fvn:=["book"]) (fv:=[0]) rfl rfl ↥5))
 | `(↑61)=>`((some (.builtin "object.__setattr__")))
set_option hygiene false in
local macro_rules
 | `(↑13)=>`((T4 Jq Jq Ji Jq))
 | `(↑107)=>`((zao (i:=0) (show (["row","book"]:List Str).Nodup by decide+kernel) rfl ⇑0 ↥6))
 | `(↑140)=>`((λ(s21:Int×Int×Int×Int)=>(Let (s21.1/s21.2.1) (λ(v24:Int)=>(Let (s21.1-(v24*s21.2.1)) (λ(v25:Int)=>(Let s21.2.1 (λ(v26:Int)=>(Let (s21.2.2.1-(v24*s21.2.2.2)) (λ(v27:Int)=>(Let s21.2.2.2 (λ(v28:Int)=>(v26,v25,v28,v27)))))))))))))
 | `(↑141)=>`((λ(s318:Ji)=>([⇑[dT [dL (List.map lI P0.a),dL (List.map lI P0.b),dL (List.map dI P0.c),dL (List.map lI P0.d)]],⇑[dQ K (List.map lI P1)],⇑[dI P2],.ow true (List.map lI s312),↥[dI x313],↥[dL (List.map dI s318)],.no]:L2.Ctx)))
 | `(↑62)=>`((by rw [List.length_singleton];omega))
 | `(↑16)=>`((List.map dI P0))
 | `(↑47)=>`((show false=true from hs))
 | `(↑73)=>`(⟨⟨(W1:Int),s1.d⟩,⟨(W2:Int),s2.d⟩,y.c⟩)
 | `(↑142)=>`((λ(s182:Unit) (x183:(Int×Ji))=>(((Let ((m_shown P1 x183.2).2) (λ(v187:(Option (LineD⊕RestD)))=>(bif v187.isSome then (Sum.inr (some (x183.1,(gS v187)))) else (Sum.inl ()))))):(Unit)⊕(Option (Int×(LineD⊕RestD))))))
 | `(↑42)=>`((Ev.any (m:=true) ↑18))
 | `(↑86)=>`((Nat.lt_of_lt_of_le (Heap.lt_size e) I.ok.above))
 | `(↑87)=>`((.ListComp elt [⟨tg,iter,ifs,0⟩] scope pos))
 | `(↑63)=>`((Ev.weak (K:=K) (zcs ↑2 zaL rfl)))
 | `(↑48)=>`((Ev.any (m:=true) ⇑9))
 | `(↑49)=>`((Ev.any (m:=true) ↑14))
 | `(↑59)=>`((List.getElem?_eq_getElem ↑0))
 | `(↑27)=>`((ixD r339 (1:Int)))
 | `(↑22)=>`(⟨(m:Int),s1.d⟩)
 | `(↑88)=>`((zaK ↑30 rfl T.len PySem.boot_len ↑[pv 0]))
 | `(↑43)=>`(((y.b.length:Nat):Int))
 | `(↑108)=>`(((List.map (λ(x120:Ji)=>(x120++[(0:Int)])) P0.swaps)++[(P1++[⇑5])]))
 | `(↑123)=>`((bif (decide ((0:Int)<x244.2)) then (s243++[(List.map (λ(x249:Int)=>(x244.2*x249)) x244.1)]) else s243))
 | `(↑23)=>`((zaa (i:=5) rfl))
 | `(↑124)=>`((List.map (λ(x224:(Int×Int))=>(x224.1+(v222*x224.2))) (List.zip (ixD s215.1 v221) (ixD s215.1 v220))))
 | `(↑125)=>`((List.map (λ(x275:(Int×Int))=>(x275.1+(v273*x275.2))) (List.zip (ixD s266.1 v272) (ixD s266.1 v271))))
 | `(↑99)=>`((λx=>[dQ K (List.map dI x.1),dQ K (List.map dI x.2)]))
 | `(↑109)=>`((zaK ↑30 rfl T.len PySem.boot_len ↑[(za1 ↑12 (pv 0) zaj ↑3)]))
 | `(↑126)=>`((Ev.any (m:=true) (zam (x:=(P0,P1)) (zab ↑2 (zab ⇑2 zag)) rfl (by show zbO P0 P1;exact hp.1) rfl)))
 | `(↑143)=>`((λ(s30:Ji) (x31:Ji)=>(Let (zak x31) (λ(hv35:Int)=>(Let ((ixD s30 hv35)/(ixD x31 hv35)) (λ(v36:Int)=>(Let (bif (!decide (v36=(0:Int))) then (zfx s30 (zaq x31 v36)) else s30) (λ(v38:Ji)=>v38))))))))
 | `(↑144)=>`((λ(s110:Ji) (x111:Ji)=>(Let (zak x111) (λ(hv115:Int)=>(Let (zcY s110 x111) (λ(v116:Int)=>(Let (zaq s110 (ixD x111 hv115)) (λ(v117:Ji)=>(Let (zc7 v117 hv115 (-v116)) (λ(v118:Ji)=>v118))))))))))
 | `(↑89)=>`((∀x c,X.env.cells.lookup x=some c->c≠b))
 | `(↑64)=>`((backTo pos (starEach es X.env)))
 | `(↑127)=>`((Ev.old (zbg (f:=(zaM A.Book)) (xs:=v381) (Ev.weak (K:=K) (zaa (i:=8) rfl)) zaL ↥(ztN hL ↑1))))
 | `(↑100)=>`((List.filter (λ(t:Ji)=>decide (zak t<b.many)) rows))
 | `(↑24)=>`((2147483647:Int))
 | `(↑128)=>`((List.map (λ(x262:Int)=>(if (decide (x262=(v254+x259))) then 1 else 0)) (za6 0 (v254+P2).toNat)))
 | `(↑110)=>`((thn (ha pos pins s σ H _ I h) λus s1 ⟨vs,H1,I1,r1,q1⟩=> ?_))
 | `(↑111)=>`((λ(r:(Option (Int×(LineD⊕RestD))))=>Oc.rt true (dOpt ↑82 r)))
 | `(↑74)=>`((Ev.any (m:=true) (zaa (i:=9) rfl)))
 | `(↑129)=>`((λr s'=>r= .ok (.ret (.bool true))∧OldK s₁.heap s'.heap∧s'.os=s₁.os∧AllBare s'.gens))
set_option hygiene false in
local macro_rules
 | `(↑145)=>`((λ(s290:Jq) (x291:Int)=>(Let (zch ((P1.c.length:Nat):Int) [(0:Int)]) (λ(v295:Ji)=>(Let (List.foldl ↑132 v295 (za6 0 ((P1.c.length:Nat):Int).toNat)) (λ(r310:Ji)=>(s290++[r310])))))))
 | `(↑130)=>`((Ev.any (m:=false) (zaU (zaU ↑2 T.Sender_cl T.Sender_first rfl) T.Book_cl T.Book_many rfl)))
 | `(↑90)=>`((Lat.mul y ⇑5++zch (n:Int) [(0:Int)]))
 | `(↑146)=>`((zab (Ev.old ↑83) (zab (Ev.old ↑83) (zab (Ev.any (m:=true) (zam (x:=(P0,(0:Int))) (zab ↑2 (zab zaL zag)) rfl (by show zcj P0 (0:Int);unfold zcj;decide) rfl)) (zab zaL zag)))))
 | `(↑75)=>`((.eq (.eq (.no (.no (.no .nil))))))
 | `(↑131)=>`((List.map (λ(ns278:Ji)=>zc7 ns278 v271 ((ixD ns278 v271)-(v273*(ixD ns278 v272)))) s266.2))
 | `(↑112)=>`((List.mem_append_right _ (List.mem_append_right _ (zfZ hb e))))
set_option hygiene false in
local macro_rules
 | `(⇑[$x])=>`((.va false $x))
 | `(↥[$x])=>`((.va true $x))
 | `(↥($x))=>`((by exact $x))
abbrev Ji:=List Int
abbrev Jq:=List Ji
set_option hygiene false in
local macro_rules
 | `(↑[$a0])=>`((zb5 $a0 zeC))
 | `(↑[$a0,$a1])=>`((zb5 $a0 (zb5 $a1 zeC)))
 | `(↑[$a0,$a1,$a2])=>`((zb5 $a0 (zb5 $a1 (zb5 $a2 zeC))))
 | `(↑[$a0,$a1,$a2,$a3])=>`((zb5 $a0 (zb5 $a1 (zb5 $a2 (zb5 $a3 zeC)))))
 | `(↑[$a0,$a1,$a2,$a3,$a4])=>`((zb5 $a0 (zb5 $a1 (zb5 $a2 (zb5 $a3 (zb5 $a4 zeC))))))
 | `(↑[$a0,$a1,$a2,$a3,$a4,$a5])=>`((zb5 $a0 (zb5 $a1 (zb5 $a2 (zb5 $a3 (zb5 $a4 (zb5 $a5 zeC)))))))
namespace L2
open PySem PySem.Spec PyProof.Rows
abbrev Key:=Sum Int Str
def zsX:Key->Value->Bool
 | .inl k,v=>Value.isInt k v
 | .inr x,v=>Value.isStrOf x v
def zvC (w:World):Key->Int
 | .inl k=>hashInt k
 | .inr x=>hashStr w x
theorem zcz:∀ {k:Key} {v:Value},zsX k v=true->(∃ i t,k=Sum.inl i∧v=Value.int i t)∨(∃ x t,k=Sum.inr x∧v=Value.str x t)
 | .inl i,v,h=>by
  obtain ⟨t,e⟩:=Value.isInt_shape (k:=i) (v:=v) h
  exact .inl ⟨i,t,rfl,e⟩
 | .inr x,v,h=>by
  obtain ⟨t,e⟩:=Value.isStrOf_shape (x:=x) (v:=v) h
  exact .inr ⟨x,t,rfl,e⟩
theorem zr7 (a b:Int):decide ((Sum.inl a:Key)=Sum.inl b)=(a == b):=by
 by_cases e:a=b
 ·subst e;simp
 ·have h:¬ (Sum.inl a:Key)=Sum.inl b:=λq=>e (Sum.inl.inj q)
  rw [decide_eq_false h]
  exact (beq_eq_false_iff_ne.mpr e).symm
theorem ztj (a b:Str):decide ((Sum.inr a:Key)=Sum.inr b)=decide (a=b):=by
 by_cases e:a=b
 ·subst e;simp
 ·have h:¬ (Sum.inr a:Key)=Sum.inr b:=λq=>e (Sum.inr.inj q)
  rw [decide_eq_false h,decide_eq_false e]
theorem ztA (a:Int) (b:Str):decide ((Sum.inl a:Key)=Sum.inr b)=false:=decide_eq_false (λq=>nomatch q)
theorem zsJ (a:Str) (b:Int):decide ((Sum.inr a:Key)=Sum.inl b)=false:=decide_eq_false (λq=>nomatch q)
def zoc (prog:Program) (w:World):PySem.KeyKind prog w Key where
 is:=zsX
 hash:=zvC w
 inj:=λv a b ha hb=>by
  rcases zcz ha with ⟨i,t,rfl,rfl⟩ | ⟨x,t,rfl,rfl⟩
  ·rcases zcz hb with ⟨j,u,rfl,e⟩ | ⟨y,u,rfl,e⟩
   ·injection e with e1 _;rw [e1]
   ·exact nomatch e
  ·rcases zcz hb with ⟨j,u,rfl,e⟩ | ⟨y,u,rfl,e⟩
   ·exact nomatch e
   ·injection e with e1 _;rw [e1]
 byValue:=λk v h=>by
  rcases zcz h with ⟨i,t,rfl,rfl⟩ | ⟨x,t,rfl,rfl⟩<;>rfl
 pyHash:=λhv h=>by
  rcases zcz hv with ⟨i,t,rfl,rfl⟩ | ⟨x,t,rfl,rfl⟩
  ·exact wpAny_pyHash_int h
  ·exact wpAny_pyHash_str h
 eqBool:=λhu hv h=>by
  rcases zcz hu with ⟨i,t,rfl,rfl⟩ | ⟨x,t,rfl,rfl⟩
  ·rcases zcz hv with ⟨j,u,rfl,rfl⟩ | ⟨y,u,rfl,rfl⟩
   ·rw [zr7] at h;exact wpAny_eqBool_int h
   ·rw [ztA] at h;exact SeqAt.EqAt.int_str i t y u _ _ _ _ h
  ·rcases zcz hv with ⟨j,u,rfl,rfl⟩ | ⟨y,u,rfl,rfl⟩
   ·rw [zsJ] at h;exact SeqAt.EqAt.str_int x t j u _ _ _ _ h
   ·rw [ztj] at h;exact wpAny_eqBool_str h
 «strs»:=λk x t v h=>by
  rcases zcz h with ⟨i,u,rfl,e⟩ | ⟨y,u,rfl,e⟩
  ·exact nomatch e
  ·injection e with e1 _
   subst e1
   cases v<;>rfl
end L2
namespace L2
open PySem PySem.Spec PyProof.Rows
inductive V where
 | non | bl (b:Bool) | int (i:Int) | str (x:Str) | byt (b:Array UInt8) | flt (b:UInt64) | ref (a:Addr) | ty (n:String)
 deriving DecidableEq
def zef:V->Value->Prop
 | .non,u=>u=Value.none
 | .bl b,u=>u=Value.bool b
 | .int i,u=>∃ t,u=Value.int i t
 | .str x,u=>∃ t,u=Value.str x t
 | .byt b,u=>∃ t,u=Value.bytes b t
 | .flt b,u=>∃ t,u=Value.float b t
 | .ref a,u=>u=Value.ref a
 | .ty n,u=>u=Value.type n
abbrev zct:List V->List Value->Prop:=Paired zef
theorem zct.length {xs:List V} {us:List Value} (r:zct xs us):xs.length=us.length:=Paired.length r
theorem zct.get:∀ {xs:List V} {us:List Value} {i:Nat} {x:V},zct xs us->xs[i]?=some x->∃ u,us[i]?=some u∧zef x u
 | _,_,_,_,.nil,e=>by simp at e
 | _,_,0,_,.cons r _,e=>by simp at e;subst e;exact ⟨_,rfl,r⟩
 | _,_,i+1,x,.cons _ t,e=>by
  obtain ⟨u,h1,h2⟩:=zct.get (i:=i) (x:=x) t (by simpa using e)
  exact ⟨u,by simpa using h1,h2⟩
theorem zct.set {x:V} {u:Value} (r:zef x u):∀ {xs:List V} {us:List Value} (i:Nat),zct xs us->zct (xs.set i x) (us.set i u)
 | _,_,_,.nil=>.nil
 | _,_,0,.cons _ t=>.cons r t
 | _,_,i+1,.cons q t=>.cons q (zct.set r i t)
theorem zct.append:∀ {xs ys:List V} {us ws:List Value},zct xs us->zct ys ws->zct (xs++ys) (us++ws)
 | _,_,_,_,.nil,s=>s
 | _,_,_,_,.cons r t,s=>.cons r (zct.append t s)
theorem zct.take:∀ {xs:List V} {us:List Value} (n:Nat),zct xs us->zct (xs.take n) (us.take n)
 | _,_,0,_=>.nil
 | _,_,_+1,.nil=>.nil
 | _,_,n+1,.cons r t=>.cons r (zct.take n t)
theorem zct.drop:∀ {xs:List V} {us:List Value} (n:Nat),zct xs us->zct (xs.drop n) (us.drop n)
 | _,_,0,r=>r
 | _,_,_+1,.nil=>.nil
 | _,_,n+1,.cons _ t=>zct.drop n t
def zoL:Option V->Option Value->Prop
 | some v,some u=>zef v u
 | none,none=>True
 | _,_=>False
def KV {κ:Type}:List (κ×V)->List (κ×Value)->Prop:=Paired λ(p:κ×V) (q:κ×Value)=>p.1=q.1∧zef p.2 q.2
def kV:Key->V
 | .inl i=>.int i
 | .inr x=>.str x
inductive HO where
 | lst (xs:List V)
 | tup (xs:List V)
 | dK (kvs:List (Key×V)) | dT (kvs:List (List Key×V))
 | set (S:Int->Bool) (n:Nat)
 | ins (C dx:Addr) (fs:List (Str×V))
 | own (x:Addr)
 | xd (fs:List (Str×V))
 | met (f x:Addr)
 | rng (lo hi:Int)
 | frz (o:Obj) (u:HO)
 | tbl (ps:Array Value)
 | ext (φ:Heap->Prop)
abbrev Hp:=Addr->Option HO
def upd (H:Hp) (a:Addr) (o:HO):Hp:=λb=>if b=a then some o else H b
theorem zaG {H:Hp} {a:Addr} {o:HO}:upd H a o a=some o:=by unfold upd;rw [if_pos rfl]
theorem zax {H:Hp} {a b:Addr} {o:HO} (h:b≠a):upd H a o b=H b:=by unfold upd;rw [if_neg h]
theorem zjG {H:Hp} {a b:Addr} {o u:HO} (h:H a=some o) (h':H b=some u) (d:o≠u):a≠b:=by
 intro e;subst e;rw [h] at h';exact d (Option.some.inj h')
theorem zbk {H:Hp} {a b:Addr} {o:HO} (h:H a=some o) (h':H b=none):a≠b:=by
 intro e;subst e;rw [h] at h';cases h'
section
variable (P:Program) (w:World)
def zfv (H:Hp) (h:Heap) (a:Addr):HO->Prop
 | .lst xs=>xs.length≤sizeLine∧∃ (its:List Value) (n:Nat),zct xs its∧h.get? a=some { cls:=.type "list",data:=.seq its.toArray n }
 | .tup xs=>xs.length≤sizeLine∧∃ its:List Value,zct xs its∧IsTup h a its.toArray
 | .dK kvs=>kvs.length≤sizeLine∧(a == sysModules)=false∧∃ vs,KV kvs vs∧h.DictOf (zoc P w) a vs
 | .dT kvs=>kvs.length≤sizeLine∧(a == sysModules)=false∧∃ xs:List (List Key×Addr×Value),
   Paired (λ(p:List Key×V) (q:List Key×Addr×Value)=>p.1=q.1∧H q.2.1=some (.tup (p.1.map kV))∧zef p.2 q.2.2) kvs xs ∧
   ∃ o es ep,h.get? a=some o∧o.ExactDict∧o.data=.dict es ep∧es.toList=xs.map (entryOfKey (tupleKind (zoc P w)))∧(xs.map (·.1)).Nodup
 | .set S n=>h.SetOf (intKind P w) a S n
 | .ins C dx fs=>H dx=some (.own a)∧fs.length≤1000∧dx≠a∧h.get? a=some (W.instObj C dx) ∧
   ∃ mA,h.Ns1 dx mA∧(∀ f,zoL (fs.lookup f) (mA f))∧PySem.Within mA (fs.map (·.1))
 | .own _=>∃ o,h.get? a=some o
 | .xd fs=>∃ mA,h.Ns1 a mA∧∀ f,zoL (fs.lookup f) (mA f)
 | .rng lo hi=>∃ t u v,h.get? a=some { cls:=.type "range",data:=.fields #[.int lo t,.int hi u,.int 1 v] }
 | .frz o u=>h.get? a=some o∧zfv H h a u
 | .tbl ps=>h.get? a=some { cls:=.none,data:=.fields ps }
 | .met f x=>h.get? a=some (W.methodObj (.ref f) (.ref x))
 | .ext φ=>φ h∧(∃ o,h.get? a=some o)∧∀ h1 h2:Heap,φ h1->(∀ o,h1.get? a=some o->h2.get? a=some o)->φ h2
def HOk (H:Hp) (h:Heap):Prop:=∀ a o,H a=some o->zfv P w H h a o
end
section
variable {P:Program} {w:World} {H H':Hp} {h h':Heap} {a:Addr} {o:HO}
theorem zfv.lt (x:zfv P w H h a o):a<h.objs.size:=by
 cases o with
 | lst xs=>obtain ⟨_,_,_,_,e⟩:=x;exact Heap.lt_size e
 | tup xs=>obtain ⟨_,_,_,p⟩:=x;exact p.lt
 | dK kvs=>obtain ⟨_,_,_,_,o,_,_,e,_⟩:=x;exact Heap.lt_size e
 | dT kvs=>obtain ⟨_,_,_,_,o,_,_,e,_⟩:=x;exact Heap.lt_size e
 | set S n=>obtain ⟨o,_,_,_,e,_⟩:=x;exact Heap.lt_size e
 | ins C dx fs=>obtain ⟨_,_,_,e,_⟩:=x;exact Heap.lt_size e
 | own y=>obtain ⟨_,e⟩:=x;exact Heap.lt_size e
 | xd fs=>obtain ⟨_,⟨_,_,_,e,_⟩,_⟩:=x;exact Heap.lt_size e
 | rng lo hi=>obtain ⟨_,_,_,e⟩:=x;exact Heap.lt_size e
 | frz ob u=>obtain ⟨e,_⟩:=x;exact Heap.lt_size e
 | tbl ps=>exact Heap.lt_size (show h.get? a=some _ from x)
 | met f y=>exact Heap.lt_size (show h.get? a=some _ from x)
 | ext φ=>obtain ⟨_,⟨_,e⟩,_⟩:=x;exact Heap.lt_size e
theorem Paired.mapP {α β:Type} {F G:α->β->Prop}:∀ {l₁:List α} {l₂:List β},Paired F l₁ l₂->(∀ a b,F a b->G a b)->Paired G l₁ l₂
 | _,_,.nil,_=>.nil
 | _,_,.cons r t,f=>.cons (f _ _ r) (Paired.mapP t f)
theorem zfv.stay (x:zfv P w H h a o) (k:∀ b u,(b=a∨H b=some (.own a))->h.get? b=some u->h'.get? b=some u)
  (ho:∀ b,H b=some (.own a)->H' b=some (.own a)) (ht:∀ b xs,H b=some (.tup xs)->H' b=some (.tup xs)):zfv P w H' h' a o:=by
 induction o with
 | lst xs=>obtain ⟨z,its,n,r,e⟩:=x;exact ⟨z,its,n,r,k _ _ (.inl rfl) e⟩
 | tup xs=>obtain ⟨z,its,r,ob,e,c⟩:=x;exact ⟨z,its,r,ob,k _ _ (.inl rfl) e,c⟩
 | dK kvs=>obtain ⟨z,y,vs,r,ob,es,ep,e,c⟩:=x;exact ⟨z,y,vs,r,ob,es,ep,k _ _ (.inl rfl) e,c⟩
 | dT kvs =>
  obtain ⟨z,y,xs,r,ob,es,ep,e,c⟩:=x
  exact ⟨z,y,xs,Paired.mapP r λp q z=>⟨z.1,ht _ _ z.2.1,z.2.2⟩,ob,es,ep,k _ _ (.inl rfl) e,c⟩
 | set S n=>obtain ⟨ob,es,ep,t,e,c⟩:=x;exact ⟨ob,es,ep,t,k _ _ (.inl rfl) e,c⟩
 | ins C dx fs =>
  obtain ⟨d,z,ne,e,mA,⟨od,es,ep,e2,c⟩,r⟩:=x
  exact ⟨ho _ d,z,ne,k _ _ (.inl rfl) e,mA,⟨od,es,ep,k _ _ (.inr d) e2,c⟩,r⟩
 | own y=>obtain ⟨ob,e⟩:=x;exact ⟨ob,k _ _ (.inl rfl) e⟩
 | xd fs=>obtain ⟨mA,⟨od,es,ep,e,c⟩,r⟩:=x;exact ⟨mA,⟨od,es,ep,k _ _ (.inl rfl) e,c⟩,r⟩
 | rng lo hi=>obtain ⟨t,u,v,e⟩:=x;exact ⟨t,u,v,k _ _ (.inl rfl) e⟩
 | frz ob u ih=>obtain ⟨e,q⟩:=x;exact ⟨k _ _ (.inl rfl) e,ih q⟩
 | tbl ps =>
  have e:h.get? a=some { cls:=.none,data:=.fields ps }:=x
  show h'.get? a=some { cls:=.none,data:=.fields ps }
  exact k a _ (.inl rfl) e
 | met f y =>
  have e:h.get? a=some (W.methodObj (.ref f) (.ref y)):=x
  show h'.get? a=some (W.methodObj (.ref f) (.ref y))
  exact k a _ (.inl rfl) e
 | ext φ=>obtain ⟨p,⟨o,e⟩,st⟩:=x;exact ⟨st _ _ p λo q=>k _ _ (.inl rfl) q,⟨o,k _ _ (.inl rfl) e⟩,st⟩
theorem HOk.lt (x:HOk P w H h) (e:H a=some o):a<h.objs.size:=(x a o e).lt
theorem HOk.fresh (x:HOk P w H h) (e:h.objs.size≤a):H a=none:=by
 cases q:H a with
 | none=>rfl
 | some u=>exact absurd (Nat.lt_of_lt_of_le (x.lt q) e) (Nat.lt_irrefl _)
theorem HOk.kept (x:HOk P w H h) (k:∀ b u,h.get? b=some u->h'.get? b=some u):HOk P w H h':=λa o e =>
 (x a o e).stay (λb u _ q=>k b u q) (λ_ q=>q) λ_ _ q=>q
theorem HOk.laid (x:HOk P w H h) (k:∀ b u,h.get? b=some u->h'.get? b=some u) (hp:h.objs.size≤a) (new:zfv P w (upd H a o) h' a o):HOk P w (upd H a o) h':=λb u e=>by
 have hn:=x.fresh hp
 by_cases hb:b=a
 ·subst hb;rw [zaG] at e;cases e;exact new
 ·rw [zax hb] at e
  exact (x b u e).stay (λc v _ q=>k c v q) (λc q=>by rw [zax (zbk q hn)];exact q) λc xs q=>by rw [zax (zbk q hn)];exact q
end
def Rd (H:Hp) (a:Addr) (u:HO):Prop:=H a=some u∨∃ o,H a=some (.frz o u)
theorem Rd.ok {P:Program} {w:World} {H:Hp} {h:Heap} {a:Addr} {u:HO} (r:Rd H a u) (x:HOk P w H h):zfv P w H h a u:=by
 rcases r with r | ⟨o,r⟩
 ·exact x a u r
 ·obtain ⟨_,q⟩:=x a _ r
  exact q
def Mut:Option HO->Prop
 | some (.lst _)=>True
 | some (.dK _)=>True
 | some (.dT _)=>True
 | some (.set _ _)=>True
 | some (.ins _ _ _)=>True
 | some (.ext _)=>True
 | _=>False
section
variable {P:Program} {w:World} {H:Hp} {h h':Heap} {x e:Addr} {o':HO}
theorem HOk.write (ok:HOk P w H h) (mu:Mut (H x)) (he:e=x∨H e=some (.own x)) (k:∀ b u,b≠e->h.get? b=some u->h'.get? b=some u) (heo:∃ u,h'.get? e=some u)
  (new:zfv P w (upd H x o') h' x o'):HOk P w (upd H x o') h':=λb u q=>by
 have nown:∀ c y,H c=some (.own y)->c≠x:=λc y r z=>by subst z;rw [r] at mu;exact mu
 have ntup:∀ c xs,H c=some (.tup xs)->c≠x:=λc xs r z=>by subst z;rw [r] at mu;exact mu
 by_cases hb:b=x
 ·subst hb;rw [zaG] at q;cases q;exact new
 ·rw [zax hb] at q
  by_cases hbe:b=e
  ·have q':H b=some (.own x):=by
    rcases he with z | z
    ·exact absurd (hbe.trans z) hb
    ·rw [hbe];exact z
   rw [q] at q';cases q'
   obtain ⟨v,hv⟩:=heo
   exact ⟨v,by rw [hbe];exact hv⟩
  ·refine (ok b u q).stay (λc v hc r=>k c v ?_ r) (λc r=>by rw [zax (nown c b r)];exact r) λc xs r=>by rw [zax (ntup c xs r)];exact r
   rcases hc with rfl | hc
   ·exact hbe
   ·rintro rfl
    rcases he with z | z
    ·exact nown c b hc z
    ·rw [hc] at z;cases z;exact hb rfl
end
structure Un (fs ex:List Addr) (H H':Hp) (h h':Heap):Prop where
 keep:∀ b o,h.get? b=some o->H b=none->b ∉ fs->b ∉ ex->h'.get? b=some o
 slot:∀ b o,h.get? b=some o->H b=none->b∈fs->b ∉ ex->∃ sl,h'.get? b=some { o with slots:=sl }
 free:∀ b o,h.get? b=some o->H b=none->b ∉ ex->H' b=none
 there:∀ b o,h.get? b=some o->b ∉ ex->∃ o',h'.get? b=some o'
 tups:∀ b xs,H b=some (.tup xs)->H' b=some (.tup xs)
 frzs:∀ b o u,H b=some (.frz o u)->H' b=some (.frz o u)
 tbls:∀ b ps,H b=some (.tbl ps)->∃ more,H' b=some (.tbl (ps++more))
section
variable {fs fs' ex ex':List Addr} {H H1 H2:Hp} {h h1 h2 h':Heap} {a x e:Addr} {o:HO}
theorem Un.any (u:Un fs ex H H1 h h1) {b:Addr} {ob:Obj} (q:h.get? b=some ob) (n:H b=none) (hx:b ∉ ex):∃ sl,h1.get? b=some { ob with slots:=sl }:=by
 by_cases hb:b∈fs
 ·exact u.slot b ob q n hb hx
 ·exact ⟨ob.slots,u.keep b ob q n hb hx⟩
theorem Un.kept (k:∀ b u,h.get? b=some u->h'.get? b=some u):Un fs ex H H h h' :=
 ⟨λb ob q _ _ _=>k b ob q,λb ob q _ _ _=>⟨ob.slots,k b ob q⟩,λ_ _ _ n _=>n,λb ob q _=>⟨ob,k b ob q⟩,λ_ _ q=>q,λ_ _ _ q=>q,λ_ ps q=>⟨#[],by rw [q];simp⟩⟩
theorem Un.refl:Un fs ex H H h h:=Un.kept λ_ _ q=>q
theorem Un.laid (k:∀ b u,h.get? b=some u->h'.get? b=some u) (hp:h.objs.size≤a) (hn:H a=none):Un fs ex H (upd H a o) h h' where
 keep:=λb u q _ _ _=>k b u q
 slot:=λb u q _ _ _=>⟨u.slots,k b u q⟩
 free:=λb u q n _=>by rw [zax (Nat.ne_of_lt (Nat.lt_of_lt_of_le (Heap.lt_size q) hp))];exact n
 there:=λb u q _=>⟨u,k b u q⟩
 tups:=λb xs q=>by rw [zax (zbk q hn)];exact q
 frzs:=λb u xs q=>by rw [zax (zbk q hn)];exact q
 tbls:=λb ps q=>⟨#[],by rw [zax (zbk q hn),q];simp⟩
theorem Un.write (mu:Mut (H x)) (he:e=x∨H e=some (.own x)) (k:∀ b u,b≠e->h.get? b=some u->h'.get? b=some u) (heo:∃ u,h'.get? e=some u):Un fs ex H (upd H x o) h h':=by
 have hx:∀ b,H b=none->b≠x:=λb n z=>by subst z;rw [n] at mu;exact mu
 have hb:∀ b,H b=none->b≠e:=λb n z=>by
  subst z
  rcases he with r | r
  ·exact hx b n r
  ·rw [n] at r;cases r
 have hm:∀ b u,H b=some u->¬ Mut (some u)->b≠x:=λb u q nm z=>by subst z;rw [q] at mu;exact nm mu
 refine ⟨λb u q n _ _=>k b u (hb b n) q,λb u q n _ _=>⟨u.slots,k b u (hb b n) q⟩,λb u q n _=>by rw [zax (hx b n)];exact n,λb u q _=>?_,
  λb xs q=>by rw [zax (hm b _ q λz=>z)];exact q,λb u xs q=>by rw [zax (hm b _ q λz=>z)];exact q,λb ps q=>⟨#[],by rw [zax (hm b _ q λz=>z),q];simp⟩⟩
 by_cases hbe:b=e
 ·subst hbe;exact heo
 ·exact ⟨u,k b u hbe q⟩
end
def trk (h:Heap) (H:Hp):List Addr:=(List.range h.objs.size).filter λa=>(H a).isSome
def zpl (h:Heap) (H:Hp):Heap:=W.hideAll h (trk h H)
theorem zny (h:Heap) (H:Hp):(zpl h H).objs.size=h.objs.size:=W.hideAll_size _ _
theorem zpd {h:Heap} {H:Hp} {b:Addr} {o:Obj} (e:h.get? b=some o) (n:H b=none):(zpl h H).get? b=some o :=
 W.hideAll_get _ e λhm=>by
  have q:(H b).isSome=true:=(List.mem_filter.mp hm).2
  rw [n] at q;simp at q
theorem zqM {h:Heap} {H:Hp} {b:Addr} {o:Obj} (e:(zpl h H).get? b=some o):h.get? b=some o∧H b=none:=by
 have e':h.get? b=some o:=W.of_hideAll (trk h H) e
 refine ⟨e',?_⟩
 cases q:H b with
 | none=>rfl
 | some x =>
  have hm:b∈trk h H:=List.mem_filter.mpr ⟨List.mem_range.mpr (Heap.lt_size e'),by simp [q]⟩
  have z:(zpl h H).get? b=none:=W.hideAll_none (trk h H) hm
  rw [z] at e;cases e
def zq2 (g h:Heap) (L:Addr):List ↥2:=(List.range h.objs.size).filterMap λa=>if a=L∨(g.get? a).isSome=true then none else (h.get? a).map λo=>(a,o)
def rest (g h:Heap) (L d:Addr):List ↥2:=(zq2 g h L).filter λp=>decide (p.1≠d)
end L2
namespace L2
open PySem PySem.Spec PyProof.Rows
structure Mod (K:W.Frag) (mg:Str->Option Value) (base:Heap):Prop where
 kin:K.In base
 glob:base.Ns mainGlobals mg
 blt:∃ mb,base.Ns builtinsNs mb∧∀ x:Str,x≠"__name__"->mb x=bootBuiltins x
 nolimit:base.NoLimit
structure Cx where
 prog:Program
 w:World
 K:W.Frag
 mg:Str->Option Value
 base:Heap
 A:Around
 N:List Str
 s₀:Shared
 H₀:Hp
 env:Env
 outer:List Env
 stack:List Env
 ex:List Addr
 fn:Str->Bool
 calm:Bool
 pn:List ↥2
 xe:Value->Shared->Prop
def frs (l:List Env):List Addr:=l.filterMap (·.frame)
abbrev Cx.fs (X:Cx):List Addr:=frs X.outer
def Vis (sc:Scope) (x:Str):Prop:=sc.names.lookup x=some .local∨sc.names.lookup x=some .cell∨sc.names.lookup x=some .free
def Loc (sc:Scope) (x:Str):Prop:=sc.names.lookup x=some .local∨sc.names.lookup x=some .cell
def zuZ (env:Env) (h:Heap) (m:Str->Option Value) (x:Str) (u:Value):Prop :=
 (env.kindOf x=some .local∧m x=some u)∨((env.kindOf x=some .cell∨env.kindOf x=some .free)∧∃ c,env.cells.lookup x=some c∧h.IsCell c (some u))
structure Cx.Ok (X:Cx):Prop where
 mod:Mod X.K X.mg X.base
 kind:X.env.scope.kind=.function
 glob:X.env.globals=mainGlobals
 blt:X.env.builtins=builtinsNs
 above:X.s₀.heap.objs.size≤X.env.locals
 inj:∀ x y c,X.env.cells.lookup x=some c->X.env.cells.lookup y=some c->x=y
 has:∀ x,(X.env.kindOf x=some .cell∨X.env.kindOf x=some .free)->∃ c,X.env.cells.lookup x=some c
 cab:∀ x c,X.fn x=true->X.env.cells.lookup x=some c->X.s₀.heap.objs.size≤c
 hd:X.calm=true->X.A.handled=none
 frames:X.A.frames=some X.stack
 stk:X.stack=X.outer∨(X.stack=X.env :: X.outer∧X.env.frame=some X.env.locals)
 exf:∀ b∈X.ex,b≠X.env.locals∧∀ x c,X.env.cells.lookup x=some c->c≠b
 bs:∀ b o,X.base.get? b=some o->X.s₀.heap.get? b=some o∧X.H₀ b=none
 bsz:X.base.objs.size≤X.s₀.heap.objs.size
 noex:∀ b o,X.base.get? b=some o->b ∉ X.ex
 exfs:∀ b∈X.ex,b ∉ X.fs
 funs:X.s₀.heap.FunFrames X.base X.outer
 frf:∀ b∈X.fs,X.H₀ b=none
structure Inv (X:Cx) (pins:List ↥2) (σ:List (Option V)) (H:Hp) (s:Shared):Prop where
 ok:X.Ok
 os:s.os=X.s₀.os
 bare:AllBare s.gens
 base:Un X.fs X.ex X.H₀ H X.s₀.heap s.heap
 loc:∃ m,s.heap.Ns X.env.locals m∧∀ (i:Nat) (x:Str) (v:V),X.N[i]?=some x->σ[i]?=some (some v)->Vis X.env.scope x->∃ u,zef v u∧zuZ X.env s.heap m x u
 cell:∀ x c,X.env.cells.lookup x=some c->∃ v,s.heap.IsCell c v
 free:H X.env.locals=none
 freeC:∀ x c,X.env.cells.lookup x=some c->H c=none
 pin:∀ p∈X.pn++pins,s.heap.get? p.1=some p.2∧H p.1=none∧p.1≠X.env.locals∧p.1 ∉ X.fs∧∀ v,p.2.data≠.cell v
 hok:HOk X.prog X.w H s.heap
 len:σ.length=X.N.length
section
variable {X:Cx} {pins:List ↥2} {σ:List (Option V)} {H H':Hp} {s:Shared} {h':Heap}
theorem Cx.Ok.nofr (ok:X.Ok) {b:Addr} {o:Obj} (e:X.base.get? b=some o):b ∉ X.fs:=λhb=>by
 have:=(ok.funs.mem hb).1
 rw [e] at this;cases this
theorem Inv.bs (I:Inv X pins σ H s):∀ b o,X.base.get? b=some o->s.heap.get? b=some o∧H b=none:=λb o e =>
 ⟨I.base.keep b o ((I.ok.bs b o e)).1 ((I.ok.bs b o e)).2 (I.ok.nofr e) (I.ok.noex b o e),I.base.free b o ((I.ok.bs b o e)).1 ((I.ok.bs b o e)).2 (I.ok.noex b o e)⟩
theorem Inv.bk (I:Inv X pins σ H s):∀ b o,X.base.get? b=some o->s.heap.get? b=some o:=λb o e=>(I.bs b o e).1
theorem Inv.mod (I:Inv X pins σ H s):Mod X.K X.mg X.base:=I.ok.mod
theorem Inv.kIn (I:Inv X pins σ H s):X.K.In s.heap:=I.ok.mod.kin.keeps I.bk
theorem Inv.nolimit (I:Inv X pins σ H s):s.heap.NoLimit:=I.ok.mod.nolimit.keeps I.bk
theorem Inv.fr (I:Inv X pins σ H s):∃ m,Fr X.base X.env.locals s.heap m :=
 let ⟨m,hn,_⟩:=I.loc
 ⟨m,hn,I.bk,Nat.le_trans I.ok.bsz I.ok.above⟩
theorem Inv.lt (I:Inv X pins σ H s):X.env.locals<s.heap.objs.size:=let ⟨_,hn,_⟩:=I.loc;hn.lt
theorem Inv.sz (I:Inv X pins σ H s):X.s₀.heap.objs.size≤s.heap.objs.size:=Nat.le_trans I.ok.above (Nat.le_of_lt I.lt)
theorem Inv.nofs (I:Inv X pins σ H s) {a:Addr} (h:s.heap.objs.size≤a):a ∉ X.fs:=λhb=>by
 obtain ⟨_,o,ho,_⟩:=I.ok.funs.mem hb
 exact absurd (Nat.lt_of_lt_of_le (Heap.lt_size ho) (Nat.le_trans I.sz h)) (Nat.lt_irrefl _)
theorem Inv.cne (I:Inv X pins σ H s):∀ x c,X.env.cells.lookup x=some c->c≠X.env.locals:=λx c e z=>by
 obtain ⟨v,o,ho,hd⟩:=I.cell x c e
 obtain ⟨m,⟨o',es,ep,ho',hd',_⟩,_⟩:=I.loc
 rw [z,ho'] at ho;cases ho;rw [hd'] at hd;cases hd
theorem Inv.funs (I:Inv X pins σ H s):s.heap.FunFrames X.base X.outer:=by
 have all:∀ (l:List Env),(∀ b∈frs l,b∈X.fs)->X.s₀.heap.FunFrames X.base l->s.heap.FunFrames X.base l:=by
  intro l
  induction l with
  | nil=>intro _ _;trivial
  | cons env r ih =>
   intro hs hl
   obtain ⟨hk,⟨L,o,hf,hn,ho,hd⟩,hr⟩:=hl
   have hL:L∈X.fs:=hs L (by unfold frs;rw [List.filterMap_cons,hf];exact List.mem_cons_self)
   obtain ⟨sl,e⟩:=I.base.slot L o ho (I.ok.frf L hL) hL λz=>I.ok.exfs L z hL
   exact ⟨hk,⟨L,_,hf,hn,e,hd⟩,ih (λb hb=>hs b (by unfold frs;rw [List.filterMap_cons,hf];exact List.mem_cons_of_mem _ hb)) hr⟩
 exact all X.outer (λ_ hb=>hb) I.ok.funs
theorem Inv.stack (I:Inv X pins σ H s):s.heap.FunFrames X.base X.stack:=by
 rcases I.ok.stk with e | ⟨e,hf⟩
 ·rw [e];exact I.funs
 ·rw [e]
  obtain ⟨m,hn,_⟩:=I.loc
  refine .cons (by rw [I.ok.kind];decide) hf hn ?_ I.funs
  exact Heap.get?_none_of_le (Nat.le_trans I.ok.bsz I.ok.above)
theorem Inv.stkSub (I:Inv X pins σ H s):∀ b∈frs X.stack,b∈X.env.locals :: X.fs:=λb hb=>by
 rcases I.ok.stk with e | ⟨e,hf⟩
 ·rw [e] at hb;exact List.mem_cons_of_mem _ hb
 ·rw [e] at hb
  unfold frs at hb
  rw [List.filterMap_cons,hf] at hb
  exact hb
theorem Inv.stkFree (I:Inv X pins σ H s):∀ b∈frs X.stack,H b=none:=λb hb=>by
 rcases List.mem_cons.mp (I.stkSub b hb) with e | hb
 ·rw [e];exact I.free
 ·obtain ⟨_,o,ho,_⟩:=I.ok.funs.mem hb
  exact I.base.free b o ho (I.ok.frf b hb) λz=>I.ok.exfs b z hb
theorem Inv.step {g':Array GenState} {t':Nat} {d':Drawn} {ch:List Addr} (I:Inv X pins σ H s)
  (hch:∀ b∈ch,(b∈X.ex∨X.s₀.heap.objs.size≤b)∧b≠X.env.locals∧↑89∧∀ p∈X.pn++pins,p.1≠b)
  (keep:∀ b o,b≠X.env.locals->b ∉ X.fs->b ∉ ch->s.heap.get? b=some o->H b=none->h'.get? b=some o)
  (slot:∀ b o,b≠X.env.locals->b∈X.fs->b ∉ ch->s.heap.get? b=some o->H b=none->∃ sl,h'.get? b=some { o with slots:=sl }) (free:∀ b o,b ∉ ch->s.heap.get? b=some o->H b=none->H' b=none)
  (there:∀ b o,b ∉ ch->s.heap.get? b=some o->∃ o',h'.get? b=some o')
  (tups:∀ b xs,H b=some (.tup xs)->H' b=some (.tup xs)) (frzs:∀ b o u,H b=some (.frz o u)->H' b=some (.frz o u)) (tbls:∀ b ps,H b=some (.tbl ps)->∃ more,H' b=some (.tbl (ps++more)))
  (ns:∀ m,s.heap.Ns X.env.locals m->h'.Ns X.env.locals m) (hok:HOk X.prog X.w H' h') (hg:AllBare g') :
  Inv X pins σ H' { s with heap:=h',gens:=g',drawn:=d',toks:=t' }:=by
 have neL:∀ b o,X.s₀.heap.get? b=some o->b≠X.env.locals:=λb o e=>Nat.ne_of_lt ↑86
 have neC:∀ b o,X.s₀.heap.get? b=some o->b ∉ X.ex->b ∉ ch:=λb o e hx hb=>by
  rcases (hch b hb).1 with z | z
  ·exact hx z
  ·exact absurd (Nat.lt_of_lt_of_le (Heap.lt_size e) z) (Nat.lt_irrefl _)
 have cellK:∀ x c,X.env.cells.lookup x=some c->∀ v,s.heap.IsCell c v->h'.IsCell c v:=λx c e v ⟨o,ho,hd⟩=>by
  have nch:c ∉ ch:=λz=>(hch c z).2.2.1 x c e rfl
  by_cases hc:c∈X.fs
  ·obtain ⟨sl,q⟩:=slot c o (I.cne x c e) hc nch ho (I.freeC x c e)
   exact ⟨_,q,hd⟩
  ·exact ⟨o,keep c o (I.cne x c e) hc nch ho (I.freeC x c e),hd⟩
 refine ⟨I.ok,I.os,hg,⟨λb o e n hb hx=>?_,λb o e n hb hx=>?_,λb o e n hx=>?_,λb o e hx=>?_,λb xs e=>tups b xs (I.base.tups b xs e),λb o xs e=>frzs b o xs (I.base.frzs b o xs e),λb ps e=>?_⟩,?_,λx c e=>?_,?_,λx c e=>?_,λp hp=>?_,hok,I.len⟩
 ·exact keep b o (neL b o e) hb (neC b o e hx) (I.base.keep b o e n hb hx) (I.base.free b o e n hx)
 ·obtain ⟨sl,e1⟩:=I.base.slot b o e n hb hx
  obtain ⟨sl',e2⟩:=slot b _ (neL b o e) hb (neC b o e hx) e1 (I.base.free b o e n hx)
  exact ⟨sl',e2⟩
 ·obtain ⟨o',e1⟩:=I.base.there b o e hx
  exact free b o' (neC b o e hx) e1 (I.base.free b o e n hx)
 ·obtain ⟨o',e1⟩:=I.base.there b o e hx
  exact there b o' (neC b o e hx) e1
 ·obtain ⟨m1,e1⟩:=I.base.tbls b ps e
  obtain ⟨m2,e2⟩:=tbls b _ e1
  exact ⟨m1++m2,by rw [e2,Array.append_assoc]⟩
 ·obtain ⟨m,hn,hl⟩:=I.loc
  refine ⟨m,ns m hn,λi x v e1 e2 e3=>?_⟩
  obtain ⟨u,r,l⟩:=hl i x v e1 e2 e3
  refine ⟨u,r,?_⟩
  rcases l with l | ⟨k,c,e,z⟩
  ·exact .inl l
  ·exact .inr ⟨k,c,e,cellK x c e _ z⟩
 ·obtain ⟨v,z⟩:=I.cell x c e
  exact ⟨v,cellK x c e v z⟩
 ·obtain ⟨m,⟨o,_,_,ho,_⟩,_⟩:=I.loc
  exact free _ o (λz=>(hch _ z).2.1 rfl) ho I.free
 ·obtain ⟨v,o,ho,hd⟩:=I.cell x c e
  exact free c o (λz=>(hch c z).2.2.1 x c e rfl) ho (I.freeC x c e)
 ·obtain ⟨e,n,ne,nf,d⟩:=I.pin p hp
  have nch:p.1 ∉ ch:=λz=>(hch p.1 z).2.2.2 p hp rfl
  exact ⟨keep p.1 p.2 ne nf nch e n,free p.1 p.2 nch e n,ne,nf,d⟩
theorem Inv.un {t':Nat} (I:Inv X pins σ H s) (u:Un X.fs [] H H' s.heap h') (hok:HOk X.prog X.w H' h'):Inv X pins σ H' { s with heap:=h',toks:=t' }:=by
 obtain ⟨m,⟨o,es,ep,ho,r⟩,_⟩:=id I.loc
 obtain ⟨sl,hL⟩:=u.any ho I.free (by simp)
 exact I.step (g':=s.gens) (d':=s.drawn) (ch:=[]) (λ_ z=>nomatch z) (λb o _ hb _ e n=>u.keep b o e n hb (by simp)) (λb o _ hb _ e n=>u.slot b o e n hb (by simp)) (λb o _ e n=>u.free b o e n (by simp)) (λb o _ e=>u.there b o e (by simp)) u.tups u.frzs u.tbls (λm' hm=>by
  obtain ⟨o',es',ep',ho',r'⟩:=hm
  rw [ho] at ho';cases ho'
  exact ⟨_,es',ep',hL,r'⟩) hok I.bare
theorem Inv.call {g':Array GenState} {t':Nat} {d':Drawn} {ch:List Addr} (I:Inv X pins σ H s) (u:Un (frs X.stack) ch H H' s.heap h') (hok:HOk X.prog X.w H' h') (hg:AllBare g')
  (hch:∀ b∈ch,(b∈X.ex∨X.s₀.heap.objs.size≤b)∧b≠X.env.locals∧↑89∧∀ p∈X.pn++pins,p.1≠b) :
  Inv X pins σ H' { s with heap:=h',gens:=g',drawn:=d',toks:=t' }:=by
 obtain ⟨m,⟨o,es,ep,ho,r⟩,_⟩:=id I.loc
 obtain ⟨sl,hL⟩:=u.any ho I.free λz=>(hch _ z).2.1 rfl
 exact I.step (ch:=ch) hch (λb o hL hb hc e n=>u.keep b o e n (λz=>(List.mem_cons.mp (I.stkSub b z)).elim hL hb) hc) (λb o _ _ hc e n=>u.any e n hc) (λb o hc e n=>u.free b o e n hc) (λb o hc e=>u.there b o e hc) u.tups u.frzs u.tbls (λm' hm=>by
  obtain ⟨o',es',ep',ho',r'⟩:=hm
  rw [ho] at ho';cases ho'
  exact ⟨_,es',ep',hL,r'⟩) hok hg
theorem Inv.turned {t':Nat} {it:Addr} (I:Inv X pins σ H s) (k:∀ b o,b≠it->s.heap.get? b=some o->h'.get? b=some o) (hn:H it=none) (hL:it≠X.env.locals)
  (h1:it∈X.ex∨X.s₀.heap.objs.size≤it) (h2:∀ x c,X.env.cells.lookup x=some c->c≠it) (h3:∀ p∈X.pn++pins,p.1≠it):Inv X pins σ H { s with heap:=h',toks:=t' }:=by
 have nit:∀ b u,H b=some u->b≠it:=λb u e z=>by rw [z,hn] at e;cases e
 refine I.step (g':=s.gens) (d':=s.drawn) (ch:=[it]) (λb hb=>?_) (λb o _ _ hc e _=>k b o (λz=>hc (by simp [z])) e) (λb o _ _ hc e _=>⟨o.slots,k b o (λz=>hc (by simp [z])) e⟩) (λ_ _ _ _ n=>n)
  (λb o hc e=>⟨o,k b o (λz=>hc (by simp [z])) e⟩) (λ_ _ e=>e) (λ_ _ _ e=>e) (λb ps e=>⟨#[],by rw [e];simp⟩) (λm hm=>?_) (λb u e=>?_) I.bare
 ·have e:b=it:=by simpa using hb
  subst e
  exact ⟨h1,hL,h2,h3⟩
 ·obtain ⟨o,es,ep,ho,r⟩:=hm
  exact ⟨o,es,ep,k _ o (Ne.symm hL) ho,r⟩
 ·refine ((I.hok b u e)).stay (λc v hc q=>k c v ?_ q) (λ_ q=>q) λ_ _ q=>q
  rcases hc with z | z
  ·rw [z];exact nit b u e
  ·exact nit c _ z
theorem Inv.tok (I:Inv X pins σ H s) (t:Nat):Inv X pins σ H { s with toks:=t }:=I.un (h':=s.heap) (t':=t) Un.refl I.hok
theorem Inv.kept {t':Nat} (I:Inv X pins σ H s) (k:∀ b u,s.heap.get? b=some u->h'.get? b=some u):Inv X pins σ H { s with heap:=h',toks:=t' }:=I.un (Un.kept k) (I.hok.kept k)
theorem Inv.laid {a:Addr} {o:HO} {t':Nat} (I:Inv X pins σ H s) (k:∀ b u,s.heap.get? b=some u->h'.get? b=some u) (hp:s.heap.objs.size≤a) (new:zfv X.prog X.w (upd H a o) h' a o) :
  Inv X pins σ (upd H a o) { s with heap:=h',toks:=t' }:=I.un (Un.laid k hp (I.hok.fresh hp)) (I.hok.laid k hp new)
theorem Inv.write {x e:Addr} {o:HO} {t':Nat} (I:Inv X pins σ H s) (mu:Mut (H x)) (he:e=x∨H e=some (.own x)) (k:∀ b u,b≠e->s.heap.get? b=some u->h'.get? b=some u) (heo:∃ u,h'.get? e=some u)
  (new:zfv X.prog X.w (upd H x o) h' x o):Inv X pins σ (upd H x o) { s with heap:=h',toks:=t' }:=I.un (Un.write mu he k heo) (I.hok.write mu he k heo new)
theorem Inv.pins_of {pins':List ↥2} (I:Inv X pins σ H s) (h:∀ p∈pins',s.heap.get? p.1=some p.2∧H p.1=none∧p.1≠X.env.locals∧p.1 ∉ X.fs∧∀ v,p.2.data≠.cell v):Inv X pins' σ H s :=
 ⟨I.ok,I.os,I.bare,I.base,I.loc,I.cell,I.free,I.freeC,λp hp=>(List.mem_append.mp hp).elim (λz=>I.pin p (List.mem_append_left _ z)) (h p),I.hok,I.len⟩
theorem zlN {N:List Str} (hN:N.Nodup) {i j:Nat} {x:Str} (a:N[i]?=some x) (b:N[j]?=some x):i=j:=by
 obtain ⟨h1,e1⟩:=List.getElem?_eq_some_iff.mp a
 obtain ⟨h2,e2⟩:=List.getElem?_eq_some_iff.mp b
 exact (List.getElem_inj hN).mp (e1.trans e2.symm)
theorem zkq {M:Model} {A:Around} {E:Value->Shared->Prop} {i:Nat} {x:Str} {v:V} {u:Value} {Q:Unit->Shared->Prop} (I:Inv X pins σ H s) (hN:X.N.Nodup) (hi:X.N[i]?=some x) (hx:Loc X.env.scope x) (r:zef v u)
  (h:∀ s',Inv X pins (σ.set i (some v)) H s'->(∃ a,Heap.SameBut a s.heap s'.heap∧(a=X.env.locals∨X.env.cells.lookup x=some a))->Q () s') (hf:X.fn x=true∨X.env.scope.names.lookup x=some .local:=by first | exact .inl rfl | exact .inr rfl | assumption):wpAny M A (storeName X.env x u) Q E s:=by
 obtain ⟨m,hn,hl⟩:=id I.loc
 have hcls:(X.env.scope.kind == .class||(X.env.scope.kind == .module&&X.env.locals != X.env.globals))=false:=by rw [I.ok.kind];rfl
 have hiσ:i<σ.length:=by rw [I.len];exact (List.getElem?_eq_some_iff.mp hi).1
 have cne:=I.cne
 have tracked:∀ {a:Addr} {h':Heap},(∃ o,s.heap.get? a=some o∧H a=none)->Heap.SameBut a s.heap h'->HOk X.prog X.w H h':=λ{a h'} ha hs b ob e=>by
  obtain ⟨_,_,hfree⟩:=ha
  refine (I.hok b ob e).stay (λc w' hc q=>(hs.2 c ?_).trans q) (λ_ q=>q) λ_ _ q=>q
  rintro rfl
  rcases hc with rfl | hc
  ·rw [hfree] at e;cases e
  ·rw [hfree] at hc;cases hc
 rcases hx with hk | hk
 ·refine wpAny_storeName_local hk hn (λh' hn' hs=>?_) hcls
  obtain ⟨oL,_,_,hoL,_⟩:=id hn
  refine h _ ⟨I.ok,I.os,I.bare,⟨λb o e n hb hx=>?_,λb o e n hb hx=>?_,I.base.free,λb o e hx=>?_,I.base.tups,I.base.frzs,I.base.tbls⟩,⟨_,hn',λj y v' e1 e2 e3=>?_⟩,λy c e=>?_,I.free,I.freeC,λp hp=>?_,tracked ⟨oL,hoL,I.free⟩ hs,by simpa using I.len⟩ ⟨_,hs,.inl rfl⟩
  ·exact ((hs.2 b (Nat.ne_of_lt ↑86))).trans (I.base.keep b o e n hb hx)
  ·obtain ⟨sl,e1⟩:=I.base.slot b o e n hb hx
   exact ⟨sl,((hs.2 b (Nat.ne_of_lt ↑86))).trans e1⟩
  ·obtain ⟨o',e1⟩:=I.base.there b o e hx
   exact ⟨o',((hs.2 b (Nat.ne_of_lt ↑86))).trans e1⟩
  ·by_cases hj:j=i
   ·subst hj
    rw [hi] at e1;cases e1
    rw [List.getElem?_set_self hiσ] at e2
    cases e2
    exact ⟨u,r,.inl ⟨hk,by simp⟩⟩
   ·rw [List.getElem?_set_ne (Ne.symm hj)] at e2
    obtain ⟨u',r',q⟩:=hl j y v' e1 e2 e3
    refine ⟨u',r',?_⟩
    rcases q with ⟨k,e⟩ | ⟨k,c,e,z⟩
    ·refine .inl ⟨k,?_⟩
     have:y≠x:=λe=>hj (zlN hN e1 (e ▸ hi))
     simp [this,e]
    ·exact .inr ⟨k,c,e,z.sameBut hs (cne y c e)⟩
  ·obtain ⟨w',z⟩:=I.cell y c e
   exact ⟨w',z.sameBut hs (cne y c e)⟩
  ·obtain ⟨e,n,ne,nf,d⟩:=I.pin p hp
   exact ⟨(hs.2 p.1 ne).trans e,n,ne,nf,d⟩
 ·have hfn:X.fn x=true:=by
   rcases hf with z | z
   ·exact z
   ·rw [z] at hk;cases hk
  obtain ⟨c,hc⟩:=I.ok.has x (.inl hk)
  obtain ⟨w',z⟩:=I.cell x c hc
  refine wpAny_storeName_cell I.ok.kind hk hc z (λh' hc' hs=>?_)
  obtain ⟨oc,hoc,hocd⟩:=id z
  refine h { s with heap:=h' } ⟨I.ok,I.os,I.bare,⟨λb o e n hb hx=>?_,λb o e n hb hx=>?_,I.base.free,λb o e hx=>?_,I.base.tups,I.base.frzs,I.base.tbls⟩,⟨m,hn.sameBut hs (Ne.symm (cne x c hc)),λj y v' e1 e2 e3=>?_⟩,λy c' e=>?_,I.free,I.freeC,λp hp=>?_,tracked ⟨oc,hoc,I.freeC x c hc⟩ hs,by simpa using I.len⟩ ⟨c,hs,.inr hc⟩
  ·exact ((hs.2 b (Nat.ne_of_lt (Nat.lt_of_lt_of_le (Heap.lt_size e) (I.ok.cab x c hfn hc))))).trans (I.base.keep b o e n hb hx)
  ·obtain ⟨sl,e1⟩:=I.base.slot b o e n hb hx
   exact ⟨sl,((hs.2 b (Nat.ne_of_lt (Nat.lt_of_lt_of_le (Heap.lt_size e) (I.ok.cab x c hfn hc))))).trans e1⟩
  ·obtain ⟨o',e1⟩:=I.base.there b o e hx
   exact ⟨o',((hs.2 b (Nat.ne_of_lt (Nat.lt_of_lt_of_le (Heap.lt_size e) (I.ok.cab x c hfn hc))))).trans e1⟩
  ·by_cases hj:j=i
   ·subst hj
    rw [hi] at e1;cases e1
    rw [List.getElem?_set_self hiσ] at e2
    cases e2
    exact ⟨u,r,.inr ⟨.inl hk,c,hc,hc'⟩⟩
   ·rw [List.getElem?_set_ne (Ne.symm hj)] at e2
    obtain ⟨u',r',q⟩:=hl j y v' e1 e2 e3
    refine ⟨u',r',?_⟩
    rcases q with q | ⟨k,c',e,z'⟩
    ·exact .inl q
    ·refine .inr ⟨k,c',e,z'.sameBut hs ?_⟩
     rintro rfl
     exact hj (zlN hN e1 (I.ok.inj _ _ _ e hc ▸ hi))
  ·by_cases hcc:c'=c
   ·subst hcc;exact ⟨_,hc'⟩
   ·obtain ⟨w2,z2⟩:=I.cell y c' e
    exact ⟨w2,z2.sameBut hs hcc⟩
  ·obtain ⟨e,n,ne,nf,d⟩:=I.pin p hp
   refine ⟨(hs.2 p.1 ?_).trans e,n,ne,nf,d⟩
   intro q
   rw [q,hoc] at e
   have q':oc=p.2:=Option.some.inj e
   exact d w' (by rw [← q'];exact hocd)
theorem zhM {M:Model} {A:Around} {E:Value->Shared->Prop} {i:Nat} {x:Str} {v:V} {u:Value} {Q:Unit->Shared->Prop} (I:Inv X pins σ H s) (hN:X.N.Nodup) (hi:X.N[i]?=some x) (hx:Loc X.env.scope x) (r:zef v u)
  (h:∀ s',Inv X pins (σ.set i (some v)) H s'->Q () s') (hf:X.fn x=true∨X.env.scope.names.lookup x=some .local:=by first | exact .inl rfl | exact .inr rfl | assumption):wpAny M A (storeName X.env x u) Q E s :=
 zkq I hN hi hx r (λs' I' _=>h s' I') hf
theorem Inv.call' {s':Shared} {ch:List Addr} (I:Inv X pins σ H s) (ho:s'.os=s.os) (u:Un (frs X.stack) ch H H' s.heap s'.heap) (hok:HOk X.prog X.w H' s'.heap) (hg:AllBare s'.gens)
  (hch:∀ b∈ch,(b∈X.ex∨X.s₀.heap.objs.size≤b)∧b≠X.env.locals∧↑89∧∀ p∈X.pn++pins,p.1≠b):Inv X pins σ H' s':=by
 obtain ⟨h',g',d',t',o'⟩:=s'
 have e:o'=s.os:=ho
 subst e
 exact I.call (g':=g') (t':=t') (d':=d') u hok hg hch
end
abbrev XK:=Value->Option Addr->Hp->Prop
abbrev St:=List (Option V)
abbrev VK:=V->Hp->Prop
abbrev TE:=St->Hp->VK->Prop
abbrev TT:=St->Hp->(Bool->Hp->Prop)->Prop
abbrev TA:=St->Hp->(List V->Hp->Prop)->Prop
structure Ends where
 nx:St->Hp->Prop
 rt:VK
 bk:St->Hp->Prop:=λ_ _=>False
 ct:St->Hp->Prop:=λ_ _=>False
abbrev TS:=Ends->St->Hp->Prop
def EP (X:Cx) (pins:List ↥2) (σ:St) (Q:VK) (u:Value) (s':Shared):Prop:=∃ v H',Inv X pins σ H' s'∧zef v u∧Q v H'
def TP (X:Cx) (pins:List ↥2) (σ:St) (Q:Bool->Hp->Prop) (b:Bool) (s':Shared):Prop:=∃ H',Inv X pins σ H' s'∧Q b H'
def AP (X:Cx) (pins:List ↥2) (σ:St) (Q:List V->Hp->Prop) (us:List Value) (s':Shared):Prop:=∃ vs H',Inv X pins σ H' s'∧zct vs us∧Q vs H'
def SP (X:Cx) (pins:List ↥2) (D:Ends) (f:Flow) (s':Shared):Prop :=
 match f with
 | .next=>∃ σ' H',Inv X pins σ' H' s'∧D.nx σ' H'
 | .brk=>∃ σ' H',Inv X pins σ' H' s'∧D.bk σ' H'
 | .cont=>∃ σ' H',Inv X pins σ' H' s'∧D.ct σ' H'
 | .ret u=>∃ v σ' H',Inv X pins σ' H' s'∧zef v u∧D.rt v H'
def PE (X:Cx) (e:Expr) (t:TE):Prop :=
 ∀ (pins:List ↥2) (s:Shared) (σ:St) (H:Hp) (Q:VK),Inv X pins σ H s->t σ H Q->wpAny ⇑3 X.A (eval e X.env) (EP X pins σ Q) X.xe s
def PT (X:Cx) (e:Expr) (t:TT):Prop :=
 ∀ (pins:List ↥2) (s:Shared) (σ:St) (H:Hp) (Q:Bool->Hp->Prop),Inv X pins σ H s->t σ H Q->wpAny ⇑3 X.A (isTrue e X.env (eval e X.env)) (TP X pins σ Q) X.xe s
def PW (X:Cx) (e:Expr) (t:TT):Prop :=
 ∀ (whole:Sem Value) (pins:List ↥2) (s:Shared) (σ:St) (H:Hp) (Q:Bool->Hp->Prop),Inv X pins σ H s->t σ H Q->wpAny ⇑3 X.A (isTrue e X.env whole) (TP X pins σ Q) X.xe s
theorem PW.pt {X:Cx} {e:Expr} {t:TT} (h:PW X e t):PT X e t:=h _
def PA (X:Cx) (es:List Expr) (t:TA):Prop :=
 ∀ (pos:Pos) (pins:List ↥2) (s:Shared) (σ:St) (H:Hp) (Q:List V->Hp->Prop),Inv X pins σ H s->t σ H Q->wpAny ⇑3 X.A (spliced ↑64) (AP X pins σ Q) X.xe s
def PS (X:Cx) (st:Stmt) (t:TS):Prop :=
 ∀ (pins:List ↥2) (s:Shared) (σ:St) (H:Hp) (D:Ends),Inv X pins σ H s->t D σ H->wpAny ⇑3 X.A (exec st X.env) (SP X pins D) X.xe s
def PSs (X:Cx) (st:List Stmt) (t:TS):Prop :=
 ∀ (pins:List ↥2) (s:Shared) (σ:St) (H:Hp) (D:Ends),Inv X pins σ H s->t D σ H->wpAny ⇑3 X.A (execs st X.env) (SP X pins D) X.xe s
theorem thn {α:Type} {t:Sem α} {Q Q':α->Shared->Prop} {M:Model} {A:Around} {E:Value->Shared->Prop} {s:Shared} (h:wpAny M A t Q E s) (hQ:∀ a s,Q a s->Q' a s):wpAny M A t Q' E s:=wpAny_mono h hQ λ_ _ x=>x
end L2
namespace L2
open PySem PySem.Spec PyProof.Rows
section
variable {X:Cx}
theorem bin {a b:Expr} {ta tb:TE} (ha:PE X a ta) (hb:PE X b tb) {pins:List ↥2} {s:Shared} {σ:St} {H:Hp} {R:V->V->Hp->Prop} (I:Inv X pins σ H s) (h:ta σ H λx H1=>tb σ H1 λy H2=>R x y H2)
  {α:Type} {Q:α->Shared->Prop} {f:Value->Value->Sem α}
  (hf:∀ v u s2 x y H2,Inv X pins σ H2 s2->zef x v->zef y u->R x y H2->wpAny ⇑3 X.A (f v u) Q X.xe s2) :
  wpAny ⇑3 X.A (eval a X.env) (λv s₁=>wpAny ⇑3 X.A (eval b X.env) (λu s₂=>wpAny ⇑3 X.A (f v u) Q X.xe s₂) X.xe s₁) X.xe s:=by
 refine thn (ha pins s σ H _ I h) λv s1 ⟨x,H1,I1,r1,q1⟩=>?_
 refine thn (hb pins s1 σ H1 _ I1 q1) λu s2 ⟨y,H2,I2,r2,q2⟩=>?_
 exact hf v u s2 x y H2 I2 r1 r2 q2
def zjF (i:Nat):TE:=λσ H Q=>∃ v,σ[i]?=some (some v)∧Q v H
def tC (v:V):TE:=λ_ H Q=>Q v H
theorem zts {i:Nat} {x:Str} {pos:Pos} (hN:X.N[i]?=some x) (hv:Vis X.env.scope x) (hd:(x==("__debug__" :Str))=false:=by decide) (hcd:(x == ("__classdict__":Str))=false:=by decide):PE X (.Name x pos) (zjF i):=by
 intro pins s σ H Q I h
 obtain ⟨v,e,h⟩:=h
 obtain ⟨m,hn,hl⟩:=I.loc
 obtain ⟨u,r,l⟩:=hl i x v hN e hv
 have fin:EP X pins σ Q u s:=⟨v,H,I,r,h⟩
 rcases l with ⟨hk,hm⟩ | ⟨hk,c,hc,hcell⟩
 ·exact wpAny_Name (wpAny_loadName_local I.ok.kind hk hn hm fin) hd
 ·rcases hk with hk | hk
  ·exact wpAny_Name (wpAny_loadName_cell I.ok.kind hk hc hcell fin) hd
  ·exact wpAny_Name (wpAny_loadName_free I.ok.kind hk hc hcell fin hcd) hd
theorem zaj {i j pos}:PE X (.Constant (.int i) j pos) (tC (.int i)):=λ_ _ _ H _ I h=>wpAny_Constant_int ⟨.int i,H,I.tok _,⟨_,rfl⟩,h⟩
theorem zjN {b j pos}:PE X (.Constant (.bool b) j pos) (tC (.bl b)):=λ_ _ _ H _ I h=>Constant_bool ⟨.bl b,H,I,rfl,h⟩
theorem zfQ {j pos}:PE X (.Constant .none j pos) (tC .non):=λ_ _ _ H _ I h=>Constant_none ⟨.non,H,I,rfl,h⟩
def Gl (X:Cx) (x:Str):Prop:=X.env.kindOf x=some .globalImplicit
theorem zlh {E:Value->Shared->Prop} {pins:List ↥2} {s:Shared} {σ:St} {H:Hp} {x:Str} {u:Value} {pos:Pos} {Q:Value->Shared->Prop} (I:Inv X pins σ H s) (hg:Gl X x) (hm:X.mg x=some u) (h:Q u s)
  (hd:(x==("__debug__" :Str))=false:=by decide):wpAny ⇑3 X.A (eval (.Name x pos) X.env) Q E s :=
 Calls.Name_function_global I.ok.kind hg (Calls.loadGlobal_global (by rw [I.ok.glob];exact I.mod.glob.keeps I.bk) hm h) hd
theorem zhx {E:Value->Shared->Prop} {pins:List ↥2} {s:Shared} {σ:St} {H:Hp} {x:Str} {u:Value} {pos:Pos} {Q:Value->Shared->Prop} (I:Inv X pins σ H s) (hg:Gl X x) (hm:X.mg x=none) (hv:bootBuiltins x=some u) (h:Q u s)
  (hn:x≠"__name__":=by decide) (hd:(x==("__debug__" :Str))=false:=by decide):wpAny ⇑3 X.A (eval (.Name x pos) X.env) Q E s:=by
 obtain ⟨mb,h1,h2⟩:=I.mod.blt
 exact Calls.Name_function_global I.ok.kind hg (Calls.loadGlobal_builtin (by rw [I.ok.glob];exact I.mod.glob.keeps I.bk) hm (by rw [I.ok.blt];exact h1.keeps I.bk) ((h2 x hn).trans hv) h) hd
theorem znz {x:Str} {v:V} {u:Value} {pos:Pos} (hg:Gl X x) (hm:X.mg x=some u) (r:zef v u) (hd:(x==("__debug__" :Str))=false:=by decide):PE X (.Name x pos) (tC v) :=
 λ_ _ _ H _ I h=>zlh I hg hm ⟨v,H,I,r,h⟩ hd
variable {a b:Expr} {ta tb:TE} {pos:Pos}
def PC (X:Cx) (op:CmpOp) (a b:Expr) (t:TE):Prop :=
 ∀ (pins:List ↥2) (s:Shared) (σ:St) (H:Hp) (Q:VK),Inv X pins σ H s->t σ H Q →
  wpAny ⇑3 X.A (eval a X.env) (λv s₁=>wpAny ⇑3 X.A (eval b X.env) (λu s₂=>wpAny ⇑3 X.A (compareOp op v u) (EP X pins σ Q) X.xe s₂) X.xe s₁) X.xe s
theorem zpx (b:Expr) {op:CmpOp} (h:op≠.In) (h2:op≠.NotIn):behindInMarks op b=false:=by
 have e1:(op == CmpOp.In)=false:=by cases op<;>first | rfl | exact absurd rfl h
 have e2:(op == CmpOp.NotIn)=false:=by cases op<;>first | rfl | exact absurd rfl h2
 cases b<;>simp [behindInMarks,e1,e2]
def tB (t:TE):TT:=λσ H Q=>t σ H λx H1=>∃ c,x=.bl c∧Q c H1
theorem zu6 {op:CmpOp} {t:TE} (h:PC X op a b t) (h1:behindInMarks op b=false:=by first | exact zpx _ ↑1 ↑1 | rfl):PT X (.Compare a [op] [b] pos) (tB t):=by
 intro pins s σ H Q I hw
 refine wpAny_isTrue_Compare1 (thn (h pins s σ H _ I hw) λv s1 h1=>thn h1 λu s2 h2=>thn h2 λc s3 ⟨x,H1,I1,r1,q1⟩=>?_) h1
 obtain ⟨d,rfl,q⟩:=q1
 cases r1
 exact wpAny_truthy_bool ⟨H1,I1,q⟩
theorem znt {e:Expr} {t:TE} (h:PE X e t) (he:∀ whole,isTrue e X.env whole=(do let v ← whole;standAt e.pos;holding [v] (truthy v)):=by intro _;rfl):PT X e (tB t):=by
 intro pins s σ H Q I hw
 refine isTrue_plain (thn (h pins s σ H _ I hw) λv s1 ⟨x,H1,I1,r1,q1⟩=>?_) (he _)
 obtain ⟨d,rfl,q⟩:=q1
 cases r1
 exact wpAny_truthy_bool ⟨H1,I1,q⟩
variable {tA tB':TT} {rest:List Expr}
def zuW (t u:TT):TT:=λσ H Q=>t σ H λc H1=>if c=true then u σ H1 Q else Q false H1
def tOr (t u:TT):TT:=λσ H Q=>t σ H λc H1=>if c=true then Q true H1 else u σ H1 Q
def zuX (t:TT):TT:=λσ H Q=>t σ H λc H1=>Q (!c) H1
theorem zlf (ha:PT X a tA):PW X (.BoolOp .And [a] pos) tA:=by
 intro wh pins s σ H Q I h
 refine isTrue_and (thn (ha pins s σ H Q I h) λc s1 e=> ?_)
 cases c with
 | true=>exact isTrue_and_nil e
 | false=>exact e
theorem zkh (ha:PT X a tA):PW X (.BoolOp .Or [a] pos) tA:=by
 intro wh pins s σ H Q I h
 refine isTrue_or (thn (ha pins s σ H Q I h) λc s1 e=> ?_)
 cases c with
 | false=>exact isTrue_or_nil e
 | true=>exact e
theorem znL (ha:PT X a tA) (hb:PW X (.BoolOp .And (b :: rest) pos) tB'):PW X (.BoolOp .And (a :: b :: rest) pos) (zuW tA tB'):=by
 intro wh pins s σ H Q I h
 refine isTrue_and (thn (ha pins s σ H _ I h) λc s1 ⟨H1,I1,q1⟩=> ?_)
 cases c with
 | true=>exact hb wh pins s1 σ H1 Q I1 q1
 | false=>exact ⟨H1,I1,q1⟩
theorem zou (ha:PT X a tA) (hb:PW X (.BoolOp .Or (b :: rest) pos) tB'):PW X (.BoolOp .Or (a :: b :: rest) pos) (tOr tA tB'):=by
 intro wh pins s σ H Q I h
 refine isTrue_or (thn (ha pins s σ H _ I h) λc s1 ⟨H1,I1,q1⟩=> ?_)
 cases c with
 | true=>exact ⟨H1,I1,q1⟩
 | false=>exact hb wh pins s1 σ H1 Q I1 q1
theorem zpL (ha:PT X a tA):PT X (.UnaryOp .Not a pos) (zuX tA):=by
 intro pins s σ H Q I h
 exact isTrue_not (ha pins s σ H (λc H1=>Q (!c) H1) I h)
def tIf (t:TT) (ta tb:TE):TE:=λσ H Q=>t σ H λc H1=>if c=true then ta σ H1 Q else tb σ H1 Q
theorem zpc {c:Expr} (hc:PT X c tA) (ha:PE X a ta) (hb:PE X b tb):PE X (.IfExp c a b pos) (tIf tA ta tb):=by
 intro pins s σ H Q I h
 refine wpAny_IfExp (thn (hc pins s σ H _ I h) λd s1 ⟨H1,I1,q1⟩=> ?_)
 cases d with
 | true=>exact ha pins s1 σ H1 Q I1 q1
 | false=>exact hb pins s1 σ H1 Q I1 q1
end
end L2
namespace L2
open PySem PySem.Spec PyProof.Rows
def SqL (K:W.Frag) (H:Hp) (a:Addr) (xs:List V):Prop :=
 Rd H a (.lst xs) ∨
  ∃ (o:Obj) (its:Array Value) (n:Nat),K.lookup a=some o∧o.cls=.type "list"∧o.dict=none∧o.data=.seq its n∧its.size≤sizeLine∧zct xs its.toList
def SqT (K:W.Frag) (H:Hp) (a:Addr) (xs:List V):Prop :=
 Rd H a (.tup xs) ∨
  ∃ (o:Obj) (its:Array Value) (n:Nat),K.lookup a=some o∧o.cls=.type "tuple"∧o.data=.seq its n∧its.size≤sizeLine∧zct xs its.toList
def zvj:Value->Option V
 | .none=>some .non
 | .bool b=>some (.bl b)
 | .int i _=>some (.int i)
 | .str x _=>some (.str x)
 | .bytes b _=>some (.byt b)
 | .float b _=>some (.flt b)
 | .ref a=>some (.ref a)
 | .type n=>some (.ty n)
 | _=>none
theorem zef.abs {x:V} {u:Value} (r:zef x u):zvj u=some x:=by
 cases x with
 | non=>cases r;rfl
 | bl _=>cases r;rfl
 | int _=>obtain ⟨t,rfl⟩:=r;rfl
 | str _=>obtain ⟨t,rfl⟩:=r;rfl
 | byt _=>obtain ⟨t,rfl⟩:=r;rfl
 | flt _=>obtain ⟨t,rfl⟩:=r;rfl
 | ref _=>cases r;rfl
 | ty _=>cases r;rfl
theorem zef.inj {x y:V} {u:Value} (r:zef x u) (q:zef y u):x=y:=Option.some.inj (r.abs.symm.trans q.abs)
theorem zct.inj:∀ {xs ys:List V} {us:List Value},zct xs us->zct ys us->xs=ys
 | _,_,_,.nil,.nil=>rfl
 | _,_,_,.cons r t,.cons r' t'=>by rw [r.inj r',zct.inj t t']
section
variable {X:Cx} {pins:List ↥2} {σ:St} {H:Hp} {s:Shared} {a:Addr} {xs ys:List V}
theorem SqL.of {K:W.Frag} (h:H a=some (.lst xs)):SqL K H a xs:=.inl (.inl h)
theorem Inv.list (I:Inv X pins σ H s) (h:SqL X.K H a xs):∃ its:List Value,zct xs its∧PlainL s.heap a its.toArray∧xs.length≤sizeLine:=by
 rcases h with h | ⟨o,its,n,hk,hc,hd,hs,hz,r⟩
 ·obtain ⟨z,its,n,r,e⟩:=h.ok I.hok
  exact ⟨its,r,⟨_,n,e,rfl,rfl,rfl⟩,z⟩
 ·refine ⟨its.toList,r,⟨o,n,I.kIn a o hk,hc,hd,by simpa using hs⟩,?_⟩
  have e:=r.length
  simp only [Array.length_toList] at e
  omega
theorem Inv.tuple (I:Inv X pins σ H s) (h:SqT X.K H a xs):∃ its:List Value,zct xs its∧IsTup s.heap a its.toArray∧xs.length≤sizeLine:=by
 rcases h with h | ⟨o,its,n,hk,hc,hs,hz,r⟩
 ·obtain ⟨z,its,r,p⟩:=h.ok I.hok
  exact ⟨its,r,p,z⟩
 ·refine ⟨its.toList,r,⟨o,I.kIn a o hk,hc,n,by simpa using hs⟩,?_⟩
  have e:=r.length
  simp only [Array.length_toList] at e
  omega
theorem Inv.list_inj (I:Inv X pins σ H s) (h:SqL X.K H a xs) (h':SqL X.K H a ys):xs=ys:=by
 obtain ⟨its,r,⟨o,n,e,_,_,d⟩,_⟩:=I.list h
 obtain ⟨its',r',⟨o',n',e',_,_,d'⟩,_⟩:=I.list h'
 rw [e] at e';cases e'
 rw [d] at d'
 injection d' with d1 _
 have:its=its':=by simpa using congrArg Array.toList d1
 subst this
 exact r.inj r'
end
abbrev Cx.wish (X:Cx) (E:Value->Shared->Prop):Cx:={ X with xe:=E }
abbrev Cx.nox (X:Cx):Cx:=X.wish λ_ _=>False
theorem Cx.Ok.wish {X:Cx} (ok:X.Ok) (E:Value->Shared->Prop):(X.wish E).Ok :=
 ⟨ok.mod,ok.kind,ok.glob,ok.blt,ok.above,ok.inj,ok.has,ok.cab,ok.hd,ok.frames,ok.stk,ok.exf,ok.bs,ok.bsz,ok.noex,ok.exfs,ok.funs,ok.frf⟩
theorem Cx.Ok.unwish {X:Cx} {E:Value->Shared->Prop} (ok:(X.wish E).Ok):X.Ok :=
 ⟨ok.mod,ok.kind,ok.glob,ok.blt,ok.above,ok.inj,ok.has,ok.cab,ok.hd,ok.frames,ok.stk,ok.exf,ok.bs,ok.bsz,ok.noex,ok.exfs,ok.funs,ok.frf⟩
section
variable {X:Cx} {pins:List ↥2} {σ:St} {H:Hp} {s:Shared} {E:Value->Shared->Prop}
theorem Inv.wish (I:Inv X pins σ H s) (E:Value->Shared->Prop):Inv (X.wish E) pins σ H s:=⟨I.ok.wish E,I.os,I.bare,I.base,I.loc,I.cell,I.free,I.freeC,I.pin,I.hok,I.len⟩
theorem Inv.unwish (I:Inv (X.wish E) pins σ H s):Inv X pins σ H s:=⟨I.ok.unwish,I.os,I.bare,I.base,I.loc,I.cell,I.free,I.freeC,I.pin,I.hok,I.len⟩
theorem SP.unwish {D:Ends} {f:Flow} {s':Shared} (h:SP (X.wish E) pins D f s'):SP X pins D f s':=by
 cases f with
 | next=>obtain ⟨σ',H',I,q⟩:=h;exact ⟨σ',H',I.unwish,q⟩
 | brk=>obtain ⟨σ',H',I,q⟩:=h;exact ⟨σ',H',I.unwish,q⟩
 | cont=>obtain ⟨σ',H',I,q⟩:=h;exact ⟨σ',H',I.unwish,q⟩
 | ret u=>obtain ⟨v,σ',H',I,r,q⟩:=h;exact ⟨v,σ',H',I.unwish,r,q⟩
end
section
variable {X:Cx} {st:Stmt} {rest:List Stmt} {t u:TS} {e:Expr} {te:TE} {pos:Pos}
def zpt:TS:=λD σ H=>D.nx σ H
def tSeq (t u:TS):TS:=λD σ H=>t { D with nx:=u D } σ H
theorem zah:PSs X [] zpt:=λ_ _ σ H _ I h=>wpAny_execs_nil ⟨σ,H,I,h⟩
theorem zac (h1:PS X st t) (h2:PSs X rest u):PSs X (st :: rest) (tSeq t u):=by
 intro pins s σ H D I h
 refine wpAny_execs_cons (thn (h1 pins s σ H { D with nx:=u D } I h) λf s1 q=>?_)
 cases f with
 | next =>
  obtain ⟨σ',H',I',q⟩:=q
  exact h2 pins s1 σ' H' D I' q
 | ret v=>exact q
 | brk=>exact q
 | cont=>exact q
theorem Inv.quiet {pins:List ↥2} {σ:St} {H:Hp} {s:Shared} (I:Inv X pins σ H s):interactive X.env=false:=by simp [interactive,I.ok.kind]
def zm8 (te:TE):TS:=λD σ H=>te σ H λ_ H1=>D.nx σ H1
theorem zci (he:PE X e te) (hs:swapsWith e none pos.line X.env=pure false:=by rfl):PS X (.Expr e pos) (zm8 te):=by
 intro pins s σ H D I h
 exact wpAny_Expr_any (thn (he pins s σ H _ I h) λv s1 ⟨x,H1,I1,r1,q1⟩=>⟨σ,H1,I1,q1⟩) I.quiet hs
def zoK (te:TE):TS:=λD σ H=>te σ H D.rt
theorem zaO (he:PE X e te):PS X (.Return (some e) pos) (zoK te):=by
 intro pins s σ H D I h
 exact wpAny_Return_some (thn (he pins s σ H _ I h) λv s1 ⟨x,H1,I1,r1,q1⟩=>⟨x,σ,H1,I1,r1,q1⟩)
def ztl (c:TT) (t u:TS):TS:=λD σ H=>c σ H λb H1=>if b=true then t D σ H1 else u D σ H1
theorem zcD {c:Expr} {a b:List Stmt} {tc:TT} (hc:PT X c tc) (ha:PSs X a t) (hb:PSs X b u):PS X (.If c a b pos) (ztl tc t u):=by
 intro pins s σ H D I h
 refine wpAny_If (thn (hc pins s σ H _ I h) λd s1 ⟨H1,I1,q1⟩=> ?_)
 cases d with
 | true=>exact ha pins s1 σ H1 D I1 q1
 | false=>exact hb pins s1 σ H1 D I1 q1
def zss:TS:=λ_ _ _=>False
theorem zde:PS X st zss:=λ_ _ _ _ _ _ h=>h.elim
end
abbrev TG:=V->St->Hp->(St->Hp->Prop)->Prop
abbrev TGs:=List V->St->Hp->(St->Hp->Prop)->Prop
def PG (X:Cx) (target:Expr) (t:TG):Prop :=
 ∀ (pins:List ↥2) (s:Shared) (σ:St) (H:Hp) (v:V) (u:Value) (Q:St->Hp->Prop),Inv X pins σ H s->zef v u->t v σ H Q →
  wpAny ⇑3 X.A (assign target X.env u) (λ_ s'=>∃σ' H',Inv X pins σ' H' s'∧Q σ' H') X.xe s
def PGs (X:Cx) (ts:List Expr) (t:TGs):Prop :=
 ∀ (pins:List ↥2) (s:Shared) (σ:St) (H:Hp) (vs:List V) (us:List Value) (Q:St->Hp->Prop),Inv X pins σ H s->zct vs us->t vs σ H Q →
  wpAny ⇑3 X.A (assignInOrder ((assignEach ts X.env).map (·.2)) us) (λ_ s'=>∃σ' H',Inv X pins σ' H' s'∧Q σ' H') X.xe s
abbrev zum:=V->V->V->Hp->(Hp->Prop)->Prop
def zve (X:Cx) (t:zum):Prop :=
 ∀ (pins:List ↥2) (s:Shared) (σ:St) (H:Hp) (o i v:V) (ov iv u:Value) (Q:Hp->Prop),Inv X pins σ H s->zef o ov->zef i iv->zef v u->t o i v H Q →
  wpAny ⇑3 X.A (setItem ov iv u) (λ_ s'=>∃ H',Inv X pins σ H' s'∧Q H') X.xe s
section
variable {X:Cx} {pos:Pos}
def zdE (i:Nat):TG:=λv σ H Q=>Q (σ.set i (some v)) H
theorem zao {i:Nat} {x:Str} (hN:X.N.Nodup) (hi:X.N[i]?=some x) (hx:Loc X.env.scope x) (hf:X.fn x=true∨X.env.scope.names.lookup x=some .local:=by first | exact .inl rfl | exact .inr rfl | assumption):PG X (.Name x pos) (zdE i):=by
 intro pins s σ H v u Q I r h
 exact wpAny_assign_Name (zhM I hN hi hx r (λs' I'=>⟨_,H,I',h⟩) hf)
def zqL:TGs:=λvs σ H Q=>vs=[]∧Q σ H
def zgu (t:TG) (u:TGs):TGs:=λvs σ H Q=>∃ v r,vs=v :: r∧t v σ H λσ' H'=>u r σ' H' Q
theorem zcA:PGs X [] zqL:=by
 intro pins s σ H vs us Q I r h
 obtain ⟨e,h⟩:=h
 subst e
 cases r
 exact assignInOrder_nil ⟨σ,H,I,h⟩
theorem zaH {e:Expr} {es:List Expr} {t:TG} {u:TGs} (h1:PG X e t) (h2:PGs X es u)
  (hs:(assignEach (e::es) X.env).map (·.2)=assign e X.env :: ((assignEach es X.env)).map (·.2):=by rfl):PGs X (e::es) (zgu t u):=by
 intro pins s σ H vs us Q I r h
 obtain ⟨v,vr,e1,h⟩:=h
 subst e1
 cases r with
 | cons r rr =>
  rw [hs]
  refine assignInOrder_cons (thn (h1 pins s σ H _ _ _ I r h) λ_ s1 ⟨σ1,H1,I1,q1⟩=>?_)
  exact h2 pins s1 σ1 H1 _ _ Q I1 rr q1
def zq7 (K:W.Frag) (n:Nat) (t:TGs):TG:=λv σ H Q=>∃ a xs,v=.ref a∧SqT K H a xs∧xs.length=n∧t xs σ H Q
theorem zsR {es:List Expr} {k:Nat} {t:TGs} {n:Nat} (hc:X.calm=true) (h:PGs X es t)
  (hn:((assignEach es X.env)).length=n:=by rfl) (hst:((assignEach es X.env)).findIdx? (·.1)=none:=by rfl):PG X (.Tuple es k pos) (zq7 X.K n t):=by
 intro pins s σ H v u Q I r hw
 obtain ⟨a,xs,e1,hq,hl,hw⟩:=hw
 subst e1
 cases r
 obtain ⟨its,rv,ht,hz⟩:=I.tuple hq
 refine assign_Tuple_tuple (I.ok.hd hc) ht (by simp [hn,← hl,rv.length]) hst λh' hx=>?_
 have I1:Inv X pins σ H { s with heap:=h' }:=I.kept (t':=s.toks) λb o e=>hx b o (Nat.ne_of_lt (Heap.lt_size e)) e
 exact h pins _ σ H xs _ Q I1 (by simpa using rv) hw
def zsr (to ti:TE) (t:zum):TG:=λv σ H Q=>to σ H λo H1=>ti σ H1 λi H2=>t o i v H2 λH3=>Q σ H3
theorem zi8 {o i:Expr} {to ti:TE} {t:zum} (ho:PE X o to) (hi:PE X i ti) (hs:zve X t)
  (ha:∀ v,assign (.Subscript o i pos) X.env v=(do
   let ov ← holding [v] (eval o X.env)
   let iv ← holding [v,ov] (eval i X.env)
   standAt pos
   holding [v,ov,iv] (setItem ov iv v)
   release [v,ov,iv] []):=by intro _;rfl):PG X (.Subscript o i pos) (zsr to ti t):=by
 intro pins s σ H v u Q I r h
 rw [ha]
 refine wpAny_bind (wpAny_holding (thn (ho pins s σ H _ I h) λov s1 ⟨x,H1,I1,r1,q1⟩=>?_))
 refine wpAny_bind (wpAny_holding (thn (hi pins s1 σ H1 _ I1 q1) λiv s2 ⟨y,H2,I2,r2,q2⟩=>?_))
 refine wpAny_bind (wpAny_standAt (wpAny_bind (wpAny_holding (thn (hs pins s2 σ H2 x y v ov iv u _ I2 r1 r2 r q2) λ_ s3 ⟨H3,I3,q3⟩=>?_))))
 exact wpAny_release ⟨σ,H3,I3,q3⟩
def zke (te:TE) (g:TG):TS:=λD σ H=>te σ H λx H1=>g x σ H1 D.nx
theorem zgS {tg e:Expr} {te:TE} {g:TG} (he:PE X e te) (hg:PG X tg g) (hs:swapsWithSole [tg] e pos.line X.env=pure false:=by rfl) (hw:swappedStores [tg] e X.env=pure none:=by rfl)
  (h1:(assignEach [tg] X.env).map (·.2)=[assign tg X.env]:=by rfl):PS X (.Assign [tg] e pos) (zke te g):=by
 intro pins s σ H D I h
 refine wpAny_Assign_stores (thn (he pins s σ H _ I h) λv s1 ⟨x,H1,I1,r1,q1⟩=> ?_) hs hw
 rw [h1]
 exact thn (hg pins s1 σ H1 x v _ I1 r1 q1) λ_ s2 q=>q
theorem zat {i:Nat} {x:Str} {e:Expr} {te:TE} {pos':Pos} (hN:X.N.Nodup) (hi:X.N[i]?=some x) (hx:Loc X.env.scope x) (he:PE X e te) (hs:swapsWith e (some (.Name x pos')) pos.line X.env=pure false:=by rfl) (hf:X.fn x=true∨X.env.scope.names.lookup x=some .local:=by first | exact .inl rfl | exact .inr rfl | assumption) :
  PS X (.Assign [.Name x pos'] e pos) (zke te (zdE i)):=by
 intro pins s σ H D I h
 refine wpAny_Assign_Name (thn (he pins s σ H _ I h) λv s1 ⟨y,H1,I1,r1,q1⟩=>?_) hs
 exact zhM I1 hN hi hx r1 (λs2 I2=>⟨_,H1,I2,q1⟩) hf
def tPar (i j:Nat) (ta:TA):TS:=λD σ H=>ta σ H λvs H1=>∃ v w,vs=[v,w]∧D.nx (((σ.set i (some v))).set j (some w)) H1
theorem ztw {i j:Nat} {x y:Str} {a b:Expr} {ta:TA} {px py pt:Pos} {kt k2 pt2} (hc:X.calm=true) (hN:X.N.Nodup) (hi:X.N[i]?=some x) (hj:X.N[j]?=some y) (hij:i≠j)
  (hx:X.env.scope.names.lookup x=some .local) (hy:X.env.scope.names.lookup y=some .local) (ha:PA X [a,b] ta)
  (hw:swappedStores [.Tuple [.Name x px,.Name y py] kt pt] (.Tuple [a,b] k2 pt2) X.env=pure (some [x,y]))
  (hs:swapsWithSole [.Tuple [.Name x px,.Name y py] kt pt] (.Tuple [a,b] k2 pt2) pos.line X.env=pure false:=by rfl) :
  PS X (.Assign [.Tuple [.Name x px,.Name y py] kt pt] (.Tuple [a,b] k2 pt2) pos) (tPar i j ta):=by
 intro pins s σ H D I h
 rw [exec_Assign_arm]
 refine wpAny_bind (wpAny_standAt ?_)
 rw [hs]
 refine wpAny_bind (wpAny_pure ?_)
 rw [if_neg ↑1]
 refine wpAny_bind (Tuple_ (thn (ha _ pins s σ H _ I h) λus s1 ⟨vs,H1,I1,r1,q1⟩=>?_))
 obtain ⟨v,w,e1,q1⟩:=q1
 subst e1
 obtain ⟨u1,u2,rfl,rv,rw'⟩:∃ u1 u2,us=[u1,u2]∧zef v u1∧zef w u2:=by
  cases r1 with
  | cons p q =>
   cases q with
   | cons p' q' =>
    cases q'
    exact ⟨_,_,rfl,p,p'⟩
 refine wpAny_newObj_type ?_ (by show 2≤sizeLine;decide)
 have I2:Inv X pins σ H1 { s1 with heap:=s1.heap.push { cls:=.type "tuple",data:=.seq [u1,u2].toArray } }:=I1.kept (t':=s1.toks) λb o e=>Heap.get?_push_of_some _ e
 rw [hw]
 refine wpAny_bind (wpAny_pure ?_)
 show wpAny ⇑3 X.A (do rule "assign.swapped-stores";let items ← unpackItems (.ref s1.heap.objs.size) 2 none;assignInOrder [λv=>bindName X.env y v,λv=>bindName X.env x v] items.reverse;pure Flow.next) _ _ _
 refine wpAny_bind (wpAny_rule (wpAny_bind (unpackItems_tuple (items:=#[u1,u2]) (I.ok.hd hc) (IsTup.new s1.heap _) λh' hx'=>?_)))
 have I3:=I2.kept (h':=h') (t':=s1.toks) λb o e=>hx' b o (Nat.ne_of_lt (Heap.lt_size e)) e
 show wpAny _ _ (assignInOrder [λv=>bindName X.env y v,λv=>bindName X.env x v] [u2,u1] >>= λ_=>pure Flow.next) _ _ _
 refine wpAny_bind (assignInOrder_cons (wpAny_bindName (zhM I3 hN hj (.inl hy) rw' (λs2 I4=>?_) (.inr hy))))
 refine assignInOrder_cons (wpAny_bindName (zhM I4 hN hi (.inl hx) rv (λs3 I5=>assignInOrder_nil (wpAny_pure ?_)) (.inr hx)))
 rw [List.set_comm _ _ (Ne.symm hij)] at I5
 exact ⟨_,H1,I5,q1⟩
end
section
variable {X:Cx} {pos:Pos}
def zpV (c:TT) (tb:TS):TS:=λD σ H=>∃ W:Nat->St->Hp->Prop,(∃ m,W m σ H)∧∀ m σ H,W m σ H →
 c σ H λb H1=>if b=true then ∃ N:St->Hp->Prop,(∀ σ' H',N σ' H'->∃ m',m'<m∧W m' σ' H')∧tb { D with nx:=N,ct:=N,bk:=D.nx } σ H1 else D.nx σ H1
theorem zlJ {c:Expr} {body:List Stmt} {tc:TT} {tb:TS} (hp:PassesOwn ⇑3 X.A X.env X.xe) (hc:PT X c tc) (hb:PSs X body tb):PS X (.While c body [] pos) (zpV tc tb):=by
 intro pins s σ H D I h
 obtain ⟨W,⟨m0,w0⟩,turn⟩:=h
 refine wpAny_While (codeAny_whileLoop (λn s'=>∃ σ' H',Inv X pins σ' H' s'∧W n σ' H') ?_ m0 ⟨σ,H,I,w0⟩)
 rintro n s1 ⟨σ1,H1,I1,w1⟩
 refine wpAny_passesOwn hp (thn (hc pins s1 σ1 H1 _ I1 (turn n σ1 H1 w1)) λb s2 ⟨H2,I2,q2⟩=>?_)
 cases b with
 | true =>
  obtain ⟨N,hN,q2⟩:=q2
  rw [if_pos rfl]
  refine wpAny_passesOwn hp (thn (hb pins s2 σ1 H2 _ I2 q2) λf s3 q3=>?_)
  cases f with
  | next =>
   obtain ⟨σ3,H3,I3,n3⟩:=q3
   obtain ⟨m',hm,w3⟩:=hN σ3 H3 n3
   exact ⟨m',hm,σ3,H3,I3,w3⟩
  | cont =>
   obtain ⟨σ3,H3,I3,n3⟩:=q3
   obtain ⟨m',hm,w3⟩:=hN σ3 H3 n3
   exact ⟨m',hm,σ3,H3,I3,w3⟩
  | brk=>exact q3
  | ret v=>exact q3
 | false =>
  rw [if_neg Bool.false_ne_true]
  exact wpAny_execs_nil ⟨σ1,H2,I2,q2⟩
end
structure It where
 go:Nat->Hp->Prop
 yld:Nat->Hp->V->Hp->Prop
 stop:Nat->Hp->Prop
def zlz (X:Cx) (pins:List ↥2) (H:Hp) (b:Addr):Prop :=
 H b=none∧b≠X.env.locals∧b ∉ X.fs∧(b∈X.ex∨X.s₀.heap.objs.size≤b)∧↑89∧∀ p∈X.pn++pins,p.1≠b
theorem Inv.fpOk {X:Cx} {pins:List ↥2} {σ:St} {H H':Hp} {s:Shared} {b:Addr} (I:Inv X pins σ H s) (hb:s.heap.objs.size≤b) (hn:H' b=none):zlz X pins H' b:=by
 refine ⟨hn,Nat.ne_of_gt (Nat.lt_of_lt_of_le I.lt hb),I.nofs hb,.inr (Nat.le_trans I.sz hb),λx c e z=>?_,λp hp z=>?_⟩
 ·obtain ⟨v,q⟩:=I.cell x c e
  exact absurd (Nat.lt_of_lt_of_le q.lt (by rw [z];exact hb)) (Nat.lt_irrefl _)
 ·exact absurd (Nat.lt_of_lt_of_le (Heap.lt_size (I.pin p hp).1) (by rw [z];exact hb)) (Nat.lt_irrefl _)
structure Turn (P:Program) (w:World) (K:W.Frag) (tg:Expr) (J:It) (fp:List Addr) (it:Addr) (tn:Nat->Heap->Prop):Prop where
 mem:it∈fp
 obj:∀ i h,tn i h->∀ b∈fp,∃ o,h.get? b=some o∧∀ v,o.data≠.cell v
 keep:∀ i h h',tn i h->(∀ b∈fp,∀ o,h.get? b=some o->h'.get? b=some o)->tn i h'
 item:∀ (X:Cx),X.prog=P->X.w=w->X.K=K->X.calm=true->∀ (i:Nat) (pins:List ↥2) (s:Shared) (σ:St) (H:Hp) (E:Value->Shared->Prop),Inv X pins σ H s->(∀ b∈fp,zlz X pins H b)->tn i s.heap->J.go i H →
  wpAny (model P w) X.A (pyNext (.ref it)) (λr s1=>∃ u,r=some u ∧
   wpAny (model P w) X.A (letOwnedTupleGo tg (.ref it) u) (λ_ s2=>∃ x H',Inv X pins σ H' s2∧zef x u∧J.yld i H x H'∧tn (i+1) s2.heap∧∀ b∈fp,H' b=none) E s1) E s
 done:∀ (X:Cx),X.prog=P->X.w=w->X.K=K->X.calm=true->∀ (i:Nat) (pins:List ↥2) (s:Shared) (σ:St) (H:Hp) (E:Value->Shared->Prop),Inv X pins σ H s->(∀ b∈fp,zlz X pins H b)->tn i s.heap->J.stop i H →
  wpAny (model P w) X.A (pyNext (.ref it)) (λr s1=>r=none∧Inv X pins σ H s1) E s
 self:∀ (A:Around) (i:Nat) (s:Shared) (Q:Value->Shared->Prop) (E:Value->Shared->Prop),tn i s.heap->Q (.ref it) s->wpAny (model P w) A (pyIter (.ref it)) Q E s
abbrev TI:=St->Hp->(It->Hp->Prop)->Prop
def PIE (X:Cx) (pins:List ↥2) (σ:St) (tg:Expr) (R:It->Hp->Prop) (itv:Value) (s2:Shared):Prop :=
 ∃ (it:Addr) (fp:List Addr) (tn:Nat->Heap->Prop) (J:It) (H':Hp),itv=.ref it∧Inv X pins σ H' s2∧Turn X.prog X.w X.K tg J fp it tn∧tn 0 s2.heap∧(∀ b∈fp,zlz X pins H' b)∧R J H'
def PI (X:Cx) (tg iter:Expr) (wi:TI):Prop :=
 ∀ (pins:List ↥2) (s:Shared) (σ:St) (H:Hp) (R:It->Hp->Prop),Inv X pins σ H s->wi σ H R →
  wpAny ⇑3 X.A (eval iter X.env) (λv s1=>wpAny ⇑3 X.A (pyIter v) (PIE X pins σ tg R) X.xe s1) X.xe s
theorem zqF {M:Model} {A:Around} {E:Value->Shared->Prop} {s:Shared} {tg:Expr} {it:Addr} {u:Value} {o:Obj} {n:String} {vs:Array Value} {Q:Unit->Shared->Prop} (ho:s.heap.get? it=some o) (hc:o.cls=.type n) (hd:o.data=.fields vs)
  (hn:["enumerate","zip","dict_itemiterator","dict_reverseitemiterator","odict_iterator","itertools.zip_longest","itertools.pairwise"].contains n=false) (hQ:Q () s):wpAny M A (letOwnedTupleGo tg (.ref it) u) Q E s:=by
 unfold letOwnedTupleGo
 cases tg<;>first
  | exact wpAny_pure hQ
  | (cases u<;>first
    | exact wpAny_pure hQ
    | (refine wpAny_bind (wpAny_load ho ?_)
       rw [hc,hd]
       show wpAny M A (if (["enumerate","zip","dict_itemiterator","dict_reverseitemiterator","odict_iterator","itertools.zip_longest","itertools.pairwise"].contains n&&vs[0]? == some (rawInt _))=true then _ else _) Q E s
       rw [if_neg (by intro h;rw [hn,Bool.false_and] at h;cases h)]
       exact wpAny_pure hQ))
def Itl (K:W.Frag) (a:Addr):It :=
 ⟨λi H=>∃ xs x,SqL K H a xs∧xs[i]?=some x,λi H x H'=>H'=H∧∀ xs,SqL K H a xs->xs[i]?=some x,λi H=>∃ xs,SqL K H a xs∧xs.length≤i⟩
def Itr (lo:Int) (n:Nat):It:=⟨λi _=>i<n,λi H x H'=>H'=H∧x=.int (lo+i),λi _=>n≤i⟩
theorem zoe {P:Program} {w:World} {K:W.Frag} {tg:Expr} (a it:Addr):Turn P w K tg (Itl K a) [it] it (λi h=>h.IsListIter it a i) where
 mem:=by simp
 obj:=λi h st b hb=>by
  have e:b=it:=by simpa using hb
  subst e
  obtain ⟨o,e,c,d⟩:=st
  exact ⟨o,e,λv z=>by rw [d] at z;cases z⟩
 keep:=λi h h' st k=>st.at λo e=>k it (by simp) o e
 item:=by
  intro X hP hw hK hc i pins s σ H E I hf st hg
  subst hP hw hK
  obtain ⟨xs,x,hq,hx⟩:=hg
  obtain ⟨its,rv,p,hz⟩:=I.list hq
  obtain ⟨u,hu,ru⟩:=rv.get hx
  obtain ⟨f0,f1,f2,f3,f4,f5⟩:=hf it (by simp)
  refine wpAny_pyNext_list_item st p.isList (x:=u) (by simpa using hu) λh' st' sb=>?_
  have I1:Inv X pins σ H { s with heap:=h' }:=I.turned (t':=s.toks) (λb o hb e=>(sb.2 b hb).trans e) f0 f1 f3 f4 f5
  obtain ⟨o,e,c,d⟩:=id st'
  exact ⟨u,rfl,zqF (s:= {s with heap:=h'}) e c d ↑1 ⟨x,H,I1,ru,⟨rfl,λys hy=>by rw [I.list_inj hy hq];exact hx⟩,st',λb hb=>(hf b hb).1⟩⟩
 done:=by
  intro X hP hw hK hc i pins s σ H E I hf st hg
  subst hP hw hK
  obtain ⟨xs,hq,hx⟩:=hg
  obtain ⟨its,rv,p,hz⟩:=I.list hq
  obtain ⟨f0,f1,f2,f3,f4,f5⟩:=hf it (by simp)
  have hl:=rv.length
  exact wpAny_pyNext_list_end (I.ok.hd hc) st p.isList (by simp;omega) λh' eb=>⟨rfl,I.turned (t':=s.toks) (λb o hb e=>eb b o hb e) f0 f1 f3 f4 f5⟩
 self:=λ_ _ _ _ _ st h=>wpAny_pyIter_listiter st h
theorem zmE {P:Program} {w:World} {K:W.Frag} {tg:Expr} (it:Addr) (lo:Int) (n:Nat):Turn P w K tg (Itr lo n) [it] it (λi h=>IsRangeIter h it (lo+(i:Nat)*1) ((n:Int)-(i:Nat)) 1) where
 mem:=by simp
 obj:=λi h st b hb=>by
  have e:b=it:=by simpa using hb
  subst e
  exact ⟨_,st,λv z=>by
   have z':Data.fields _=Data.cell v:=z
   cases z'⟩
 keep:=λi h h' st k=>k it (by simp) _ st
 item:=by
  intro X hP hw hK hc i pins s σ H E I hf st hg
  subst hP hw hK
  obtain ⟨f0,f1,f2,f3,f4,f5⟩:=hf it (by simp)
  have W:=Walks.range (prog:=X.prog) (w:=X.w) (I.ok.hd hc) it lo 1 n
  refine W.item i s _ _ hg st λv h' tk hv st' kk=>?_
  obtain ⟨t,rfl⟩:=hv
  have I1:Inv X pins σ H { s with heap:=h',toks:=tk }:=I.turned (λb o hb e=>kk b o (by simpa using hb) e) f0 f1 f3 f4 f5
  refine ⟨_,rfl,zqF (s:={ s with heap:=h',toks:=tk }) (n:="range_iterator") st' rfl rfl ↑1 ⟨.int (lo+i),H,I1,⟨t,?_⟩,⟨rfl,rfl⟩,st',λb hb=>(hf b hb).1⟩⟩
  rw [Int.mul_one]
 done:=by
  intro X hP hw hK hc i pins s σ H E I hf st hg
  subst hP hw hK
  obtain ⟨f0,f1,f2,f3,f4,f5⟩:=hf it (by simp)
  exact wpAny_pyNext_range_end (I.ok.hd hc) st (by have:n≤i:=hg;omega) λh' eb=>⟨rfl,I.turned (t':=s.toks) (λb o hb e=>eb b o hb e) f0 f1 f3 f4 f5⟩
 self:=λ_ _ _ _ _ st h=>wpAny_pyIter_rangeiter st h
end L2
namespace L2
open PySem PySem.Spec PyProof.Rows
section
variable {X:Cx} {tg:Expr}
def zpH (K:W.Frag) (tl:TE):TI:=λσ H R=>tl σ H λx H1=>∃ a,x=.ref a∧(∃xs,SqL K H1 a xs)∧R (Itl K a) H1
theorem zru {l:Expr} {tl:TE} (hl:PE X l tl):PI X tg l (zpH X.K tl):=by
 intro pins s σ H R I h
 refine thn (hl pins s σ H _ I h) λv s1 ⟨x,H1,I1,r1,q1⟩=>?_
 obtain ⟨a,e,⟨xs,hq⟩,q⟩:=q1
 subst e
 cases r1
 obtain ⟨its,rv,p,hz⟩:=I1.list hq
 refine wpAny_pyIter_list p.isList ?_
 refine ⟨s1.heap.objs.size,[s1.heap.objs.size],_,_,H1,rfl,I1.kept (t':=s1.toks) λb o e=>Heap.get?_push_of_some _ e,zoe a _,⟨_,Heap.get?_push_size _ rfl,rfl,rfl⟩,λb hb=>?_,q⟩
 have e:b=s1.heap.objs.size:=by simpa using hb
 subst e
 exact I1.fpOk ↥7 (I1.hok.fresh ↥7)
theorem zoV {pins:List ↥2} {σ:St} {H:Hp} {s:Shared} {R:It->Hp->Prop} {E:Value->Shared->Prop} {lo hi:Int} {t u v:Tok} {tk:Nat} (I:Inv X pins σ H s) (h1:-(2^62)≤lo) (h2:lo<2^62) (h3:-(2^62)≤hi) (h4:hi<2^62)
  (q:R (Itr lo (hi-lo).toNat) H):wpAny ⇑3 X.A (pyIter (.ref s.heap.objs.size)) (PIE X pins σ tg R) E { s with heap:=s.heap.push { cls:=.type "range",data:=.fields #[.int lo t,.int hi u,.int 1 v] },toks:=tk }:=by
 refine wpAny_pyIter_range (IsRange.new ..) (small_one h1 h2 h3 h4) ?_
 have I1:Inv X pins σ H { s with heap:=s.heap.push { cls:=.type "range",data:=.fields #[.int lo t,.int hi u,.int 1 v] },toks:=tk }:=I.kept λb o e=>Heap.get?_push_of_some _ e
 refine ⟨((s.heap.push {cls:= .type "range",data:= .fields #[.int lo t,.int hi u,.int 1 v]})).objs.size,[((s.heap.push {cls:= .type "range",data:= .fields #[.int lo t,.int hi u,.int 1 v]})).objs.size],_,_,H,rfl,
  I1.kept (t':=tk) λb o e=>Heap.get?_push_of_some _ e,zmE _ lo (hi-lo).toNat,?_,λb hb=>?_,q⟩
 ·have e1:lo+((0:Nat):Int)*1=lo:=by simp
  have e2:(((hi-lo).toNat:Nat):Int)-((0:Nat):Int)=Builtin.Range.rangeSize lo hi 1:=by rw [rangeSize_one];split<;>omega
  show IsRangeIter _ _ (lo+((0:Nat):Int)*1) ((((hi-lo).toNat:Nat):Int)-((0:Nat):Int)) 1
  rw [e1,e2]
  exact Heap.get?_push_size _ rfl
 ·have e:b=((s.heap.push {cls:= .type "range",data:= .fields #[.int lo t,.int hi u,.int 1 v]})).objs.size:=by simpa using hb
  subst e
  exact I1.fpOk ↥7 (I1.hok.fresh ↥7)
def zsA (ta:TA):TI:=λσ H R=>ta σ H λvs H1=>∃ j:Int,vs=[.int j]∧-(2^62)≤j∧j<2^62∧R (Itr 0 j.toNat) H1
theorem zbY {a:Expr} {ta:TA} {p pos:Pos} (hg:Gl X "range") (hm:X.mg "range"=none) (ha:PA X [a] ta) (hs:starEach [a] X.env=[(false,eval a X.env)]:=by rfl):PI X tg (.Call (.Name "range" p) [a] [] pos) (zsA ta):=by
 intro pins s σ H R I h
 refine Call_ (zhx I hg hm boot_range (PyProof.Rows.callWith_type1 ↑110 hs rfl))
 obtain ⟨j,e,q1,q2,q⟩:=q1
 subst e
 cases r1 with
 | cons r rr =>
  cases rr
  obtain ⟨t,rfl⟩:=r
  exact call_range_1 (zoV I1 ↑0 ↑0 q1 q2 (by simpa using q))
def zrL (wi:TI) (g:TG) (tb:TS):TS:=λD σ H=>wi σ H λJ H1=>∃ W:Nat->Nat->St->Hp->Prop,(∃ m,W 0 m σ H1)∧∀ i m σ H,W i m σ H →
 (J.stop i H∧D.nx σ H)∨(J.go i H∧∃ N:St->Hp->Prop,(∀ σ' H',N σ' H'->∃ m',m'<m∧W (i+1) m' σ' H')∧∀ x H',J.yld i H x H'->g x σ H' λσ2 H2=>tb { D with nx:=N,ct:=N,bk:=D.nx } σ2 H2)
def zj6 (fp:List Addr) (h:Heap):List ↥2:=fp.filterMap λb=>(h.get? b).map λo=>(b,o)
theorem zfZ {fp:List Addr} {h:Heap} {b:Addr} {o:Obj} (hb:b∈fp) (e:h.get? b=some o):(b,o)∈zj6 fp h:=List.mem_filterMap.mpr ⟨b,hb,by rw [e];rfl⟩
theorem znN {fp:List Addr} {h:Heap} {p:Addr×Obj} (hp:p∈zj6 fp h):p.1∈fp∧h.get? p.1=some p.2:=by
 obtain ⟨b,hb,e⟩:=List.mem_filterMap.mp hp
 cases q:h.get? b with
 | none=>rw [q] at e;cases e
 | some o =>
  rw [q] at e
  have e':(b,o)=p:=Option.some.inj e
  subst e'
  exact ⟨hb,q⟩
theorem Inv.pinned {pins:List ↥2} {σ:St} {H:Hp} {s:Shared} {fp:List Addr} (I:Inv X pins σ H s) (hf:∀ b∈fp,zlz X pins H b) (ho:∀ b∈fp,∃ o,s.heap.get? b=some o∧∀ v,o.data≠.cell v):Inv X (pins++zj6 fp s.heap) σ H s :=
 I.pins_of λp hp=>(List.mem_append.mp hp).elim (λz=>I.pin p (List.mem_append_right _ z)) λz=>by
  obtain ⟨hb,e⟩:=znN z
  obtain ⟨f0,f1,f2,_⟩:=hf p.1 hb
  obtain ⟨o,e',d⟩:=ho p.1 hb
  rw [e] at e';cases e'
  exact ⟨e,f0,f1,f2,d⟩
theorem Inv.unpinned {pins pl:List ↥2} {σ:St} {H:Hp} {s:Shared} (I:Inv X (pins++pl) σ H s):Inv X pins σ H s:=I.pins_of λp hp=>I.pin p (List.mem_append_right _ (List.mem_append_left _ hp))
theorem zcS {iter:Expr} {body:List Stmt} {wi:TI} {g:TG} {tb:TS} {pos:Pos} (hp:PassesOwn ⇑3 X.A X.env X.xe) (hc:X.calm=true) (hi:PI X tg iter wi) (hg:PG X tg g) (hb:PSs X body tb)
  (hs:∀ x,foldedSetIterable iter X.env x=pure x:=by intro _;rfl):PS X (.For tg iter body [] pos) (zrL wi g tb):=by
 intro pins s σ H D I h
 refine wpAny_For (thn (hi pins s σ H _ I h) λv s1 h1=>thn h1 λitv s2 h2=>?_) hs
 obtain ⟨it,fp,tn,J,H2,e,I2,T,st2,f2,W,⟨m0,w0⟩,turn⟩:=h2
 subst e
 have stat:∀ {H':Hp},(∀b∈fp,H' b=none)->∀ b∈fp,zlz X pins H' b:=λhn b hb=>⟨hn b hb,(f2 b hb).2⟩
 refine codeAny_forLoop_any (λn s'=>∃ i σ' H',Inv X pins σ' H' s'∧tn i s'.heap∧(∀b∈fp,H' b=none)∧W i n σ' H') ?_ m0 ⟨0,σ,H2,I2,st2,λb hb=>(f2 b hb).1,w0⟩
 rintro n s3 ⟨i,σ3,H3,I3,st3,fr3,w3⟩
 rcases turn i n σ3 H3 w3 with ⟨stop,qn⟩ | ⟨go,N,hN,step⟩
 ·refine wpAny_passesOwn hp (thn (T.done X rfl rfl rfl hc i pins s3 σ3 H3 X.xe I3 (stat fr3) st3 stop) λr s4 ⟨hr,I4⟩=>?_)
  subst hr
  exact wpAny_execs_nil ⟨σ3,H3,I4,qn⟩
 ·refine wpAny_passesOwn hp (thn (T.item X rfl rfl rfl hc i pins s3 σ3 H3 X.xe I3 (stat fr3) st3 go) λr s4 ⟨u,hr,h4⟩=>?_)
  subst hr
  refine wpAny_passesOwn hp (thn h4 λ_ s5 ⟨x,H5,I5,r5,y5,st5,fr5⟩=>?_)
  have I5':=I5.pinned (stat fr5) (T.obj _ _ st5)
  refine wpAny_passesOwn hp (thn (hg _ s5 σ3 H5 x u _ I5' r5 (step x H5 y5)) λ_ s6 ⟨σ6,H6,I6,q6⟩=>?_)
  refine wpAny_passesOwn hp (thn (hb _ s6 σ6 H6 _ I6 q6) λf s7 q7=>?_)
  have again:∀ {σ7:St} {H7:Hp},Inv X (pins++zj6 fp s5.heap) σ7 H7 s7->N σ7 H7->∃ m,m<n∧∃ i σ' H',Inv X pins σ' H' s7∧tn i s7.heap∧(∀b∈fp,H' b=none)∧W i m σ' H':=λ{σ7 H7} I7 n7=>by
   obtain ⟨m',hm,w7⟩:=hN σ7 H7 n7
   refine ⟨m',hm,i+1,σ7,H7,I7.unpinned,T.keep _ _ _ st5 λb hb o e=>(I7.pin (b,o) ↑112).1,λb hb=>?_,w7⟩
   obtain ⟨o,e,d⟩:=T.obj _ _ st5 b hb
   exact (I7.pin (b,o) ↑112).2.1
  cases f with
  | next=>obtain ⟨σ7,H7,I7,n7⟩:=q7;exact again I7 n7
  | cont=>obtain ⟨σ7,H7,I7,n7⟩:=q7;exact again I7 n7
  | brk=>obtain ⟨σ7,H7,I7,q7⟩:=q7;exact ⟨σ7,H7,I7.unpinned,q7⟩
  | ret v=>obtain ⟨x7,σ7,H7,I7,r7,q7⟩:=q7;exact ⟨x7,σ7,H7,I7.unpinned,r7,q7⟩
end
end L2
namespace L2
open PySem PySem.Spec PyProof.Rows
abbrev R2:=V->V->Hp->VK->Prop
def OpR (X:Cx) (f:Value->Value->Sem Value) (r:R2):Prop :=
 ∀ (pins:List ↥2) (s:Shared) (σ:St) (H:Hp) (x y:V) (v u:Value) (Q:VK),Inv X pins σ H s->zef x v->zef y u->r x y H Q →
  wpAny ⇑3 X.A (f v u) (EP X pins σ Q) X.xe s
def UnR (X:Cx) (f:Value->Sem Value) (r:V->Hp->VK->Prop):Prop :=
 ∀ (pins:List ↥2) (s:Shared) (σ:St) (H:Hp) (x:V) (v:Value) (Q:VK),Inv X pins σ H s->zef x v->r x H Q →
  wpAny ⇑3 X.A (f v) (EP X pins σ Q) X.xe s
def ziz (X:Cx) (f:Value) (r:List V->Hp->VK->Prop):Prop :=
 ∀ (pins:List ↥2) (s:Shared) (σ:St) (H:Hp) (xs:List V) (us:List Value) (Q:VK),Inv X pins σ H s->zct xs us->r xs H Q →
  wpAny ⇑3 X.A (call f us) (EP X pins σ Q) X.xe s
def tOp (r:R2) (ta tb:TE):TE:=λσ H Q=>ta σ H λx H1=>tb σ H1 λy H2=>r x y H2 Q
def tUn (r:V->Hp->VK->Prop) (ta:TE):TE:=λσ H Q=>ta σ H λx H1=>r x H1 Q
def rI (C:Int->Int->Prop) (g:Int->Int->V):R2:=λx y H Q=>∃ i j,x=.int i∧y=.int j∧C i j∧Q (g i j) H
def rI0 (g:Int->Int->V):R2:=λx y H Q=>∃ i j,x=.int i∧y=.int j∧Q (g i j) H
def rU (g:Int->V):V->Hp->VK->Prop:=λx H Q=>∃ i,x=.int i∧Q (g i) H
section
variable {X:Cx} {a b c:Expr} {ta tb tc:TE} {pos:Pos}
theorem zuc (ha:PE X a ta) (hb:PE X b tb) {pins:List ↥2} {s:Shared} {σ:St} {H:Hp} {R:V->V->Hp->Prop} (I:Inv X pins σ H s)
  (h:ta σ H λx H1=>tb σ H1 λy H2=>R x y H2) {Q:Value->Shared->Prop} {f:Value->Value->Sem Value}
  (hf:∀ v u s2 x y H2,Inv X pins σ H2 s2->zef x v->zef y u->R x y H2->wpAny ⇑3 X.A (f v u) Q X.xe s2) :
  wpAny ⇑3 X.A (eval a X.env) (λv s₁=>wpAny ⇑3 X.A (eval b X.env) (λu s₂=>wpAny ⇑3 X.A (f v u) Q X.xe s₂) X.xe s₁) X.xe s:=by
 refine thn (ha pins s σ H _ I h) λv s1 ⟨x,H1,I1,r1,q1⟩=>?_
 refine thn (hb pins s1 σ H1 _ I1 q1) λu s2 ⟨y,H2,I2,r2,q2⟩=>?_
 exact hf v u s2 x y H2 I2 r1 r2 q2
theorem zaD {op:Operator} {r:R2} (ho:OpR X (binaryOp op) r) (ha:PE X a ta) (hb:PE X b tb):PE X (.BinOp a op b pos) (tOp r ta tb):=by
 intro pins s σ H Q I h
 exact wpAny_BinOp (zuc ha hb I h λv u s2 x y H2 I2 rx ry q=>ho pins s2 σ H2 x y v u Q I2 rx ry q)
theorem zm7 {op:UnaryOp} {r:V->Hp->VK->Prop} (ho:UnR X (unaryOp op) r) (ha:PE X a ta):PE X (.UnaryOp op a pos) (tUn r ta):=by
 intro pins s σ H Q I h
 exact UnaryOp_ (thn (ha pins s σ H _ I h) λv s1 ⟨x,H1,I1,r1,q1⟩=>ho pins s1 σ H1 x v Q I1 r1 q1)
theorem opI {f:Value->Value->Sem Value} {C:Int->Int->Prop} {g:Int->Int->Int}
  (rule:∀ (i j:Int) (t u:Tok) (s:Shared) (Q:Value->Shared->Prop) (E:Value->Shared->Prop),C i j->Q (.int (g i j) s.toks) { s with toks:=s.toks+1 }->wpAny ⇑3 X.A (f (.int i t) (.int j u)) Q E s) :
  OpR X f (rI C λi j=>.int (g i j)):=by
 intro pins s σ H x y v u Q I rx ry h
 obtain ⟨i,j,rfl,rfl,hc,q⟩:=h
 obtain ⟨t,rfl⟩:=rx
 obtain ⟨t',rfl⟩:=ry
 exact rule i j t t' s _ _ hc ⟨.int (g i j),H,I.tok _,⟨_,rfl⟩,q⟩
theorem zvb {f:Value->Value->Sem Value} {g:Int->Int->Int}
  (rule:∀ (i j:Int) (t u:Tok) (s:Shared) (Q:Value->Shared->Prop) (E:Value->Shared->Prop),Q (.int (g i j) s.toks) { s with toks:=s.toks+1 }->wpAny ⇑3 X.A (f (.int i t) (.int j u)) Q E s) :
  OpR X f (rI0 λi j=>.int (g i j)):=by
 intro pins s σ H x y v u Q I rx ry h
 obtain ⟨i,j,rfl,rfl,q⟩:=h
 obtain ⟨t,rfl⟩:=rx
 obtain ⟨t',rfl⟩:=ry
 exact rule i j t t' s _ _ ⟨.int (g i j),H,I.tok _,⟨_,rfl⟩,q⟩
theorem zuH {f:Value->Value->Sem Value} {g:Int->Int->Bool}
  (rule:∀ (i j:Int) (t u:Tok) (s:Shared) (Q:Value->Shared->Prop) (E:Value->Shared->Prop),Q (.bool (g i j)) s->wpAny ⇑3 X.A (f (.int i t) (.int j u)) Q E s) :
  OpR X f (rI0 λi j=>.bl (g i j)):=by
 intro pins s σ H x y v u Q I rx ry h
 obtain ⟨i,j,rfl,rfl,q⟩:=h
 obtain ⟨t,rfl⟩:=rx
 obtain ⟨t',rfl⟩:=ry
 exact rule i j t t' s _ _ ⟨.bl (g i j),H,I,rfl,q⟩
def zvR (i j:Int):Prop:=0≤j∧j≤1000000∧i.natAbs<2^64
theorem zcH:OpR X (binaryOp .Add) (rI0 λi j=>.int (i+j)):=zvb λ_ _ _ _ _ _ _ q=>add_int q
theorem zfy:OpR X (binaryOp .Sub) (rI0 λi j=>.int (i-j)):=zvb λ_ _ _ _ _ _ _ q=>sub_int q
theorem zed:OpR X (binaryOp .Mod) (rI (λ_ j=>0<j) λi j=>.int (i%j)):=opI λi j _ _ _ _ _ hc q=>by
 have h1:(0:Int)<j:=hc
 exact mod_int' ↑0 (by rw [Int.fmod_eq_emod_of_nonneg i ↑0];exact q)
theorem ztt:OpR X (binaryOp .Pow) (rI zvR λi j=>.int (i^j.toNat)):=opI λ_ _ _ _ _ _ _ hc q=>pow_int_small hc.1 hc.2.1 hc.2.2 q
theorem unI {f:Value->Sem Value} {g:Int->Int}
  (rule:∀ (i:Int) (t:Tok) (s:Shared) (Q:Value->Shared->Prop) (E:Value->Shared->Prop),Q (.int (g i) s.toks) { s with toks:=s.toks+1 }->wpAny ⇑3 X.A (f (.int i t)) Q E s) :
  UnR X f (rU λi=>.int (g i)):=by
 intro pins s σ H x v Q I rx h
 obtain ⟨i,rfl,q⟩:=h
 obtain ⟨t,rfl⟩:=rx
 exact rule i t s _ _ ⟨.int (g i),H,I.tok _,⟨_,rfl⟩,q⟩
theorem zjW:UnR X (unaryOp .USub) (rU λi=>.int (-i)):=unI λ_ _ _ _ _ q=>neg_int q
end
def scal:V->V->Bool
 | .non,.non=>true | .non,.int _=>true | .int _,.non=>true | .non,.bl _=>true | .bl _,.non=>true | .non,.str _=>true | .str _,.non=>true
 | .int _,.int _=>true | .bl _,.bl _=>true | .str _,.str _=>true | .byt _,.byt _=>true
 | .int _,.str _=>true | .str _,.int _=>true | .bl _,.str _=>true | .str _,.bl _=>true
 | _,_=>false
def rEq:R2:=λx y H Q=>scal x y=true∧Q (.bl (decide (x=y))) H
def rNe:R2:=λx y H Q=>scal x y=true∧Q (.bl (!decide (x=y))) H
theorem znZ {i j:Int}:decide (V.int i=V.int j)=(i == j):=by
 rw [Bool.eq_iff_iff]
 simp
theorem zpO {i j:Bool}:decide (V.bl i=V.bl j)=(i == j):=by
 rw [Bool.eq_iff_iff]
 simp
theorem znd {i j:Str}:decide (V.str i=V.str j)=(i == j):=by
 rw [Bool.eq_iff_iff]
 simp
theorem zm0 {i j:Array UInt8}:decide (V.byt i=V.byt j)=(i.toList == j.toList):=by
 rw [Bool.eq_iff_iff]
 cases i
 cases j
 simp
section
variable {X:Cx} {a b c:Expr} {ta tb tc:TE} {pos:Pos}
theorem zbN {pins:List ↥2} {σ:St} {H:Hp} {s:Shared} {Q:VK} {k k':Bool} (I:Inv X pins σ H s) (q:Q (.bl k) H) (e:k=k'):EP X pins σ Q (.bool k') s:=by
 subst e
 exact ⟨.bl k,H,I,rfl,q⟩
theorem zhF:OpR X (compareOp .Eq) rEq:=by
 intro pins s σ H x y v u Q I rx ry h
 obtain ⟨hs,q⟩:=h
 cases x with
 | non =>
  cases rx
  cases y with
  | non=>cases ry;exact PySem.EqNone.eq_none_none ↑15
  | bl j=>cases ry;exact PySem.EqNone.eq_none_bool ↑15
  | int j=>obtain ⟨t',rfl⟩:=ry;exact PySem.EqNone.eq_none_int ↑15
  | str j=>obtain ⟨t',rfl⟩:=ry;exact PySem.EqNone.eq_none_str ↑15
  | _=>exact absurd ↑47 Bool.false_ne_true
 | bl i =>
  cases rx
  cases y with
  | non=>cases ry;exact PySem.EqNone.eq_bool_none ↑15
  | bl j=>cases ry;exact eq_bool (zbN I q zpO)
  | str j=>obtain ⟨t',rfl⟩:=ry;exact PySem.EqMixed.eq_bool_str ↑15
  | _=>exact absurd ↑47 Bool.false_ne_true
 | int i =>
  obtain ⟨t,rfl⟩:=rx
  cases y with
  | non=>cases ry;exact PySem.EqNone.eq_int_none ↑15
  | int j=>obtain ⟨t',rfl⟩:=ry;exact eq_int (zbN I q znZ)
  | str j=>obtain ⟨t',rfl⟩:=ry;exact PySem.EqMixed.eq_int_str ↑15
  | _=>exact absurd ↑47 Bool.false_ne_true
 | str i =>
  obtain ⟨t,rfl⟩:=rx
  cases y with
  | non=>cases ry;exact PySem.EqNone.eq_str_none ↑15
  | bl j=>cases ry;exact PySem.EqMixed.eq_str_bool ↑15
  | int j=>obtain ⟨t',rfl⟩:=ry;exact PySem.EqMixed.eq_str_int ↑15
  | str j=>obtain ⟨t',rfl⟩:=ry;exact eq_str (zbN I q znd)
  | _=>exact absurd ↑47 Bool.false_ne_true
 | byt i =>
  obtain ⟨t,rfl⟩:=rx
  cases y with
  | byt j=>obtain ⟨t',rfl⟩:=ry;exact W.eq_bytes (zbN I q zm0)
  | _=>exact absurd ↑47 Bool.false_ne_true
 | _=>cases y<;>exact absurd ↑47 Bool.false_ne_true
theorem zhk:OpR X (compareOp .NotEq) rNe:=by
 intro pins s σ H x y v u Q I rx ry h
 obtain ⟨hs,q⟩:=h
 cases x with
 | non =>
  cases rx
  cases y with
  | non=>cases ry;exact PySem.EqNone.ne_none_none ↑15
  | bl j=>cases ry;exact PySem.EqNone.ne_none_bool ↑15
  | int j=>obtain ⟨t',rfl⟩:=ry;exact PySem.EqNone.ne_none_int ↑15
  | str j=>obtain ⟨t',rfl⟩:=ry;exact PySem.EqNone.ne_none_str ↑15
  | _=>exact absurd ↑47 Bool.false_ne_true
 | bl i =>
  cases rx
  cases y with
  | non=>cases ry;exact PySem.EqNone.ne_bool_none ↑15
  | bl j=>cases ry;exact ne_bool (zbN I q (congrArg not zpO))
  | str j=>obtain ⟨t',rfl⟩:=ry;exact PySem.EqMixed.ne_bool_str ↑15
  | _=>exact absurd ↑47 Bool.false_ne_true
 | int i =>
  obtain ⟨t,rfl⟩:=rx
  cases y with
  | non=>cases ry;exact PySem.EqNone.ne_int_none ↑15
  | int j=>obtain ⟨t',rfl⟩:=ry;exact ne_int (zbN I q (congrArg not znZ))
  | str j=>obtain ⟨t',rfl⟩:=ry;exact PySem.EqMixed.ne_int_str ↑15
  | _=>exact absurd ↑47 Bool.false_ne_true
 | str i =>
  obtain ⟨t,rfl⟩:=rx
  cases y with
  | non=>cases ry;exact PySem.EqNone.ne_str_none ↑15
  | bl j=>cases ry;exact PySem.EqMixed.ne_str_bool ↑15
  | int j=>obtain ⟨t',rfl⟩:=ry;exact PySem.EqMixed.ne_str_int ↑15
  | str j=>obtain ⟨t',rfl⟩:=ry;exact ne_str (zbN I q (congrArg not znd))
  | _=>exact absurd ↑47 Bool.false_ne_true
 | byt i =>
  obtain ⟨t,rfl⟩:=rx
  cases y with
  | byt j=>obtain ⟨t',rfl⟩:=ry;exact W.ne_bytes (zbN I q (congrArg not zm0))
  | _=>exact absurd ↑47 Bool.false_ne_true
 | _=>cases y<;>exact absurd ↑47 Bool.false_ne_true
theorem zj7:OpR X (compareOp .Lt) (rI0 λi j=>.bl (decide (i<j))):=zuH λ_ _ _ _ _ _ _ q=>lt_int q
theorem zli:OpR X (compareOp .Gt) (rI0 λi j=>.bl (decide (j<i))):=zuH λ_ _ _ _ _ _ _ q=>gt_int q
theorem ztT:OpR X (compareOp .GtE) (rI0 λi j=>.bl (decide (j≤i))):=zuH λ_ _ _ _ _ _ _ q=>ge_int q
theorem zr4:OpR X (compareOp .Is) (λx y H Q=>y= .non∧Q (.bl (decide (x= .non))) H):=by
 intro pins s σ H x y v u Q I rx ry h
 obtain ⟨rfl,q⟩:=h
 cases ry
 refine is_none_gen (zbN I q ?_)
 cases x<;>first
  | (cases rx;rfl)
  | (obtain ⟨t,rfl⟩:=rx;rfl)
theorem zgB:OpR X (compareOp .IsNot) (λx y H Q=>y= .non∧Q (.bl (!decide (x= .non))) H):=by
 intro pins s σ H x y v u Q I rx ry h
 obtain ⟨rfl,q⟩:=h
 cases ry
 refine isnot_none_gen (zbN I q ?_)
 cases x<;>first
  | (cases rx;rfl)
  | (obtain ⟨t,rfl⟩:=rx;rfl)
theorem zaW (b:Expr) {op:CmpOp} (h:op≠.In:=by decide) (h2:op≠.NotIn:=by decide):behindInMarks op b=false:=by
 have e1:(op == CmpOp.In)=false:=by cases op<;>first | rfl | exact absurd rfl h
 have e2:(op == CmpOp.NotIn)=false:=by cases op<;>first | rfl | exact absurd rfl h2
 cases b<;>simp [behindInMarks,e1,e2]
theorem zg9 {op:CmpOp} {r:R2} (ho:OpR X (compareOp op) r) (ha:PE X a ta) (hb:PE X b tb) (hm:behindInMarks op b=false):PE X (.Compare a [op] [b] pos) (tOp r ta tb):=by
 intro pins s σ H Q I h
 exact wpAny_Compare1 (zuc ha hb I h λv u s2 x y H2 I2 rx ry q=>ho pins s2 σ H2 x y v u Q I2 rx ry q) hm
def zsd (t:TE):TT:=λσ H Q=>t σ H λx H'=>∃ k,x=.bl k∧Q k H'
theorem zaI {op:CmpOp} {r:R2} (ho:OpR X (compareOp op) r) (ha:PE X a ta) (hb:PE X b tb) (hm:behindInMarks op b=false):PT X (.Compare a [op] [b] pos) (zsd (tOp r ta tb)):=by
 intro pins s σ H Q I h
 refine wpAny_isTrue_Compare1 (thn (ha pins s σ H _ I h) λv s1 ⟨x,H1,I1,r1,q1⟩=>thn (hb pins s1 σ H1 _ I1 q1) λu s2 ⟨y,H2,I2,r2,q2⟩ =>
  thn (ho pins s2 σ H2 x y v u _ I2 r1 r2 q2) λc s3 ⟨z,H3,I3,r3,k,e,q3⟩=>?_) hm
 subst e
 cases r3
 exact wpAny_truthy_bool ⟨H3,I3,q3⟩
theorem zlK:(sizeLine:Nat)<2^63:=by rw [sizeLine_eq];decide
theorem zmG {x:V} {us:List Value} (r:zct [x] us):∃ u,us=[u]∧zef x u:=by
 cases r with
 | cons r1 r2=>cases r2;exact ⟨_,rfl,r1⟩
theorem zuz {x y:V} {us:List Value} (r:zct [x,y] us):∃ u w',us=[u,w']∧zef x u∧zef y w':=by
 cases r with
 | cons r1 r2 =>
  cases r2 with
  | cons r3 r4=>cases r4;exact ⟨_,_,rfl,r1,r3⟩
theorem zkj (hc:X.calm=true):ziz X (.builtin "max") (λxs H Q=>∃i j,xs=[.int i,.int j]∧Q (.int (if j>i then j else i)) H):=by
 intro pins s σ H xs us Q I r h
 obtain ⟨i,j,rfl,q⟩:=h
 obtain ⟨u,w',rfl,⟨t,rfl⟩,⟨t',rfl⟩⟩:=zuz r
 refine max_two_ints (I.ok.hd hc) λh' tk k=>⟨_,H,I.kept k,?_,q⟩
 by_cases hj:j > i
 ·rw [if_pos hj,if_pos hj];exact ⟨_,rfl⟩
 ·rw [if_neg hj,if_neg hj];exact ⟨_,rfl⟩
theorem ziA:ziz X (.type "int") (λxs H Q=>(∃i,xs=[.int i]∧Q (.int i) H)∨∃k,xs=[.bl k]∧Q (.int (if k then 1 else 0)) H):=by
 intro pins s σ H xs us Q I r h
 rcases h with ⟨i,rfl,q⟩ | ⟨k,rfl,q⟩
 ·obtain ⟨u,rfl,t,rfl⟩:=zmG r
  exact call_int_int ⟨.int i,H,I,⟨_,rfl⟩,q⟩
 ·obtain ⟨u,rfl,r1⟩:=zmG r
  cases r1
  exact call_int_bool ⟨.int (if k then 1 else 0),H,I.tok _,⟨_,rfl⟩,q⟩
end
end L2
namespace L2
open PySem PySem.Spec PyProof.Rows
structure ObjM (h:Heap) (x dx C:Addr) (mA:Str->Option Value):Prop where
 obj:h.get? x=some (W.instObj C dx)
 ns:h.Ns1 dx mA
 ne:dx≠x
theorem zm9 {h:Heap} {dx:Addr} {mA:Str->Option Value} (n:h.Ns1 dx mA):∃ od,h.get? dx=some od∧∀ name,W.lookIn name od=some (mA name):=by
 obtain ⟨o,es,ep,ho,hd,hk,_,hm⟩:=n
 refine ⟨o,ho,λname=>?_⟩
 have e:=hm name
 unfold nsFind findBy at e
 rw [← Array.find?_toList] at e
 unfold W.lookIn
 rw [hd]
 dsimp only
 split
 ·rename_i y q
  rw [q] at e
  exact congrArg some e
 ·rename_i q
  rw [q] at e
  have a:es.toList.any (·.refKey)=false:=by
   rw [List.any_eq_false]
   intro y hy
   obtain ⟨z,t,hkey⟩:=hk y (Array.mem_toList_iff.mp hy)
   simp [DictEntry.refKey,hkey]
  have a':¬ es.toList.any (·.refKey)=true:=by rw [a];exact Bool.false_ne_true
  rw [if_neg a']
  exact congrArg some e
theorem ObjM.look {h:Heap} {x dx C:Addr} {mA:Str->Option Value} (I:ObjM h x dx C mA):∃ od,W.InstAt h x (W.instObj C dx) C (some od)∧∀ name,W.lookIn name od=some (mA name) :=
 let ⟨od,ho,hl⟩:=zm9 I.ns
 ⟨od,⟨I.obj,rfl,rfl,ho⟩,hl⟩
section
variable {prog:Program} {w:World} {A:Around} {E:Value->Shared->Prop} {s:Shared} {K:W.Frag} {x dx C f:Addr} {mA:Str->Option Value} {name:Str} {v:Value}
theorem zqW {expr:Bool} {Q:Value->Shared->Prop} (X:K.In s.heap) (I:ObjM s.heap x dx C mA) (hg:W.plainGet K C name=true) (hh:W.hasDictIn K C=true)
  (ha:W.findIn K (.ref C) name=some none) (hv:mA name=some v) (hv':W.handedIn v=true) (h:Q v { s with toks:=s.toks+1 }) :
  wpAny (model prog w) A (getAttr (.ref x) name expr) Q E s:=by
 obtain ⟨od,J,hl⟩:=I.look
 exact W.get_value X J (W.plainGet_of hg).1 (W.findObj_own hh ha rfl (by rw [hl,hv])) hv' h
theorem zpE {pl:Sem Bool} {Q:Value×List Value->Shared->Prop} (X:K.In s.heap) (I:ObjM s.heap x dx C mA) (hg:W.plainGet K C name=true)
  (hf:W.findIn K (.ref C) name=some (some (.ref f))) (ht:W.isFn K (.ref f)=true) (hv:mA name=none) (h:Q (.ref f,[.ref x]) s) :
  wpAny (model prog w) A (getMethod (.ref x) name pl) Q E s:=by
 obtain ⟨od,J,hl⟩:=I.look
 exact W.method_fn X J (W.plainGet_of hg).1 (W.plainGet_of hg).2 hf (beq_iff_eq.mp ht) (by show (W.lookIn name od).map (·.isSome)=some false;rw [hl,hv];rfl) h
theorem zrp {ns:List Str} {Q:Unit->Shared->Prop} (X:K.In s.heap) (I:ObjM s.heap x dx C mA)
  (hs:W.findIn K (.ref C) "__setattr__"=some ↑61) (hp:W.plainOver K C=true) (ht:W.takerIn K C name=some none) (hh:W.hasDictIn K C=true)
  (hw:PySem.Within mA ns) (hsz:ns.length≤sizeLine)
  (h:∀ h',ObjM h' x dx C (λy=>if y=name then some v else mA y)->Heap.SameBut dx s.heap h'->Q () { s with heap:=h',toks:=s.toks+2 }) :
  wpAny (model prog w) A (setAttr (.ref x) name v) Q E s:=by
 obtain ⟨od,J,hl⟩:=I.look
 refine W.set_plain X J hs (W.osa_open (s:={ s with toks:=s.toks+1 }) (r:=none) X J hp ht λb=>?_)
 obtain ⟨cd,hc,hd'⟩:=W.any_some hh
 have hx:s.heap.get? x=some ⟨.ref C,some dx,.plain,#[]⟩:=I.obj
 refine wpAny_bind (wpAny_pure (wpAny_bind (wpAny_bind (wpAny_loadPart hx (wpAny_bind (W.Looks.here (s:={ s with toks:=s.toks+1 }) (W.looks_clsIn X hc) ?_))))))
 rw [hd']
 refine wpAny_pure (a:=some dx) (wpAny_bind (wpAny_pure (wpAny_bind ?_)))
 refine wpAny_nsSet1 (s:={ s with toks:=s.toks+1 }) I.ns λh' hn2 hs2=>?_
 obtain ⟨oD,esD,epD,hoD,hdD,hcD⟩:=hn2.count (PySem.Within.cons name v hw)
 refine wpAny_bind (wpAny_lookBehind hoD (by rw [hdD];exact pastItsLine_dict (Nat.le_trans hcD (by rw [List.length_cons];omega))) ?_)
 exact wpAny_pure (h _ ⟨(hs2.2 _ (Ne.symm I.ne)).trans I.obj,hn2,I.ne⟩ hs2)
theorem zpj {R:Result->Shared->Prop} {vs:List Value} {kw:List (Str×Value)} (X:K.In s.heap) (hm:W.makesIn K C=true)
  (hi:W.findIn K (.ref C) "__init__"=some (some (.ref f))) (hf:W.typeIn K (.ref f)=some (.type "function"))
  (h:codeAny (model prog w) (A.under (.builtin "type.__call__" ⟨.ref C :: vs,kw⟩)) (.call (.ref f) ⟨.ref ↑21 :: vs,kw⟩) (W.InitBack ↑21 R)
   { s with heap:=((s.heap.push W.emptyDict)).push (W.instObj C s.heap.objs.size) }) :
  codeAny (model prog w) A (.call (.ref C) ⟨vs,kw⟩) R s:=by
 obtain ⟨hh,g,d,t,os⟩:=s
 exact W.make_core (W.makes_of X hm) (W.looks_findIn X hi) (λself=>W.bind_fn X self hf) (.inl rfl) h
end
def putF (f:Str) (v:V):List (Str×V)->List (Str×V)
 | []=>[(f,v)]
 | (g,x) :: r=>if g=f then (g,v) :: r else (g,x) :: putF f v r
theorem zh5 (f g:Str) (v:V):∀ fs:List (Str×V),(putF f v fs).lookup g=if g=f then some v else fs.lookup g
 | []=>by
  show List.lookup g [(f,v)]=_
  by_cases h:g=f
  ·have hb:(g == f)=true:=beq_iff_eq.mpr h
   simp only [List.lookup,hb,if_pos h]
  ·have hb:(g == f)=false:=beq_eq_false_iff_ne.mpr h
   simp only [List.lookup,hb,if_neg h]
 | (k,x) :: r=>by
  have ih:=zh5 f g v r
  rw [show putF f v ((k,x) :: r)=(if k=f then (k,v)::r else (k,x)::putF f v r) from rfl]
  by_cases hk:k=f
  ·rw [if_pos hk]
   by_cases h:g=k
   ·have hb:(g == k)=true:=beq_iff_eq.mpr h
    simp only [List.lookup,hb,if_pos (h.trans hk)]
   ·have hb:(g == k)=false:=beq_eq_false_iff_ne.mpr h
    simp only [List.lookup,hb,if_neg (λe:g=f=>h (e.trans hk.symm))]
  ·rw [if_neg hk]
   by_cases h:g=k
   ·have hb:(g == k)=true:=beq_iff_eq.mpr h
    simp only [List.lookup,hb,if_neg (λe:g=f=>hk (h.symm.trans e))]
   ·have hb:(g == k)=false:=beq_eq_false_iff_ne.mpr h
    simp only [List.lookup,hb]
    exact ih
theorem ziD (f:Str) (v:V):∀ fs:List (Str×V),f∈(putF f v fs).map (·.1)∧∀ g,g∈fs.map (·.1)->g∈(putF f v fs).map (·.1)
 | []=>⟨by simp [putF],λg h=>by simp at h⟩
 | (k,x) :: r=>by
  obtain ⟨i1,i2⟩:=ziD f v r
  rw [show putF f v ((k,x) :: r)=(if k=f then (k,v)::r else (k,x)::putF f v r) from rfl]
  by_cases hk:k=f
  ·rw [if_pos hk]
   subst hk
   exact ⟨by simp,λg h=>by simpa using h⟩
  ·rw [if_neg hk]
   refine ⟨?_,λg h=>?_⟩
   ·rw [List.map_cons]
    exact List.mem_cons_of_mem _ i1
   ·rw [List.map_cons] at h ⊢
    rcases List.mem_cons.mp h with e | e
    ·exact List.mem_cons.mpr (.inl e)
    ·exact List.mem_cons_of_mem _ (i2 g e)
theorem zh8 (f:Str) (v:V):∀ fs:List (Str×V),(putF f v fs).length≤fs.length+1
 | []=>by simp [putF]
 | (k,x) :: r=>by
  have ih:=zh8 f v r
  rw [show putF f v ((k,x) :: r)=(if k=f then (k,v)::r else (k,x)::putF f v r) from rfl]
  by_cases hk:k=f
  ·rw [if_pos hk,List.length_cons,List.length_cons];omega
  ·rw [if_neg hk,List.length_cons,List.length_cons];omega
theorem zoL.some_of {v:V} {o:Option Value} (r:zoL (some v) o):∃ u,o=some u∧zef v u:=by
 cases o with
 | none=>exact (show False from r).elim
 | some u=>exact ⟨u,rfl,r⟩
theorem zoL.none_of {o:Option Value} (r:zoL none o):o=none:=by
 cases o with
 | none=>rfl
 | some u=>exact (show False from r).elim
theorem znG {v:V} {u:Value} (r:zef v u):W.handedIn u=true:=by
 cases v with
 | non=>cases (show u=Value.none from r);rfl
 | bl b=>cases (show u=Value.bool b from r);rfl
 | int i=>obtain ⟨t,e⟩:=(show ∃ t,u=Value.int i t from r);cases e;rfl
 | str x=>obtain ⟨t,e⟩:=(show ∃ t,u=Value.str x t from r);cases e;rfl
 | byt b=>obtain ⟨t,e⟩:=(show ∃ t,u=Value.bytes b t from r);cases e;rfl
 | flt b=>obtain ⟨t,e⟩:=(show ∃ t,u=Value.float b t from r);cases e;rfl
 | ref a=>cases (show u=Value.ref a from r);rfl
 | ty n=>cases (show u=Value.type n from r);rfl
section
variable {P:Program} {w:World} {H H':Hp} {h h':Heap} {a C dx:Addr} {fs fs':List (Str×V)}
theorem zkY (hok:HOk P w H h) (e:H a=some (.ins C dx fs)):∃ mA,ObjM h a dx C mA∧(∀ f,zoL (fs.lookup f) (mA f))∧PySem.Within mA (fs.map (·.1))∧fs.length≤1000∧H dx=some (.own a):=by
 obtain ⟨d,z,ne,ob,mA,n,r,q⟩:=(show zfv P w H h a (.ins C dx fs) from hok a _ e)
 exact ⟨mA,⟨ob,n,ne⟩,r,q,z,d⟩
end
structure Cls (K:W.Frag) (C:Addr):Prop where
 pg:W.plainGet K C Str.empty=true
 hd:W.hasDictIn K C=true
 po:W.plainOver K C=true
 sa:W.findIn K (.ref C) "__setattr__"=some ↑61
theorem Cls.get {K:W.Frag} {C:Addr} (c:Cls K C) (f:Str):W.plainGet K C f=true:=c.pg
def NoAttr (K:W.Frag) (C:Addr) (f:Str):Prop:=W.findIn K (.ref C) f=some none
theorem NoAttr.taker {K:W.Frag} {C:Addr} {f:Str} (n:NoAttr K C f):W.takerIn K C f=some none:=by
 unfold W.takerIn
 rw [show W.findIn K (.ref C) f=some none from n]
 rfl
structure Con (K:W.Frag) (C:Addr) (f:Str) (v:V) (u:Value):Prop where
 at_:W.findIn K (.ref C) f=some (some u)
 rel:zef v u
 get:W.specialIn K u "__get__"=some none
 cp:W.copiedNames.contains f=false
structure Meth (K:W.Frag) (C:Addr) (m:Str) (f:Addr):Prop where
 at_:W.findIn K (.ref C) m=some (some (.ref f))
 fn:W.isFn K (.ref f)=true
 kp:W.keepIn K (.ref f)=true
section
variable {X:Cx} {pins:List ↥2} {σ:St} {H:Hp} {s:Shared} {a C dx:Addr} {fs:List (Str×V)} {f:Str} {v:V} {A:Around} {E:Value->Shared->Prop}
theorem zmr {b:Bool} {Q:Value->Shared->Prop} (I:Inv X pins σ H s) (e:H a=some (.ins C dx fs)) (c:Cls X.K C) (n:NoAttr X.K C f) (l:fs.lookup f=some v)
  (h:∀ u s',Inv X pins σ H s'->zef v u->Q u s'):wpAny ⇑3 A (getAttr (.ref a) f b) Q E s:=by
 obtain ⟨mA,O,r,_,_,_⟩:=zkY I.hok e
 obtain ⟨u,hu,ru⟩:=zoL.some_of (v:=v) (o:=mA f) (by rw [← l];exact r f)
 exact zqW I.kIn O (c.get f) c.hd n hu (znG ru) (h u _ (I.tok _) ru)
theorem zg5 {m:Str} {g:Addr} {pl:Sem Bool} {Q:Value×List Value->Shared->Prop} (I:Inv X pins σ H s) (e:H a=some (.ins C dx fs)) (c:Cls X.K C) (k:Meth X.K C m g) (l:fs.lookup m=none)
  (h:Q (.ref g,[.ref a]) s):wpAny ⇑3 A (getMethod (.ref a) m pl) Q E s:=by
 obtain ⟨mA,O,r,_,_,_⟩:=zkY I.hok e
 have hn:mA m=none:=zoL.none_of (by rw [← l];exact r m)
 exact zpE I.kIn O (c.get m) k.at_ k.fn hn h
theorem zmi {y:V} {u:Value} {Q:Unit->Shared->Prop} (I:Inv X pins σ H s) (e:H a=some (.ins C dx fs)) (c:Cls X.K C) (n:NoAttr X.K C f) (hl:fs.length<1000) (ry:zef y u)
  (h:∀ s',Inv X pins σ (upd H a (.ins C dx (putF f y fs))) s'->Q () s'):wpAny ⇑3 A (setAttr (.ref a) f u) Q E s:=by
 obtain ⟨mA,O,r,wi,_,ho⟩:=zkY I.hok e
 have hz:(fs.map (·.1)).length≤sizeLine:=by rw [List.length_map,sizeLine_eq];omega
 refine zrp I.kIn O c.sa c.po n.taker c.hd wi hz λh' O' sb=>h _ ?_
 have hd:∃ o,h'.get? dx=some o:=let ⟨o,_,_,e',_⟩:=O'.ns;⟨o,e'⟩
 refine I.write (x:=a) (e:=dx) (by rw [e];exact True.intro) (.inr ho) (λb q hb z=>(sb.2 b hb).trans z) hd ?_
 refine ⟨by rw [zax O.ne];exact ho,?_,O.ne,O'.obj,_,O'.ns,λg=>?_,λg hg=>?_⟩
 ·have:=zh8 f y fs;omega
 ·show zoL ((putF f y fs).lookup g) (if g=f then some u else mA g)
  rw [zh5]
  by_cases q:g=f
  ·rw [if_pos q,if_pos q];exact ry
  ·rw [if_neg q,if_neg q];exact r g
 ·by_cases q:g=f
  ·rw [q];exact (ziD f y fs).1
  ·refine (ziD f y fs).2 g (wi g λz=>hg ?_)
   show (if g=f then some u else mA g)=none
   rw [if_neg q];exact z
theorem Inv.made (I:Inv X pins σ H s):Inv X pins σ (upd (upd H s.heap.objs.size (.own ↑21)) ↑21 (.ins C s.heap.objs.size []))
  { s with heap:=((s.heap.push W.emptyDict)).push (W.instObj C s.heap.objs.size) }:=by
 have e1:((s.heap.push W.emptyDict)).get? s.heap.objs.size=some W.emptyDict:=Heap.get?_push_size s.heap rfl
 have e2:(((s.heap.push W.emptyDict)).push (W.instObj C s.heap.objs.size)).get? ↑21=some (W.instObj C s.heap.objs.size):=by
  have:=Heap.get?_push_size (s.heap.push W.emptyDict) (o:=W.instObj C s.heap.objs.size) rfl
  rwa [Heap.size_push] at this
 have e3:((s.heap.push W.emptyDict)).Ns s.heap.objs.size (λ_=>none):=⟨W.emptyDict,#[],_,e1,rfl,(λe he=>absurd he (by simp)),λ_=>rfl⟩
 have I1:=I.laid (a:=s.heap.objs.size) (o:=.own ↑21) (h':=s.heap.push W.emptyDict) (t':=s.toks) (λb u q=>Heap.get?_push_of_some _ q) ↥7 ⟨_,e1⟩
 refine I1.laid (a:=s.heap.objs.size+1) (o:=.ins C s.heap.objs.size []) (t':=s.toks) (λb u q=>Heap.get?_push_of_some _ q) (Nat.le_of_eq (Heap.size_push _ _)) ?_
 have ne:s.heap.objs.size≠s.heap.objs.size+1:=Nat.ne_of_lt (Nat.lt_succ_self _)
 refine ⟨by rw [zax ne,zaG],Nat.zero_le _,ne,e2,λ_=>none,(Heap.Ns1.of_empty e3).at λo q=>Heap.get?_push_of_some _ q,λ_=>True.intro,λy hy=>absurd rfl hy⟩
theorem zqp {prog:Program} {w:World} {env:Env} {e:Expr} {f:Str} {pos:Pos} {s:Shared} {Q:Value->Shared->Prop} (hb:attributeBase e f env (eval e env)=eval e env)
  (h:wpAny (model prog w) A (eval e env) (λo s₁=>wpAny (model prog w) A (getAttr o f true) Q E s₁) E s):wpAny (model prog w) A (eval (.Attribute e f pos) env) Q E s :=
 Attribute_any_ h (by rw [arm_eval_Attribute,hb])
end
def tFld (K:W.Frag) (ta:TE) (f:Str):TE:=λσ H Q=>ta σ H λx H1=>∃ a C dx fs v,x=.ref a∧H1 a=some (.ins C dx fs)∧Cls K C∧NoAttr K C f∧fs.lookup f=some v∧Q v H1
def zuv (K:W.Frag) (ta tv:TE) (f:Str):TS:=λD σ H=>tv σ H λy H1=>ta σ H1 λx H2=>∃ a C dx fs,x=.ref a∧H2 a=some (.ins C dx fs)∧Cls K C∧NoAttr K C f∧fs.length<1000 ∧
 D.nx σ (upd H2 a (.ins C dx (putF f y fs)))
section
variable {X:Cx} {o e value:Expr} {f:Str} {pos pos' tpos:Pos} {ta tv:TE}
theorem ztn (he:PE X e ta) (hb:attributeBase e f X.env (eval e X.env)=eval e X.env):PE X (.Attribute e f pos) (tFld X.K ta f):=by
 intro pins s σ H Q I h
 refine zqp hb (thn (he pins s σ H _ I h) λu s1 ⟨x,H1,I1,rx,a,C,dx,fs,v,ex,ea,c,n,l,q⟩=>?_)
 subst ex
 obtain rfl:u=Value.ref a:=rx
 exact zmr I1 ea c n l λu' s2 I2 ru=>⟨v,H1,I2,ru,q⟩
theorem zhz (ha:PE X o ta) (hv:PE X value tv) (hs:swapsWith value (some (.Attribute o f pos')) pos.line X.env=pure false):PS X (.Assign [.Attribute o f pos'] value pos) (zuv X.K ta tv f):=by
 intro pins s σ H D I h
 refine plainObj_wpAny_Assign_Attribute (thn (hv pins s σ H _ I h) λu s1 ⟨y,H1,I1,ry,q⟩=>thn (ha pins s1 σ H1 _ I1 q) λov s2 ⟨x,H2,I2,rx,a,C,dx,fs,ex,ea,c,n,l,q2⟩=>?_) hs
 subst ex
 obtain rfl:ov=Value.ref a:=rx
 exact zmi I2 ea c n l ry λs3 I3=>⟨σ,_,I3,q2⟩
theorem zrf {pl:Sem Bool} {m:Str} {apos:Pos} {args:List Expr} {pins:List ↥2} {s:Shared} {σ:St} {H:Hp} {Q:Value->Shared->Prop} {te:TE} (he:PE X e te) (I:Inv X pins σ H s)
  (h:te σ H λx H1=>∃ a C dx fs g,x=.ref a∧H1 a=some (.ins C dx fs)∧Cls X.K C∧Meth X.K C m g∧fs.lookup m=none ∧
   ∀ s1,Inv X pins σ H1 s1->wpAny ⇑3 X.A (callWith pos (.ref g) [.ref a] (backTo pos (starEach args X.env)) (backToKw pos (keywordEach [] X.env))) Q X.xe s1)
  (ht:eval (.Call (.Attribute e m apos) args [] pos) X.env=(do
   let ov ← eval e X.env
   standAt apos.atName
   let (f,first) ← holding [ov] (getMethod ov m pl)
   callWith pos f first (backTo pos (starEach args X.env)) (backToKw pos (keywordEach [] X.env)))) :
  wpAny ⇑3 X.A (eval (.Call (.Attribute e m apos) args [] pos) X.env) Q X.xe s:=by
 refine W.methodCall_KW (pl:=pl) (thn (he pins s σ H _ I h) λu s1 ⟨x,H1,I1,rx,a,C,dx,fs,g,ex,ea,c,k,l,q⟩=>?_) ht
 subst ex
 obtain rfl:u=Value.ref a:=rx
 exact zg5 I1 ea c k l (q s1 I1)
end
section
variable {X:Cx} {pins:List ↥2} {σ:St} {H:Hp} {s:Shared} {A:Around} {E:Value->Shared->Prop} {Q:Value->Shared->Prop} {c:Value} {b:Bool}
inductive TyOf (K:W.Frag) (H:Hp):V->Value->Prop where
 | non:TyOf K H .non (.type "NoneType")
 | bl (x:Bool):TyOf K H (.bl x) (.type "bool")
 | int (i:Int):TyOf K H (.int i) (.type "int")
 | str (x:Str):TyOf K H (.str x) (.type "str")
 | flt (x:UInt64):TyOf K H (.flt x) (.type "float")
 | lst {a:Addr} {xs:List V} (e:H a=some (.lst xs)):TyOf K H (.ref a) (.type "list")
 | frz {a:Addr} {o:Obj} {xs:List V} (e:H a=some (.frz o (.lst xs))):TyOf K H (.ref a) (.type "list")
 | tup {a:Addr} {xs:List V} (e:H a=some (.tup xs)):TyOf K H (.ref a) (.type "tuple")
 | dK {a:Addr} {kvs:List (Key×V)} (e:H a=some (.dK kvs)):TyOf K H (.ref a) (.type "dict")
 | dT {a:Addr} {kvs:List (List Key×V)} (e:H a=some (.dT kvs)):TyOf K H (.ref a) (.type "dict")
 | ins {a C dx:Addr} {fs:List (Str×V)} (e:H a=some (.ins C dx fs)) (cl:Cls K C) (ha:W.findIn K (.ref C) "__class__"=some (some (.builtin "object.__class__")))
   (hn:W.specialIn K (.builtin "object.__class__") "__get__"=some (some (.builtin "getset_descriptor.__get__"))) (htk:W.takesIn K (.builtin "object.__class__")=some true)
   (hm:W.mroIn K C (.type "object")=some true):TyOf K H (.ref a) (.ref C)
end
end L2
namespace L2
open PySem PySem.Spec PyProof.Rows
structure Room (k:Nat) (A:Around):Prop where
 hd:A.handled=none
 dp:A.depth+3*k+5<recursionLimit
 un:A.units+16*k+200<cLine
theorem Room.mono {j k:Nat} {A:Around} (r:Room k A) (h:j≤k):Room j A:=⟨r.hd,by have:=r.dp;omega,by have:=r.un;omega⟩
theorem Room.deeper {k:Nat} {A:Around} (r:Room (k+1) A) (env:Env):Room k (A.deeper env) :=
 ⟨r.hd,by have:=r.dp;show A.depth+1+3*k+5<_;omega,by have:=r.un;show A.units+3+16*k+200<_;omega⟩
theorem Room.in1 {k:Nat} {A:Around} (r:Room (k+1) A):Room k A.in1 :=
 ⟨r.hd,by have:=r.dp;show A.depth+3*k+5<_;omega,by have:=r.un;show A.units+1+16*k+200<_;omega⟩
theorem zmJ {A:Around} {C:Addr} {us:List Value} {kw:List (Str×Value)}:((A.under (.builtin "type.__call__" ⟨.ref C::us,kw⟩))).depth=A.depth+1:=by
 first | rfl | simp [Around.under,Code.weight,Code.isCreation,Code.isGuard,Code.isCaller,Code.frames,Code.isFrame,guardIds]
theorem zmv {A:Around} {C:Addr} {us:List Value} {kw:List (Str×Value)}:((A.under (.builtin "type.__call__" ⟨.ref C::us,kw⟩))).units=A.units+1:=by
 first | rfl | simp [Around.under,Code.cUnits,Code.frames,Code.isFrame]
theorem Room.make {k:Nat} {A:Around} (r:Room (k+1) A) (C:Addr) (us:List Value) (kw:List (Str×Value)):Room k (A.under (.builtin "type.__call__" ⟨.ref C::us,kw⟩)) :=
 ⟨r.hd,by have:=r.dp;rw [zmJ];omega,by have:=r.un;rw [zmv];omega⟩
theorem Room.depth {k:Nat} {A:Around} (r:Room k A):A.depth<recursionLimit:=by have:=r.dp;omega
theorem Room.units {k:Nat} {A:Around} (r:Room k A):A.units+64<cLine:=by have:=r.un;omega
def tNil:TA:=λ_ H Q=>Q [] H
def tCons (ta:TE) (tr:TA):TA:=λσ H Q=>ta σ H λx H1=>tr σ H1 λxs H2=>Q (x :: xs) H2
section
variable {X:Cx} {e:Expr} {es:List Expr} {te:TE} {t:TA} {pos:Pos}
theorem zeC:PA X [] tNil:=λ_ _ _ _ H Q I h=>Calls.spliced_nil ⟨[],H,I,.nil,h⟩
theorem zb5 (ha:PE X e te) (hr:PA X es t) (hs:starEach (e::es) X.env=(false,eval e X.env) :: starEach es X.env:=by rfl):PA X (e::es) (tCons te t):=by
 intro pos pins s σ H Q I h
 rw [hs]
 show wpAny _ _ (spliced ((false,eval e X.env) :: backTo pos (starEach es X.env))) _ _ s
 refine Calls.spliced_cons (thn (ha pins s σ H _ I h) λu s1 ⟨x,H1,I1,r1,q1⟩=>?_)
 exact thn (hr pos pins s1 σ H1 _ I1 q1) λus s2 ⟨xs,H2,I2,r2,q2⟩=>⟨x :: xs,H2,I2,.cons r1 r2,q2⟩
def zva (t:TA):TE:=λσ H Q=>t σ H λxs H1=>xs.length≤sizeLine∧∀ p,H1 p=none->Q (.ref p) (upd H1 p (.tup xs))
def zt7 (t:TA):TE:=λσ H Q=>t σ H λxs H1=>xs.length≤sizeLine∧∀ p,H1 p=none->Q (.ref p) (upd H1 p (.lst xs))
theorem zhw {x1} (h:PA X es t):PE X (.Tuple es x1 pos) (zva t):=by
 intro pins s σ H Q I hq
 refine wpAny_Tuple_spliced (thn (h pos pins s σ H _ I hq) λus s1 ⟨xs,H1,I1,r,z,q⟩=>⟨by rw [←r.length];exact z,?_⟩)
 have hf:H1 s1.heap.objs.size=none:=I1.hok.fresh ↥7
 refine ⟨.ref s1.heap.objs.size,upd H1 s1.heap.objs.size (.tup xs),I1.laid (t':=s1.toks) (λb u e=>Heap.get?_push_of_some _ e) ↥7 ?_,rfl,q _ hf⟩
 exact ⟨z,us,r,⟨_,Heap.get?_push_size _ rfl,rfl,_,rfl⟩⟩
theorem zb8 (h:PA X es t):PE X (.List es pos) (zt7 t):=by
 intro pins s σ H Q I hq
 refine wpAny_List_spliced (thn (h pos pins s σ H _ I hq) λus s1 ⟨xs,H1,I1,r,z,q⟩=>⟨by rw [←r.length];exact z,?_⟩)
 have hf:H1 s1.heap.objs.size=none:=I1.hok.fresh ↥7
 refine ⟨.ref s1.heap.objs.size,upd H1 s1.heap.objs.size (.lst xs),I1.laid (t':=s1.toks) (λb u e=>Heap.get?_push_of_some _ e) ↥7 ?_,rfl,q _ hf⟩
 exact ⟨z,us,0,r,Heap.get?_push_size _ rfl⟩
end
abbrev Sp:=List V->Hp->VK->XK->Prop
abbrev CXT:=List Env->Hp->Shared->XK->Value->Shared->Prop
structure Env0 (P:Program) (w:World) (K:W.Frag) (mg:Str->Option Value) (base:Heap) (A:Around) (outer:List Env) (s:Shared) (H:Hp):Prop where
 frames:A.frames=some outer
 mod:Mod K mg base
 bs:∀ b o,base.get? b=some o->s.heap.get? b=some o∧H b=none
 bsz:base.objs.size≤s.heap.objs.size
 funs:s.heap.FunFrames base outer
 frf:∀ b∈frs outer,H b=none
 hok:HOk P w H s.heap
 bare:AllBare s.gens
def CE (outer:List Env) (P:Program) (w:World) (H:Hp) (s:Shared) (Q:VK) (u:Value) (s':Shared):Prop :=
 ∃ v H',s'.os=s.os∧AllBare s'.gens∧Un (frs outer) [] H H' s.heap s'.heap∧HOk P w H' s'.heap∧zef v u∧Q v H'
def CR (CX:CXT) (outer:List Env) (P:Program) (w:World) (H:Hp) (s:Shared) (Q:VK) (E:XK) (r:Result) (s':Shared):Prop :=
 match r with
 | .ok (.ret u)=>CE outer P w H s Q u s'
 | .ok _=>False
 | .error e=>CX outer H s E e s'
structure FnOk (P:Program) (w:World) (K:W.Frag) (mg:Str->Option Value) (base:Heap) (CX:CXT) (k:Nat) (f:Addr) (fd:FuncData) (ps:List Str) (sp:Sp):Prop where
 len:∀ vs H Q E,sp vs H Q E->vs.length=ps.length
 run:∀ (A:Around) (outer:List Env) (s:Shared) (H:Hp) (args:Args) (us:List Value) (vs:List V) (Q:VK) (E:XK),Room k A->Env0 P w K mg base A outer s H->BindsTo s fd args (ps.zip us)->zct vs us->sp vs H Q E →
  codeAny (model P w) A (.call (.ref f) args) (CR CX outer P w H s Q E) s
theorem FnOk.imp {P:Program} {w:World} {K:W.Frag} {mg:Str->Option Value} {base:Heap} {CX:CXT} {k:Nat} {f:Addr} {fd:FuncData} {ps:List Str} {sp sp':Sp} (F:FnOk P w K mg base CX k f fd ps sp)
  (h:∀ vs H Q E,sp' vs H Q E->sp vs H Q E):FnOk P w K mg base CX k f fd ps sp' :=
 ⟨λvs H Q E q=>F.len vs H Q E (h _ _ _ _ q),λA outer s H args us vs Q E hr he hb hv hs=>F.run A outer s H args us vs Q E hr he hb hv (h _ _ _ _ hs)⟩
theorem Env0.make {P:Program} {w:World} {K:W.Frag} {mg:Str->Option Value} {base:Heap} {A:Around} {outer:List Env} {s:Shared} {H:Hp} (e:Env0 P w K mg base A outer s H) (C:Addr) (us:List Value) (kw:List (Str×Value)) :
  Env0 P w K mg base (A.under (.builtin "type.__call__" ⟨.ref C::us,kw⟩)) outer s H:=⟨by first | exact e.frames | (simpa [Around.under,Code.envs,Code.isFrame,pushEnvs] using e.frames),e.mod,e.bs,e.bsz,e.funs,e.frf,e.hok,e.bare⟩
theorem Env0.in1 {P:Program} {w:World} {K:W.Frag} {mg:Str->Option Value} {base:Heap} {A:Around} {outer:List Env} {s:Shared} {H:Hp} (e:Env0 P w K mg base A outer s H) :
  Env0 P w K mg base A.in1 outer s H:=⟨e.frames,e.mod,e.bs,e.bsz,e.funs,e.frf,e.hok,e.bare⟩
section
variable {X:Cx} {pins:List ↥2} {σ:St} {H:Hp} {s s':Shared}
theorem Inv.env0 (I:Inv X pins σ H s):Env0 X.prog X.w X.K X.mg X.base X.A X.stack s H :=
 ⟨I.ok.frames,I.ok.mod,I.bs,Nat.le_trans I.ok.bsz I.sz,I.stack,I.stkFree,I.hok,I.bare⟩
theorem Inv.after {Q:VK} {u:Value} (I:Inv X pins σ H s) (h:CE X.stack X.prog X.w H s Q u s'):EP X pins σ Q u s':=by
 obtain ⟨v,H',os,bare,un,hok,r,q⟩:=h
 obtain ⟨hh,g,d,t,os'⟩:=s'
 obtain rfl:os'=s.os:=os
 exact ⟨v,H',I.call (h':=hh) (g':=g) (d':=d) (t':=t) (ch:=[]) un hok bare (λb z=>absurd z (by simp)),r,q⟩
end
def tCall (sp:Sp) (dvs:List V) (E:XK) (t:TA):TE:=λσ H Q=>t σ H λvs H1=>sp (vs++dvs) H1 Q E
def zox (C:Addr) (m:Str) (sp:Sp) (dvs:List V) (E:XK) (ta:TE) (t:TA):TE:=λσ H Q=>ta σ H λx H1=>∃ a dx fs,x=.ref a∧H1 a=some (.ins C dx fs)∧fs.lookup m=none ∧
 t σ H1 λvs H2=>sp (x :: (vs++dvs)) H2 Q E
def zpA (C:Addr) (sp:Sp) (dvs:List V) (E:XK) (t:TA):TE:=λσ H Q=>t σ H λvs H1=>∀ x dx,H1 x=none->H1 dx=none->dx≠x →
 sp (.ref x :: (vs++dvs)) (upd (upd H1 dx (.own x)) x (.ins C dx [])) (λv H2=>v=.non∧Q (.ref x) H2) E
def zfA (K:W.Frag) (fd:FuncData) (ps:List Str) (ds:List Value):Prop :=
 ∀ (s:Shared) (us:List Value),K.In s.heap->(us++ds).length=ps.length->BindsTo s fd ⟨us,[]⟩ (ps.zip (us++ds))
theorem zfA.all {K:W.Frag} {fd:FuncData} {ps:List Str} (h:∀ us:List Value,us.length=ps.length->bindArgs fd ⟨us,[]⟩=pure (ps.zip us)):zfA K fd ps []:=λs us _ hl=>by
 rw [List.append_nil] at hl ⊢
 exact .of_eq (h us hl)
def zgj (CX:CXT) (X:Cx) (E:XK):Prop:=∀ (pins:List ↥2) (σ:St) (H:Hp) (s:Shared) (e:Value) (s':Shared),Inv X pins σ H s->CX X.stack H s E e s'->X.xe e s'
section
variable {X:Cx} {CX:CXT} {k:Nat} {f C:Addr} {fd:FuncData} {ps:List Str} {sp:Sp} {dvs:List V} {ds:List Value} {E:XK} {x m:Str} {p pos apos:Pos} {e o:Expr} {es:List Expr} {ta:TE} {t:TA}
theorem zot {pins:List ↥2} {σ:St} {H:Hp} {s:Shared} {Q:VK} {us:List Value} {vs:List V} (F:FnOk X.prog X.w X.K X.mg X.base CX k f fd ps sp) (hr:Room k X.A) (hb:zfA X.K fd ps ds) (hd:zct dvs ds) (hx:zgj CX X E)
  (I:Inv X pins σ H s) (r:zct vs us) (h:sp (vs++dvs) H Q E):wpAny ⇑3 X.A (call (.ref f) us) (EP X pins σ Q) X.xe s:=by
 have r2:zct (vs++dvs) (us++ds):=r.append hd
 have hl:(us++ds).length=ps.length:=by rw [← r2.length];exact F.len _ _ _ _ h
 refine wpAny_call (codeAny_mono (F.run X.A X.stack s H ⟨us,[]⟩ (us++ds) (vs++dvs) Q E hr I.env0 (hb s us I.kIn hl) r2 h) λr s' hq=>?_)
 cases r with
 | error e=>exact hx pins σ H s e s' I hq
 | ok fl =>
  cases fl with
  | ret u=>exact I.after hq
  | next=>exact False.elim hq
  | brk=>exact False.elim hq
  | cont=>exact False.elim hq
theorem zqV (F:FnOk X.prog X.w X.K X.mg X.base CX k f fd ps sp) (hr:Room k X.A) (hg:Gl X x) (hm:X.mg x=some (.ref f)) (hk:W.keepIn X.K (.ref f)=true) (hb:zfA X.K fd ps ds) (hd:zct dvs ds) (hx:zgj CX X E)
  (ha:PA X (e::es) t) (hdb:(x==("__debug__" :Str))=false:=by decide) (he:starEach (e::es) X.env=(false,eval e X.env) :: starEach es X.env:=by rfl) (hpl:(↑64).any (·.1)=false:=by rfl) :
  PE X (.Call (.Name x p) (e::es) [] pos) (tCall sp dvs E t):=by
 intro pins s σ H Q I h
 refine wpAny_Call_Name_kw (zlh I hg hm ?_ hdb)
 refine W.callWith_K (h₀:=X.base) I.ok.mod.kin hk (thn (ha pos pins s σ H _ I h) λus s1 ⟨vs,H1,I1,r,q⟩=>⟨I1.kIn,?_⟩) he hpl
 exact zot F hr hb hd hx I1 r q
theorem zq3 {pl:Sem Bool} (he:PE X o ta) (c:Cls X.K C) (hm:Meth X.K C m f) (F:FnOk X.prog X.w X.K X.mg X.base CX k f fd ps sp) (hr:Room k X.A) (hb:zfA X.K fd ps ds) (hd:zct dvs ds) (hx:zgj CX X E) (ha:PA X (e::es) t)
  (hst:starEach (e::es) X.env=(false,eval e X.env) :: starEach es X.env:=by rfl) (hpl:(↑64).any (·.1)=false:=by rfl)
  (ht:eval (.Call (.Attribute o m apos) (e::es) [] pos) X.env=(do
   let ov ← eval o X.env
   standAt apos.atName
   let (f,first) ← holding [ov] (getMethod ov m pl)
   callWith pos f first (backTo pos (starEach (e::es) X.env)) (backToKw pos (keywordEach [] X.env))):=by rfl) :
  PE X (.Call (.Attribute o m apos) (e::es) [] pos) (zox C m sp dvs E ta t):=by
 intro pins s σ H Q I h
 refine W.methodCall_KW (pl:=pl) (thn (he pins s σ H _ I h) λu s1 ⟨x,H1,I1,rx,a,dx,fs,ex,ea,l,q⟩=> ?_) ht
 subst ex
 obtain rfl:u=Value.ref a:=rx
 refine zg5 I1 ea c hm l ?_
 refine W.callWith_K (first:=[.ref a]) (h₀:=X.base) I.ok.mod.kin hm.kp (thn (ha pos pins s1 σ H1 _ I1 q) λus s2 ⟨vs,H2,I2,r,q2⟩=>⟨I2.kIn,?_⟩) hst hpl
 exact zot (us:=.ref a :: us) (vs:=.ref a :: vs) F hr hb hd hx I2 (.cons rfl r) q2
theorem zpu {pl:Sem Bool} (he:PE X o ta) (c:Cls X.K C) (hm:Meth X.K C m f) (F:FnOk X.prog X.w X.K X.mg X.base CX k f fd ps sp) (hr:Room k X.A) (hb:zfA X.K fd ps ds) (hd:zct dvs ds) (hx:zgj CX X E)
  (ht:eval (.Call (.Attribute o m apos) [] [] pos) X.env=(do
   let ov ← eval o X.env
   standAt apos.atName
   let (f,first) ← holding [ov] (getMethod ov m pl)
   callWith pos f first (backTo pos (starEach [] X.env)) (backToKw pos (keywordEach [] X.env))):=by rfl) :
  PE X (.Call (.Attribute o m apos) [] [] pos) (zox C m sp dvs E ta tNil):=by
 intro pins s σ H Q I h
 refine W.methodCall_KW (pl:=pl) (thn (he pins s σ H _ I h) λu s1 ⟨x,H1,I1,rx,a,dx,fs,ex,ea,l,q⟩=> ?_) ht
 subst ex
 obtain rfl:u=Value.ref a:=rx
 refine zg5 I1 ea c hm l ?_
 exact W.callWith_K0 (first:=[.ref a]) I1.kIn hm.kp (zot (us:=[.ref a]) (vs:=[.ref a]) F hr hb hd hx I1 (.cons rfl .nil) q)
structure Mk (K:W.Frag) (C f:Addr):Prop where
 makes:W.makesIn K C=true
 init:W.findIn K (.ref C) "__init__"=some (some (.ref f))
 fn:W.isFn K (.ref f)=true
 kp:W.keepIn K (.ref C)=true
theorem zoQ {pins:List ↥2} {σ:St} {H:Hp} {s:Shared} {Q:VK} {us:List Value} {vs:List V} (M:Mk X.K C f) (F:FnOk X.prog X.w X.K X.mg X.base CX k f fd ps sp) (hr:Room (k+1) X.A) (hb:zfA X.K fd ps ds) (hd:zct dvs ds)
  (hx:zgj CX X E) (I:Inv X pins σ H s) (r:zct vs us)
  (h:∀ x dx,H x=none->H dx=none->dx≠x->sp (.ref x :: (vs++dvs)) (upd (upd H dx (.own x)) x (.ins C dx [])) (λv H2=>v=.non∧Q (.ref x) H2) E) :
  wpAny ⇑3 X.A (call (.ref C) us) (EP X pins σ Q) X.xe s:=by
 have hq:=h ↑21 s.heap.objs.size (I.hok.fresh (Nat.le_succ _)) (I.hok.fresh ↥7) (Nat.ne_of_lt (Nat.lt_succ_self _))
 have I2:=Inv.made (C:=C) I
 have r2:zct (V.ref ↑21 :: (vs++dvs)) (Value.ref ↑21 :: (us++ds)):=.cons rfl (r.append hd)
 have hl:(Value.ref ↑21 :: us++ds).length=ps.length:=by
  have e:=r2.length
  rw [F.len _ _ _ _ hq] at e
  exact e.symm
 refine wpAny_call (zpj (f:=f) I.kIn M.makes M.init (beq_iff_eq.mp M.fn) (codeAny_mono (F.run _ X.stack _ _ ⟨Value.ref ↑21 :: us,[]⟩ (Value.ref ↑21 :: (us++ds)) _ _ E (hr.make C us [])
  (I2.env0.make C us []) (hb _ (Value.ref ↑21 :: us) I2.kIn hl) r2 hq) λr s' hq'=>?_))
 cases r with
 | error e=>exact hx pins σ _ _ e s' I2 hq'
 | ok fl =>
  cases fl with
  | ret u =>
   obtain ⟨v,H',I3,rv,ev,q3⟩:=I2.after hq'
   subst ev
   exact ⟨rv,⟨V.ref ↑21,H',I3,rfl,q3⟩⟩
  | next=>exact False.elim hq'
  | brk=>exact False.elim hq'
  | cont=>exact False.elim hq'
theorem zfI (M:Mk X.K C f) (F:FnOk X.prog X.w X.K X.mg X.base CX k f fd ps sp) (hr:Room (k+1) X.A) (hg:Gl X x) (hm:X.mg x=some (.ref C)) (hb:zfA X.K fd ps ds) (hd:zct dvs ds) (hx:zgj CX X E)
  (ha:PA X (e::es) t) (hdb:(x==("__debug__" :Str))=false:=by decide) (he:starEach (e::es) X.env=(false,eval e X.env) :: starEach es X.env:=by rfl) (hpl:(↑64).any (·.1)=false:=by rfl) :
  PE X (.Call (.Name x p) (e::es) [] pos) (zpA C sp dvs E t):=by
 intro pins s σ H Q I h
 refine wpAny_Call_Name_kw (zlh I hg hm ?_ hdb)
 refine W.callWith_K (h₀:=X.base) I.ok.mod.kin M.kp (thn (ha pos pins s σ H _ I h) λus s1 ⟨vs,H1,I1,r,q⟩=>⟨I1.kIn,?_⟩) he hpl
 exact zoQ M F hr hb hd hx I1 r q
end
section
variable {X:Cx} {CX:CXT} {k:Nat} {f C:Addr} {fd:FuncData} {ps ks:List Str} {sp:Sp} {E:XK} {x m:Str} {p pos apos kpos:Pos} {e o:Expr} {es:List Expr} {kws:List Keyword} {te ta:TE} {t tk:TA} {nm:Option Str}
structure KBinds (K:W.Frag) (fd:FuncData) (ps ks:List Str) (g:List Value->List Value->List Value) (gV:List V->List V->List V):Prop where
 to:∀ (s:Shared) (us ws:List Value),K.In s.heap->(g us ws).length=ps.length->BindsTo s fd ⟨us,ks.zip ws⟩ (ps.zip (g us ws))
 rel:∀ {vs:List V} {us:List Value} {zs:List V} {ws:List Value},zct vs us->zct zs ws->zct (gV vs zs) (g us ws)
variable {g:List Value->List Value->List Value} {gV:List V->List V->List V}
end
structure FnScope (N P:List Str) (sc:Scope):Prop where
 kind:sc.kind=.function
 co:sc.isCoroutine=false
 gen:sc.isGenerator=false
 nd:N.Nodup
 pre:N.take P.length=P
 par:∀ x∈P,sc.names.lookup x=some .local∨sc.names.lookup x=some .cell
 nofree:∀ y∈sc.names,y.2≠.free
theorem zj9 {kindOf:Str->Option NameKind} {x:Str}:∀ {binds:List (Str×Value)} {m:Str->Option Value},(∀ v,(x,v) ∉ binds)->bindL kindOf binds m x=m x
 | [],_,_=>rfl
 | (n,v) :: r,m,h=>by
  unfold bindL
  rw [zj9 λw hw=>h w (List.mem_cons_of_mem _ hw)]
  split
  ·have:x≠n:=by rintro rfl;exact h v List.mem_cons_self
   simp [this]
  ·rfl
theorem zkp {kindOf:Str->Option NameKind} {x:Str}:∀ {binds:List (Str×Value)} {m:Str->Option Value},(∀ v,(x,v) ∉ binds)->bindC kindOf binds m x=m x
 | [],_,_=>rfl
 | (n,v) :: r,m,h=>by
  unfold bindC
  rw [zkp λw hw=>h w (List.mem_cons_of_mem _ hw)]
  split
  ·rfl
  ·have:x≠n:=by rintro rfl;exact h v List.mem_cons_self
   simp [this]
theorem zka {kindOf:Str->Option NameKind} {x:Str} {v:Value}:∀ {P:List Str} {vs:List Value} {i:Nat} {m:Str->Option Value},P.Nodup->P[i]?=some x->vs[i]?=some v->kindOf x=some .local →
  bindL kindOf (P.zip vs) m x=some v
 | [],_,_,_,_,h,_,_=>by simp at h
 | _ :: _,[],_,_,_,_,h,_=>by simp at h
 | p :: P,w :: vs,0,m,nd,h1,h2,hk=>by
  simp at h1 h2;subst h1;subst h2
  show bindL kindOf ((p,w)::P.zip vs) m p=_
  unfold bindL
  rw [zj9 λv hv=>((List.nodup_cons.mp nd)).1 (List.of_mem_zip hv).1,if_pos hk]
  simp
 | p :: P,w :: vs,i+1,m,nd,h1,h2,hk=>by
  show bindL kindOf ((p,w)::P.zip vs) m x=_
  unfold bindL
  exact zka (i:=i) ((List.nodup_cons.mp nd)).2 (by simpa using h1) (by simpa using h2) hk
theorem zku {kindOf:Str->Option NameKind} {x:Str} {v:Value}:∀ {P:List Str} {vs:List Value} {i:Nat} {m:Str->Option Value},P.Nodup->P[i]?=some x->vs[i]?=some v->kindOf x≠some .local →
  bindC kindOf (P.zip vs) m x=some v
 | [],_,_,_,_,h,_,_=>by simp at h
 | _ :: _,[],_,_,_,_,h,_=>by simp at h
 | p :: P,w :: vs,0,m,nd,h1,h2,hk=>by
  simp at h1 h2;subst h1;subst h2
  show bindC kindOf ((p,w)::P.zip vs) m p=_
  unfold bindC
  rw [zkp λv hv=>((List.nodup_cons.mp nd)).1 (List.of_mem_zip hv).1,if_neg hk]
  simp
 | p :: P,w :: vs,i+1,m,nd,h1,h2,hk=>by
  show bindC kindOf ((p,w)::P.zip vs) m x=_
  unfold bindC
  exact zku (i:=i) ((List.nodup_cons.mp nd)).2 (by simpa using h1) (by simpa using h2) hk
def start (N:List Str) (vs:List V):St:=vs.map some++List.replicate (N.length-vs.length) none
def zmY (CX:CXT) (P:Program) (w:World) (K:W.Frag) (mg:Str->Option Value) (base:Heap) (N:List Str) (qual:Str) (scope:Scope) (f:Addr) (cd:Value) (A:Around) (outer:List Env) (s:Shared) (H:Hp) (E:XK):Cx where
 prog:=P
 w:=w
 K:=K
 mg:=mg
 base:=base
 A:=A.deeper (envOfC qual scope s.heap.objs.size f cd)
 N:=N
 s₀:=s
 H₀:=H
 env:=envOfC qual scope s.heap.objs.size f cd
 outer:=outer
 stack:=envOfC qual scope s.heap.objs.size f cd :: outer
 ex:=[]
 calm:=true
 fn:=λ_=>true
 pn:=[]
 xe:=λe s'=>wpAny (model P w) (A.deeper (envOfC qual scope s.heap.objs.size f cd)) (leaving (envOfC qual scope s.heap.objs.size f cd) e) (λ_ s''=>CX outer H s E e s'') (λe' s''=>CX outer H s E e' s'') s'
theorem zlO {sc:Scope} {n:Nat} {x:Str} (h:sc.names.lookup x=some .cell):∃ c,(cellsFrom n sc.names []).lookup x=some c:=by
 have q:=W.cellsFrom_some sc.names n [] (.inl h)
 exact Option.isSome_iff_exists.mp q
theorem zm5 {CX:CXT} {P:Program} {w:World} {K:W.Frag} {mg:Str->Option Value} {base:Heap} {N ps:List Str} {qual:Str} {scope:Scope} {f:Addr} {cd:Value} {A:Around} {outer:List Env} {s s1:Shared} {H:Hp} {E:XK} {us:List Value} {vs:List V}
  (S:FnScope N ps scope) (hd:A.handled=none) (e0:Env0 P w K mg base A outer s H) (hl:vs.length=ps.length) (r:zct vs us)
  (x:InCallC s s.heap.objs.size (bindL ((envOfC qual scope s.heap.objs.size f cd)).kindOf (ps.zip us) λ_=>none) (cellsFrom ↑21 scope.names []) (bindC ((envOfC qual scope s.heap.objs.size f cd)).kindOf (ps.zip us) λ_=>none) s1) :
  Inv (zmY CX P w K mg base N qual scope f cd A outer s H E) [] (start N vs) H s1:=by
 have hpl:ps.length≤N.length:=by have:=congrArg List.length S.pre;rw [List.length_take] at this;omega
 obtain ⟨h1,tk,rfl,hk⟩:=x.done
 have noA:∀ b:Addr,b ∉ ((zmY CX P w K mg base N qual scope f cd A outer s H E)).ex:=λb z=>absurd (show b∈([]:List Addr) from z) (by simp)
 refine ⟨⟨e0.mod,S.kind,rfl,rfl,Nat.le_refl _,λy z c h1 h2=>?_,λy hy=>?_,λy c _ h=>?_,λ_=>hd,Around.frames_deeper e0.frames,.inr ⟨rfl,rfl⟩,λb z=>absurd z (noA b),e0.bs,e0.bsz,λb _ _=>noA b,λb z=>absurd z (noA b),e0.funs,e0.frf⟩,
  rfl,e0.bare,Un.kept hk,⟨_,x.toInCall.ns,λi y v h1 h2 h3=>?_⟩,λy c h=>⟨_,x.cell y c h⟩,e0.hok.fresh ↥7,λy c h=>?_,λp hp=>absurd (show p∈([]:List ↥2) from hp) (by simp),e0.hok.kept hk,?_⟩
 ·exact name_of_addr x.apart (PySem.mem_of_lookup h1) (PySem.mem_of_lookup h2)
 ·have hy:scope.names.lookup y=some .cell∨scope.names.lookup y=some .free:=hy
  rcases hy with hy | hy
  ·exact zlO hy
  ·exact absurd rfl (S.nofree _ (PySem.mem_of_lookup hy))
 ·exact Nat.le_of_lt (x.above y c (PySem.mem_of_lookup h))
 ·have hi:i<vs.length:=by
   unfold start at h2
   by_cases hi:i<vs.length
   ·exact hi
   ·rw [List.getElem?_append_right (by simpa using hi)] at h2
    rw [List.getElem?_replicate] at h2
    split at h2<;>cases h2
  have ha:vs[i]?=some v:=by
   unfold start at h2
   rw [List.getElem?_append_left (by simpa using hi),List.getElem?_map] at h2
   cases e:vs[i]? with
   | none=>rw [e] at h2;cases h2
   | some a=>rw [e] at h2;cases h2;rfl
  obtain ⟨u,hu,rv⟩:=r.get ha
  have hp:ps[i]?=some y:=by
   rw [← S.pre,List.getElem?_take_of_lt ↑0];exact h1
  have ndP:ps.Nodup:=by rw [← S.pre];exact S.nd.sublist (List.take_sublist _ _)
  refine ⟨u,rv,?_⟩
  rcases S.par y (List.mem_of_getElem? hp) with k | k
  ·exact .inl ⟨k,zka ndP hp hu k⟩
  ·obtain ⟨c,e⟩:=zlO (n:=s.heap.objs.size+1) k
   refine .inr ⟨.inl k,c,e,?_⟩
   have q:=x.cell y c e
   rw [zku ndP hp hu (by show scope.names.lookup y≠_;rw [k];decide)] at q
   exact q
 ·exact e0.hok.fresh (Nat.le_of_lt (x.above y c (PySem.mem_of_lookup h)))
 ·unfold start
  show _=N.length
  rw [List.length_append,List.length_map,List.length_replicate]
  omega
theorem zun {CX:CXT} {P:Program} {w:World} {K:W.Frag} {mg:Str->Option Value} {base:Heap} {k:Nat} {f:Addr} {name qual:Str} {params:Arguments} {body:List Stmt} {scope:Scope} {dV kV doc pm cdv ct oc:Value} {an od:Option Addr}
  {osl:Array (Option Value)} {N ps:List Str} {sp:Sp} (lk:K.lookup f=some ⟨oc,od,.func (W.fnOf name qual params body scope dV kV doc pm an cdv ct),osl⟩) (hcd:W.codeIn K cdv qual=true) (S:FnScope N ps scope)
  (len:∀ vs H Q E,sp vs H Q E->vs.length=ps.length)
  (hbody:∀ (A:Around) (outer:List Env) (s:Shared) (H:Hp) (vs:List V) (Q:VK) (E:XK),Room k (A.deeper (envOfC qual scope s.heap.objs.size f cdv))->sp vs H Q E →
   ∃ t,PSs (zmY CX P w K mg base N qual scope f cdv A outer s H E) body t∧t { nx:=λ_ H'=>Q .non H',rt:=Q } (start N vs) H) :
  FnOk P w K mg base CX (k+1) f (W.fnOf name qual params body scope dV kV doc pm an cdv ct) ps sp:=by
 refine ⟨len,λA outer s H args us vs Q E hr e0 hb r hsp=>?_⟩
 have hl:=len _ _ _ _ hsp
 have KX:K.In s.heap:=e0.mod.kin.keeps λb o e=>(e0.bs b o e).1
 have lim:s.heap.NoLimit:=e0.mod.nolimit.keeps λb o e=>(e0.bs b o e).1
 have hkind:∀ y∈ps.zip us,scope.names.lookup y.1=some .local∨(scope.names.lookup y.1=some .cell∧((cellsFrom ↑21 scope.names []).lookup y.1).isSome=true):=λ⟨n,v⟩ hy=>by
  rcases S.par n (List.of_mem_zip hy).1 with q | q
  ·exact .inl q
  ·exact .inr ⟨q,W.cellsFrom_some _ _ _ (.inl q)⟩
 refine codeAny_call_function hr.depth (KX _ _ lk) rfl S.co S.gen rfl (W.codeRec_of KX hcd) (hb _ _ _ _ ?_)
 refine wpAny_newFunctionEnv_cells S.kind hkind λenv he s1 x=>?_
 subst he
 refine ⟨lim.keeps x.toInCall.keep,codeAny_func ?_⟩
 obtain ⟨t,ht,hq⟩:=hbody A outer s H vs Q E (hr.deeper _) hsp
 have I:Inv (zmY CX P w K mg base N qual scope f cdv A outer s H E) [] (start N vs) H s1:=zm5 S hr.hd e0 hl r x
 refine wpAny_mono (ht [] s1 (start N vs) H _ I hq) (λfl s' hs=>?_) λe s' hs=>hs
 have fin:∀ {σ':St} {H':Hp} {v:V} {u:Value},Inv (zmY CX P w K mg base N qual scope f cdv A outer s H E) [] σ' H' s'->zef v u->Q v H'->CE outer P w H s Q u s' :=
  λ{σ' H' v u} J rv q=>⟨v,H',J.os,J.bare,J.base,J.hok,rv,q⟩
 cases fl with
 | ret u =>
  obtain ⟨v,σ',H',J,rv,q⟩:=hs
  exact fin J rv q
 | next =>
  obtain ⟨σ',H',J,q⟩:=hs
  exact fin (v:=V.non) (u:=Value.none) J rfl q
 | brk =>
  obtain ⟨_,_,_,q⟩:=hs
  exact False.elim q
 | cont =>
  obtain ⟨_,_,_,q⟩:=hs
  exact False.elim q
end L2
namespace L2
open PySem PySem.Spec PyProof.Rows
section
variable {X:Cx} {x:Str} {p pos:Pos} {e:Expr} {es:List Expr} {t:TA} {id T:String} {r:List V->Hp->VK->Prop}
def tCB (r:List V->Hp->VK->Prop) (t:TA):TE:=λσ H Q=>t σ H λvs H1=>r vs H1 Q
theorem zaK (hc:ziz X (.builtin id) r) (hg:Gl X x) (hm:X.mg x=none) (hv:bootBuiltins x=some (.builtin id)) (ha:PA X (e::es) t) (hn:x≠"__name__":=by decide) (hdb:(x==("__debug__" :Str))=false:=by decide)
  (he:starEach (e::es) X.env=(false,eval e X.env) :: starEach es X.env:=by rfl) (hpl:(↑64).any (·.1)=false:=by rfl):PE X (.Call (.Name x p) (e::es) [] pos) (tCB r t):=by
 intro pins s σ H Q I h
 refine wpAny_Call_Name_kw (zhx I hg hm hv ?_ hn hdb)
 exact PyProof.Rows.callWith_builtin1 (thn (ha pos pins s σ H _ I h) λus s1 ⟨vs,H1,I1,r1,q1⟩=>hc pins s1 σ H1 vs us Q I1 r1 q1) he hpl
theorem zdm (hc:ziz X (.type T) r) (hg:Gl X x) (hm:X.mg x=none) (hv:bootBuiltins x=some (.type T)) (ha:PA X (e::es) t) (hn:x≠"__name__":=by decide) (hdb:(x==("__debug__" :Str))=false:=by decide)
  (he:starEach (e::es) X.env=(false,eval e X.env) :: starEach es X.env:=by rfl) (hpl:(↑64).any (·.1)=false:=by rfl):PE X (.Call (.Name x p) (e::es) [] pos) (tCB r t):=by
 intro pins s σ H Q I h
 refine wpAny_Call_Name_kw (zhx I hg hm hv ?_ hn hdb)
 exact PyProof.Rows.callWith_type1 (thn (ha pos pins s σ H _ I h) λus s1 ⟨vs,H1,I1,r1,q1⟩=>hc pins s1 σ H1 vs us Q I1 r1 q1) he hpl
end
end L2
namespace HT
open PySem PyProof.Rows
section
open PySem.SeqAt
open PySem.AutoSeq1 (wpAny_loadPart')
open PySem.MeetsSeq PySem.MeetsSeq2 PySem.MeetsSeq3
end
section
variable {prog:Program} {w:World} {A:Around} {E:Value->Shared->Prop} {s:Shared}
def sIx (n d:Nat):Option Int->Nat
 | none=>d
 | some v=>if v<0 then (v+(n:Int)).toNat else min v.toNat n
theorem sIx_none (n d:Nat):sIx n d none=d:=rfl
theorem sIx_nat (n d k:Nat):sIx n d (some (k:Int))=min k n:=by
 show (if (k:Int)<0 then ((k:Int)+(n:Int)).toNat else min (k:Int).toNat n)=min k n
 rw [if_neg ↑0,Int.toNat_natCast]
end
end HT
namespace L2
open PySem PySem.Spec PyProof.Rows
abbrev TO:=St->Hp->(Option Int->Hp->Prop)->Prop
def PO (X:Cx) (e:Option Expr) (t:TO):Prop :=
 ∀ (pins:List ↥2) (s:Shared) (σ:St) (H:Hp) (Q:Option Int->Hp->Prop),Inv X pins σ H s->t σ H Q →
  wpAny ⇑3 X.A (evalPart e X.env) (λu s'=>∃ o H',Inv X pins σ H' s'∧IsPart u o∧Q o H') X.xe s
def znv:TO:=λ_ H Q=>Q none H
def zsx (t:TE):TO:=λσ H Q=>t σ H λx H1=>∃ i,x=.int i∧Q (some i) H1
section
variable {X:Cx} {e:Expr} {te:TE} {lo hi:Option Expr} {tl th:TO} {pos p2:Pos}
theorem ze1:PO X none znv:=by
 intro pins s σ H Q I h
 rw [evalPart_none]
 exact wpAny_pure ⟨none,H,I,.none,h⟩
theorem zdh (h:PE X e te):PO X (some e) (zsx te):=by
 intro pins s σ H Q I hw
 rw [evalPart_some]
 refine thn (h pins s σ H _ I hw) λu s1 ⟨x,H1,I1,r1,q1⟩=>?_
 obtain ⟨i,rfl,q⟩:=q1
 obtain ⟨t,rfl⟩:=r1
 exact ⟨some i,H1,I1,.int i t,q⟩
def SlR (X:Cx) (r:V->Option Int->Option Int->Hp->VK->Prop):Prop :=
 ∀ (pins:List ↥2) (s:Shared) (σ:St) (H:Hp) (x:V) (v vl vu:Value) (lo hi:Option Int) (sl:Addr) (Q:VK),Inv X pins σ H s->zef x v->s.heap.IsSliceOf sl vl vu .none->IsPart vl lo->IsPart vu hi->r x lo hi H Q →
  ∃ T id,typeLookup (.type T) "__getitem__"=pure (some (.builtin id))∧s.TypeIs v T∧wpAny ⇑3 X.A (getItem v (.ref sl)) (EP X pins σ Q) X.xe s
def tSl (r:V->Option Int->Option Int->Hp->VK->Prop) (te:TE) (tl th:TO):TE:=λσ H Q=>te σ H λx H1=>tl σ H1 λl H2=>th σ H2 λu H3=>r x l u H3 Q
theorem zdc {r:V->Option Int->Option Int->Hp->VK->Prop} (hr:SlR X r) (he:PE X e te) (hl:PO X lo tl) (hu:PO X hi th):PE X (.Subscript e (.Slice lo hi none p2) pos) (tSl r te tl th):=by
 intro pins s σ H Q I h
 refine Subscript_ (thn (he pins s σ H _ I h) λv s1 ⟨x,H1,I1,r1,q1⟩=> ?_)
 refine wpAny_Slice (thn (hl pins s1 σ H1 _ I1 q1) λvl s2 ⟨l,H2,I2,pl,q2⟩=>thn (hu pins s2 σ H2 _ I2 q2) λvu s3 ⟨u,H3,I3,pu,q3⟩=>?_)
 rw [evalPart_none]
 refine wpAny_pure ?_
 have I4:Inv X pins σ H3 { s3 with heap:=s3.heap.push { cls:=.type "slice",data:=.fields #[vl,vu,.none] } }:=I3.kept (t':=s3.toks) λb ob q=>Heap.get?_push_of_some _ q
 obtain ⟨T,id,hT,ht,hg⟩:=hr pins { s3 with heap:=s3.heap.push { cls:=.type "slice",data:=.fields #[vl,vu,.none] } } σ H3 x v vl vu l u s3.heap.objs.size Q I4 r1 (Heap.IsSliceOf.new ..) pl pu q3
 show wpAny ⇑3 X.A (subscriptTail e (.Slice lo hi none p2) v (.ref s3.heap.objs.size)) (EP X pins σ Q) X.xe { s3 with heap:=s3.heap.push { cls:=.type "slice",data:=.fields #[vl,vu,.none] } }
 exact tail_any (ops:=[.ref s3.heap.objs.size,v]) ht hT hg (by with_unfolding_all rfl)
def zs6 (xs:List V) (lo hi:Option Int):List V:=(xs.drop (HT.sIx xs.length 0 lo)).take (HT.sIx xs.length xs.length hi-HT.sIx xs.length 0 lo)
theorem zll (xs:List V) (lo hi:Option Int):(zs6 xs lo hi).length≤xs.length:=by
 unfold zs6
 rw [List.length_take,List.length_drop]
 omega
end
end L2
namespace L2
open PySem PySem.Spec PyProof.Rows
def ixN (n:Nat) (i:Int):Option Nat:=if 0≤i then (if i<n then some i.toNat else none) else if -(n:Int)≤i then some (i+n).toNat else none
def atI {α:Type} (xs:List α) (i:Int):Option α:=(ixN xs.length i).bind λj=>xs[j]?
theorem zmP {n:Nat} {i:Int} {j:Nat} (h:ixN n i=some j):seqIndex? i n=some j∧j<n∧-(n:Int)≤i∧i<n:=by
 unfold ixN at h
 by_cases h0:0≤i
 ·rw [if_pos h0] at h
  by_cases h1:i<n
  ·rw [if_pos h1] at h
   have e:i.toNat=j:=Option.some.inj h
   exact ⟨by rw [seqIndex_of h0 h1,e],by omega,by omega,h1⟩
  ·rw [if_neg h1] at h;cases h
 ·rw [if_neg h0] at h
  by_cases h1:-(n:Int)≤i
  ·rw [if_pos h1] at h
   have e:(i+n).toNat=j:=Option.some.inj h
   exact ⟨by rw [seqIndex_neg ↑0 h1,e],by omega,h1,by omega⟩
  ·rw [if_neg h1] at h;cases h
theorem zmS {α:Type} {xs:List α} {i:Int} {v:α} (h:atI xs i=some v):∃ j,seqIndex? i xs.length=some j∧xs[j]?=some v∧j<xs.length∧-(xs.length:Int)≤i∧i<xs.length:=by
 unfold atI at h
 cases e:ixN xs.length i with
 | none=>rw [e] at h;cases h
 | some j =>
  rw [e] at h
  obtain ⟨h1,h2,h3,h4⟩:=zmP e
  exact ⟨j,h1,h,h2,h3,h4⟩
def zqH (b:Expr):Prop:=∀ o i,subscripted b false o i=operate [o,i] (getItem o i)
def IxR (X:Cx) (r:R2):Prop :=
 ∀ (value slice:Expr) (pins:List ↥2) (s:Shared) (σ:St) (H:Hp) (x y:V) (v u:Value) (Q:VK),Inv X pins σ H s->zef x v->zef y u->r x y H Q →
  subscripted slice false v u=operate [v,u] (getItem v u)->wpAny ⇑3 X.A (subscriptTail value slice v u) (EP X pins σ Q) X.xe s
def MtR (X:Cx) (id:String) (r:V->List V->Hp->VK->Prop):Prop :=
 ∀ (pins:List ↥2) (s:Shared) (σ:St) (H:Hp) (x:V) (xs:List V) (v:Value) (us:List Value) (Q:VK),Inv X pins σ H s->zef x v->zct xs us->r x xs H Q →
  wpAny ⇑3 X.A (call (.builtin id) (v :: us)) (EP X pins σ Q) X.xe s
section
variable {X:Cx} {a b:Expr} {ta tb:TE} {pos:Pos}
theorem za1 {r:R2} (hr:IxR X r) (ha:PE X a ta) (hb:PE X b tb) (hs:zqH b):PE X (.Subscript a b pos) (tOp r ta tb):=by
 intro pins s σ H Q I h
 exact Subscript_ (zuc ha hb I h λv u s2 x y H2 I2 rx ry q=>hr a b pins s2 σ H2 x y v u Q I2 rx ry q (hs _ _))
def zrI (K:W.Frag):R2:=λx y H Q=>∃ p xs i v,x=.ref p∧y=.int i∧SqL K H p xs∧atI xs i=some v∧Q v H
def ztX (K:W.Frag):R2:=λx y H Q=>∃ p xs i v,x=.ref p∧y=.int i∧SqT K H p xs∧atI xs i=some v∧Q v H
theorem zrl:IxR X (zrI X.K):=by
 intro value slice pins s σ H x y v u Q I rx ry h hs
 obtain ⟨p,xs,i,z,rfl,rfl,hq,he,q⟩:=h
 cases rx
 obtain ⟨t,rfl⟩:=ry
 obtain ⟨its,r,pl,hz⟩:=I.list hq
 obtain ⟨j,h1,h2,h3,h4,h5⟩:=zmS he
 obtain ⟨w,ew,rw'⟩:=r.get h2
 have hl:=r.length
 have hn:=zlK
 have fin:EP X pins σ Q w s:=⟨z,H,I,rw',q⟩
 by_cases h0:0≤i
 ·have hj:i.toNat=j:=by
   rw [seqIndex_of h0 h5] at h1
   exact Option.some.inj h1
  exact item_listR pl.isList h0 ↑0 (by rw [hj];simpa using ew) fin hs
 ·have hj:(i+(its.toArray.size:Int)).toNat=j:=by
   rw [seqIndex_neg ↑0 h4] at h1
   rw [List.size_toArray,← hl]
   exact Option.some.inj h1
  exact subscriptTail_builtinR (x:=w) pl.isList.typeIs slot_list_getitem.lookup
   (wpAny_getItem_list_neg (Q:=λr s'=>r=w∧EP X pins σ Q r s') pl.isList ↑0 (by rw [List.size_toArray]<;>omega) ↑0 (by rw [hj];simpa using ew) ⟨rfl,fin⟩) hs
theorem zsD:IxR X (ztX X.K):=by
 intro value slice pins s σ H x y v u Q I rx ry h hs
 obtain ⟨p,xs,i,z,rfl,rfl,hq,he,q⟩:=h
 cases rx
 obtain ⟨t,rfl⟩:=ry
 obtain ⟨its,r,pl,hz⟩:=I.tuple hq
 obtain ⟨j,h1,h2,h3,h4,h5⟩:=zmS he
 obtain ⟨w,ew,rw'⟩:=r.get h2
 have hl:=r.length
 have hn:=zlK
 have fin:EP X pins σ Q w s:=⟨z,H,I,rw',q⟩
 exact subscriptTail_builtinR (x:=w) pl.typeIs slot_tuple_getitem.lookup
  (getItem_tuple (j:=j) (Q:=λr s'=>r=w∧EP X pins σ Q r s') pl ↑0 ↑0 (by rw [List.size_toArray,← hl];exact h1) (by simpa using ew) ⟨rfl,fin⟩) hs
theorem zmz (its:List Value) (n j:Nat) (u:Value):Obj.mapSeq (·.setIfInBounds j u) { cls:=.type "list",data:=.seq its.toArray n }={ cls:=.type "list",data:=.seq (its.set j u).toArray n }:=by
 simp [Obj.mapSeq]
theorem Inv.lst {pins:List ↥2} {σ:St} {H:Hp} {s:Shared} {p:Addr} {xs:List V} (I:Inv X pins σ H s) (h:H p=some (.lst xs)) :
  ∃ (its:List Value) (n:Nat),zct xs its∧s.heap.get? p=some { cls:=.type "list",data:=.seq its.toArray n }∧xs.length≤sizeLine:=by
 obtain ⟨z,its,n,r,e⟩:=I.hok p _ h
 exact ⟨its,n,r,e,z⟩
theorem Inv.lstUpd {pins:List ↥2} {σ:St} {H:Hp} {s:Shared} {p:Addr} {xs ys:List V} {its its':List Value} {n n':Nat} {f:Obj->Obj} (I:Inv X pins σ H s) (h:H p=some (.lst xs))
  (ho:s.heap.get? p=some { cls:=.type "list",data:=.seq its.toArray n }) (hf:f { cls:=.type "list",data:=.seq its.toArray n }={ cls:=.type "list",data:=.seq its'.toArray n' }) (r:zct ys its') (hz:ys.length≤sizeLine) (t:Nat) :
  Inv X pins σ (upd H p (.lst ys)) { s with heap:=s.heap.update p f,toks:=t }:=by
 have e:(s.heap.update p f).get? p=some { cls:=.type "list",data:=.seq its'.toArray n' }:=by
  rw [Heap.get?_update_self f ho (by rw [hf]<;>rfl),hf]
 refine I.write (x:=p) (e:=p) (by rw [h];trivial) (.inl rfl) (λb u hb q=>(Heap.get?_update_other _ _ (Ne.symm hb)).trans q) ⟨_,e⟩ ?_
 exact ⟨hz,its',n',r,e⟩
def znn:V->V->V->Hp->(Hp->Prop)->Prop:=λo i v H Q=>∃ p xs k j,o=.ref p∧i=.int k∧H p=some (.lst xs)∧ixN xs.length k=some j∧Q (upd H p (.lst (xs.set j v)))
theorem zf5:zve X znn:=by
 intro pins s σ H o i v ov iv u Q I ro ri rv h
 obtain ⟨p,xs,k,j,rfl,rfl,hp,hj,q⟩:=h
 cases ro
 obtain ⟨t,rfl⟩:=ri
 obtain ⟨its,n,r,ho,hz⟩:=I.lst hp
 obtain ⟨h1,h2,h3,h4⟩:=zmP hj
 have hl:=r.length
 have hn:=zlK
 have I':Inv X pins σ (upd H p (.lst (xs.set j v))) { s with heap:=s.heap.update p (Obj.mapSeq (·.setIfInBounds j u)) } :=
  I.lstUpd hp ho (zmz its n j u) (r.set rv j) (by rw [List.length_set];exact hz) s.toks
 by_cases h0:0≤k
 ·have hk:k.toNat=j:=by
   rw [seqIndex_of h0 h4] at h1
   exact Option.some.inj h1
  exact W.ki_setAt ho h0 ↑0 (by rw [List.size_toArray,← hl];exact h4) (by rw [hk];exact ⟨_,I',q⟩)
 ·have hk:(k+(its.toArray.size:Int)).toNat=j:=by
   rw [seqIndex_neg ↑0 h3] at h1
   rw [List.size_toArray,← hl]
   exact Option.some.inj h1
  exact W.ki_setBack ho ↑0 (by rw [List.size_toArray,← hl];exact h3) ↑0 (by rw [hk];exact ⟨_,I',q⟩)
theorem zkv (lo hi:Option Int) (n:Nat):((sliceBounds lo hi none n)).1=((HT.sIx n 0 lo:Nat):Int)∧((sliceBounds lo hi none n)).2.1=((HT.sIx n n hi:Nat):Int)∧((sliceBounds lo hi none n)).2.2=1:=by
 refine ⟨?_,?_,rfl⟩
 ·cases lo with
  | none=>simp [sliceBounds,HT.sIx]
  | some i =>
   simp only [sliceBounds,HT.sIx,Option.getD_none,show (1:Int) > 0 by decide,if_true]
   by_cases h:i<0
   ·simp only [h,if_true]<;>omega
   ·simp only [h,if_false]<;>omega
 ·cases hi with
  | none=>simp [sliceBounds,HT.sIx]
  | some i =>
   simp only [sliceBounds,HT.sIx,Option.getD_none,show (1:Int) > 0 by decide,if_true]
   by_cases h:i<0
   ·simp only [h,if_true]<;>omega
   ·simp only [h,if_false]<;>omega
theorem zjS (its:List Value) (lo hi:Option Int):slicePick its.toArray lo hi none=((its.drop (HT.sIx its.length 0 lo)).take (HT.sIx its.length its.length hi-HT.sIx its.length 0 lo)).toArray:=by
 obtain ⟨h1,h2,h3⟩:=zkv lo hi its.toArray.size
 unfold slicePick
 rw [h1,h2,h3]
 simp only [sliceRange_one,pick_run,List.size_toArray]<;>rfl
def ztE (K:W.Frag):V->Option Int->Option Int->Hp->VK->Prop:=λx lo hi H Q=>∃ a xs,x=.ref a∧SqL K H a xs∧∀ p,H p=none->Q (.ref p) (upd H p (.lst (zs6 xs lo hi)))
theorem zrb:SlR X (ztE X.K):=by
 intro pins s σ H x v vl vu lo hi sl Q I rx hs pl pu h
 obtain ⟨a,xs,rfl,hx,q⟩:=h
 cases rx
 obtain ⟨its,r,ht,hz⟩:=I.list hx
 have hlen:=r.length
 refine ⟨"list",_,slot_list_getitem.lookup,ht.isList.typeIs,?_⟩
 refine wpAny_getItem_list_slice ht.isList hs pl pu .none (by simp) ?_ (by rw [List.size_toArray]<;>omega)
 rw [zjS,← hlen]
 refine ⟨.ref s.heap.objs.size,_,I.laid (t':=s.toks) (o:=.lst (zs6 xs lo hi)) (λb ob q=>Heap.get?_push_of_some _ q) ↥7 ?_,rfl,q _ (I.hok.fresh ↥7)⟩
 exact ⟨Nat.le_trans (zll xs lo hi) hz,_,0,(r.drop (HT.sIx xs.length 0 lo)).take (HT.sIx xs.length xs.length hi-HT.sIx xs.length 0 lo),Heap.get?_push_size _ rfl⟩
def zpf:V->Bool
 | .non=>true
 | .bl _=>true
 | .int _=>true
 | .str _=>true
 | _=>false
def eqV:V->V->Bool
 | .non,.non=>true
 | .bl a,.bl b=>a == b
 | .bl a,.int b=>(if a then 1 else 0) == b
 | .int a,.bl b=>a == (if b then 1 else 0)
 | .int a,.int b=>a == b
 | .str a,.str b=>a == b
 | _,_=>false
theorem zr1 {A:Around} {s:Shared} {y x:V} {u v:Value} (ry:zef y u) (rx:zef x v) (fy:zpf y=true) (fx:zpf x=true):SeqAt.EqAt A s u v (eqV y x):=by
 cases y with
 | non =>
  cases ry
  cases x with
  | non=>cases rx;exact SeqAt.EqAt.same _
  | bl b=>cases rx;exact SeqAt.EqAt.none_bool b
  | int b=>obtain ⟨t,rfl⟩:=rx;exact SeqAt.EqAt.none_int b t
  | str b=>obtain ⟨t,rfl⟩:=rx;exact SeqAt.EqAt.none_str b t
  | _=>exact absurd (show false=true from fx) Bool.false_ne_true
 | bl a =>
  cases ry
  cases x with
  | non=>cases rx;exact SeqAt.EqAt.bool_none a
  | bl b=>cases rx;exact SeqAt.EqAt.bool_bool a b
  | int b=>obtain ⟨t,rfl⟩:=rx;exact SeqAt.EqAt.bool_int a b t
  | str b=>obtain ⟨t,rfl⟩:=rx;exact SeqAt.EqAt.bool_str a b t
  | _=>exact absurd (show false=true from fx) Bool.false_ne_true
 | int a =>
  obtain ⟨t',rfl⟩:=ry
  cases x with
  | non=>cases rx;exact SeqAt.EqAt.int_none a t'
  | bl b=>cases rx;exact SeqAt.EqAt.int_bool a t' b
  | int b=>obtain ⟨t,rfl⟩:=rx;exact SeqAt.EqAt.int_int a t' b t
  | str b=>obtain ⟨t,rfl⟩:=rx;exact SeqAt.EqAt.int_str a t' b t
  | _=>exact absurd (show false=true from fx) Bool.false_ne_true
 | str a =>
  obtain ⟨t',rfl⟩:=ry
  cases x with
  | non=>cases rx;exact SeqAt.EqAt.str_none a t'
  | bl b=>cases rx;exact SeqAt.EqAt.str_bool a t' b
  | int b=>obtain ⟨t,rfl⟩:=rx;exact SeqAt.EqAt.str_int a t' b t
  | str b=>obtain ⟨t,rfl⟩:=rx;exact SeqAt.EqAt.str_str a t' b t
  | _=>exact absurd (show false=true from fx) Bool.false_ne_true
 | _=>exact absurd (show false=true from fy) Bool.false_ne_true
theorem zkt:ziz X (.builtin "len") (λxs H Q=>∃ p ys,xs=[.ref p]∧(SqL X.K H p ys∨SqT X.K H p ys)∧Q (.int ys.length) H):=by
 intro pins s σ H xs us Q I r h
 obtain ⟨p,ys,rfl,hq,q⟩:=h
 obtain ⟨u,rfl,rx⟩:=zmG r
 cases rx
 have hn:=zlK
 rcases hq with hq | hq
 ·obtain ⟨its,r',pl,hz⟩:=I.list hq
  have hlen:=r'.length
  exact Calls.call_len_list pl.isList (by simp only [List.size_toArray]<;>omega) ⟨.int ys.length,H,I.tok _,⟨s.toks+1,by rw [List.size_toArray,hlen]⟩,q⟩
 ·obtain ⟨its,r',pl,hz⟩:=I.tuple hq
  have hlen:=r'.length
  exact len_tuple pl (by simp only [List.size_toArray]<;>omega) ⟨.int ys.length,H,I.tok _,⟨s.toks+1,by rw [List.size_toArray,hlen]⟩,q⟩
theorem zkk:ziz X (.type "list") (λxs H Q=>∃ p ys,xs=[.ref p]∧(SqL X.K H p ys∨SqT X.K H p ys)∧∀ l,H l=none->Q (.ref l) (upd H l (.lst ys))):=by
 intro pins s σ H xs us Q I r h
 obtain ⟨p,ys,rfl,hq,q⟩:=h
 obtain ⟨u,rfl,rx⟩:=zmG r
 cases rx
 have fin:∀ (its:List Value),zct ys its->ys.length≤sizeLine->∀ (h':Heap) (c':Nat),(∀ b o',s.heap.get? b=some o'->h'.get? b=some o') →
   h'.get? s.heap.objs.size=some { cls:=.type "list",dict:=none,data:=.seq its.toArray c',slots:=#[] }->EP X pins σ Q (.ref s.heap.objs.size) { s with heap:=h' }:=λits r' hz h' c' kp e =>
  ⟨.ref s.heap.objs.size,_,I.laid (t':=s.toks) kp ↥7 (show zfv X.prog X.w _ h' _ (.lst ys) from ⟨hz,its,c',r',e⟩),rfl,q _ (I.hok.fresh ↥7)⟩
 rcases hq with hq | hq
 ·obtain ⟨its,r',pl,hz⟩:=I.list hq
  have hlen:=r'.length
  obtain ⟨o,ho,hc,n,hd⟩:=pl.isList
  exact call_list_seq p (.inl rfl) ho hc hd (λh' c' kp e=>fin its r' hz h' c' kp e) (by simp only [List.size_toArray]<;>omega)
 ·obtain ⟨its,r',pl,hz⟩:=I.tuple hq
  have hlen:=r'.length
  obtain ⟨o,ho,hc,n,hd⟩:=pl
  exact call_list_seq p (.inr rfl) ho hc hd (λh' c' kp e=>fin its r' hz h' c' kp e) (by simp only [List.size_toArray]<;>omega)
def tyV (K:W.Frag) (T:String) (x:V) (H:Hp):Prop:=match x with
 | .str _=>T="str"
 | .int _=>T="int"
 | .ref p=>(T="list"∧∃ xs,SqL K H p xs)∨(T="tuple"∧∃ o,K.lookup p=some o∧o.cls=.type "tuple"∧o.dict=none) ∨
   (T="dict"∧((∃ kvs,H p=some (.dK kvs))∨∃ kvs,H p=some (.dT kvs)))∨(T="set"∧∃ S n,H p=some (.set S n))
 | _=>False
theorem ztp {pins:List ↥2} {σ:St} {H:Hp} {s:Shared} {T:String} {x:V} {v:Value} (I:Inv X pins σ H s) (r:zef x v) (ty:tyV X.K T x H) :
  s.TypeIs v T∧∀ a,v=.ref a->∃ ob,s.heap.get? a=some ob∧ob.dict=none:=by
 cases x with
 | str z =>
  obtain ⟨t,rfl⟩:=r
  cases (show T="str" from ty)
  exact ⟨typeIs_str s z t,λ_ e=>nomatch e⟩
 | int i =>
  obtain ⟨t,rfl⟩:=r
  cases (show T="int" from ty)
  exact ⟨typeIs_int s i t,λ_ e=>nomatch e⟩
 | ref p =>
  cases r
  rcases ty with ⟨rfl,xs,hq⟩ | ⟨rfl,o,hk,hc,hd⟩ | ⟨rfl,hk⟩ | ⟨rfl,S,n,hk⟩
  ·obtain ⟨its,_,pl,_⟩:=I.list hq
   refine ⟨pl.isList.typeIs,λa e=>?_⟩
   cases e
   obtain ⟨o,n,e,c,hd,_⟩:=pl
   exact ⟨o,e,hd⟩
  ·refine ⟨⟨o,I.kIn p o hk,hc⟩,λa e=>?_⟩
   cases e
   exact ⟨o,I.kIn _ o hk,hd⟩
  ·have z:∃ o,s.heap.get? p=some o∧o.ExactDict:=by
    rcases hk with ⟨kvs,hk⟩ | ⟨kvs,hk⟩
    ·obtain ⟨_,_,_,_,o,_,_,e,ex,_⟩:=I.hok p _ hk
     exact ⟨o,e,ex⟩
    ·obtain ⟨_,_,_,_,o,_,_,e,ex,_⟩:=I.hok p _ hk
     exact ⟨o,e,ex⟩
   obtain ⟨o,e,ex⟩:=z
   refine ⟨⟨o,e,ex.1⟩,λa e2=>?_⟩
   cases e2
   exact ⟨o,e,ex.2.1⟩
  ·obtain ⟨o,_,_,_,e,ex,_⟩:=I.hok p _ hk
   refine ⟨⟨o,e,ex.1⟩,λa e2=>?_⟩
   cases e2
   exact ⟨o,e,ex.2.1⟩
 | _=>exact False.elim ty
def tBM (K:W.Frag) (T:String) (r:V->List V->Hp->VK->Prop) (to:TE) (t:TA):TE:=λσ H Q=>to σ H λx H1=>tyV K T x H1∧t σ H1 λxs H2=>r x xs H2 Q
variable {o e:Expr} {es:List Expr} {to:TE} {t:TA} {name:Str} {apos cpos:Pos} {T id:String} {r:V->List V->Hp->VK->Prop}
theorem zua (pa:PlainAttrs T) (slot:Slot T name id) (hty:typeOf (.builtin id)=pure (.type "method_descriptor")) (hm:MtR X id r) (ho:PE X o to) (ha:PA X (e::es) t)
  (hbase:attributeBase o name X.env (eval o X.env)=eval o X.env:=by rfl)
  (hfew:((backTo cpos (starEach (e::es) X.env)).all (λx=>!x.1)&&((backToKw cpos (keywordEach [] X.env))).all (λx=>x.1.isSome)
   &&decide (((e::es)).length+([]:List Keyword).length+(if ([]:List Keyword).isEmpty then 0 else 1)<30))=true:=by rfl)
  (hline:(apos.endLine == cpos.line)=true:=by rfl) (hs:starEach (e::es) X.env=(false,eval e X.env) :: starEach es X.env:=by rfl) (hplain:(backTo cpos (starEach es X.env)).any (·.1)=false:=by rfl) :
  PE X (.Call (.Attribute o name apos) (e::es) [] cpos) (tBM X.K T r to t):=by
 intro pins s σ H Q I h
 refine wpAny_Call_method_late hbase hfew hline rfl (thn (ho pins s σ H _ I h) λv s1 ⟨x,H1,I1,r1,ty,q1⟩=>?_)
 obtain ⟨h1,h2⟩:=ztp I1 r1 ty
 refine ⟨T,id,pa,slot,hty,h1,h2,?_⟩
 have hA:=ha cpos pins s1 σ H1 _ I1 q1
 rw [hs] at hA ⊢
 refine Calls.callWith_builtin (by show (false||(backTo cpos (starEach es X.env)).any (·.1))=false;rw [hplain]<;>rfl) (Calls.evalArgs_plain ?_)
 exact thn hA λus s2 ⟨vs,H2,I2,r2,q2⟩=>hm pins s2 σ H2 x vs v us Q I2 r1 r2 q2
end
end L2
namespace L2
open PySem PySem.Spec PyProof.Rows
def MtM (X:Cx) (id:String) (r:V->List V->Hp->VK->Prop):Prop :=
 ∀ (pins:List ↥2) (s:Shared) (σ:St) (H:Hp) (x:V) (xs:List V) (v:Value) (us:List Value) (Q:VK),Inv X pins σ H s->zef x v->zct xs us->r x xs H Q →
  wpAny ⇑3 X.A (call (.builtin id) (v :: us)) (EP X pins σ Q) X.xe s
theorem zct.one:∀ {x:V} {us:List Value},zct [x] us->∃ u,us=[u]∧zef x u
 | _,_,.cons r .nil=>⟨_,rfl,r⟩
theorem zct.zero:∀ {us:List Value},zct [] us->us=[]
 | _,.nil=>rfl
theorem zct.dropLast {xs:List V} {us:List Value} (h:zct xs us):zct xs.dropLast us.dropLast:=by
 induction h with
 | nil=>exact .nil
 | cons r t ih =>
  cases t with
  | nil=>exact .nil
  | cons q t'=>exact .cons r ih
theorem zct.reverse {xs:List V} {us:List Value} (h:zct xs us):zct xs.reverse us.reverse:=by
 induction h with
 | nil=>exact .nil
 | cons r t ih=>rw [List.reverse_cons,List.reverse_cons];exact zct.append ih (.cons r .nil)
theorem zct.rep {xs:List V} {us:List Value} (h:zct xs us):∀ k:Nat,zct (List.replicate k xs).flatten (List.replicate k us).flatten
 | 0=>.nil
 | k+1=>by
  rw [List.replicate_succ,List.replicate_succ,List.flatten_cons,List.flatten_cons]
  exact zct.append h (zct.rep h k)
theorem zjY (its:List Value):∀ (k:Nat) (acc:List Value),
  List.foldl (λx1 x2=>x1++x2) acc.toArray (List.replicate k its.toArray)=(acc++(List.replicate k its).flatten).toArray
 | 0,acc=>by simp
 | k+1,acc=>by
  have e:acc.toArray++its.toArray=(acc++its).toArray:=by simp
  have e2:(acc++its)++(List.replicate k its).flatten=acc++(List.replicate (k+1) its).flatten:=by
   rw [List.replicate_succ,List.flatten_cons,List.append_assoc]
  rw [← e2,← zjY its k (acc++its),← e,List.replicate_succ,List.foldl_cons]
section
variable {X:Cx} {pins:List ↥2} {σ:St} {H:Hp} {s:Shared} {l b:Addr} {xs ys zs:List V}
theorem Inv.lset {its its':List Value} {n:Nat} {f:Array Value->Array Value} {t':Nat} (I:Inv X pins σ H s) (hH:H l=some (.lst xs))
  (e:s.heap.get? l=some { cls:=.type "list",data:=.seq its.toArray n }) (hf:f its.toArray=its'.toArray) (hv:zct ys its') (hz:ys.length≤sizeLine) :
  Inv X pins σ (upd H l (.lst ys)) { s with heap:=s.heap.update l (Obj.mapSeq f),toks:=t' }:=by
 have q:=PySem.IsL.update e f
 rw [hf] at q
 refine I.write (x:=l) (e:=l) (by rw [hH];exact trivial) (.inl rfl) (λb' u hb hu=>(Heap.get?_update_other s.heap (Obj.mapSeq f) (Ne.symm hb)).trans hu) ⟨_,q⟩ ?_
 exact ⟨hz,its',_,hv,q⟩
theorem Inv.lnew {its:List Value} {t':Nat} (I:Inv X pins σ H s) (hv:zct ys its) (hz:ys.length≤sizeLine) :
  Inv X pins σ (upd H s.heap.objs.size (.lst ys)) { s with heap:=s.heap.push { cls:=.type "list",data:=.seq its.toArray },toks:=t' } :=
 I.laid (λ_ _ q=>Heap.get?_push_of_some _ q) ↥7 ⟨hz,its,0,hv,Heap.get?_push_size _ rfl⟩
theorem Inv.fresh (I:Inv X pins σ H s):H s.heap.objs.size=none:=I.hok.fresh ↥7
theorem Inv.lstM (I:Inv X pins σ H s) (hH:H l=some (.lst xs)):xs.length≤sizeLine∧∃ (its:List Value) (n:Nat),zct xs its∧xs.length=its.length∧s.heap.get? l=some { cls:=.type "list",data:=.seq its.toArray n }:=by
 obtain ⟨z,its,n,r,e⟩:=I.hok l _ hH
 exact ⟨z,its,n,r,r.length,e⟩
theorem zlX {n:Nat} (h:n≤sizeLine):Builtin.List.listTooLong n=false:=by
 unfold Builtin.List.listTooLong
 exact decide_eq_false ↑0
end
section
variable {X:Cx}
def zid:V->List V->Hp->VK->Prop:=λx vs H Q=>∃ l xs y,x=.ref l∧vs=[y]∧H l=some (.lst xs)∧xs.length<sizeLine∧Q .non (upd H l (.lst (xs++[y])))
theorem zj4:MtM X "list.append" zid:=by
 intro pins s σ H x vs v us Q I rx rv h
 obtain ⟨l,xs,y,rfl,rfl,hH,hz,q⟩:=h
 cases rx
 obtain ⟨u,rfl,ru⟩:=rv.one
 obtain ⟨z,its,n,r,hl,e⟩:=I.lstM hH
 refine call_meets F.slot_list_append ⟨_,e,rfl⟩ F.entry_list_append (F.args_list_append_2 _ _) (PySem.list_append l its.toArray n u (by rw [List.size_toArray];omega)) ⟨e,?_⟩
 refine ⟨.non,_,I.lset (its':=its++[u]) hH e (by simp) (r.append (.cons ru .nil)) ?_,rfl,q⟩
 rw [List.length_append,List.length_singleton]
 omega
def zrG:V->List V->Hp->VK->Prop:=λx vs H Q=>∃ l b xs zs,x=.ref l∧vs=[.ref b]∧H l=some (.lst xs)∧H b=some (.lst zs)∧xs.length+zs.length≤sizeLine∧Q .non (upd H l (.lst (xs++zs)))
theorem zr5:MtM X "list.extend" zrG:=by
 intro pins s σ H x vs v us Q I rx rv h
 obtain ⟨l,b,xs,zs,rfl,rfl,hH,hB,hz,q⟩:=h
 cases rx
 obtain ⟨u,rfl,ru⟩:=rv.one
 cases ru
 obtain ⟨z,its,n,r,hl,e⟩:=I.lstM hH
 obtain ⟨z2,its2,n2,r2,hl2,e2⟩:=I.lstM hB
 have hsz:its.toArray.size+its2.toArray.size≤sizeLine:=by rw [List.size_toArray,List.size_toArray];omega
 have hlong:¬ (!its.toArray.isEmpty&&Builtin.List.listTooLong (its.toArray.size+its2.toArray.size))=true:=by
  rw [zlX hsz,Bool.and_false]
  exact Bool.false_ne_true
 refine call_meets F.slot_list_extend ⟨_,e,rfl⟩ F.entry_list_extend (F.args_list_extend_2 _ _)
  (AutoSeq1.list_extend_list_list_0 l its.toArray n b its2.toArray n2 hlong (by rw [List.size_toArray];omega) ↑0) ⟨e,e2,?_⟩
 refine ⟨.non,_,I.lset (its':=its++its2) hH e (by simp) (r.append r2) ?_,rfl,q⟩
 rw [List.length_append]
 omega
def zt5:R2:=λx y H Q=>∃ l b xs zs,x=.ref l∧y=.ref b∧H l=some (.lst xs)∧H b=some (.lst zs)∧xs.length+zs.length≤sizeLine∧∀ p,H p=none->Q (.ref p) (upd H p (.lst (xs++zs)))
theorem zeK:OpR X (binaryOp .Add) zt5:=by
 intro pins s σ H x y v u Q I rx ry h
 obtain ⟨l,b,xs,zs,rfl,rfl,hH,hB,hz,q⟩:=h
 cases rx
 cases ry
 obtain ⟨z,its,n,r,hl,e⟩:=I.lstM hH
 obtain ⟨z2,its2,n2,r2,hl2,e2⟩:=I.lstM hB
 refine PySem.P.add_list e e2 ?_ (by rw [List.size_toArray,List.size_toArray];omega)
 have ea:its.toArray++its2.toArray=(its++its2).toArray:=by simp
 rw [ea]
 exact ⟨.ref _,_,I.lnew (t':=s.toks) (r.append r2) (by rw [List.length_append];omega),rfl,q _ I.fresh⟩
def zuJ:R2:=λx y H Q=>∃ l k xs,x=.ref l∧y=.int k∧H l=some (.lst xs)∧-(2^63)≤k∧k<2^63∧xs.length*k.toNat≤sizeLine ∧
 ∀ p,H p=none->Q (.ref p) (upd H p (.lst (List.replicate k.toNat xs).flatten))
theorem zq4 {α:Type} (xs:List α) (k:Nat):(List.replicate k xs).flatten.length=k*xs.length:=by
 induction k with
 | zero=>simp
 | succ k ih=>rw [List.replicate_succ,List.flatten_cons,List.length_append,ih,Nat.succ_mul,Nat.add_comm]
theorem zgT:OpR X (binaryOp .Mult) zuJ:=by
 intro pins s σ H x y v u Q I rx ry h
 obtain ⟨l,k,xs,rfl,rfl,hH,h1,h2,hz,q⟩:=h
 cases rx
 obtain ⟨t,rfl⟩:=ry
 obtain ⟨z,its,n,r,hl,e⟩:=I.lstM hH
 have hlen:its.toArray.size*k.toNat≤sizeLine:=by rw [List.size_toArray,← hl];exact hz
 have hcap:¬ its.toArray.size*k.toNat > (2^63-1)/8:=by
  have:(sizeLine:Nat)≤(2^63-1)/8:=by decide
  omega
 have hfit:¬ (!Builtin.List.listFitsIndex k)=true:=by
  rw [fitsIndex_both h1 h2]
  exact Bool.false_ne_true
 have hlong:¬ Builtin.List.listTooLong (its.toArray.size*k.toNat)=true:=by
  rw [zlX hlen]
  exact Bool.false_ne_true
 have hnew:List.foldl (λx1 x2=>x1++x2) #[] (List.replicate (if its.toArray.isEmpty=true then 0 else k.toNat) its.toArray)=(List.replicate k.toNat its).flatten.toArray:=by
  have f0:∀ m:Nat,List.foldl (λx1 x2=>x1++x2) #[] (List.replicate m its.toArray)=(List.replicate m its).flatten.toArray:=λm=>by
   have:=zjY its m []
   rw [List.nil_append] at this
   exact this
  rw [f0]
  cases its with
  | nil=>simp
  | cons a r'=>rw [if_neg (by simp)]
 refine wpAny_binaryOp_repeat_ref (T:="list") (U:="int") ↑1 ⟨_,e,rfl⟩ (λs'=>typeIs_int s' k t) noFill_list_mul F.fills_int_mul F.slot_int_rmul repeat_list F.slot_int_index.lookup
  (call_meets F.slot_int_rmul (typeIs_int s k t) F.entry_int_rmul (F.args_int_rmul_2 _ _) (int___rmul___int_list k t l its.toArray n)
   ⟨e,rfl,⟨_,e,rfl⟩,call_meets F.slot_list_mul ⟨_,e,rfl⟩ F.entry_list_mul (F.args_list_mul_2 _ _) (AutoListH.list___mul___list_int_3 l its.toArray n k t hfit hcap hlong) ⟨e,?_⟩⟩)
 rw [hnew]
 exact ⟨.ref _,_,I.lnew (t':=s.toks) (r.rep k.toNat) (by rw [zq4,Nat.mul_comm];exact hz),rfl,q _ I.fresh⟩
end
section
variable {prog:Program} {w:World} {A:Around} {E:Value->Shared->Prop} {s:Shared}
end
section
variable {X:Cx}
end
end L2
namespace Att
open PySem PySem.W PySem.Calls PyProof.Rows
theorem zik {P:Params} {h:Heap}:∀ (ns:Ji) (vs:List Value),WellAll P h vs (ns.map WData.int)->IntsAre vs ns:=by
 intro ns
 induction ns with
 | nil =>
  intro vs w
  rw [List.map_nil] at w
  cases w
  exact .nil
 | cons n ns ih =>
  intro vs w
  rw [List.map_cons] at w
  cases w with
  | cons a b =>
   cases a
   exact .cons _ _ (ih _ b)
theorem znu {l:OpenLaw} {n:Nat} (hn:l.most=some n) {P:Params} {h:Heap} {args:List WData} {vals:List Value}
  (hpre:l.row.toRowW.claim.pre args=true) (hwl:WellAll P h vals args) :
  ∃ a vs ns,vals=[Value.ref a]∧args=[WData.list (ns.map WData.int)]∧h.get? a=some { cls:=.type "list",data:=.seq vs.toArray }∧IntsAre vs ns∧ns.length≤n:=by
 have hsh:WShape.hasAll [] args [.list .int]=true:=(pre_splitW hpre).1
 have hc:l.pre.holds [] { args:=args }=true:=(pre_splitW hpre).2
 obtain ⟨d,r,rfl,h1,h2⟩:=hasAllW_cons hsh
 obtain rfl:=hasAllW_nil h2
 obtain ⟨xs,rfl,h3⟩:=hasW_list h1
 obtain ⟨ns,rfl⟩:=items_int h3
 have hlen:ns.length≤n:=by
  unfold OpenLaw.pre at hc
  have h4:(WTm.not (.lt (.lit (.int (n:Int))) (.len (.arg 0)))).holds [] { args:=[.list (ns.map .int)] }=true:=by
   have h4:=(holds_andW hc).1
   rw [hn] at h4
   exact h4
  have h5:=condW_of h4 (w_not (w_lt w_lit (w_len_list (w_arg rfl))))
  rw [List.length_map] at h5
  refine Nat.le_of_not_lt λq=>?_
  have q':(n:Int)<((ns.length:Nat):Int):=by omega
  first
   | (rw [decide_eq_true q'] at h5;exact absurd h5 ↑1)
   | (simp at h5;omega)
 cases hwl with
 | cons w1 w2 =>
  cases w2
  cases w1 with
  | list ho hall=>exact ⟨_,_,ns,rfl,rfl,ho,zik ns _ hall,hlen⟩
theorem zoA (l:OpenLaw) (args:List WData):l.row.toRowW.claim.post args (.bool true) args=true :=
 postW_of (r:=l.row.toRowW) (X:=(true == true))
  (show WShape.has [] (.bool true) .bool=true by first | rfl | decide | simp [WShape.has,WShape.arms,WShape.armsAll])
  (show (WTm.eq .res (.lit (.bool true))).value [] { args:=args,res:=some (.bool true),after:=args }=some (.bool (true == true)) from w_eq_bool (w_res rfl) w_lit) rfl
theorem attach_call {l:OpenLaw} {n:Nat} {q:Program} {loose:List Str} {XP:(Str->Option Value)->Heap->Prop} {YP:World->Heap->Prop} {d:DefRec}
  (hn:l.most=some n) (hdf:d.params.defaults=[])
  (call:∀ (w:World) (s₀ s₁:Shared) (mg mb:Str->Option Value) (fa:Addr) (o:Obj) (pm cd doc:Value) (a:Addr) (vs:List Value) (ns:Ji),
   Ground q loose [] XP w s₀ mg mb s₁.heap->YP w s₁.heap →
   s₁.heap.get? fa=some o->o.data=.func (docDef d.name d.params d.body d.scope pm cd doc)->s₁.heap.CodeRec cd d.name->mg d.name=some (.ref fa) →
   s₁.heap.get? a=some { cls:=.type "list",data:=.seq vs.toArray }->IntsAre vs ns->ns.length≤n->s₁.gens=#[] →
   codeAny (model l.prog w) callerA (.call (.ref fa) ⟨[.ref a],[]⟩) ↑129 s₁) :
  WalkO q loose XP YP l.row.toRowW d [] (λf vs=>PySem.call f vs):=by
 intro w s₀ s₁ mg mb G Y fa o pm cd doc dV kV ho hd hcd hD hmg hg args vals as hpre hlay hrd hwl hlo
 obtain rfl:dV=.none:=Dflts.none hD hdf
 obtain rfl:kV=.none:=Dflts.noKw hD
 obtain ⟨a,vs,ns,rfl,rfl,hobj,hints,hlen⟩:=znu hn hpre hwl
 refine enter_call (codeAny_mono (call w s₀ s₁ mg mb fa o pm cd doc a vs ns G Y ho (fd_plain hd) hcd hmg hobj hints hlen hg) λr s' hq=>?_)
 obtain ⟨rfl,h2,h3,h4⟩:=hq
 exact ⟨.inl ⟨.bool true,.bool true,[],rfl,λ_=>rfl,.bool true,zoA l _,λ_=>⟨List.Pairwise.nil,λ_ hm=>(nomatch hm)⟩⟩,h2,h3,h4⟩
section
variable {prog:Program} {w:World} {A:Around} {E:Value->Shared->Prop} {s:Shared} {K:Frag}
end
end Att
namespace L2
open PySem PySem.Spec PyProof.Rows
theorem zkc:∀ {vs:List Value} {ns:Ji},IntsAre vs ns->zct (ns.map V.int) vs
 | _,_,.nil=>.nil
 | _,_,.cons n t h=>.cons ⟨t,rfl⟩ (zkc h)
def zt0 (H:Hp):Prop:=∀ b,H b=none∨∃ o xs,H b=some (.frz o (.lst xs))
theorem zoU {P:Program} {w:World} {K:W.Frag} {mg mb:Str->Option Value} {CX:CXT} {k:Nat} {fa a:Addr} {fd:FuncData} {x:Str} {sp:Sp} {s₁:Shared} {vs:List Value} {ns:Ji}
  (KX:K.In s₁.heap) (hns:s₁.heap.Ns mainGlobals mg) (hb:s₁.heap.Ns builtinsNs mb) (hbb:∀ x:Str,x≠"__name__"->mb x=bootBuiltins x) (hlim:s₁.heap.NoLimit) (hg:s₁.gens=#[])
  (ha:s₁.heap.get? a=some { cls:=.type "list",data:=.seq vs.toArray }) (hi:IntsAre vs ns) (hl:ns.length≤sizeLine) (hr:Room k callerA)
  (F:∀ base:Heap,K.In base->base.Ns mainGlobals mg->FnOk P w K mg base CX k fa fd [x] sp) (hbind:∀ (s:Shared) (u:Value),BindsTo s fd ⟨[u],[]⟩ [(x,u)])
  (hsp:∀ H:Hp,zt0 H->SqL K H a (ns.map V.int)->sp [.ref a] H (λv _=>v=.bl true) λ_ _ _=>False)
  (hCX:∀ H e s',CX [] H s₁ (λ_ _ _=>False) e s'->False) :
  codeAny (model P w) callerA (.call (.ref fa) ⟨[.ref a],[]⟩) ↑129 s₁:=by
 have rv:=zkc hi
 have lenV:=hi.length
 have core:∀ H:Hp,zt0 H->SqL K H a (ns.map V.int)->HOk P w H s₁.heap->(∀ b,H b≠none->b=a)->(H a≠none->K.lookup a=none) →
   codeAny (model P w) callerA (.call (.ref fa) ⟨[.ref a],[]⟩) ↑129 s₁:=by
  intro H hO hS hok hA hK
  have base_of:∀ {b:Addr} {o:Obj},s₁.heap.get? b=some o->H b=none->((zpl s₁.heap H)).get? b=some o:=λe n=>zpd e n
  have noA:∀ {b:Addr} {o:Obj} {es:Array DictEntry} {ep:Nat},s₁.heap.get? b=some o->o.data=.dict es ep->H b=none:=λ{b o es ep} e d=>by
   cases q:H b with
   | none=>rfl
   | some u =>
    have e':b=a:=hA b (by rw [q];simp)
    subst e'
    rw [ha] at e;cases e
    have d':Data.seq vs.toArray _=Data.dict es ep:=d
    cases d'
  have nsK:∀ {b:Addr} {m:Str->Option Value},s₁.heap.Ns b m->((zpl s₁.heap H)).Ns b m:=λ{b m} ⟨o,es,ep,e,d,r⟩=>⟨o,es,ep,base_of e (noA e d),d,r⟩
  have hKb:K.In (zpl s₁.heap H):=λb o e=>base_of (KX b o e) (by
   cases q:H b with
   | none=>rfl
   | some u =>
    have e':b=a:=hA b (by rw [q];simp)
    subst e'
    rw [hK (by rw [q];simp)] at e;cases e)
  have hM:Mod K mg (zpl s₁.heap H):=⟨hKb,nsK hns,⟨mb,nsK hb,hbb⟩,let ⟨mc,h1,h2⟩:=hlim;⟨mc,nsK h1,h2⟩⟩
  have e0:Env0 P w K mg (zpl s₁.heap H) callerA [] s₁ H:=⟨rfl,hM,λb o e=>zqM e,Nat.le_of_eq (zny _ _),trivial,λb hb=>absurd (show b∈([]:List Addr) from hb) (by simp),hok,.of_eq hg⟩
  refine codeAny_mono ((F _ hKb (nsK hns)).run callerA [] s₁ H ⟨[.ref a],[]⟩ [.ref a] [.ref a] _ _ hr e0 (hbind s₁ (.ref a)) (.cons rfl .nil) (hsp H hO hS)) λr s' h=>?_
  cases r with
  | error e=>exact (hCX H e s' h).elim
  | ok fl =>
   cases fl with
   | next=>exact False.elim h
   | brk=>exact False.elim h
   | cont=>exact False.elim h
   | ret u =>
    obtain ⟨v,H',os,bare,un,hok',r',q⟩:=h
    have q':v=.bl true:=q
    subst q'
    obtain rfl:u=Value.bool true:=r'
    refine ⟨rfl,OldK.of_keep λb o e=>?_,os,bare⟩
    cases q:H b with
    | none=>exact un.keep b o e q (by intro z;exact absurd (show b∈([]:List Addr) from z) (by simp)) (by simp)
    | some u =>
     rcases hO b with z | ⟨ob,xs,z⟩
     ·rw [q] at z;cases z
     ·have z2:=un.frzs b ob _ z
      obtain ⟨e1,_⟩:=hok b _ z
      obtain ⟨e2,_⟩:=hok' b _ z2
      rw [e] at e1;cases e1
      exact e2
 cases hk:K.lookup a with
 | some o =>
  have e:=KX a o hk
  rw [ha] at e
  cases e
  refine core (λ_=>none) (λ_=>.inl rfl) (.inr ⟨_,vs.toArray,_,hk,rfl,rfl,rfl,by rw [List.size_toArray,lenV];exact hl,by simpa using rv⟩) (λb u z=>by have z':(none:Option HO)=some u:=z;cases z') (λb z=>absurd rfl z) λz=>absurd rfl z
 | none =>
  refine core (λb=>if b=a then some (.frz { cls:=.type "list",data:=.seq vs.toArray } (.lst (ns.map V.int))) else none) (λb=>?_) (.inl (.inr ⟨{ cls:=.type "list",data:=.seq vs.toArray },if_pos rfl⟩)) (λb u z=>?_) (λb z=>?_) λ_=>hk
  ·by_cases hb:b=a
   ·exact .inr ⟨_,_,if_pos hb⟩
   ·exact .inl (if_neg hb)
  ·by_cases hb:b=a
   ·have z':=(if_pos hb).symm.trans z
    cases z'
    subst hb
    exact ⟨ha,by rw [List.length_map];exact hl,vs,_,rv,ha⟩
   ·have z':=(if_neg hb).symm.trans z
    cases z'
  ·by_cases hb:b=a
   ·exact hb
   ·exact absurd (if_neg hb) z
end L2
namespace L2
open PySem PySem.Spec PyProof.Rows
theorem zrt {l:W.OpenLaw} {n k:Nat} {q:Program} {loose:List Str} {XP:(Str->Option Value)->Heap->Prop} {YP:World->Heap->Prop} {d:DefRec} {K:Params->W.Frag} {CX:World->CXT} {sp:World->Sp} {x:Str}
  (hn:l.most=some n) (hn2:n≤sizeLine) (hdf:d.params.defaults=[]) (hr:Room k callerA)
  (hY:∀ (w:World) (h:Heap),YP w h->(K w.params).In h)
  (F:∀ (w:World) (mg:Str->Option Value) (fa:Addr) (h:Heap),(K w.params).In h->h.Ns mainGlobals mg->mg d.name=some (.ref fa) →
   ∃ fd:FuncData,(∀ (s:Shared) (u:Value),BindsTo s fd ⟨[u],[]⟩ [(x,u)]) ∧
    ∀ base:Heap,(K w.params).In base->base.Ns mainGlobals mg->FnOk l.prog w (K w.params) mg base (CX w) k fa fd [x] (sp w))
  (hsp:∀ (w:World) (H:Hp) (a:Addr) (ns:Ji),ns.length≤n->zt0 H->SqL (K w.params) H a (ns.map V.int)->sp w [.ref a] H (λv _=>v=.bl true) λ_ _ _=>False)
  (hCX:∀ (w:World) (H:Hp) (s:Shared) (e:Value) (s':Shared),CX w [] H s (λ_ _ _=>False) e s'->False) :
  W.WalkO q loose XP YP l.row.toRowW d [] (λf vs=>PySem.call f vs):=by
 refine Att.attach_call hn hdf λw s₀ s₁ mg mb fa o pm cd doc a vs ns G Y ho hd hcd hmg hobj hints hlen hg=>?_
 have KX:=hY w _ Y
 obtain ⟨fd,hb,hF⟩:=F w mg fa _ KX G.T.g hmg
 exact zoU KX G.T.g G.T.b G.T.builtins G.T.nolimit hg hobj hints (Nat.le_trans hlen hn2) hr hF hb (λH hO hS=>hsp w H a ns hlen hO hS) λH e s'=>hCX w H s₁ e s'
end L2
namespace L2
open PySem PySem.Spec PyProof.Rows
def zfj (s:Stmt) (j:Nat):Stmt:=match s with
 | .ClassDef _ _ _ body _ _ _ _ _ _ _=>body.getD j (.Pass ⟨0,0,0,0⟩)
 | _=>.Pass ⟨0,0,0,0⟩
def zaB (s:Stmt):Arguments:=match s with
 | .FunctionDef _ a _ _ _ _ _ _ _ _=>a
 | _=>{ posonlyargs:=[],args:=[],vararg:=none,kwonlyargs:=[],kw_defaults:=[],kwarg:=none,defaults:=[] }
def zaw (s:Stmt):List Stmt:=match s with
 | .FunctionDef _ _ b _ _ _ _ _ _ _=>b
 | _=>[]
def zaf (s:Stmt):Scope:=match s with
 | .FunctionDef _ _ _ _ _ _ sc _ _ _=>sc
 | _=>{ kind:=.function,names:=[],isGenerator:=false,isCoroutine:=false }
abbrev E0:XK:=λ_ _ _=>False
structure Fun (K:W.Frag) (x qual:Str) (st:Stmt) (f:Addr) (fd:FuncData):Prop where
 ex:∃ (oc:Value) (od:Option Addr) (kV doc pm:Value) (an:Option Addr) (cdv ct:Value) (osl:Array (Option Value)),
  fd=W.fnOf x qual (zaB st) (zaw st) (zaf st) .none kV doc pm an cdv ct∧K.lookup f=some ⟨oc,od,.func fd,osl⟩∧W.codeIn K cdv qual=true
 kp:W.keepIn K (.ref f)=true
section
variable {P:Program} {w:World} {K:W.Frag} {mg:Str->Option Value} {base:Heap}
theorem Fun.binds {x qual:Str} {st:Stmt} {f:Addr} {fd:FuncData} {ps:List Str} (F:Fun K x qual st f fd)
  (h:∀ (kV doc pm:Value) (an:Option Addr) (cdv ct:Value) (us:List Value),us.length=ps.length->bindArgs (W.fnOf x qual (zaB st) (zaw st) (zaf st) .none kV doc pm an cdv ct) ⟨us,[]⟩=pure (ps.zip us)):zfA K fd ps []:=by
 obtain ⟨oc,od,kV,doc,pm,an,cdv,ct,osl,rfl,lk,hcd⟩:=F.ex
 exact .all (h kV doc pm an cdv ct)
theorem zaX {x qual:Str} {st:Stmt} {f:Addr} {oc:Value} {od an:Option Addr} {osl:Array (Option Value)} {kV doc pm cdv ct:Value} (l:K.lookup f=some ⟨oc,od,.func (W.fnOf x qual (zaB st) (zaw st) (zaf st) .none kV doc pm an cdv ct),osl⟩)
  (c:W.codeIn K cdv qual=true) (k:W.keepIn K (.ref f)=true):Fun K x qual st f (W.fnOf x qual (zaB st) (zaw st) (zaf st) .none kV doc pm an cdv ct):=⟨⟨oc,od,kV,doc,pm,an,cdv,ct,osl,rfl,l,c⟩,k⟩
end
section
variable {X:Cx}
theorem pv (i:Nat) {x:Str} {pos:Pos} (hN:X.N[i]?=some x:=by rfl) (hv:Vis X.env.scope x:=by first | exact Or.inl rfl | exact Or.inr ⇑0 | exact Or.inr ↥6) (hd:(x==("__debug__" :Str))=false:=by decide)
  (hcd:(x == ("__classdict__":Str))=false:=by decide):PE X (.Name x pos) (zjF i):=zts hN hv hd hcd
end
def Same (H H':Hp):Prop:=∀ b o,H b=some o->H' b=some o
theorem Same.refl (H:Hp):Same H H:=λ_ _ h=>h
theorem Same.trans {H H1 H2:Hp} (a:Same H H1) (b:Same H1 H2):Same H H2:=λc o h=>b c o (a c o h)
theorem Same.free {H H':Hp} (e:Same H H') {l:Addr} (h:H' l=Option.none):H l=Option.none:=by
 cases q:H l with
 | none=>rfl
 | some o =>
  rw [e l o q] at h
  cases h
theorem Same.seq {K:W.Frag} {H H':Hp} {a:Addr} {xs:List V} (e:Same H H') (h:SqL K H a xs):SqL K H' a xs:=by
 rcases h with (h | ⟨o,h⟩) | h
 ·exact .inl (.inl (e _ _ h))
 ·exact .inl (.inr ⟨o,e _ _ h⟩)
 ·exact .inr h
end L2
namespace L2
open PySem PySem.Spec PyProof.Rows
theorem zha {env:Env}:∀ (names:List (Str×NameKind)) (acc:List (Str×Addr)),(∀ x∈names,x.2=.free->∃ c,env.cells.lookup x.1=some c) →
  ∃ cl:List (Str×Addr),(forIn (m:=Sem) names acc λ(x:Str×NameKind) (cs:List (Str×Addr))=>if (x.2 == NameKind.free)=true then (do let a ← cellOf env x.1;pure (ForInStep.yield ((x.1,a) :: cs))) else pure (ForInStep.yield cs))=pure cl ∧
   (∀ x c,cl.lookup x=some c->acc.lookup x=some c∨env.cells.lookup x=some c)∧(∀ x,((x,NameKind.free)∈names∨∃ c,acc.lookup x=some c)->∃ c,cl.lookup x=some c)
 | [],acc,_=>⟨acc,rfl,λ_ _ h=>.inl h,λx h=>by
   rcases h with h | h
   ·cases h
   ·exact h⟩
 | (n,k) :: r,acc,h=>by
  have hr:∀ x∈r,x.2=.free->∃ c,env.cells.lookup x.1=some c:=λx hx=>h x (List.mem_cons_of_mem _ hx)
  by_cases hk:k=.free
  ·subst hk
   obtain ⟨c,hc⟩:=h (n,.free) List.mem_cons_self rfl
   obtain ⟨cl,e,h1,h2⟩:=zha r ((n,c) :: acc) hr
   refine ⟨cl,?_,λx c' q=>?_,λx q=>?_⟩
   ·rw [List.forIn_cons]
    have e1:cellOf env n=pure c:=by unfold cellOf;rw [hc]
    simp only [beq_self_eq_true,if_true,e1]
    exact e
   ·rcases h1 x c' q with z | z
    ·rw [List.lookup_cons] at z
     cases hx:x == n with
     | true =>
      rw [hx] at z
      have z':some c=some c':=z
      cases z'
      have:x=n:=eq_of_beq hx
      subst this
      exact .inr hc
     | false=>rw [hx] at z;exact .inl z
    ·exact .inr z
   ·refine h2 x ?_
    by_cases hx:x=n
    ·subst hx
     exact .inr ⟨c,by rw [List.lookup_cons];simp⟩
    ·rcases q with q | ⟨c',q⟩
     ·rcases List.mem_cons.mp q with q | q
      ·exact absurd (congrArg Prod.fst q) hx
      ·exact .inl q
     ·refine .inr ⟨c',?_⟩
      have:(x == n)=false:=by simpa using hx
      rw [List.lookup_cons,this]
      exact q
  ·obtain ⟨cl,e,h1,h2⟩:=zha r acc hr
   refine ⟨cl,?_,h1,λx q=>h2 x ?_⟩
   ·rw [List.forIn_cons]
    have e1:(k == NameKind.free)=false:=by simpa using hk
    simp only [e1,Bool.false_eq_true,if_false]
    exact e
   ·rcases q with q | q
    ·rcases List.mem_cons.mp q with q | q
     ·exact absurd (congrArg Prod.snd q).symm hk
     ·exact .inl q
    ·exact .inr q
theorem zmA {scope:Scope} {env:Env} (h:∀ x∈scope.names,x.2=.free->∃ c,env.cells.lookup x.1=some c) :
  ∃ cl,closureFor scope env=pure cl∧(∀ x c,cl.lookup x=some c->env.cells.lookup x=some c)∧∀ x,(x,NameKind.free)∈scope.names->∃ c,cl.lookup x=some c:=by
 obtain ⟨cl,e,h1,h2⟩:=zha (env:=env) scope.names [] h
 refine ⟨cl,?_,λx c q=>(h1 x c q).elim (λz=>by cases z) id,λx q=>h2 x (.inl q)⟩
 have e2:closureFor scope env=(forIn (m:=Sem) scope.names [] λ(x:Str×NameKind) (cs:List (Str×Addr))=>if (x.2 == NameKind.free)=true then (do let a ← cellOf env x.1;pure (ForInStep.yield ((x.1,a) :: cs))) else pure (ForInStep.yield cs)) >>= λr=>pure r:=by
  unfold closureFor
  rfl
 rw [e2,e]
 rfl
theorem zea {env:Env}:∀ {names:List (Str×NameKind)} {x:Str} {k:NameKind},
  (names.map λ(n,k)=>if (k==NameKind.free && env.scope.kind== .function && env.kindOf n==some .cell) then (n,NameKind.cell) else (n,k)).lookup x=some k →
   names.lookup x=some k∨(k=.cell∧names.lookup x=some .free)
 | [],_,_,h=>by simp at h
 | (n,k') :: r,x,k,h=>by
  have ih:=@zea env r x k
  have h:List.lookup x ((if (k'==NameKind.free && env.scope.kind== .function && env.kindOf n==some .cell)=true then (n,NameKind.cell) else (n,k')) :: _)=some k:=h
  cases hx:x == n with
  | true =>
   by_cases hc:(k'==NameKind.free && env.scope.kind== .function && env.kindOf n==some .cell)=true
   ·rw [if_pos hc] at h
    simp only [List.lookup_cons,hx] at h
    cases h
    simp only [Bool.and_eq_true,beq_iff_eq] at hc
    refine .inr ⟨rfl,?_⟩
    simp [List.lookup_cons,hx,hc.1.1]
   ·rw [if_neg hc] at h
    simp only [List.lookup_cons,hx] at h
    cases h
    exact .inl (by simp [List.lookup_cons,hx])
  | false =>
   have h':(r.map λ(n,k)=>if (k==NameKind.free && env.scope.kind== .function && env.kindOf n==some .cell) then (n,NameKind.cell) else (n,k)).lookup x=some k:=by
    by_cases hc:(k'==NameKind.free && env.scope.kind== .function && env.kindOf n==some .cell)=true
    ·rw [if_pos hc] at h
     simpa only [List.lookup_cons,hx] using h
    ·rw [if_neg hc] at h
     simpa only [List.lookup_cons,hx] using h
   simpa only [List.lookup_cons,hx] using ih h'
theorem zfU:∀ (names:List (Str×NameKind)) (a:Nat) (acc:List (Str×Addr)) (x:Str) (c:Addr),((cellsFrom a names acc)).lookup x=some c->((x,NameKind.cell)∈names∧a≤c)∨((x,NameKind.cell) ∉ names∧acc.lookup x=some c)
 | [],_,_,_,_,h=>.inr ⟨by simp,h⟩
 | (n,k) :: r,a,acc,x,c,h=>by
  unfold cellsFrom at h
  by_cases hk:k=.cell
  ·subst hk
   rw [if_pos (by rfl)] at h
   rcases zfU r (a+1) ((n,a) :: acc) x c h with ⟨h1,h2⟩ | ⟨h1,h2⟩
   ·exact .inl ⟨List.mem_cons_of_mem _ h1,Nat.le_of_succ_le h2⟩
   ·rw [List.lookup_cons] at h2
    cases hx:x == n with
    | true =>
     rw [hx] at h2
     have h2:some a=some c:=h2
     cases h2
     rw [eq_of_beq hx]
     exact .inl ⟨List.mem_cons_self,Nat.le_refl _⟩
    | false =>
     rw [hx] at h2
     refine .inr ⟨λz=>?_,h2⟩
     rcases List.mem_cons.mp z with z | z
     ·have:=congrArg Prod.fst z
      have:x=n:=this
      rw [this] at hx
      simp at hx
     ·exact h1 z
  ·have hk':(k == NameKind.cell)=false:=by simpa using hk
   rw [hk',if_neg (by simp)] at h
   rcases zfU r a acc x c h with ⟨h1,h2⟩ | ⟨h1,h2⟩
   ·exact .inl ⟨List.mem_cons_of_mem _ h1,h2⟩
   ·refine .inr ⟨λz=>?_,h2⟩
    rcases List.mem_cons.mp z with z | z
    ·exact hk (congrArg Prod.snd z).symm
    ·exact h1 z
theorem ziF:∀ (names:List (Str×NameKind)) (a:Nat) (acc:List (Str×Addr)) (x:Str),((x,NameKind.cell)∈names∨∃ c,acc.lookup x=some c)->∃ c,((cellsFrom a names acc)).lookup x=some c
 | [],_,_,_,h=>by
  rcases h with h | h
  ·simp at h
  ·exact h
 | (n,k) :: r,a,acc,x,h=>by
  unfold cellsFrom
  by_cases hk:k=.cell
  ·subst hk
   rw [if_pos (by rfl)]
   refine ziF r (a+1) ((n,a) :: acc) x ?_
   by_cases hx:x=n
   ·subst hx
    exact .inr ⟨a,by rw [List.lookup_cons];simp⟩
   ·rcases h with h | ⟨c,h⟩
    ·rcases List.mem_cons.mp h with h | h
     ·exact absurd (congrArg Prod.fst h) hx
     ·exact .inl h
    ·refine .inr ⟨c,?_⟩
     have:(x == n)=false:=by simpa using hx
     rw [List.lookup_cons,this]
     exact h
  ·have hk':(k == NameKind.cell)=false:=by simpa using hk
   rw [hk',if_neg (by simp)]
   refine ziF r a acc x ?_
   rcases h with h | h
   ·rcases List.mem_cons.mp h with h | h
    ·exact absurd (congrArg Prod.snd h).symm hk
    ·exact .inl h
   ·exact .inr h
theorem zgI:∀ (names:List (Str×NameKind)) (a:Nat) (acc acc':List (Str×Addr)) (x:Str),((x,NameKind.cell)∈names∨acc.lookup x=acc'.lookup x)->((cellsFrom a names acc)).lookup x=(cellsFrom a names acc').lookup x
 | [],_,_,_,_,h=>by
  rcases h with h | h
  ·simp at h
  ·exact h
 | (n,k) :: r,a,acc,acc',x,h=>by
  unfold cellsFrom
  by_cases hk:k=.cell
  ·subst hk
   rw [if_pos (by rfl),if_pos (by rfl)]
   refine zgI r (a+1) _ _ x ?_
   by_cases hx:x=n
   ·subst hx
    exact .inr (by rw [List.lookup_cons,List.lookup_cons];simp)
   ·have hx':(x == n)=false:=by simpa using hx
    rcases h with h | h
    ·rcases List.mem_cons.mp h with h | h
     ·exact absurd (congrArg Prod.fst h) hx
     ·exact .inl h
    ·exact .inr (by rw [List.lookup_cons,List.lookup_cons,hx'];exact h)
  ·have hk':(k == NameKind.cell)=false:=by simpa using hk
   rw [hk',if_neg (by simp),if_neg (by simp)]
   refine zgI r a _ _ x ?_
   rcases h with h | h
   ·rcases List.mem_cons.mp h with h | h
    ·exact absurd (congrArg Prod.snd h).symm hk
    ·exact .inl h
   ·exact .inr h
theorem zfe {M:Model} {A:Around} {E:Value->Shared->Prop} {s:Shared} {scope:Scope} {globals:Addr} {closure:List (Str×Addr)} {qual:Str} {func:Option Addr} {code:Value} {outer:Env} {builtins:Addr} {Q:Env->Shared->Prop}
  (hQ:∀ h',h'.Ns s.heap.objs.size (λ_=>none)->(∀ b o,s.heap.get? b=some o->h'.get? b=some o) →
   (∀ x c,(x,NameKind.cell)∈scope.names->((cellsFrom ↑21 scope.names closure)).lookup x=some c->h'.IsCell c none) →
   Q (newEnv scope s.heap.objs.size globals (cellsFrom ↑21 scope.names closure) qual func code (some outer) builtins) { s with heap:=h' }) :
  wpAny M A (newFunctionEnv scope globals closure [] qual func code (some outer) builtins) Q E s:=by
 simp only [newFunctionEnv,Option.isSome_some,if_true]
 refine wpAny_bind (wpAny_alloc ?_)
 refine wpAny_bind (wpAny_layCells _ (λname kind cells=>by cases hkc:kind == NameKind.cell<;>simp [hkc]) _ _ _ _ ?_)
 have ok:=cellsFrom_ok scope.names (s.heap.push { cls:=.type "dict",data:=.dict #[] }) ↑21 [] ⟨λ_ _ hm=>(nomatch hm),List.Pairwise.nil⟩ (by rw [Heap.size_push];exact Nat.le_refl _)
 rw [Heap.size_push] at ok
 rw [show ({ s with heap:=s.heap.push { cls:=.type "dict",data:=.dict #[] } }:Shared).heap.objs.size=s.heap.objs.size+1 from Heap.size_push ..]
 simp only [List.forIn_nil]
 refine wpAny_bind (wpAny_pure (wpAny_pure (hQ _ ((Heap.Ns.new s.heap (.type "dict")).keeps (pushCells_keeps _ _)) (λb o e=>pushCells_keeps _ _ b o (Heap.get?_push_of_some _ e)) λx c hx hc=>?_)))
 rw [zgI _ _ closure [] x (.inl hx)] at hc
 exact (ok.empty x c (PySem.mem_of_lookup hc)).1
def zcy (X:Cx) (N':List Str) (scope:Scope) (cl:List (Str×Addr)) (C:Addr) (fp:List Addr) (s:Shared) (H:Hp):Cx where
 prog:=X.prog
 w:=X.w
 K:=X.K
 mg:=X.mg
 base:=X.base
 A:=X.A
 N:=N'
 s₀:=s
 H₀:=H
 env:=compEnvC scope cl C X.env
 outer:=X.stack
 stack:=X.stack
 ex:=fp
 fn:=λx=>scope.names.lookup x == some .cell
 calm:=true
 pn:=X.pn
 xe:=λ_ _=>False
def zin (own:Nat) (fv:List Nat) (σ:St):St:=List.replicate own none++fv.map λi=>(σ[i]?).join
structure BlkScope (X:Cx) (scope:Scope) (own fvn:List Str) (fv:List Nat):Prop where
 cell:∀ y∈scope.names,y.2=.cell->scope.names.lookup y.1=some .cell
 fre:∀ y∈scope.names,y.2=.free->scope.names.lookup y.1=some .free
 kind:scope.kind=.function
 names:∀ y∈scope.names,y.2=.local->scope.names.lookup y.1=some .local
 free:∀ y∈scope.names,y.2=.free->X.env.scope.names.lookup y.1=some .cell∨X.env.scope.names.lookup y.1=some .free
 map:fvn.map some=fv.map λi=>X.N[i]?
 vis:∀ x∈fvn,scope.names.lookup x=some .free
section
variable {X:Cx} {pins:List ↥2} {σ:St} {H:Hp} {s:Shared}
def zpF (X:Cx) (scope:Scope) (cl:List (Str×Addr)) (C:Addr):Prop:=(∀ x c,cl.lookup x=some c->(X.env.cells.lookup x=some c∧scope.names.lookup x≠some .cell)∨(C<c∧scope.names.lookup x=some .cell)) ∧
 (∀ x y c,C<c->cl.lookup x=some c->cl.lookup y=some c->x=y)∧∀ x,((x,NameKind.free)∈scope.names∨(x,NameKind.cell)∈scope.names)->∃ c,cl.lookup x=some c
theorem zsC {scope:Scope} {own fvn:List Str} {fv:List Nat} {cl:List (Str×Addr)} {C:Addr} (B:BlkScope X scope own fvn fv) (h1:∀ x c,cl.lookup x=some c->X.env.cells.lookup x=some c) (h2:∀ x,(x,NameKind.free)∈scope.names->∃ c,cl.lookup x=some c)
  (hlt:∀ x c,X.env.cells.lookup x=some c->c≤C):zpF X scope (cellsFrom (C+1) scope.names cl) C:=by
 refine ⟨λx c e=>?_,λx y c hc e1 e2=>?_,λx hx=>?_⟩
 ·rcases zfU _ _ _ _ _ e with ⟨z1,z2⟩ | ⟨z1,z2⟩
  ·exact .inr ⟨z2,B.cell _ z1 rfl⟩
  ·exact .inl ⟨h1 x c z2,λq=>z1 (PySem.mem_of_lookup q)⟩
 ·have key:∀ x,(cellsFrom (C+1) scope.names cl).lookup x=some c->(x,c)∈cellsFrom (C+1) scope.names []:=λx e=>by
   rcases zfU _ _ _ _ _ e with ⟨z1,z2⟩ | ⟨z1,z2⟩
   ·rw [zgI _ _ cl [] x (.inl z1)] at e
    exact PySem.mem_of_lookup e
   ·exact absurd (hlt x c (h1 x c z2)) (Nat.not_le.mpr hc)
  have ap:∀ (names:List (Str×NameKind)) (a:Nat) (acc:List (Str×Addr)),(∀ e∈acc,e.2<a)->(acc.Pairwise λx y=>x.2≠y.2)->((cellsFrom a names acc)).Pairwise λx y=>x.2≠y.2:=by
   intro names
   induction names with
   | nil=>intro a acc _ h;exact h
   | cons nk r ih =>
    intro a acc h h'
    obtain ⟨n,k⟩:=nk
    unfold cellsFrom
    split
    ·refine ih (a+1) _ (λe he=>?_) (List.pairwise_cons.mpr ⟨λy hy=>Nat.ne_of_gt (h y hy),h'⟩)
     rcases List.mem_cons.mp he with rfl | he
     ·exact Nat.lt_succ_self _
     ·exact Nat.lt_succ_of_lt (h e he)
    ·exact ih a acc h h'
  exact PySem.name_of_addr (ap scope.names (C+1) [] (by simp) .nil) (key x e1) (key y e2)
 ·refine ziF _ _ _ _ ?_
  rcases hx with hx | hx
  ·exact .inr (h2 x hx)
  ·exact .inl hx
theorem zpw {scope:Scope} {own fvn:List Str} {fv:List Nat} {cl:List (Str×Addr)} {C:Addr} {fp:List Addr} (I:Inv X pins σ H s) (B:BlkScope X scope own fvn fv) (hc:X.calm=true)
  (hb:zpF X scope cl C)
  (hC:s.heap.objs.size≤C) (hf:∀ b∈fp,zlz X pins H b) (hl:∀ b∈fp,b<s.heap.objs.size):(↑52).Ok where
 mod:=I.ok.mod
 kind:=B.kind
 glob:=I.ok.glob
 blt:=I.ok.blt
 above:=hC
 inj:=λx y c e1 e2=>by
  have lt:∀ z,X.env.cells.lookup z=some c->c<s.heap.objs.size:=λz e=>by obtain ⟨v,q⟩:=I.cell z c e;exact q.lt
  rcases hb.1 x c e1 with ⟨z1,_⟩ | ⟨z1,_⟩
  ·rcases hb.1 y c e2 with ⟨z2,_⟩ | ⟨z2,_⟩
   ·exact I.ok.inj x y c z1 z2
   ·exact absurd (Nat.lt_of_lt_of_le (lt x z1) hC) (Nat.not_lt.mpr (Nat.le_of_lt z2))
  ·exact hb.2.1 x y c z1 e1 e2
 has:=λx hx=>by
  have hx:(↑120).lookup x=some .cell ∨
   (↑120).lookup x=some .free:=hx
  refine hb.2.2 x ?_
  rcases hx with hx | hx
  ·rcases zea hx with z | ⟨_,z⟩
   ·exact .inr (PySem.mem_of_lookup z)
   ·exact .inl (PySem.mem_of_lookup z)
  ·rcases zea hx with z | ⟨z,_⟩
   ·exact .inl (PySem.mem_of_lookup z)
   ·cases z
 cab:=λx c h e=>by
  have h:(scope.names.lookup x == some NameKind.cell)=true:=h
  rcases hb.1 x c e with ⟨_,z⟩ | ⟨z,_⟩
  ·exact absurd (eq_of_beq h) z
  ·exact Nat.le_trans hC (Nat.le_of_lt z)
 hd:=λ_=>I.ok.hd hc
 frames:=I.ok.frames
 stk:=.inl rfl
 exf:=λb hb'=>⟨Nat.ne_of_lt (Nat.lt_of_lt_of_le (hl b hb') hC),λx c e=>by
  rcases hb.1 x c e with ⟨z,_⟩ | ⟨z,_⟩
  ·exact (hf b hb').2.2.2.2.1 x c z
  ·exact Nat.ne_of_gt (Nat.lt_trans (Nat.lt_of_lt_of_le (hl b hb') hC) z)⟩
 bs:=I.bs
 bsz:=Nat.le_trans I.ok.bsz I.sz
 noex:=λb o e hb=>by
  rcases (hf b hb).2.2.2.1 with z | z
  ·exact I.ok.noex b o e z
  ·exact absurd (Nat.lt_of_lt_of_le (Heap.lt_size ((I.ok.bs b o e)).1) z) (Nat.lt_irrefl _)
 exfs:=λb hb z=>by
  rcases List.mem_cons.mp (I.stkSub b z) with q | q
  ·exact (hf b hb).2.1 q
  ·exact (hf b hb).2.2.1 q
 funs:=I.stack
 frf:=I.stkFree
theorem zqQ {own:List Str} {fvn:List Str} {fv:List Nat} {i:Nat} {x:Str} {v:V} (hm:fvn.map some=fv.map λi=>X.N[i]?) (h1:(own++fvn)[i]?=some x) (h2:((zin own.length fv σ))[i]?=some (some v)) :
  x∈fvn∧∃ j:Nat,X.N[j]?=some x∧σ[j]?=some (some v):=by
 unfold zin at h2
 by_cases hi:i<own.length
 ·rw [List.getElem?_append_left (by simpa using hi),List.getElem?_replicate] at h2
  split at h2<;>cases h2
 ·rw [List.getElem?_append_right (by simpa using hi),List.length_replicate,List.getElem?_map] at h2
  rw [List.getElem?_append_right (by simpa using hi)] at h1
  have q:(fvn.map some)[i-own.length]?=(fv.map λi=>X.N[i]?)[i-own.length]?:=by rw [hm]
  rw [List.getElem?_map,List.getElem?_map,h1] at q
  cases e:fv[i-own.length]? with
  | none=>rw [e] at h2;cases h2
  | some j =>
   rw [e] at h2 q
   have q':X.N[j]?=some x:=(Option.some.inj q).symm
   have h2':(σ[j]?).join=some v:=Option.some.inj h2
   refine ⟨List.mem_of_getElem? h1,j,q',?_⟩
   cases e2:σ[j]? with
   | none=>rw [e2] at h2';cases h2'
   | some o =>
    rw [e2] at h2'
    have:o=some v:=h2'
    rw [this]
theorem zk6 {scope:Scope} {own fvn:List Str} {fv:List Nat} {cl:List (Str×Addr)} {C D:Addr} {fp:List Addr} {h':Heap} {t':Nat} {m:Str->Option Value} (I:Inv X pins σ H s) (B:BlkScope X scope own fvn fv) (hc:X.calm=true)
  (hb:zpF X scope cl C) (hnew:∀ x c,C<c->cl.lookup x=some c->h'.IsCell c none)
  (hf:∀ b∈fp,zlz X pins H b) (hl:∀ b∈fp,b<s.heap.objs.size) (hD:s.heap.objs.size≤D) (hC:s.heap.objs.size≤C) (hDC:D<C)
  (k:∀ b o,s.heap.get? b=some o->h'.get? b=some o) (hn:h'.Ns C m) (ho:h'.get? D=some { cls:=.type "list",data:=.seq #[] 0 }) :
  Inv ↑52 pins (zin own.length fv σ) (upd H D (.lst [])) { s with heap:=h',toks:=t' }:=by
 have hDn:H D=none:=I.hok.fresh hD
 have hCn:H C=none:=I.hok.fresh hC
 have lt:∀ b o,s.heap.get? b=some o->b≠D:=λb o e=>Nat.ne_of_lt (Nat.lt_of_lt_of_le (Heap.lt_size e) hD)
 refine ⟨zpw I B hc hb hC hf hl,rfl,I.bare,Un.laid k hD hDn,⟨m,hn,λi x v e1 e2 e3=>?_⟩,λx c e=>?_,?_,λx c e=>?_,λp hp=>?_,?_,?_⟩
 ·obtain ⟨hx,j,e4,e5⟩:=zqQ B.map e1 e2
  have hfr:=B.vis x hx
  obtain ⟨c,hcl⟩:=hb.2.2 x (.inl (PySem.mem_of_lookup hfr))
  have h1x:X.env.cells.lookup x=some c:=by
   rcases hb.1 x c hcl with ⟨z,_⟩ | ⟨_,z⟩
   ·exact z
   ·rw [hfr] at z;cases z
  obtain ⟨m0,hn0,hl0⟩:=I.loc
  have ok:=B.free _ (PySem.mem_of_lookup hfr) rfl
  have hv:Vis X.env.scope x:=by
   rcases ok with z | z
   ·exact .inr (.inl z)
   ·exact .inr (.inr z)
  obtain ⟨u,r,l⟩:=hl0 j x v e4 e5 hv
  refine ⟨u,r,.inr ⟨?_,c,hcl,?_⟩⟩
  ·rcases e3 with z | z | z
   ·have z':(↑120).lookup x=some .local:=z
    rcases zea z' with y | ⟨y,_⟩
    ·rw [hfr] at y;cases y
    ·cases y
   ·exact .inl z
   ·exact .inr z
  ·rcases l with ⟨k0,_⟩ | ⟨_,c',e6,o,ho',hd⟩
   ·have k0':X.env.scope.names.lookup x=some .local:=k0
    rcases ok with z | z<;>(rw [k0'] at z;cases z)
   ·rw [h1x] at e6
    cases e6
    exact ⟨o,k _ _ ho',hd⟩
 ·rcases hb.1 x c e with ⟨z,_⟩ | ⟨z,_⟩
  ·obtain ⟨v,o,ho',hd⟩:=I.cell x c z
   exact ⟨v,o,k _ _ ho',hd⟩
  ·exact ⟨none,hnew x c z e⟩
 ·show upd H D (.lst []) C=none
  rw [zax (Nat.ne_of_gt hDC)];exact hCn
 ·rcases hb.1 x c e with ⟨z,_⟩ | ⟨z,_⟩
  ·obtain ⟨v,o,ho',hd⟩:=I.cell x c z
   rw [zax (lt _ _ ho')]
   exact I.freeC x c z
  ·rw [zax (Nat.ne_of_gt (Nat.lt_trans hDC z))]
   exact I.hok.fresh (Nat.le_trans hC (Nat.le_of_lt z))
 ·obtain ⟨e,n,ne,nf,d⟩:=I.pin p hp
  refine ⟨k _ _ e,?_,Nat.ne_of_lt (Nat.lt_of_lt_of_le (Heap.lt_size e) hC),λz=>?_,d⟩
  ·rw [zax (lt _ _ e)];exact n
  ·rcases List.mem_cons.mp (I.stkSub _ z) with q | q
   ·exact ne q
   ·exact nf q
 ·exact I.hok.laid k hD ⟨Nat.zero_le _,[],0,.nil,ho⟩
 ·have hm:=congrArg List.length B.map
  rw [List.length_map,List.length_map] at hm
  show ((zin own.length fv σ)).length=(own++fvn).length
  unfold zin
  rw [List.length_append,List.length_append,List.length_replicate,List.length_map,hm]
theorem zoC {scope:Scope} {N':List Str} {cl:List (Str×Addr)} {C:Addr} {fp:List Addr} {σ':St} {H':Hp} {s':Shared} (I:Inv X pins σ H s) (hC:s.heap.objs.size≤C) (hf:∀ b∈fp,zlz X pins H b)
  (J:Inv (zcy X N' scope cl C fp s H) pins σ' H' s'):Inv X pins σ H' s'∧zlz X pins H' C:=by
 have I':Inv X pins σ H' s':=I.call' (ch:=fp) J.os J.base J.hok J.bare λb hb=>⟨(hf b hb).2.2.2.1,(hf b hb).2.1,(hf b hb).2.2.2.2.1,(hf b hb).2.2.2.2.2⟩
 refine ⟨I',J.free,Nat.ne_of_gt (Nat.lt_of_lt_of_le I.lt hC),I.nofs hC,.inr (Nat.le_trans I.sz hC),λx c e z=>?_,λp hp z=>?_⟩
 ·obtain ⟨v,q⟩:=I.cell x c e
  exact absurd (Nat.lt_of_lt_of_le q.lt (by rw [z];exact hC)) (Nat.lt_irrefl _)
 ·exact absurd (Nat.lt_of_lt_of_le (Heap.lt_size (I.pin p hp).1) (by rw [z];exact hC)) (Nat.lt_irrefl _)
end
section
variable {prog:Program} {w:World} {A:Around} {R:Result->Shared->Prop} {s:Shared}
theorem zoz {elt target iter:Expr} {ifs:List Expr} {scope:Scope} {pos:Pos} {it acc:Value} {env:Env} (I:Nat->Shared->Prop)
  (turn:∀ n s,I n s->wpAny (model prog w) A (pyNext it) (λr s₁=>match r with
   | none=>R (.ok .next) s₁
   | some v=>wpAny (model prog w) A (letOwnedTupleGo target it v) (λ_ s₁'=>wpAny (model prog w) A (assign target env v) (λ_ s₂ =>
     wpAny (model prog w) A (forIn ifs true λc r=>if r=true then do let ok ← isTrue c env (eval c env);pure (ForInStep.yield ok) else pure (ForInStep.yield r)) (λok s₃ =>
      if ok=true then wpAny (model prog w) A (eval elt env) (λx s₄ =>
       wpAny (model prog w) A (call (.builtin "list.append") [acc,x]) (λ_ s₅=>∃ m,m<n∧I m s₅) (λ_ _=>False) s₄) (λ_ _=>False) s₃
      else ∃ m,m<n∧I m s₃) (λ_ _=>False) s₂) (λ_ _=>False) s₁') (λ_ _=>False) s₁) (λ_ _=>False) s)
  (n:Nat) (h:I n s) :
  codeAny (model prog w) A (.compLoop (.ListComp elt [⟨target,iter,ifs,0⟩] scope pos) 0 it acc env) R s:=by
 refine codeAny_loop rfl I (λn s hI=>?_) n h
 show wpAny _ A ((compTurn (.ListComp elt [⟨target,iter,ifs,0⟩] scope pos) 0 it acc env).onRaise (λx=>do noteFrame x env;theTreesLotGoes x)) _ _ s
 refine wpAny_noted ?_
 rw [compTurn_list]
 refine wpAny_bind (wpAny_standAt (wpAny_bind (wpAny_mono (turn n s hI) (λr s₁ h₁=>?_) λ_ _ h'=>h'.elim)))
 cases r with
 | none=>exact wpAny_pure h₁
 | some v =>
  refine wpAny_bind (wpAny_mono h₁ (λ_ s₁' h₁'=>?_) λ_ _ h'=>h'.elim)
  refine wpAny_bind (wpAny_mono h₁' (λ_ s₂ h₂=>wpAny_bind (wpAny_mono h₂ (λok s₃ h₃=>?_) λ_ _ h'=>h'.elim)) λ_ _ h'=>h'.elim)
  cases ok with
  | false=>exact wpAny_pure ⟨rfl,h₃⟩
  | true =>
   exact wpAny_bind (wpAny_bind (wpAny_mono h₃ (λx s₄ h₄=>wpAny_bind (wpAny_mono h₄ (λ_ s₅ h₅=>wpAny_pure (wpAny_pure ⟨rfl,h₅⟩)) λ_ _ h'=>h'.elim)) λ_ _ h'=>h'.elim))
end
abbrev TTs:=St->Hp->(Bool->Hp->Prop)->Prop
def PTs (X:Cx) (ifs:List Expr) (t:TTs):Prop :=
 ∀ (pins:List ↥2) (s:Shared) (σ:St) (H:Hp) (Q:Bool->Hp->Prop),Inv X pins σ H s->t σ H Q →
  wpAny ⇑3 X.A (forIn ifs true λc r=>if r=true then do let ok ← isTrue c X.env (eval c X.env);pure (ForInStep.yield ok) else pure (ForInStep.yield r)) (TP X pins σ Q) X.xe s
def zpm:TTs:=λ_ H Q=>Q true H
theorem zbc {X:Cx}:PTs X [] zpm:=λ_ _ _ H _ I h=>wpAny_tests_nil ⟨H,I,h⟩
theorem zkQ {X:Cx} {c:Expr} {t:TT} (h:PT X c t):PTs X [c] t:=λpins s σ H Q I hw=>wpAny_tests_one (h pins s σ H Q I hw)
def zna (own:Nat) (fv:List Nat) (wi:TI) (g:TG) (tt:TTs) (te:TE):TE:=λσ H Q=>wi σ H λJ H1=>∀ D,H1 D=none →
 ∃ W:Nat->Nat->List V->St->Hp->Prop,(∃ m,W 0 m [] (zin own fv σ) (upd H1 D (.lst [])))∧∀ i m ys σb H,W i m ys σb H->H D=some (.lst ys) ∧
  ((J.stop i H∧Q (.ref D) H)∨(J.go i H∧∀ x H',J.yld i H x H'->g x σb H' λσ2 H2=>tt σ2 H2 λok H3=>if ok=true then te σ2 H3 λy H4=>H4 D=some (.lst ys)∧ys.length<sizeLine∧∃ m',m'<m∧W (i+1) m' (ys++[y]) σ2 (upd H4 D (.lst (ys++[y])))
   else ∃ m',m'<m∧W (i+1) m' ys σ2 H3))
section
variable {X:Cx} {tg iter elt:Expr} {ifs:List Expr} {scope:Scope} {pos:Pos} {wi:TI} {g:TG} {tt:TTs} {te:TE} {own fvn:List Str} {fv:List Nat}
theorem zlF {pins:List ↥2} {σ:St} {s:Shared} {Q:VK} {E:Value->Shared->Prop} {cl:List (Str×Addr)} {RR:Value->Addr->Result->Shared->Prop} {itv:Value}
  (hc:X.calm=true) (B:BlkScope X scope own fvn fv) (h1:∀ x c,cl.lookup x=some c->X.env.cells.lookup x=some c) (h2:∀ x,(x,NameKind.free)∈scope.names->∃ c,cl.lookup x=some c)
  (hb:∀ (cl:List (Str×Addr)) (C:Addr) (fp:List Addr) (s:Shared) (H:Hp),PG ↑52 tg g∧PTs ↑52 ifs tt∧PE ↑52 elt te)
  (P:PIE X pins σ tg (λJ H1=>∀ D,H1 D=none →
   ∃ W:Nat->Nat->List V->St->Hp->Prop,(∃ m,W 0 m [] (zin own.length fv σ) (upd H1 D (.lst [])))∧∀ i m ys σb H,W i m ys σb H->H D=some (.lst ys) ∧
    ((J.stop i H∧Q (.ref D) H)∨(J.go i H∧∀ x H',J.yld i H x H'->g x σb H' λσ2 H2=>tt σ2 H2 λok H3=>if ok=true then te σ2 H3 λy H4=>H4 D=some (.lst ys)∧ys.length<sizeLine∧∃ m',m'<m∧W (i+1) m' (ys++[y]) σ2 (upd H4 D (.lst (ys++[y])))
     else ∃ m',m'<m∧W (i+1) m' ys σ2 H3))) itv s)
  (hRR:∀ D C s' H' m,Inv X pins σ H' s'->s'.heap.Ns C m->zlz X pins H' C->Q (.ref D) H'->RR (.ref D) C (.ok .next) s') :
  wpAny ⇑3 X.A (newList []) (λacc s₃=>wpAny ⇑3 X.A (newFunctionEnv scope X.env.globals cl [] X.env.qual none .none (some X.env)) (λcenv s₄ =>
   codeAny ⇑3 X.A (.compStart ↑87 0 itv acc { cenv with scope:=relabel scope X.env }) (RR acc cenv.locals) s₄) E s₃) E s:=by
 obtain ⟨it,fp,tn,J,H2,rfl,I2,T,st2,f2,hW⟩:=P
 have hl:∀ b∈fp,b<s.heap.objs.size:=λb hb=>by
  obtain ⟨o,e,_⟩:=T.obj _ _ st2 b hb
  exact Heap.lt_size e
 refine wpAny_newObj_type (zfe (λh₁ hns₁ hsb₁ hcl₁=>?_))
 dsimp only at hns₁ hsb₁ hcl₁ ⊢
 generalize hH2:s.heap.push { cls:=.type "list",dict:=none,data:=.seq ([]:List Value).toArray }=G2 at hns₁ hsb₁ hcl₁ ⊢
 have hC:G2.objs.size=s.heap.objs.size+1:=by rw [← hH2,Heap.size_push]
 have hDC:s.heap.objs.size<G2.objs.size:=by rw [hC];exact Nat.lt_succ_self _
 have hCle:s.heap.objs.size≤G2.objs.size:=by rw [hC];exact Nat.le_succ _
 have old:∀ b o,s.heap.get? b=some o->h₁.get? b=some o:=λb o e=>hsb₁ b o (hH2 ▸ Heap.get?_push_of_some _ e)
 have hacc:h₁.get? s.heap.objs.size=some { cls:=.type "list",data:=.seq #[] 0 }:=hsb₁ _ _ (hH2 ▸ Heap.get?_push_size _ rfl)
 have hbc:zpF X scope (cellsFrom (G2.objs.size+1) scope.names cl) G2.objs.size:=zsC B h1 h2 λx c e=>by
  obtain ⟨v,q⟩:=I2.cell x c e
  exact Nat.le_trans (Nat.le_of_lt q.lt) hCle
 have hnew:∀ x c,G2.objs.size<c->((cellsFrom (G2.objs.size+1) scope.names cl)).lookup x=some c->h₁.IsCell c none:=λx c hc' e=>by
  rcases hbc.1 x c e with ⟨z,_⟩ | ⟨_,z⟩
  ·obtain ⟨v,q⟩:=I2.cell x c z
   exact absurd (Nat.lt_of_lt_of_le q.lt hCle) (Nat.not_lt.mpr (Nat.le_of_lt hc'))
  ·exact hcl₁ x c (PySem.mem_of_lookup z) e
 generalize cellsFrom (G2.objs.size+1) scope.names cl=cl' at hbc hnew ⊢
 clear h1 h2 hcl₁
 obtain ⟨W,⟨m0,w0⟩,turn⟩:=hW s.heap.objs.size (I2.hok.fresh ↥7)
 have J0:∀ t',Inv ↑68 pins (zin own.length fv σ) (upd H2 s.heap.objs.size (.lst [])) { s with heap:=h₁,toks:=t' }:=λt' =>
  zk6 I2 B hc hbc hnew f2 hl ↥7 hCle hDC old hns₁ hacc
 obtain ⟨hpg,hpt,hpe⟩:=hb cl' G2.objs.size fp s H2
 have stat:∀ {H':Hp},(∀b∈fp,H' b=none)->∀ b∈fp,zlz ↑68 pins H' b:=λhn b hb =>
  ⟨hn b hb,Nat.ne_of_lt (Nat.lt_of_lt_of_le (hl b hb) hCle),λz=>by
   rcases List.mem_cons.mp (I2.stkSub b z) with q | q
   ·exact (f2 b hb).2.1 q
   ·exact (f2 b hb).2.2.1 q,.inl hb,λx c e=>(by
    rcases hbc.1 x c e with ⟨z,_⟩ | ⟨z,_⟩
    ·exact (f2 b hb).2.2.2.2.1 x c z
    ·exact Nat.ne_of_gt (Nat.lt_trans (Nat.lt_of_lt_of_le (hl b hb) hCle) z)),(f2 b hb).2.2.2.2.2⟩
 have st1:tn 0 h₁:=T.keep _ _ _ st2 λb hb o e=>old b o e
 have fr1:∀ b∈fp,upd H2 s.heap.objs.size (.lst []) b=none:=λb hb=>by
  rw [zax (Nat.ne_of_lt (hl b hb))];exact (f2 b hb).1
 have loop:∀ s₃:Shared,s₃={ s with heap:=h₁ } →
   codeAny ⇑3 X.A (.compLoop ↑87 0 (.ref it) (.ref s.heap.objs.size) (compEnvC scope cl' G2.objs.size X.env)) (RR (.ref s.heap.objs.size) G2.objs.size) s₃:=by
  rintro s₃ rfl
  refine zoz (λn s'=>∃ i ys σ' H',Inv ↑68 pins σ' H' s'∧tn i s'.heap∧(∀b∈fp,H' b=none)∧W i n ys σ' H') ?_ m0 ⟨0,[],_,_,J0 s.toks,st1,fr1,w0⟩
  rintro n s3 ⟨i,ys,σ3,H3,I3,st3,fr3,w3⟩
  obtain ⟨hD,w3⟩:=turn i n ys σ3 H3 w3
  rcases w3 with ⟨stop,qn⟩ | ⟨go,step⟩
  ·refine thn (T.done ↑68 rfl rfl rfl rfl i pins s3 σ3 H3 _ I3 (stat fr3) st3 stop) λr s4 ⟨hr,I4⟩=>?_
   subst hr
   obtain ⟨I5,fC⟩:=zoC I2 hCle f2 I4
   obtain ⟨m,hn,_⟩:=I4.loc
   exact hRR _ _ s4 H3 m I5 hn fC qn
  ·refine thn (T.item ↑68 rfl rfl rfl rfl i pins s3 σ3 H3 _ I3 (stat fr3) st3 go) λr s4 ⟨u,hr,h4⟩=>?_
   subst hr
   refine thn h4 λ_ s5 ⟨x,H5,I5,r5,y5,st5,fr5⟩=>?_
   have I5':=I5.pinned (stat fr5) (T.obj _ _ st5)
   refine thn (hpg _ s5 σ3 H5 x u _ I5' r5 (step x H5 y5)) λ_ s6 ⟨σ6,H6,I6,q6⟩=>?_
   refine thn (hpt _ s6 σ6 H6 _ I6 q6) λok s7 ⟨H7,I7,q7⟩=>?_
   have again:∀ {s8:Shared} {σ8:St} {H8:Hp} {ys':List V} {m':Nat},Inv ↑68 (pins++zj6 fp s5.heap) σ8 H8 s8->m'<n->W (i+1) m' ys' σ8 H8 →
     ∃ m,m<n∧∃ i ys σ' H',Inv ↑68 pins σ' H' s8∧tn i s8.heap∧(∀b∈fp,H' b=none)∧W i m ys σ' H':=λ{s8 σ8 H8 ys' m'} I8 hm w8=>by
    refine ⟨m',hm,i+1,ys',σ8,H8,I8.unpinned,T.keep _ _ _ st5 λb hb o e=>(I8.pin (b,o) ↑112).1,λb hb=>?_,w8⟩
    obtain ⟨o,e,d⟩:=T.obj _ _ st5 b hb
    exact (I8.pin (b,o) ↑112).2.1
   cases ok with
   | false =>
    rw [if_neg Bool.false_ne_true] at q7 ⊢
    obtain ⟨m',hm,w8⟩:=q7
    exact again I7 hm w8
   | true =>
    rw [if_pos rfl] at q7 ⊢
    refine thn (hpe _ s7 σ6 H7 _ I7 q7) λyv s8 ⟨y,H8,I8,r8,hD8,hz8,m',hm,w8⟩=>?_
    refine thn (zj4 _ s8 σ6 H8 (.ref s.heap.objs.size) [y] _ [yv] (λ_ H9=>H9=upd H8 s.heap.objs.size (.lst (ys++[y]))) I8 rfl (.cons r8 .nil) ⟨_,ys,y,rfl,rfl,hD8,hz8,rfl⟩) λ_ s9 ⟨_,H9,I9,_,e9⟩=>?_
    subst e9
    exact again I9 hm w8
 exact codeAny_compStart_list (loop _ rfl) (T.self _ 0 _ _ _ st1 (loop _ rfl))
theorem zij (B:BlkScope X scope own fvn fv) (ok:X.Ok):∃ cl,closureFor scope X.env=pure cl∧(∀ x c,cl.lookup x=some c->X.env.cells.lookup x=some c)∧∀ x,(x,NameKind.free)∈scope.names->∃ c,cl.lookup x=some c :=
 zmA λx hx hk=>ok.has x.1 (B.free x hx hk)
theorem zcf (hc:X.calm=true) (B:BlkScope X scope own fvn fv) (hi:PI X tg iter wi)
  (hb:∀ (cl:List (Str×Addr)) (C:Addr) (fp:List Addr) (s:Shared) (H:Hp),PG ↑52 tg g∧PTs ↑52 ifs tt∧PE ↑52 elt te)
  (hs:∀ x,foldedSetIterable iter X.env x=pure x:=by intro _;rfl):PE X ↑87 (zna own.length fv wi g tt te):=by
 intro pins s σ H Q I h
 obtain ⟨cl,hcl,h1,h2⟩:=zij B I.ok
 rw [eval_ListComp]
 refine wpAny_comprehension_free (use:=none) rfl hs hcl B.kind B.names (thn (hi pins s σ H _ I h) λv s1 q1=>thn q1 λitv s2 q2=> ?_)
 refine zlF (RR:=λacc C=>compPost ⇑3 X.A X.xe none (EP X pins σ Q) acc C) hc B h1 h2 hb q2 λD C s' H' m I' hn fC q=>?_
 exact ⟨m,hn,λh' hs'=>⟨.ref D,H',I'.turned (t':=s'.toks) (λb o hb e=>(hs'.2 b hb).trans e) fC.1 fC.2.1 fC.2.2.2.1 fC.2.2.2.2.1 fC.2.2.2.2.2,rfl,q⟩⟩
theorem zdB {i:Nat} {x:Str} {pos' spos:Pos} (hc:X.calm=true) (hN:X.N.Nodup) (hix:X.N[i]?=some x) (hx:X.env.scope.names.lookup x=some .local) (B:BlkScope X scope own fvn fv) (hi:PI X tg iter wi)
  (hb:∀ (cl:List (Str×Addr)) (C:Addr) (fp:List Addr) (s:Shared) (H:Hp),PG ↑52 tg g∧PTs ↑52 ifs tt∧PE ↑52 elt te)
  (hsw:swapsWith ↑87 (some (.Name x pos')) spos.line X.env=pure true:=by rfl)
  (hs:∀ x,foldedSetIterable iter X.env x=pure x:=by intro _;rfl) :
  PS X (.Assign [.Name x pos'] ↑87 spos) (zke (zna own.length fv wi g tt te) (zdE i)):=by
 intro pins s σ H D I h
 obtain ⟨cl,hcl,h1,h2⟩:=zij B I.ok
 rw [exec_Assign_Name_used _ _ _ _ hsw]
 refine wpAny_bind (wpAny_standAt (wpAny_bind ?_))
 show wpAny _ _ (do let _ ← comprehension ↑87 scope X.env _ (newList []) false (eval iter X.env) (some (assign (.Name x pos') X.env))) _ _ s
 refine wpAny_bind (wpAny_mono (wpAny_comprehension_free (use:=some (assign (.Name x pos') X.env)) (Q:=λ_ s'=>SP X pins D .next s') rfl hs hcl B.kind B.names
  (thn (hi pins s σ H _ I h) λv s1 q1=>thn q1 λitv s2 q2=> ?_)) (λ_ s' hq=>wpAny_pure (wpAny_pure hq)) λ_ _ e=>e)
 refine zlF (Q:=λv H1=>zdE i v σ H1 D.nx) (RR:=λacc C=>compPost ⇑3 X.A X.xe (some (assign (.Name x pos') X.env)) (λ_ s'=>SP X pins D .next s') acc C) hc B h1 h2 hb q2 λDa C s' H' m I' hn fC q=>?_
 show wpAny _ _ (assign (.Name x pos') X.env (.ref Da)) _ _ _
 refine wpAny_assign_Name (zkq I' hN hix (.inl hx) (v:=.ref Da) rfl (λs'' I'' ⟨a,hsb,ha⟩=>?_) (.inr hx))
 have hCa:C≠a:=by
  rcases ha with z | z
  ·rw [z];exact fC.2.1
  ·exact Ne.symm (fC.2.2.2.2.1 x a z)
 refine ⟨m,hn.sameBut hsb hCa,λh'' hs''=>⟨_,H',I''.turned (t':=s''.toks) (λb o hb e=>(hs''.2 b hb).trans e) fC.1 fC.2.1 fC.2.2.2.1 fC.2.2.2.2.1 fC.2.2.2.2.2,q⟩⟩
end
end L2
namespace L2
open PySem PySem.Spec PyProof.Rows
section
variable {X:Cx} {pins:List ↥2} {σ:St} {H:Hp} {s:Shared} {h':Heap}
theorem Inv.turnedNew {t':Nat} {ch:List Addr} {T:Addr} {o:HO} (I:Inv X pins σ H s) (hf:∀ b∈ch,zlz X pins H b) (k:∀ b u,b ∉ ch->s.heap.get? b=some u->h'.get? b=some u) (hT:s.heap.objs.size≤T)
  (new:zfv X.prog X.w (upd H T o) h' T o):Inv X pins σ (upd H T o) { s with heap:=h',toks:=t' }:=by
 have hn:H T=none:=I.hok.fresh hT
 have lt:∀ b u,s.heap.get? b=some u->b≠T:=λb u e=>Nat.ne_of_lt (Nat.lt_of_lt_of_le (Heap.lt_size e) hT)
 refine I.step (g':=s.gens) (d':=s.drawn) (ch:=ch) (λb hb=>⟨(hf b hb).2.2.2.1,(hf b hb).2.1,(hf b hb).2.2.2.2.1,(hf b hb).2.2.2.2.2⟩) (λb u _ _ hc e _=>k b u hc e) (λb u _ _ hc e _=>⟨u.slots,k b u hc e⟩)
  (λb u _ e n=>by rw [zax (lt b u e)];exact n) (λb u hc e=>⟨u,k b u hc e⟩) (λb xs e=>by rw [zax (zbk e hn)];exact e) (λb u xs e=>by rw [zax (zbk e hn)];exact e)
  (λb ps e=>⟨#[],by rw [zax (zbk e hn),e];simp⟩) (λm hm=>?_) (λb u e=>?_) I.bare
 ·obtain ⟨o,es,ep,ho,r⟩:=hm
  exact ⟨o,es,ep,k _ o (λz=>(hf _ z).2.1 rfl) ho,r⟩
 ·by_cases hb:b=T
  ·subst hb;rw [zaG] at e;cases e;exact new
  ·rw [zax hb] at e
   refine ((I.hok b u e)).stay (λc v hc q=>k c v (λz=>?_) q) (λc q=>by rw [zax (zbk q hn)];exact q) λc xs q=>by rw [zax (zbk q hn)];exact q
   have z':=(hf c z).1
   rcases hc with hc | hc
   ·rw [hc,e] at z';cases z'
   ·rw [hc] at z';cases z'
theorem Inv.turnedL {t':Nat} {ch:List Addr} (I:Inv X pins σ H s) (hf:∀ b∈ch,zlz X pins H b) (k:∀ b u,b ∉ ch->s.heap.get? b=some u->h'.get? b=some u):Inv X pins σ H { s with heap:=h',toks:=t' }:=by
 refine I.step (g':=s.gens) (d':=s.drawn) (ch:=ch) (λb hb=>⟨(hf b hb).2.2.2.1,(hf b hb).2.1,(hf b hb).2.2.2.2.1,(hf b hb).2.2.2.2.2⟩) (λb u _ _ hc e _=>k b u hc e) (λb u _ _ hc e _=>⟨u.slots,k b u hc e⟩)
  (λb u _ e n=>n) (λb u hc e=>⟨u,k b u hc e⟩) (λb xs e=>e) (λb u xs e=>e) (λb ps e=>⟨#[],by rw [e];simp⟩) (λm hm=>?_) (λb u e=>?_) I.bare
 ·obtain ⟨o,es,ep,ho,r⟩:=hm
  exact ⟨o,es,ep,k _ o (λz=>(hf _ z).2.1 rfl) ho,r⟩
 ·refine ((I.hok b u e)).stay (λc v hc q=>k c v (λz=>?_) q) (λc q=>q) λc xs q=>q
  have z':=(hf c z).1
  rcases hc with hc | hc
  ·rw [hc,e] at z';cases z'
  ·rw [hc] at z';cases z'
end
def Itz (K:W.Frag) (a b:Addr):It :=
 ⟨λi H=>∃ xs ys x y,SqL K H a xs∧SqL K H b ys∧xs[i]?=some x∧ys[i]?=some y,
  λi H v H'=>∃ p x y,v=.ref p∧H p=none∧H'=upd H p (.tup [x,y])∧∀ xs ys,SqL K H a xs->SqL K H b ys->xs[i]?=some x∧ys[i]?=some y,
  λi H=>∃ xs ys,SqL K H a xs∧SqL K H b ys∧(xs.length≤i∨ys.length≤i)⟩
theorem zo7 {P:Program} {w:World} {K:W.Frag} {elts:List Expr} {x1:Nat} {tp:Pos} {a b z TI TO i1 i2:Addr} (D:ZipApart z TI TO i1 i2 a b) :
  Turn P w K (.Tuple elts x1 tp) (Itz K a b) [z,TI,TO,i1,i2] z
   (λi h=>IsZip h z TI TO .none∧IsPair h TI (.ref i1) (.ref i2)∧(∃ p q,IsPair h TO p q)∧h.IsListIter i1 a i∧h.IsListIter i2 b i) where
 mem:=by simp
 obj:=λi h st c hc=>by
  obtain ⟨hz,hTI,⟨p,q,hTO⟩,⟨o1,e1,_,d1⟩,⟨o2,e2,_,d2⟩⟩:=st
  simp only [List.mem_cons,List.not_mem_nil,or_false] at hc
  rcases hc with rfl | rfl | rfl | rfl | rfl
  ·exact ⟨_,hz,λv z=>by cases z⟩
  ·exact ⟨_,hTI,λv z=>by cases z⟩
  ·exact ⟨_,hTO,λv z=>by cases z⟩
  ·exact ⟨o1,e1,λv z=>by rw [d1] at z;cases z⟩
  ·exact ⟨o2,e2,λv z=>by rw [d2] at z;cases z⟩
 keep:=λi h h' st k=>by
  obtain ⟨hz,hTI,⟨p,q,hTO⟩,h1,h2⟩:=st
  exact ⟨k z (by simp) _ hz,k TI (by simp) _ hTI,⟨p,q,k TO (by simp) _ hTO⟩,h1.at λo e=>k i1 (by simp) o e,h2.at λo e=>k i2 (by simp) o e⟩
 item:=by
  intro X hP hw hK hc i pins s σ H E I hf st hg
  subst hP hw hK
  obtain ⟨xs,ys,x,y,hxs,hys,hx,hy⟩:=hg
  obtain ⟨itx,rx,px,hzx⟩:=I.list hxs
  obtain ⟨ity,ry,py,hzy⟩:=I.list hys
  obtain ⟨u,hu,ru⟩:=rx.get hx
  obtain ⟨v,hv,rv⟩:=ry.get hy
  obtain ⟨hz,hTI,⟨p,q,hTO⟩,h1,h2⟩:=st
  refine wpAny_pyNext_zip_item (x:=u) (y:=v) D hz hTI hTO h1 h2 px.isList py.isList (by simpa using hu) (by simpa using hv) λh' a1 a2 a3 a4 a5 a6 hk=>?_
  refine ⟨_,rfl,wpAny_letOwnedTupleGo_zip a1 λh'' b1 b2=>?_⟩
  have zlt:z<s.heap.objs.size:=Heap.lt_size hz
  have lt:∀ c∈[z,TI,TO,i1,i2],c<s.heap.objs.size:=λc hc=>by
   simp only [List.mem_cons,List.not_mem_nil,or_false] at hc
   rcases hc with rfl | rfl | rfl | rfl | rfl
   ·exact zlt
   ·exact Heap.lt_size hTI
   ·exact Heap.lt_size hTO
   ·obtain ⟨_,e,_⟩:=h1;exact Heap.lt_size e
   ·obtain ⟨_,e,_⟩:=h2;exact Heap.lt_size e
  have tup:IsPair h'' s.heap.objs.size u v:=b2.extBut _ _ (Nat.ne_of_gt zlt) a5
  have I1:Inv X pins σ (upd H s.heap.objs.size (.tup [x,y])) { s with heap:=h'' }:=by
   refine I.turnedNew (t':=s.toks) (ch:=[z,TO,i1,i2]) (λc hc=>hf c ?_) (λc ob hc e=>?_) ↥7 ?_
   ·simp only [List.mem_cons,List.not_mem_nil,or_false] at hc ⊢
    rcases hc with z | z | z | z<;>simp [z]
   ·simp only [List.mem_cons,List.not_mem_nil,or_false,not_or] at hc
    exact b2.extBut _ _ hc.1 (hk c ob hc.1 hc.2.1 hc.2.2.1 hc.2.2.2 e)
   ·exact ⟨by show 2≤sizeLine;decide,[u,v],.cons ru (.cons rv .nil),⟨_,tup,rfl,_,rfl⟩⟩
  refine ⟨.ref s.heap.objs.size,_,I1,rfl,⟨_,x,y,rfl,I.hok.fresh ↥7,rfl,λxs' ys' q1 q2=>?_⟩,⟨b1,?_,⟨_,_,b2.extBut _ _ D.TOz a2⟩,a3.extBut b2.extBut D.i1z,a4.extBut b2.extBut D.i2z⟩,λc hc=>?_⟩
  ·rw [I.list_inj q1 hxs,I.list_inj q2 hys];exact ⟨hx,hy⟩
  ·exact b2.extBut _ _ D.TIz (hk _ _ D.TIz D.TITO D.TIi1 D.TIi2 hTI)
  ·rw [zax (Nat.ne_of_lt (lt c hc))];exact (hf c hc).1
 done:=by
  intro X hP hw hK hc i pins s σ H E I hf st hg
  subst hP hw hK
  obtain ⟨xs,ys,hxs,hys,hend⟩:=hg
  obtain ⟨itx,rx,px,hzx⟩:=I.list hxs
  obtain ⟨ity,ry,py,hzy⟩:=I.list hys
  obtain ⟨hz,hTI,⟨p,q,hTO⟩,h1,h2⟩:=st
  have lx:=rx.length
  have ly:=ry.length
  refine wpAny_pyNext_zip_end (I.ok.hd hc) D hz hTI hTO h1 h2 px.isList py.isList ?_ λh' hk=>⟨rfl,?_⟩
  ·rcases hend with e | e
   ·exact .inl (by simp;omega)
   ·exact .inr (by simp;omega)
  ·refine I.turnedL (t':=s.toks) (ch:=[z,TO,i1,i2]) (λc hc=>hf c ?_) (λc ob hc e=>?_)
   ·simp only [List.mem_cons,List.not_mem_nil,or_false] at hc ⊢
    rcases hc with z | z | z | z<;>simp [z]
   ·simp only [List.mem_cons,List.not_mem_nil,or_false,not_or] at hc
    exact hk c ob hc.1 hc.2.1 hc.2.2.1 hc.2.2.2 e
 self:=λ_ _ _ _ _ st h=>wpAny_pyIter_zip st.1 h
section
variable {X:Cx}
def zt8 (K:W.Frag) (ta:TA):TI:=λσ H R=>ta σ H λvs H1=>∃ a b,vs=[.ref a,.ref b]∧(∃xs,SqL K H1 a xs)∧(∃ ys,SqL K H1 b ys)∧R (Itz K a b) H1
theorem zsE {a b:Expr} {ta:TA} {p pos tp:Pos} {elts:List Expr} {x1:Nat} (hg:Gl X "zip") (hm:X.mg "zip"=none) (ha:PA X [a,b] ta) (hs:starEach [a,b] X.env=[(false,eval a X.env),(false,eval b X.env)]:=by rfl) (hs2:starEach [b] X.env=[(false,eval b X.env)]:=by rfl) :
  PI X (.Tuple elts x1 tp) (.Call (.Name "zip" p) [a,b] [] pos) (zt8 X.K ta):=by
 intro pins s σ H R I h
 refine Call_ (zhx I hg hm boot_zip (PyProof.Rows.callWith_type1 ↑110 (by rw [hs,hs2]) (by rw [hs2];rfl)))
 obtain ⟨l1,l2,e,⟨xs,hx⟩,⟨ys,hy⟩,q⟩:=q1
 subst e
 cases r1 with
 | cons r rr =>
  cases rr with
  | cons r' rr =>
   cases rr
   cases r
   cases r'
   obtain ⟨itx,rx,px,hzx⟩:=I1.list hx
   obtain ⟨ity,ry,py,hzy⟩:=I1.list hy
   have lt1:@LT.lt Nat _ l1 s1.heap.objs.size:=by obtain ⟨o,e,_⟩:=px.isList;exact Heap.lt_size e
   have lt2:@LT.lt Nat _ l2 s1.heap.objs.size:=by obtain ⟨o,e,_⟩:=py.isList;exact Heap.lt_size e
   refine call_zip_2 px.isList py.isList λh' hz hTI hTO h1 h2 hsz hk=>?_
   refine wpAny_pyIter_zip hz ?_
   have D:ZipApart (s1.heap.objs.size+4) (s1.heap.objs.size+2) (s1.heap.objs.size+3) s1.heap.objs.size (s1.heap.objs.size+1) l1 l2:=by
    constructor<;>(show @Ne Nat _ _;omega)
   refine ⟨s1.heap.objs.size+4,[s1.heap.objs.size+4,s1.heap.objs.size+2,s1.heap.objs.size+3,s1.heap.objs.size,s1.heap.objs.size+1],_,Itz X.K l1 l2,H1,rfl,I1.kept (t':=s1.toks) hk,zo7 D,⟨hz,hTI,⟨_,_,hTO⟩,h1,h2⟩,λc hc=>?_,q⟩
   have hle:@LE.le Nat _ s1.heap.objs.size c:=by
    simp only [List.mem_cons,List.not_mem_nil,or_false] at hc
    rcases hc with rfl | rfl | rfl | rfl | rfl<;>omega
   exact I1.fpOk hle (I1.hok.fresh hle)
end
theorem preSum_list:∀ (ns:Ji) (k:Nat),k≤ns.length->preSum (λi=>(ns[i]?).getD 0) k=(ns.take k).sum
 | _,0,_=>by simp [preSum]
 | ns,k+1,h=>by
  have ih:=preSum_list ns k ↑0
  have hk:k<ns.length:=by omega
  have e1:preSum (λi=>(ns[i]?).getD 0) (k+1)=preSum (λi=>(ns[i]?).getD 0) k+(ns[k]?).getD 0:=rfl
  have e2:ns.take (k+1)=ns.take k++[ns[k]]:=by rw [List.take_add_one,List.getElem?_eq_getElem hk];rfl
  rw [e1,ih,e2,List.sum_append,List.getElem?_eq_getElem hk]
  simp
section
variable {X:Cx}
theorem zn9 (hc:X.calm=true):ziz X (.builtin "sum") (λxs H Q=>∃ (a:Addr) (ns:Ji),xs=[.ref a]∧SqL X.K H a (ns.map V.int)∧Q (.int ns.sum) H):=by
 intro pins s σ H xs us Q I r h
 obtain ⟨a,ns,rfl,hq,q⟩:=h
 obtain ⟨u,rfl,rx⟩:=zmG r
 cases rx
 obtain ⟨its,rv,p,hz⟩:=I.list hq
 have hl:=rv.length
 rw [List.length_map] at hl
 have alt:a<s.heap.objs.size:=by obtain ⟨o,e,_⟩:=p.isList;exact Heap.lt_size e
 have hl1:((s.heap.push {cls:= .type "list_iterator",data:= .fields #[.ref a,.int 0 0]})).IsList a its.toArray:=Heap.IsList.push p.isList _
 refine call_sum_walkG (wpAny_pyIter_list p.isList ?_)
 refine ⟨s.heap.objs.size,[s.heap.objs.size,a],[s.heap.objs.size],its.toArray.size,_,_,λi=>(ns[i]?).getD 0,rfl,Walks.list (A:=X.A.in1) (I.ok.hd hc) s.heap.objs.size a (Nat.ne_of_lt alt) its.toArray,⟨⟨_,Heap.get?_push_size _ rfl,rfl,rfl⟩,hl1⟩,λb hb=>?_,λi v hv=>?_,λh' tk t' hk=>?_⟩
 ·show b<(s.heap.push _).objs.size
  rw [Heap.size_push]
  simp only [List.mem_cons,List.not_mem_nil,or_false] at hb
  rcases hb with rfl | rfl
  ·exact Nat.lt_succ_self _
  ·exact Nat.lt_succ_of_lt alt
 ·have hv':its[i]?=some v:=by simpa using hv
  have hi:i<its.length:=(List.getElem?_eq_some_iff.mp hv').1
  obtain ⟨u,hu,ru⟩:=rv.get (i:=i) (x:=.int (ns[i]' ↑0)) (by rw [List.getElem?_map,List.getElem?_eq_getElem ↑0];rfl)
  rw [hv'] at hu
  cases hu
  obtain ⟨t,rfl⟩:=ru
  have e:(ns[i]?).getD 0=ns[i]' ↑0:=by rw [List.getElem?_eq_getElem (show i<ns.length by omega)];rfl
  exact ⟨t,congrArg (λz=>Value.int z t) e.symm⟩
 ·have e:preSum (λi=>(ns[i]?).getD 0) its.toArray.size=ns.sum:=by
   rw [List.size_toArray,← hl,preSum_list ns _ ↥7,List.take_length]
  rw [e]
  exact ⟨.int ns.sum,H,I.kept (h':=h') (t':=tk) λb o e=>hk b o (by simp only [List.mem_singleton];exact Nat.ne_of_lt (Heap.lt_size e)) (Heap.get?_push_of_some _ e),⟨t',rfl⟩,q⟩
end
inductive EqV (K:W.Frag) (H:Hp):Nat->V->V->Bool->Prop where
 | flat {n:Nat} {x y:V} (fx:zpf x=true) (fy:zpf y=true):EqV K H n x y (eqV x y)
 | same {n:Nat} {a:Addr}:EqV K H n (.ref a) (.ref a) true
 | lists {n:Nat} {a b:Addr} {xs ys:List V} {e:Nat->Bool} (ne:a≠b) (ha:SqL K H a xs) (hb:SqL K H b ys) (hl:xs.length=ys.length)
   (he:∀ (j:Nat) (x y:V),xs[j]?=some x->ys[j]?=some y->EqV K H n x y (e j)):EqV K H (n+1) (.ref a) (.ref b) (((List.range xs.length)).all e)
 | lens {n:Nat} {a b:Addr} {xs ys:List V} (ne:a≠b) (ha:SqL K H a xs) (hb:SqL K H b ys) (hl:xs.length≠ys.length):EqV K H (n+1) (.ref a) (.ref b) false
theorem EqV.at {X:Cx} {pins:List ↥2} {σ:St} {H:Hp} {s:Shared} (I:Inv X pins σ H s) {n:Nat} {x y:V} {k:Bool} (h:EqV X.K H n x y k) :
  ∀ {A:Around} {u v:Value},zef x u->zef y v->A.units+n<cLine->SeqAt.EqAt A s u v k:=by
 induction h with
 | flat fx fy=>intro A u v rx ry _;exact zr1 rx ry fx fy
 | same=>intro A u v rx ry _;cases rx;cases ry;exact SeqAt.EqAt.same _
 | @lists n a b xs ys e ne ha hb hl he ih =>
  intro A u v rx ry hu
  cases rx
  cases ry
  obtain ⟨ita,ra,pa,za⟩:=I.list ha
  obtain ⟨itb,rb,pb,zb⟩:=I.list hb
  have la:=ra.length
  have lb:=rb.length
  have q:=SeqAt.RcAt.lists (A:=A) (e:=e) pa.isList pb.isList (by simp;omega) ↑0 λj h1 h2=>?_
  ·rw [List.size_toArray,← la] at q
   exact SeqAt.EqAt.of_refs ne q
  ·have h1':j<ita.length:=by simpa using h1
   have h2':j<itb.length:=by simpa using h2
   obtain ⟨u',hu',ru⟩:=ra.get (i:=j) (x:=xs[j]' ↑0) ↑59
   obtain ⟨v',hv',rv⟩:=rb.get (i:=j) (x:=ys[j]' ↑0) ↑59
   have eu:ita.toArray[j]=u':=by
    rw [List.getElem?_eq_getElem h1'] at hu'
    simpa using hu'
   have ev:itb.toArray[j]=v':=by
    rw [List.getElem?_eq_getElem h2'] at hv'
    simpa using hv'
   rw [eu,ev]
   exact ih j _ _ ↑59 ↑59 ru rv (by show A.units+1+n<cLine;omega)
 | @lens n a b xs ys ne ha hb hl =>
  intro A u v rx ry hu
  cases rx
  cases ry
  obtain ⟨ita,ra,pa,za⟩:=I.list ha
  obtain ⟨itb,rb,pb,zb⟩:=I.list hb
  have la:=ra.length
  have lb:=rb.length
  exact SeqAt.EqAt.of_refs ne (SeqAt.RcAt.lists_lengths pa.isList pb.isList (by simp;omega) ↑0)
def zpb (K:W.Frag) (neg:Bool):R2:=λx y H Q=>∃ a b n xs ys,x=.ref a∧y=.ref b∧SqL K H a xs∧SqL K H b ys∧n≤50 ∧
 ((xs.length≠ys.length∧Q (.bl neg) H)∨∃ e:Nat->Bool,xs.length=ys.length∧(∀ (j:Nat) (x y:V),xs[j]?=some x->ys[j]?=some y->EqV K H n x y (e j))∧Q (.bl (if neg then !((List.range xs.length)).all e else ((List.range xs.length)).all e)) H)
section
variable {X:Cx}
theorem zj5 {pins:List ↥2} {σ:St} {H:Hp} {s:Shared} (I:Inv X pins σ H s) {n:Nat} {xs ys:List V} {ita itb:List Value} {e:Nat->Bool} (ra:zct xs ita) (rb:zct ys itb) (he:∀ (j:Nat) (x y:V),xs[j]?=some x->ys[j]?=some y->EqV X.K H n x y (e j))
  {A:Around} (hu:A.units+1+n<cLine):∀ j (h1:j<ita.toArray.size) (h2:j<itb.toArray.size),SeqAt.EqAt A.in1 s ita.toArray[j] itb.toArray[j] (e j):=λj h1 h2=>by
 have la:=ra.length
 have lb:=rb.length
 have h1':j<ita.length:=by simpa using h1
 have h2':j<itb.length:=by simpa using h2
 obtain ⟨u',hu',ru⟩:=ra.get (i:=j) (x:=xs[j]' ↑0) ↑59
 obtain ⟨v',hv',rv⟩:=rb.get (i:=j) (x:=ys[j]' ↑0) ↑59
 have eu:ita.toArray[j]=u':=by
  rw [List.getElem?_eq_getElem h1'] at hu'
  simpa using hu'
 have ev:itb.toArray[j]=v':=by
  rw [List.getElem?_eq_getElem h2'] at hv'
  simpa using hv'
 rw [eu,ev]
 exact (he j _ _ ↑59 ↑59).at I ru rv hu
theorem zsz (hu:X.A.units+64<cLine):OpR X (compareOp .Eq) (zpb X.K false):=by
 intro pins s σ H x y v u Q I rx ry h
 obtain ⟨a,b,n,xs,ys,rfl,rfl,ha,hb,hn,h⟩:=h
 cases rx
 cases ry
 obtain ⟨ita,ra,pa,za⟩:=I.list ha
 obtain ⟨itb,rb,pb,zb⟩:=I.list hb
 have la:=ra.length
 have lb:=rb.length
 rcases h with ⟨hl,q⟩ | ⟨e,hl,he,q⟩
 ·exact SeqAt.eq_list_lengthsAt pa.isList pb.isList (by simp;omega) ↑0 ⟨.bl false,H,I,rfl,q⟩
 ·refine SeqAt.eq_listAt (e:=e) pa.isList pb.isList (by simp;omega) ↑0 (zj5 I ra rb he ↑0) ?_
  rw [List.size_toArray,← la]
  exact ⟨.bl _,H,I,rfl,q⟩
theorem ztm (hu:X.A.units+64<cLine):OpR X (compareOp .NotEq) (zpb X.K true):=by
 intro pins s σ H x y v u Q I rx ry h
 obtain ⟨a,b,n,xs,ys,rfl,rfl,ha,hb,hn,h⟩:=h
 cases rx
 cases ry
 obtain ⟨ita,ra,pa,za⟩:=I.list ha
 obtain ⟨itb,rb,pb,zb⟩:=I.list hb
 have la:=ra.length
 have lb:=rb.length
 rcases h with ⟨hl,q⟩ | ⟨e,hl,he,q⟩
 ·exact SeqAt.RcNeAt.lists_lengths pa.isList pb.isList (by simp;omega) ↑0 _ _ _ _ ⟨.bl true,H,I,rfl,q⟩
 ·refine SeqAt.RcNeAt.lists (e:=e) pa.isList pb.isList (by simp;omega) ↑0 (zj5 I ra rb he ↑0) _ _ _ _ ?_
  rw [List.size_toArray,← la]
  exact ⟨.bl _,H,I,rfl,q⟩
end
theorem all_eq {α:Type} [DecidableEq α] {xs ys:List α} (h:xs.length=ys.length):((List.range xs.length)).all (λj=>decide (xs[j]?=ys[j]?))=decide (xs=ys):=by
 rw [Bool.eq_iff_iff,List.all_eq_true,decide_eq_true_iff]
 constructor
 ·intro z
  refine List.ext_getElem? λi=>?_
  by_cases hi:i<xs.length
  ·exact of_decide_eq_true (z i (List.mem_range.mpr hi))
  ·rw [List.getElem?_eq_none ↑0,List.getElem?_eq_none ↑0]
 ·rintro rfl i _
  exact decide_eq_true rfl
theorem zpb.ints {K:W.Frag} {neg:Bool} {H:Hp} {Q:VK} {a b:Addr} {ns ms:Ji} (ha:SqL K H a (ns.map V.int)) (hb:SqL K H b (ms.map V.int)) (q:Q (.bl (if neg then !decide (ns=ms) else decide (ns=ms))) H) :
  zpb K neg (.ref a) (.ref b) H Q:=by
 refine ⟨a,b,0,_,_,rfl,rfl,ha,hb,by omega,?_⟩
 by_cases hl:ns.length=ms.length
 ·refine .inr ⟨λj=>decide (ns[j]?=ms[j]?),by simp [hl],λj x y hx hy=>?_,?_⟩
  ·rw [List.getElem?_map] at hx hy
   cases e1:ns[j]? with
   | none=>rw [e1] at hx;cases hx
   | some i =>
    cases e2:ms[j]? with
    | none=>rw [e2] at hy;cases hy
    | some k =>
     rw [e1] at hx
     rw [e2] at hy
     cases hx
     cases hy
     have q:=EqV.flat (K:=K) (H:=H) (n:=0) (x:=.int i) (y:=.int k) rfl rfl
     have e:eqV (.int i) (.int k)=decide (some i=some k):=by
      show (i == k)=_
      rw [Bool.beq_eq_decide_eq]
      simp
     rw [e] at q
     show EqV K H 0 (V.int i) (V.int k) (decide (ns[j]?=ms[j]?))
     rw [e1,e2]
     exact q
  ·rw [List.length_map,all_eq hl]
   exact q
 ·refine .inl ⟨by simpa using hl,?_⟩
  have e:decide (ns=ms)=false:=decide_eq_false (λz=>hl (by rw [z]))
  rw [e] at q
  cases neg<;>exact q
def Rows (K:W.Frag) (H:Hp) (a:Addr) (xss:Jq):Prop :=
 ∃ as:List Addr,SqL K H a (as.map V.ref)∧as.length=xss.length∧∀ (j:Nat) (p:Addr) (ns:Ji),as[j]?=some p->xss[j]?=some ns->H p=some (.lst (ns.map V.int))
theorem zkZ {ns ms:Ji} (h:ns.map V.int=ms.map V.int):ns=ms:=by
 induction ns generalizing ms with
 | nil=>cases ms with
  | nil=>rfl
  | cons _ _=>cases h
 | cons x r ih=>cases ms with
  | nil=>cases h
  | cons y s =>
   injection h with h1 h2
   injection h1 with h1
   rw [h1,ih h2]
theorem EqV.ints {K:W.Frag} {H:Hp} {n:Nat} {a b:Addr} {ns ms:Ji} (ha:H a=some (.lst (ns.map V.int))) (hb:H b=some (.lst (ms.map V.int))):EqV K H (n+1) (.ref a) (.ref b) (decide (ns=ms)):=by
 by_cases hab:a=b
 ·subst hab
  rw [ha] at hb
  have e:ns=ms:=zkZ (by injection hb with hb;injection hb)
  rw [decide_eq_true e]
  exact .same
 ·by_cases hl:ns.length=ms.length
  ·have q:=EqV.lists (K:=K) (H:=H) (n:=n) (e:=λj=>decide (ns[j]?=ms[j]?)) hab (SqL.of ha) (SqL.of hb) (by simp [hl]) λj x y hx hy=>?_
   ·rw [List.length_map,all_eq hl] at q
    exact q
   ·rw [List.getElem?_map] at hx hy
    cases e1:ns[j]? with
    | none=>rw [e1] at hx;cases hx
    | some i =>
     cases e2:ms[j]? with
     | none=>rw [e2] at hy;cases hy
     | some k =>
      rw [e1] at hx
      rw [e2] at hy
      cases hx
      cases hy
      have q:=EqV.flat (K:=K) (H:=H) (n:=n) (x:=.int i) (y:=.int k) rfl rfl
      have e:eqV (.int i) (.int k)=decide (some i=some k):=by
       show (i == k)=_
       rw [Bool.beq_eq_decide_eq]
       simp
      rw [e] at q
      exact q
  ·rw [decide_eq_false (λz=>hl (by rw [z]))]
   exact .lens hab (SqL.of ha) (SqL.of hb) (by simpa using hl)
theorem zpb.rows {K:W.Frag} {neg:Bool} {H:Hp} {Q:VK} {a b:Addr} {xss yss:Jq} (ha:Rows K H a xss) (hb:Rows K H b yss) (q:Q (.bl (if neg then !decide (xss=yss) else decide (xss=yss))) H) :
  zpb K neg (.ref a) (.ref b) H Q:=by
 obtain ⟨as,hsa,hla,hra⟩:=ha
 obtain ⟨bs,hsb,hlb,hrb⟩:=hb
 refine ⟨a,b,1,_,_,rfl,rfl,hsa,hsb,by omega,?_⟩
 by_cases hl:xss.length=yss.length
 ·refine .inr ⟨λj=>decide (xss[j]?=yss[j]?),by simp;omega,λj x y hx hy=>?_,?_⟩
  ·rw [List.getElem?_map] at hx hy
   cases e1:as[j]? with
   | none=>rw [e1] at hx;cases hx
   | some p =>
    cases e2:bs[j]? with
    | none=>rw [e2] at hy;cases hy
    | some p2 =>
     rw [e1] at hx
     rw [e2] at hy
     cases hx
     cases hy
     have h1:j<xss.length:=by have:=(List.getElem?_eq_some_iff.mp e1).1;omega
     have h2:j<yss.length:=by omega
     have q:=EqV.ints (K:=K) (n:=0) (hra j p _ e1 (List.getElem?_eq_getElem h1)) (hrb j p2 _ e2 (List.getElem?_eq_getElem h2))
     show EqV K H 1 (V.ref p) (V.ref p2) (decide (xss[j]?=yss[j]?))
     rw [List.getElem?_eq_getElem h1,List.getElem?_eq_getElem h2]
     have e:decide (xss[j]=yss[j])=decide (some xss[j]=some yss[j]):=by simp
     rw [e] at q
     exact q
  ·rw [List.length_map,hla,all_eq hl]
   exact q
 ·refine .inl ⟨by simp;omega,?_⟩
  have e:decide (xss=yss)=false:=decide_eq_false (λz=>hl (by rw [z]))
  rw [e] at q
  cases neg<;>exact q
section
variable {X:Cx}
theorem zm1 {n k m:Nat} (h:n<2^k) (hk:k≤m) (hm:0<m):n.log2<m:=by
 by_cases hn:n=0
 ·subst hn
  exact Nat.lt_of_le_of_lt (by decide:Nat.log2 0≤0) hm
 ·exact Nat.lt_of_lt_of_le ((Nat.log2_lt hn).mpr h) hk
theorem zop {i:Int} {k:Nat} (h:i.natAbs.log2<k):Builtin.Int.intBits i≤k:=by
 unfold Builtin.Int.intBits
 split
 ·exact Nat.zero_le _
 ·omega
def zfi (i j:Int):Prop:=0<j∧j.natAbs.log2<9000
theorem zcx:OpR X (binaryOp .FloorDiv) (rI zfi λi j=>.int (i/j)):=opI λi j _ _ _ _ _ hc q=>by
 have hj:j≠0:=by have:=hc.1;omega
 have e:i.fdiv j=i/j:=Int.fdiv_eq_ediv_of_nonneg _ (by have:=hc.1;omega)
 exact floordiv_int hj (by rw [e];exact q) (.inl (PyProof.noPylong_of_log2 hc.2))
end
end L2
namespace L2
open PySem PySem.Spec PyProof.Rows
def zp7 (scope osc:Scope) (N own fvn:List Str) (fv:List Nat):Bool :=
 (scope.names.all λy=>y.2 != .cell||scope.names.lookup y.1 == some .cell)&&(scope.names.all λy=>y.2 != .free||scope.names.lookup y.1 == some .free)&&(scope.kind == .function)&&(scope.names.all λy=>y.2 != .local||scope.names.lookup y.1 == some .local) &&
 (scope.names.all λy=>y.2 != .free||osc.names.lookup y.1 == some .cell||osc.names.lookup y.1 == some .free)&&(fvn.map some == fv.map λi=>N[i]?)&&(fvn.all λx=>scope.names.lookup x == some .free)
theorem BlkScope.of {X:Cx} {scope osc:Scope} {N own fvn:List Str} {fv:List Nat} (hX:X.env.scope=osc) (hN:X.N=N) (h:zp7 scope osc N own fvn fv=true):BlkScope X scope own fvn fv:=by
 subst hX hN
 unfold zp7 at h
 simp only [Bool.and_eq_true,List.all_eq_true,bne_iff_ne,beq_iff_eq,Bool.or_eq_true] at h
 obtain ⟨⟨⟨⟨⟨⟨h1,h1'⟩,h2⟩,h3⟩,h4⟩,h5⟩,h6⟩:=h
 refine ⟨λy hy e=>?_,λy hy e=>?_,h2,λy hy e=>?_,λy hy e=>?_,h5,h6⟩
 ·rcases h1 y hy with z | z
  ·exact absurd e z
  ·exact z
 ·rcases h1' y hy with z | z
  ·exact absurd e z
  ·exact z
 ·rcases h3 y hy with z | z
  ·exact absurd e z
  ·exact z
 ·rcases h4 y hy with (z | z) | z
  ·exact absurd e z
  ·exact .inl z
  ·exact .inr z
theorem Same.new {H:Hp} {p:Addr} (h:H p=none) (o:HO):Same H (upd H p o):=λb u q=>by rw [zax (zbk q h)];exact q
theorem Same.rows {K:W.Frag} {H H':Hp} {a:Addr} {xss:Jq} (e:Same H H') (h:Rows K H a xss):Rows K H' a xss:=by
 obtain ⟨as,h1,h2,h3⟩:=h
 exact ⟨as,e.seq h1,h2,λj p ns q1 q2=>e _ _ (h3 j p ns q1 q2)⟩
structure Callee (P:Program) (w:World) (K:W.Frag) (mg:Str->Option Value) (base:Heap) (CX:CXT) (k:Nat) (x:Str) (ps:List Str) (sp:Sp):Prop where
 ex:∃ f fd,FnOk P w K mg base CX k f fd ps sp∧mg x=some (.ref f)∧W.keepIn K (.ref f)=true∧zfA K fd ps []
section
variable {X:Cx} {CX:CXT} {k:Nat} {ps:List Str} {sp:Sp} {E:XK} {x:Str} {p pos:Pos} {e:Expr} {es:List Expr} {t:TA}
theorem zaF (F:Callee X.prog X.w X.K X.mg X.base CX k x ps sp) (hr:Room k X.A) (hg:Gl X x) (hx:zgj CX X E)
  (ha:PA X (e::es) t) (hdb:(x==("__debug__" :Str))=false:=by decide) (he:starEach (e::es) X.env=(false,eval e X.env) :: starEach es X.env:=by rfl) (hpl:(↑64).any (·.1)=false:=by rfl) :
  PE X (.Call (.Name x p) (e::es) [] pos) (tCall sp [] E t):=by
 obtain ⟨f,fd,G,hm,hk,hb⟩:=F.ex
 exact zqV G hr hg hm hk hb .nil hx ha hdb he hpl
end
section
variable {X:Cx} {K:W.Frag}
theorem zaz (hK:X.K=K):ziz X (.builtin "len") ↑95:=by subst hK;exact zkt
theorem zdx (hK:X.K=K):ziz X (.type "list") (λxs H Q=>∃p ys,xs=[.ref p]∧(SqL K H p ys∨SqT K H p ys)∧∀l,H l=none->Q (.ref l) (upd H l (.lst ys))):=by subst hK;exact zkk
theorem zmL (hK:X.K=K) (hc:X.calm=true):ziz X (.builtin "sum") (λxs H Q=>∃(a:Addr) (ns:Ji),xs=[.ref a]∧SqL K H a (ns.map V.int)∧Q (.int ns.sum) H):=by subst hK;exact zn9 hc
theorem zap (hK:X.K=K):IxR X (zrI K):=by subst hK;exact zrl
theorem za9 (hK:X.K=K):IxR X (ztX K):=by subst hK;exact zsD
theorem zcr (hK:X.K=K):SlR X (ztE K):=by subst hK;exact zrb
theorem zkJ (hK:X.K=K) (hu:X.A.units+64<cLine):OpR X (compareOp .Eq) (zpb K false):=by subst hK;exact zsz hu
theorem zlb (hK:X.K=K) (hu:X.A.units+64<cLine):OpR X (compareOp .NotEq) (zpb K true):=by subst hK;exact ztm hu
theorem zas {e:Expr} {f:Str} {pos:Pos} {ta:TE} (hK:X.K=K) (he:PE X e ta) (hb:attributeBase e f X.env (eval e X.env)=eval e X.env):PE X (.Attribute e f pos) (tFld K ta f):=by subst hK;exact ztn he hb
theorem zaZ {tg l:Expr} {tl:TE} (hK:X.K=K) (hl:PE X l tl):PI X tg l (zpH K tl):=by subst hK;exact zru hl
theorem zd9 {a b:Expr} {ta:TA} {p pos tp:Pos} {elts:List Expr} {x1:Nat} (hK:X.K=K) (hg:Gl X "zip") (hm:X.mg "zip"=none) (ha:PA X [a,b] ta) (hs:starEach [a,b] X.env=[(false,eval a X.env),(false,eval b X.env)]:=by rfl) (hs2:starEach [b] X.env=[(false,eval b X.env)]:=by rfl) :
  PI X (.Tuple elts x1 tp) (.Call (.Name "zip" p) [a,b] [] pos) (zt8 K ta):=by subst hK;exact zsE hg hm ha hs hs2
theorem zb3 {es:List Expr} {k:Nat} {t:TGs} {n:Nat} {pos:Pos} (hK:X.K=K) (hc:X.calm=true) (h:PGs X es t)
  (hn:((assignEach es X.env)).length=n:=by rfl) (hst:((assignEach es X.env)).findIdx? (·.1)=none:=by rfl):PG X (.Tuple es k pos) (zq7 K n t):=by subst hK;exact zsR hc h hn hst
theorem zb1 {o e:Expr} {to:TE} {t:TA} {apos cpos:Pos} (hK:X.K=K) (ho:PE X o to) (ha:PA X [e] t)
  (hbase:attributeBase o "append" X.env (eval o X.env)=eval o X.env:=by rfl)
  (hfew:((backTo cpos (starEach [e] X.env)).all (λx=>!x.1)&&((backToKw cpos (keywordEach [] X.env))).all (λx=>x.1.isSome)
   &&decide (([e]:List Expr).length+([]:List Keyword).length+(if ([]:List Keyword).isEmpty then 0 else 1)<30))=true:=by rfl)
  (hline:(apos.endLine == cpos.line)=true:=by rfl) (hs:starEach [e] X.env=(false,eval e X.env) :: starEach [] X.env:=by rfl) (hplain:(backTo cpos (starEach [] X.env)).any (·.1)=false:=by rfl) :
  PE X (.Call (.Attribute o "append" apos) [e] [] cpos) (tBM K "list" zid to t):=by
 subst hK
 exact zua PySem.F.plainAttrs_list PySem.F.slot_list_append PySem.F.type_list_append zj4 ho ha hbase hfew hline hs hplain
end
end L2
namespace L2
open PySem PySem.Spec PyProof.Rows
theorem zan {n:Nat} (h:n≤10000):n≤sizeLine:=Nat.le_trans h ↑1
end L2
namespace L2
open PySem PySem.Spec PyProof.Rows
theorem ziO (o:Obj) (f:Array Value->Array Value):(o.mapFields f).dict=o.dict:=by
 obtain ⟨c,d,dt,sl⟩:=o
 cases dt<;>rfl
section
variable {M:Model} {A:Around} {E:Value->Shared->Prop} {s:Shared}
theorem zok {base:Heap} {env:Env} {outer:List Env} {L e:Addr} {oe:Obj} {vs:Array Value} {head:Value} {hadNext:Bool} {Q:Unit->Shared->Prop}
  (hfr:A.frames=some (env :: outer)) (hl:s.heap.FunFrames base (env :: outer)) (hf:env.frame=some L) (he:s.heap.get? e=some oe) (hd:oe.data=.fields vs) (hsz:1<vs.size)
  (h:∀ (h':Heap) (T:Addr) (oT:Obj) (ts:Array Value),(∀ b o,b ∉ frs (env :: outer)->b≠e->s.heap.get? b=some o->h'.get? b=some o)->(∀ b o,b≠e->s.heap.get? b=some o->∃ sl,h'.get? b=some { o with slots:=sl }) →
   h'.get? e=some (oe.mapFields (·.setIfInBounds 1 (.ref T)))->s.heap.objs.size≤T->h'.get? T=some oT->oT.data=.fields ts->ts[3]?=some (rawInt L)->Q () { s with heap:=h' }) :
  wpAny M A (do let a ← frameOf env;let pl ← entryPlaceOf L hadNext;let b ← EntryCells.newEntry head a .none (rawInt L) .none pl;setField (.ref e) 1 b) Q E s:=by
 have hene:e ∉ (env :: outer).filterMap (·.frame):=λhm=>by
  obtain ⟨_,o,ho,hnf⟩:=hl.mem hm
  rw [he] at ho;injection ho with ho;subst ho;exact hnf vs hd
 refine wpAny_bind (wpAny_frameOf_fun hfr hl hf λh₁ hs₁=>?_)
 refine wpAny_bind (wpAny_entryPlaceOf λpl hpl=>?_)
 unfold EntryCells.newEntry newFields
 refine wpAny_bind (wpAny_newObj_type ?_ (hpl.sizeOk5 _ _ _ _ _))
 have he₁:h₁.get? e=some oe:=(hs₁.2.1 e hene).trans he
 have he₂:=Heap.get?_push_of_some (h:=h₁) { cls:=.type "traceback",dict:=none,data:=.fields (([head,.ref L,.none,rawInt L,.none]++(if pl.isEmpty then List.replicate 6 Value.none else pl))).toArray } he₁
 refine wpAny_setField he₂ hd hsz ?_
 have hTe:h₁.objs.size≠e:=Nat.ne_of_gt (Heap.lt_size he₁)
 have hd₃:=Obj.data_mapFields hd (·.setIfInBounds 1 (Value.ref h₁.objs.size))
 have he₃:=Heap.get?_update_self (Obj.mapFields (·.setIfInBounds 1 (Value.ref h₁.objs.size))) he₂ (Obj.isFreed_of_fields hd₃)
 have hT₃:=(Heap.get?_update_other (h₁.push { cls:=.type "traceback",dict:=none,data:=.fields (([head,.ref L,.none,rawInt L,.none]++(if pl.isEmpty then List.replicate 6 Value.none else pl))).toArray })
  (Obj.mapFields (·.setIfInBounds 1 (Value.ref h₁.objs.size))) (Ne.symm hTe)).trans (Heap.get?_push_size h₁ rfl)
 refine h _ h₁.objs.size _ _ (λb o hb hbe e1=>?_) (λb o hbe e1=>?_) he₃ (Nat.le_of_eq hs₁.1.symm) hT₃ rfl (by first | (simp;done) | (rcases hpl with rfl | ⟨_,_,_,_,_,_,_,rfl⟩<;>simp))
 ·rw [Heap.get?_update_other _ _ (Ne.symm hbe)]
  exact Heap.get?_push_of_some _ ((hs₁.2.1 b hb).trans e1)
 ·obtain ⟨sl,e2⟩:=hs₁.2.2 b o e1
  exact ⟨sl,by rw [Heap.get?_update_other _ _ (Ne.symm hbe)];exact Heap.get?_push_of_some _ e2⟩
end
def ExcAt (h:Heap) (H:Hp) (Fz:Addr->Prop) (L e:Addr) (cls:Value) (dct:Option Addr):Prop :=
 ∃ oe vs a0,h.get? e=some oe∧oe.cls=cls∧oe.dict=dct∧oe.data=.fields vs∧vs[0]?=some a0∧1<vs.size∧H e=none∧Fz e ∧
  (vs[1]?=some .none∨∃ T oT ts,vs[1]?=some (.ref T)∧T≠e∧h.get? T=some oT∧oT.data=.fields ts∧(ts[3]?=some .none∨ts[3]?=some (rawInt L))∧H T=none∧Fz T)
def zkO (h:Heap) (H:Hp) (Fz:Addr->Prop) (fl:Value) (e:Addr) (cls:Value) (dct:Option Addr):Prop :=
 ∃ oe vs a0,h.get? e=some oe∧oe.cls=cls∧oe.dict=dct∧oe.data=.fields vs∧vs[0]?=some a0∧1<vs.size∧H e=none∧Fz e ∧
  ∃ T oT ts,vs[1]?=some (.ref T)∧T≠e∧h.get? T=some oT∧oT.data=.fields ts∧ts[3]?=some fl∧H T=none∧Fz T
theorem zkO.imp {h:Heap} {H:Hp} {Fz Fz':Addr->Prop} {e:Addr} {fl cls:Value} {dct:Option Addr} (x:zkO h H Fz fl e cls dct) (k:∀ b,Fz b->Fz' b):zkO h H Fz' fl e cls dct:=by
 obtain ⟨oe,vs,a0,h1,h2,h3,h4,h5,h6,h7,h8,T,oT,ts,t1,t2,t3,t4,t5,t6,t7⟩:=x
 exact ⟨oe,vs,a0,h1,h2,h3,h4,h5,h6,h7,k _ h8,T,oT,ts,t1,t2,t3,t4,t5,t6,k _ t7⟩
structure Own (X:Cx):Prop where
 stk:X.stack=X.env :: X.outer
 fr:X.env.frame=some X.env.locals
 ex:X.ex=[]
theorem zfv.there {P:Program} {w:World} {H:Hp} {h:Heap} {a:Addr} {o:HO} (x:zfv P w H h a o):∃ ob,h.get? a=some ob:=by
 cases o with
 | lst xs=>obtain ⟨_,_,_,_,e⟩:=x;exact ⟨_,e⟩
 | tup xs=>obtain ⟨_,_,_,o,e,_⟩:=x;exact ⟨_,e⟩
 | dK kvs=>obtain ⟨_,_,_,_,o,_,_,e,_⟩:=x;exact ⟨_,e⟩
 | dT kvs=>obtain ⟨_,_,_,_,o,_,_,e,_⟩:=x;exact ⟨_,e⟩
 | set S n=>obtain ⟨o,_,_,_,e,_⟩:=x;exact ⟨_,e⟩
 | ins C dx fs=>obtain ⟨_,_,_,e,_⟩:=x;exact ⟨_,e⟩
 | own y=>obtain ⟨_,e⟩:=x;exact ⟨_,e⟩
 | xd fs=>obtain ⟨_,⟨_,_,_,e,_⟩,_⟩:=x;exact ⟨_,e⟩
 | rng lo hi=>obtain ⟨_,_,_,e⟩:=x;exact ⟨_,e⟩
 | frz ob u=>obtain ⟨e,_⟩:=x;exact ⟨_,e⟩
 | tbl ps=>exact ⟨_,(show h.get? a=some _ from x)⟩
 | met f y=>exact ⟨_,(show h.get? a=some _ from x)⟩
 | ext φ=>obtain ⟨_,e,_⟩:=x;exact e
section
variable {X:Cx} {pins:List ↥2} {σ:St} {H:Hp} {s:Shared} {h':Heap}
theorem Inv.recs {t':Nat} {ch:List Addr} (I:Inv X pins σ H s) (hch:∀ b∈ch,H b=none∧X.s₀.heap.get? b=none∧b≠X.env.locals∧↑89∧∀ p∈X.pn++pins,p.1≠b)
  (hex:X.ex=[]) (k:∀ b o,b ∉ frs X.stack->b ∉ ch->s.heap.get? b=some o->h'.get? b=some o) (ks:∀ b o,b ∉ ch->s.heap.get? b=some o->∃ sl,h'.get? b=some { o with slots:=sl }) :
  Inv X pins σ H { s with heap:=h',toks:=t' }:=by
 have sub:=I.stkSub
 have nfr:∀ b,b≠X.env.locals->b ∉ X.fs->b ∉ frs X.stack:=λb h1 h2 z=>by
  rcases List.mem_cons.mp (sub b z) with q | q
  ·exact h1 q
  ·exact h2 q
 have cl:∀ x c,X.env.cells.lookup x=some c->c≠X.env.locals:=I.cne
 refine ⟨I.ok,I.os,I.bare,⟨λb o e n hb hx=>?_,λb o e n hb hx=>?_,I.base.free,λb o e hx=>?_,I.base.tups,I.base.frzs,I.base.tbls⟩,?_,λx c e=>?_,I.free,I.freeC,λp hp=>?_,λb u e=>?_,I.len⟩
 ·have nc:b ∉ ch:=λz=>by rw [(hch b z).2.1] at e;cases e
  exact k b o (nfr b (Nat.ne_of_lt ↑86) hb) nc (I.base.keep b o e n hb hx)
 ·have nc:b ∉ ch:=λz=>by rw [(hch b z).2.1] at e;cases e
  obtain ⟨sl,e1⟩:=I.base.slot b o e n hb hx
  obtain ⟨sl',e2⟩:=ks b _ nc e1
  exact ⟨sl',e2⟩
 ·have nc:b ∉ ch:=λz=>by rw [(hch b z).2.1] at e;cases e
  obtain ⟨o',e1⟩:=I.base.there b o e hx
  obtain ⟨sl',e2⟩:=ks b _ nc e1
  exact ⟨_,e2⟩
 ·obtain ⟨m,⟨o,es,ep,ho,hd,r⟩,hl⟩:=I.loc
  have nc:X.env.locals ∉ ch:=λz=>(hch _ z).2.2.1 rfl
  obtain ⟨sl,e1⟩:=ks _ _ nc ho
  refine ⟨m,⟨_,es,ep,e1,hd,r⟩,λi x v e1 e2 e3=>?_⟩
  obtain ⟨u,ru,l⟩:=hl i x v e1 e2 e3
  refine ⟨u,ru,?_⟩
  rcases l with l | ⟨kk,c,e,oc,hoc,hcd⟩
  ·exact .inl l
  ·obtain ⟨sl',e4⟩:=ks c oc (λz=>(hch c z).2.2.2.1 x c e rfl) hoc
   exact .inr ⟨kk,c,e,_,e4,hcd⟩
 ·obtain ⟨v,oc,hoc,hcd⟩:=I.cell x c e
  obtain ⟨sl',e4⟩:=ks c oc (λz=>(hch c z).2.2.2.1 x c e rfl) hoc
  exact ⟨v,_,e4,hcd⟩
 ·obtain ⟨e,n,ne,nf,d⟩:=I.pin p hp
  exact ⟨k _ _ (nfr _ ne nf) (λz=>(hch _ z).2.2.2.2 p hp rfl) e,n,ne,nf,d⟩
 ·refine ((I.hok b u e)).stay (λc v hc q=>?_) (λ_ q=>q) λ_ _ q=>q
  have trk:∃ u',H c=some u':=by
   rcases hc with z | z
   ·rw [z];exact ⟨u,e⟩
   ·exact ⟨_,z⟩
  obtain ⟨u',hu'⟩:=trk
  refine k c v (λz=>?_) (λz=>?_) q
  ·rw [I.stkFree c z] at hu';cases hu'
  ·rw [(hch c z).1] at hu';cases hu'
def Fz (X:Cx) (pins:List ↥2) (b:Addr):Prop:=X.s₀.heap.get? b=none∧∀ p∈X.pn++pins,p.1≠b
theorem Inv.fz (I:Inv X pins σ H s) (hex:X.ex=[]) {b:Addr} (h:s.heap.get? b=none):Fz X pins b:=by
 refine ⟨?_,λp hp z=>?_⟩
 ·cases q:X.s₀.heap.get? b with
  | none=>rfl
  | some o =>
   obtain ⟨o',e⟩:=I.base.there b o q (by rw [hex];simp)
   rw [h] at e;cases e
 ·rw [← z,(I.pin p hp).1] at h;cases h
theorem Inv.tfree (I:Inv X pins σ H s) {b:Addr} (h:s.heap.get? b=none):H b=none:=by
 cases q:H b with
 | none=>rfl
 | some u =>
  have:=(I.hok b u q).lt
  cases e:s.heap.get? b with
  | none =>
   obtain ⟨o,e'⟩:=zfv.there (I.hok b u q)
   rw [h] at e';cases e'
  | some o=>rw [h] at e;cases e
theorem zir (I:Inv X pins σ H s) {b:Addr} {o:Obj} {vs:Array Value} (e:s.heap.get? b=some o) (hd:o.data=.fields vs) (hn:H b=none) (hF:Fz X pins b) :
  H b=none∧X.s₀.heap.get? b=none∧b≠X.env.locals∧↑89∧∀ p∈X.pn++pins,p.1≠b:=by
 refine ⟨hn,hF.1,λz=>?_,λx c ec z=>?_,hF.2⟩
 ·obtain ⟨m,⟨o',es,ep,ho',hd',_⟩,_⟩:=I.loc
  rw [← z,e] at ho';cases ho';rw [hd] at hd';cases hd'
 ·obtain ⟨v,oc,hoc,hcd⟩:=I.cell x c ec
  rw [z,e] at hoc;cases hoc;rw [hd] at hcd;cases hcd
theorem zoO {M:Model} {E:Value->Shared->Prop} {e:Addr} {cls:Value} {dct:Option Addr} {Q:Unit->Shared->Prop} (O:Own X) (I:Inv X pins σ H s) (x:ExcAt s.heap H (Fz X pins) X.env.locals e cls dct)
  {A:Around} (hA:A.frames=X.A.frames) (hQ:∀ s',Inv X pins σ H s'->zkO s'.heap H (Fz X pins) (rawInt X.env.locals) e cls dct->Q () s'):wpAny M A (noteFrame (.ref e) X.env) Q E s:=by
 obtain ⟨oe,vs,a0,h1,h2,h3,h4,h5,h6,h7,h8,h9⟩:=x
 have hfr:A.frames=some (X.env :: X.outer):=by rw [hA,I.ok.frames,O.stk]
 have hfun:s.heap.FunFrames X.base (X.env :: X.outer):=by have:=I.stack;rw [O.stk] at this;exact this
 have ae:=zir I h1 h4 h7 h8
 have newE:∀ (s1:Shared) (head:Value) (hadNext:Bool),Inv X pins σ H s1->s1.heap.get? e=some oe->(∀ b,b∈X.env :: X.outer->True) →
   wpAny M A (do let a ← frameOf X.env;let pl ← entryPlaceOf X.env.locals hadNext;let b ← EntryCells.newEntry head a .none (rawInt X.env.locals) .none pl;setField (.ref e) 1 b) Q E s1:=λs1 head hadNext I1 e1 _=>by
  have hfun1:s1.heap.FunFrames X.base (X.env :: X.outer):=by have:=I1.stack;rw [O.stk] at this;exact this
  refine zok hfr hfun1 O.fr e1 h4 h6 λh' T oT ts k ks he hT hgT hdT ht3=>?_
  have hTn:s1.heap.get? T=none:=Heap.get?_none_of_le hT
  have I2:Inv X pins σ H { s1 with heap:=h' }:=by
   refine I1.recs (t':=s1.toks) (ch:=[e]) (λb hb=>?_) O.ex (λb o hb hc q=>?_) (λb o hc q=>?_)
   ·rw [List.mem_singleton.mp hb];exact ae
   ·rw [O.stk] at hb
    exact k b o hb ↑85 q
   ·exact ks b o ↑85 q
  refine hQ _ I2 ⟨_,_,a0,he,(Obj.cls_mapFields _ _).trans h2,(ziO _ _).trans h3,Obj.data_mapFields h4 _,?_,?_,h7,h8,T,oT,ts,?_,?_,hgT,hdT,ht3,I1.tfree hTn,I1.fz O.ex hTn⟩
  ·rw [Array.getElem?_setIfInBounds_ne ↑1];exact h5
  ·rw [Array.size_setIfInBounds];exact h6
  ·rw [Array.getElem?_setIfInBounds_self_of_lt h6]
  ·intro z;rw [z,e1] at hTn;cases hTn
 unfold noteFrame
 simp only [O.fr]
 rcases h9 with h9 | ⟨T,oT,ts,t1,t2,t3,t4,t5,t6,t7⟩
 ·refine wpAny_bind (wpAny_field h1 h4 h9 ?_)
  rw [if_neg ↑1]
  exact newE s _ _ I h1 (λ_ _=>trivial)
 ·refine wpAny_bind (wpAny_field h1 h4 t1 ?_)
  rw [if_pos (show (Value.ref T !=Value.none)=true from by simp)]
  rcases t5 with t5 | t5
  ·refine wpAny_bind (wpAny_field t3 t4 t5 ?_)
   rw [if_neg (show ¬ ((Value.none == rawInt X.env.locals)=true) from by simp [rawInt])]
   refine wpAny_bind (wpAny_setField t3 t4 (Array.getElem?_eq_some_iff.mp t5).1 ?_)
   have aT:=zir I t3 t4 t6 t7
   have other:∀ b,b≠T->(s.heap.update T (Obj.mapFields (·.setIfInBounds 3 Value.none))).get? b=s.heap.get? b:=λb hb=>Heap.get?_update_other _ _ (Ne.symm hb)
   have I1:Inv X pins σ H { s with heap:=s.heap.update T (Obj.mapFields (·.setIfInBounds 3 Value.none)) }:=by
    refine I.recs (t':=s.toks) (ch:=[T]) (λb hb=>?_) O.ex (λb o _ hc q=>?_) (λb o hc q=>⟨o.slots,?_⟩)
    ·rw [List.mem_singleton.mp hb];exact aT
    ·exact (other b ↑85).trans q
    ·exact (other b ↑85).trans q
   exact newE _ _ _ I1 ((other e (Ne.symm t2)).trans h1) (λ_ _=>trivial)
  ·refine wpAny_bind (wpAny_field t3 t4 t5 ?_)
   rw [if_pos (show (rawInt X.env.locals == rawInt X.env.locals)=true from by simp)]
   exact wpAny_pure (hQ s I ⟨oe,vs,a0,h1,h2,h3,h4,h5,h6,h7,h8,T,oT,ts,t1,t2,t3,t4,t5,t6,t7⟩)
theorem zmH {M:Model} {A:Around} {E:Value->Shared->Prop} {e:Addr} {fl cls:Value} {dct:Option Addr} {fr:Option Addr} {Q:Unit->Shared->Prop} (O:Own X) (I:Inv X pins σ H s) (x:zkO s.heap H (Fz X pins) fl e cls dct)
  (hQ:∀ s',Inv X pins σ H s'->zkO s'.heap H (Fz X pins) (fr.elim .none λf=>rawInt f) e cls dct->Q () s'):wpAny M A (setFlight (.ref e) fr) Q E s:=by
 obtain ⟨oe,vs,a0,h1,h2,h3,h4,h5,h6,h7,h8,T,oT,ts,t1,t2,t3,t4,t5,t6,t7⟩:=x
 have h3s:3<ts.size:=(Array.getElem?_eq_some_iff.mp t5).1
 have aT:=zir I t3 t4 t6 t7
 have other:∀ b,b≠T->(s.heap.update T (Obj.mapFields (·.setIfInBounds 3 (fr.elim Value.none λf=>rawInt f)))).get? b=s.heap.get? b:=λb hb=>Heap.get?_update_other _ _ (Ne.symm hb)
 unfold setFlight
 refine wpAny_bind (wpAny_field h1 h4 t1 ?_)
 rw [if_pos (show (Value.ref T !=Value.none)=true from by simp)]
 refine wpAny_setField t3 t4 h3s (hQ _ ?_ ?_)
 ·refine I.recs (t':=s.toks) (ch:=[T]) (λb hb=>?_) O.ex (λb o _ hc q=>?_) (λb o hc q=>⟨o.slots,?_⟩)
  ·rw [List.mem_singleton.mp hb];exact aT
  ·exact (other b ↑85).trans q
  ·exact (other b ↑85).trans q
 ·exact ⟨oe,vs,a0,(other e (Ne.symm t2)).trans h1,h2,h3,h4,h5,h6,h7,h8,T,_,_,t1,t2,Heap.get?_update_self _ t3 (Obj.isFreed_of_fields (Obj.data_mapFields t4 _)),Obj.data_mapFields t4 _,by rw [Array.getElem?_setIfInBounds_self_of_lt h3s],t6,t7⟩
end
end L2
namespace L2
open PySem PySem.Spec PyProof.Rows
def XP (X:Cx) (pins:List ↥2) (σ:St) (E:XK) (ev:Value) (s':Shared):Prop :=
 ∃ e cls dct H',ev=.ref e∧Inv X pins σ H' s'∧ExcAt s'.heap H' (Fz X pins) X.env.locals e cls dct∧E cls dct H'
abbrev XS:=St->XK
def XPs (X:Cx) (pins:List ↥2) (E:XS) (ev:Value) (s':Shared):Prop:=∃ σ',XP X pins σ' (E σ') ev s'
def CXE (P:Program) (w:World):CXT:=λouter H s E ev s'=>∃ e cls dct H',ev=.ref e∧s'.os=s.os∧AllBare s'.gens∧Un (frs outer) [] H H' s.heap s'.heap∧HOk P w H' s'.heap ∧
 zkO s'.heap H' (λb=>s.heap.get? b=none) .none e cls dct∧E cls dct H'
theorem zav {P:Program} {w:World} {X:Cx}:zgj ⇑1 X E0:=λ_ _ _ _ _ _ _ h=>by
 obtain ⟨_,_,_,_,_,_,_,_,_,_,f⟩:=h
 exact False.elim f
abbrev TEX:=St->Hp->VK->XK->Prop
abbrev TSX:=Ends->XS->St->Hp->Prop
def zvc (X:Cx) (st:List Stmt) (t:TSX):Prop :=
 ∀ (pins:List ↥2) (s:Shared) (σ:St) (H:Hp) (D:Ends) (E:XS),Inv X pins σ H s->t D E σ H->wpAny ⇑3 X.A (execs st X.env) (SP X pins D) (XPs X pins E) s
section
variable {X:Cx} {e:Expr} {st:Stmt} {rest:List Stmt} {pos:Pos}
theorem zj0 {sts:List Stmt} {t:TS} (h:PSs X.nox sts t):zvc X sts (λD _ σ H=>t D σ H):=λpins s σ H D E I hw =>
 wpAny_mono (h pins s σ H D (I.wish _) hw) (λ_ _ q=>SP.unwish q) λ_ _ f=>f.elim
end
section
variable {X:Cx} {k:Nat} {ps:List Str} {sp:Sp} {x:Str} {p pos:Pos} {e:Expr} {es:List Expr} {t:TA}
end
section
variable {P:Program} {w:World} {K:W.Frag} {mg:Str->Option Value} {base:Heap}
theorem zm3 {N:List Str} {qual:Str} {scope:Scope} {f:Addr} {cd:Value} {A:Around} {outer:List Env} {s:Shared} {H:Hp} {E:XK} {pins:List ↥2} {ev:Value} {s':Shared}
  (h:XPs (zmY ⇑1 P w K mg base N qual scope f cd A outer s H E) pins (λ_=>E) ev s'):((zmY ⇑1 P w K mg base N qual scope f cd A outer s H E)).xe ev s':=by
 obtain ⟨σ',e,cls,dct,H',rfl,I,x,q⟩:=h
 have O:Own (zmY ⇑1 P w K mg base N qual scope f cd A outer s H E):=⟨rfl,rfl,rfl⟩
 show wpAny _ _ (leaving _ (.ref e)) _ _ s'
 unfold leaving
 refine wpAny_bind (zoO O I x rfl λs1 I1 x1=>?_)
 refine zmH (fr:=none) O I1 x1 λs2 I2 x2=>?_
 exact ⟨e,cls,dct,H',rfl,I2.os,I2.bare,I2.base,I2.hok,x2.imp (λb hb=>hb.1),q⟩
theorem Fun.okX {x qual:Str} {st:Stmt} {f:Addr} {fd:FuncData} {N ps:List Str} {k:Nat} {sp:Sp} (F:Fun K x qual st f fd) (S:FnScope N ps (zaf st)) (len:∀ vs H Q E,sp vs H Q E->vs.length=ps.length)
  (hbody:∀ (cdv:Value) (A:Around) (outer:List Env) (s:Shared) (H:Hp) (vs:List V) (Q:VK) (E:XK),Room k (A.deeper (envOfC qual (zaf st) s.heap.objs.size f cdv))->sp vs H Q E →
   ∃ t,zvc (zmY ⇑1 P w K mg base N qual (zaf st) f cdv A outer s H E) (zaw st) t∧t { nx:=λ_ H'=>Q .non H',rt:=Q } (λ_=>E) (start N vs) H):FnOk P w K mg base ⇑1 (k+1) f fd ps sp:=by
 obtain ⟨oc,od,kV,doc,pm,an,cdv,ct,osl,rfl,lk,hcd⟩:=F.ex
 refine zun lk hcd S len λA outer s H vs Q E hr hsp=>?_
 obtain ⟨t,h,q⟩:=hbody cdv A outer s H vs Q E hr hsp
 exact ⟨λD σ H=>t D (λ_=>E) σ H,λpins s1 σ H1 D I hw=>wpAny_mono (h pins s1 σ H1 D _ I hw) (λ_ _ q=>q) λ_ _ q=>zm3 q,q⟩
end
end L2
namespace L2
open PySem PySem.Spec PyProof.Rows
structure Ds where
 pr:Hp->V->Prop
 up:∀ {H H':Hp} {v:V},Same H H'->pr H v->pr H' v
theorem zdM {ds:List Ds} {H H':Hp} (e:Same H H'):∀ {vs:List V} {ds:List Ds},Paired (λv (d:Ds)=>d.pr H v) vs ds->Paired (λv (d:Ds)=>d.pr H' v) vs ds
 | _,_,.nil=>.nil
 | _,_,.cons (b:=d) h t=>.cons (d.up e h) (zdM (ds:=[]) e t)
theorem zb6 {α β:Type} {R S:α->β->Prop} (h:∀ a b,R a b->S a b):∀ {xs:List α} {ys:List β},Paired R xs ys->Paired S xs ys
 | _,_,.nil=>.nil
 | _,_,.cons q t=>.cons (h _ _ q) (zb6 h t)
theorem zbw {α β:Type} {R:α->β->Prop}:∀ {xs:List α} {ys:List β} {i:Nat} {y:β},Paired R xs ys->ys[i]?=some y->∃ x,xs[i]?=some x∧R x y
 | _,_,_,_,.nil,e=>by simp at e
 | _,_,0,_,.cons r _,e=>by simp at e;subst e;exact ⟨_,rfl,r⟩
 | _,_,i+1,y,.cons _ t,e=>by
  obtain ⟨u,h1,h2⟩:=zbw (i:=i) (y:=y) t (by simpa using e)
  exact ⟨u,by simpa using h1,h2⟩
theorem zdb {α β:Type} {R:α->β->Prop}:∀ {xs xs':List α} {ys ys':List β},Paired R xs ys->Paired R xs' ys'->Paired R (xs++xs') (ys++ys')
 | _,_,_,_,.nil,s=>s
 | _,_,_,_,.cons r t,s=>.cons r (zdb t s)
theorem zi6 {α β:Type} {R:α->β->Prop} {x:α} {y:β} (r:R x y):∀ {xs:List α} {ys:List β} (i:Nat),Paired R xs ys->Paired R (xs.set i x) (ys.set i y)
 | _,_,_,.nil=>.nil
 | _,_,0,.cons _ t=>.cons r t
 | _,_,i+1,.cons q t=>.cons q (zi6 r i t)
theorem zib {α β:Type} {R:α->β->Prop}:∀ {xs:List α} {ys:List β} (n:Nat),Paired R xs ys->Paired R (xs.take n) (ys.take n)
 | _,_,0,_=>.nil
 | _,_,_+1,.nil=>.nil
 | _,_,n+1,.cons r t=>.cons r (zib n t)
theorem ziB {α β:Type} {R:α->β->Prop}:∀ {xs:List α} {ys:List β} (n:Nat),Paired R xs ys->Paired R (xs.drop n) (ys.drop n)
 | _,_,0,r=>r
 | _,_,_+1,.nil=>.nil
 | _,_,n+1,.cons _ t=>ziB n t
theorem ziX {α β:Type} {R:α->β->Prop} {xs:List α} {ys:List β} (h:Paired R xs ys):∀ n:Nat,Paired R (List.replicate n xs).flatten (List.replicate n ys).flatten
 | 0=>.nil
 | n+1=>by
  rw [List.replicate_succ,List.replicate_succ,List.flatten_cons,List.flatten_cons]
  exact zdb h (ziX h n)
abbrev dV (v:V):Ds:=⟨λ_ u=>u=v,λ_ h=>h⟩
abbrev dI (n:Int):Ds:=dV (.int n)
abbrev dB (b:Bool):Ds:=dV (.bl b)
abbrev dN:Ds:=dV .non
abbrev dS (x:Str):Ds:=dV (.str x)
def dL (ds:List Ds):Ds:=⟨λH v=>∃ p vs,v=.ref p∧H p=some (.lst vs)∧Paired (λv (d:Ds)=>d.pr H v) vs ds,λe ⟨p,vs,h1,h2,h3⟩=>⟨p,vs,h1,e _ _ h2,zdM (ds:=[]) e h3⟩⟩
def dQ (K:W.Frag) (ds:List Ds):Ds:=⟨λH v=>∃ p vs,v=.ref p∧SqL K H p vs∧Paired (λv (d:Ds)=>d.pr H v) vs ds,λe ⟨p,vs,h1,h2,h3⟩=>⟨p,vs,h1,e.seq h2,zdM (ds:=[]) e h3⟩⟩
def dT (ds:List Ds):Ds:=⟨λH v=>∃ p vs,v=.ref p∧H p=some (.tup vs)∧Paired (λv (d:Ds)=>d.pr H v) vs ds,λe ⟨p,vs,h1,h2,h3⟩=>⟨p,vs,h1,e _ _ h2,zdM (ds:=[]) e h3⟩⟩
def dO (C:Addr) (fs:List (Str×Ds)):Ds:=⟨λH v=>∃ p dx vs,v=.ref p∧H p=some (.ins C dx vs)∧H dx=some (.own p)∧Paired (λ(a:Str×V) (b:Str×Ds)=>a.1=b.1∧b.2.pr H a.2) vs fs,
 λe ⟨p,dx,vs,h1,h2,h3,h4⟩=>⟨p,dx,vs,h1,e _ _ h2,e _ _ h3,zb6 (λ_ b q=>⟨q.1,b.2.up e q.2⟩) h4⟩⟩
class Enc (α:Type) where
 d:α->Ds
instance:Enc Int:=⟨dI⟩
instance:Enc Bool:=⟨dB⟩
instance:Enc Unit:=⟨λ_=>dN⟩
instance:Enc Str:=⟨dS⟩
instance {α:Type} [Enc α]:Enc (List α):=⟨λxs=>dL (xs.map Enc.d)⟩
instance {α β:Type} [Enc α] [Enc β]:Enc (α×β):=⟨λp=>dT [Enc.d p.1,Enc.d p.2]⟩
instance {α:Type} [Enc α]:Enc (Option α):=⟨λo=>match o with | none=>dN | some x=>Enc.d x⟩
structure T3 (α β γ:Type) where
 a:α
 b:β
 c:γ
instance {α β γ:Type} [Enc α] [Enc β] [Enc γ]:Enc (T3 α β γ):=⟨λp=>dT [Enc.d p.a,Enc.d p.b,Enc.d p.c]⟩
structure Grow (F H F' H':Hp):Prop where
 f:Same F F'
 fh:Same F' H'
 h:Same H H'
 no:∀ a,H a≠none->F a=none->F' a=none
theorem Grow.refl {F H:Hp} (e:Same F H):Grow F H F H:=⟨Same.refl _,e,Same.refl _,λ_ _ h=>h⟩
theorem Same.some {H H':Hp} (e:Same H H') {a:Addr} (h:H a≠none):H' a≠none:=by
 cases q:H a with
 | none=>exact absurd q h
 | some o=>rw [e _ _ q];simp
theorem Grow.trans {F H F' H' F'' H'':Hp} (g:Grow F H F' H') (k:Grow F' H' F'' H''):Grow F H F'' H'' :=
 ⟨g.f.trans k.f,k.fh,g.h.trans k.h,λa h1 h2=>k.no a (g.h.some h1) (g.no a h1 h2)⟩
theorem Grow.new {F H F' H':Hp} (g:Grow F H F' H') {p:Addr} {o:HO} (hp:H' p=none):Grow F H (upd F' p o) (upd H' p o):=by
 have hf:F' p=none:=by
  cases q:F' p with
  | none=>rfl
  | some u=>rw [g.fh _ _ q] at hp;cases hp
 refine ⟨g.f.trans (Same.new hf _),λa u q=>?_,g.h.trans (Same.new hp _),λa h1 h2=>?_⟩
 ·by_cases e:a=p
  ·subst e;rw [zaG] at q ⊢;exact q
  ·rw [zax e] at q ⊢;exact g.fh _ _ q
 ·have:a≠p:=λe=>by subst e;exact (g.h.some h1) hp
  rw [zax this];exact g.no a h1 h2
theorem Grow.newH {F H F' H':Hp} (g:Grow F H F' H') {p:Addr} {o:HO} (hp:H' p=none):Grow F H F' (upd H' p o) :=
 ⟨g.f,g.fh.trans (Same.new hp _),g.h.trans (Same.new hp _),g.no⟩
theorem Grow.setH {F H F' H':Hp} (g:Grow F H F' H') {p:Addr} {o:HO} (hf:F' p=none) (hp:H p=none):Grow F H F' (upd H' p o) :=
 ⟨g.f,λa u q=>by rw [zax (zbk q hf)];exact g.fh _ _ q,λa u q=>by rw [zax (zbk q hp)];exact g.h _ _ q,g.no⟩
theorem Grow.take {F H F' H':Hp} (g:Grow F H F' H') {p:Addr} {o:HO} (hp:H p=none) (e:H' p=some o):Grow F H (upd F' p o) H':=by
 refine ⟨λa u q=>?_,λa u q=>?_,g.h,λa h1 h2=>?_⟩
 ·by_cases z:a=p
  ·subst z
   have:=g.fh _ _ (g.f _ _ q)
   rw [e] at this;cases this;exact zaG
  ·rw [zax z];exact g.f _ _ q
 ·by_cases z:a=p
  ·subst z;rw [zaG] at q;cases q;exact e
  ·rw [zax z] at q;exact g.fh _ _ q
 ·have:a≠p:=λz=>by subst z;exact h1 hp
  rw [zax this];exact g.no a h1 h2
def off (F Hb:Hp):Hp:=λa=>match Hb a with | none=>F a | some _=>none
theorem zcm {F Hb:Hp} {a:Addr} {o:HO}:off F Hb a=some o ↔ Hb a=none∧F a=some o:=by
 unfold off
 cases q:Hb a with
 | none=>simp
 | some u=>simp
theorem zmf {F F' Hb:Hp} (e:Same F F'):Same (off F Hb) (off F' Hb):=λa o q=>by
 rw [zcm] at q ⊢;exact ⟨q.1,e _ _ q.2⟩
theorem zlk {F Hb:Hp}:Same (off F Hb) F:=λa o q=>(zcm.mp q).2
theorem zkI {F Hb Hc:Hp} (e:Same Hb Hc):Same (off F Hc) (off F Hb):=λa o q=>by
 rw [zcm] at q ⊢
 refine ⟨?_,q.2⟩
 cases z:Hb a with
 | none=>rfl
 | some u=>rw [e _ _ z] at q;cases q.1
def part (m:Bool) (F Hb:Hp):Hp:=match m with | true=>off F Hb | false=>F
theorem zbq {m:Bool} {F F' Hb:Hp} (e:Same F F'):Same (part m F Hb) (part m F' Hb):=by
 cases m with
 | true=>exact zmf e
 | false=>exact e
theorem zbj {m:Bool} {F Hb:Hp}:Same (part m F Hb) F:=by
 cases m with
 | true=>exact zlk
 | false=>exact Same.refl _
theorem zer {m:Bool} {F Hb:Hp} {p:Addr} {o:HO} (hb:Hb p=none) (hp:F p=some o):part m F Hb p=some o:=by
 cases m with
 | true=>exact zcm.mpr ⟨hb,hp⟩
 | false=>exact hp
inductive Slot where
 | no
 | va (m:Bool) (d:Ds)
 | ow (m:Bool) (ds:List Ds)
 | ob (m:Bool) (C p dx:Addr) (fs:List (Str×Ds))
 | tl (d:Ds)
 | ol (p:Addr) (ds:List Ds)
abbrev Ctx:=List Slot
def zgQ (Hb F H:Hp) (own:Nat->Option Addr) (i:Nat) (v:Option V):Slot->Prop
 | .tl d=>∃ x R,v=some x∧Same R H∧(∀ a o,R a=some o->F a=none∧Hb a=none)∧(∀ j p,own j=some p->R p=none)∧d.pr R x
 | .no=>True
 | .va m d=>∃ x,v=some x∧d.pr (part m F Hb) x
 | .ow m ds=>∃ p vs,v=some (.ref p)∧own i=some p∧F p=none∧Hb p=none∧H p=some (.lst vs)∧Paired (λv (d:Ds)=>d.pr (part m F Hb) v) vs ds
 | .ol p ds=>∃ vs,v=some (.ref p)∧own i=some p∧F p=none∧Hb p=none∧H p=some (.lst vs)∧Paired (λv (d:Ds)=>d.pr F v) vs ds
 | .ob m C p dx fs=>∃ vs,v=some (.ref p)∧own i=some p∧(F p=none∧F dx=none)∧(Hb p=none∧Hb dx=none)∧(H p=some (.ins C dx vs)∧H dx=some (.own p))∧Paired (λ(a:Str×V) (b:Str×Ds)=>a.1=b.1∧b.2.pr (part m F Hb) a.2) vs fs
structure At (F0 Hb F H:Hp) (σ:St) (own:Nat->Option Addr) (Γ:Ctx):Prop where
 g:Grow F0 Hb F H
 inj:∀ i j p,own i=some p->own j=some p->i=j
 liv:∀ i p,own i=some p->H p≠none
 sl:∀ i s,Γ[i]?=some s->zgQ Hb F H own i (σ[i]?).join s
 len:σ.length=Γ.length
theorem zgQ.grow {Hb F H F' H':Hp} {own:Nat->Option Addr} {i:Nat} {v:Option V} {s:Slot} (h:zgQ Hb F H own i v s) (g:Grow F H F' H'):zgQ Hb F' H' own i v s:=by
 cases s with
 | no=>trivial
 | tl d =>
  obtain ⟨x,R,e,h1,h2,h3,h4⟩:=h
  exact ⟨x,R,e,h1.trans g.h,λa o q=>⟨g.no a (by rw [h1 _ _ q];simp) (h2 a o q).1,(h2 a o q).2⟩,h3,h4⟩
 | va m d=>obtain ⟨x,e,q⟩:=h;exact ⟨x,e,d.up (zbq g.f) q⟩
 | ow m ds =>
  obtain ⟨p,vs,e,ho,hf,hb,hp,q⟩:=h
  exact ⟨p,vs,e,ho,g.no p (by rw [hp];simp) hf,hb,g.h _ _ hp,zdM (ds:=[]) (zbq g.f) q⟩
 | ol p ds =>
  obtain ⟨vs,e,ho,hf,hb,hp,q⟩:=h
  exact ⟨vs,e,ho,g.no p (by rw [hp];simp) hf,hb,g.h _ _ hp,zdM (ds:=[]) g.f q⟩
 | ob m C p dx fs =>
  obtain ⟨vs,e,ho,hf,hb,hp,q⟩:=h
  exact ⟨vs,e,ho,⟨g.no p (by rw [hp.1];simp) hf.1,g.no dx (by rw [hp.2];simp) hf.2⟩,hb,⟨g.h _ _ hp.1,g.h _ _ hp.2⟩,zb6 (λ_ b z=>⟨z.1,b.2.up (zbq g.f) z.2⟩) q⟩
theorem At.grow {F0 Hb F H F' H':Hp} {σ:St} {own:Nat->Option Addr} {Γ:Ctx} (a:At F0 Hb F H σ own Γ) (g:Grow F H F' H'):At F0 Hb F' H' σ own Γ :=
 ⟨a.g.trans g,a.inj,λi p e=>g.h.some (a.liv i p e),λi s e=>(a.sl i s e).grow g,a.len⟩
theorem At.fh {F0 Hb F H:Hp} {σ:St} {own:Nat->Option Addr} {Γ:Ctx} (a:At F0 Hb F H σ own Γ):Same F H:=a.g.fh
theorem zfn {σ:St} {i:Nat} {x:Option V} (h:i<σ.length):((σ.set i x)[i]?).join=x:=by
 rw [List.getElem?_set_self h];rfl
theorem zgr {σ:St} {i j:Nat} {x:Option V} (h:i≠j):((σ.set i x)[j]?).join=(σ[j]?).join:=by
 rw [List.getElem?_set_ne h]
theorem At.set {F0 Hb F H:Hp} {σ:St} {own:Nat->Option Addr} {Γ:Ctx} (a:At F0 Hb F H σ own Γ) (i:Nat) {m:Bool} {d:Ds} {v:V} (h:d.pr (part m F Hb) v) :
  At F0 Hb F H (σ.set i (some v)) own (Γ.set i (.va m d)):=by
 refine ⟨a.g,a.inj,a.liv,λj s e=>?_,by simp [a.len]⟩
 by_cases z:i=j
 ·subst z
  have hi:i<Γ.length:=by
   have:=(↑29).1
   simpa using this
  rw [List.getElem?_set_self hi] at e
  cases e
  rw [zfn (by rw [a.len];exact hi)]
  exact ⟨v,rfl,h⟩
 ·rw [List.getElem?_set_ne z] at e
  rw [zgr z]
  exact a.sl j s e
theorem At.setOwn {F0 Hb F1 H1 F H:Hp} {σ:St} {own:Nat->Option Addr} {Γ:Ctx} (a1:At F0 Hb F1 H1 σ own Γ) (g:Grow F1 H1 F H) (i:Nat) {m:Bool} {ds:List Ds} {p:Addr} {vs:List V} (h1:H1 p=none) (hf:F p=none) (hp:H p=some (.lst vs))
  (h:Paired (λv (d:Ds)=>d.pr (part m F Hb) v) vs ds):At F0 Hb F H (σ.set i (some (.ref p))) (λj=>if j=i then some p else own j) (Γ.set i (.ow m ds)):=by
 have a:=a1.grow g
 have hb:Hb p=none:=a1.g.h.free h1
 have ho:∀ j,own j≠some p:=λj e=>a1.liv j p e h1
 refine ⟨a.g,λj k q e1 e2=>?_,λj q e=>?_,λj s e=>?_,by simp [a.len]⟩
 ·skip
  split at e1<;>split at e2
  ·omega
  ·cases e1;exact absurd e2 (ho k)
  ·cases e2;exact absurd e1 (ho j)
  ·exact a.inj j k q e1 e2
 ·skip
  split at e
  ·cases e;rw [hp];simp
  ·exact a.liv j q e
 ·by_cases z:i=j
  ·subst z
   have hi:i<Γ.length:=by
    have:=(↑29).1
    simpa using this
   rw [List.getElem?_set_self hi] at e
   cases e
   rw [zfn (by rw [a.len];exact hi)]
   exact ⟨p,vs,rfl,by simp,hf,hb,hp,h⟩
  ·rw [List.getElem?_set_ne z] at e
   rw [zgr z]
   have z':¬ j=i:=Ne.symm z
   cases s with
   | tl d =>
    obtain ⟨x,R,q1,q2,q3,q4,q5⟩:=a1.sl j _ e
    refine ⟨x,R,q1,q2.trans g.h,λb o w=>⟨g.no b (by rw [q2 _ _ w];simp) (q3 b o w).1,(q3 b o w).2⟩,λk q w=>?_,q5⟩
    dsimp only at w
    split at w
    ·cases w;exact q2.free h1
    ·exact q4 k q w
   | no=>trivial
   | va m d=>exact a.sl j _ e
   | ow m ds =>
    obtain ⟨q,us,w1,w2,w3⟩:=a.sl j _ e
    exact ⟨q,us,w1,(if_neg z').trans w2,w3⟩
   | ol q ds =>
    obtain ⟨us,w1,w2,w3⟩:=a.sl j _ e
    exact ⟨us,w1,(if_neg z').trans w2,w3⟩
   | ob m C q dx fs =>
    obtain ⟨us,w1,w2,w3⟩:=a.sl j _ e
    exact ⟨us,w1,(if_neg z').trans w2,w3⟩
theorem At.turn {F0 Hb F H:Hp} {σ:St} {own:Nat->Option Addr} {Γ:Ctx} (a:At F0 Hb F H σ own Γ) {i:Nat} {m n:Bool} {ds es:List Ds} {p:Addr} {ws:List V} (e:Γ[i]?=some (.ow m ds)) (ep:σ[i]?=some (some (.ref p)))
  (h:Paired (λv (d:Ds)=>d.pr (part n F Hb) v) ws es):At F0 Hb F (upd H p (.lst ws)) σ own (Γ.set i (.ow n es)):=by
 obtain ⟨p',vs,e1,e2,hf,hb,hp,_⟩:=a.sl i _ e
 rw [ep] at e1
 have e1':p=p':=by
  have:some (V.ref p)=some (V.ref p'):=e1
  cases this;rfl
 subst e1'
 refine ⟨a.g.setH hf hb,a.inj,λj q ej=>?_,λj s es'=>?_,by simp [a.len]⟩
 ·by_cases z:q=p
  ·subst z;rw [zaG];simp
  ·rw [zax z];exact a.liv j q ej
 ·by_cases z:i=j
  ·subst z
   have hi:i<Γ.length:=(↑29).1
   rw [List.getElem?_set_self hi] at es'
   cases es'
   exact ⟨p,ws,by rw [ep];rfl,e2,hf,hb,zaG,h⟩
  ·rw [List.getElem?_set_ne z] at es'
   have:=a.sl j s es'
   cases s with
   | no=>trivial
   | tl d =>
    obtain ⟨x,R,q1,q2,q3,q4,q5⟩:=this
    exact ⟨x,R,q1,λb o w=>by rw [zax (zbk w (q4 i p e2))];exact q2 b o w,q3,q4,q5⟩
   | va m d=>exact this
   | ow m ds =>
    obtain ⟨q,us,h1,h2,h3,h4,h5,h6⟩:=this
    have:q≠p:=λw=>by subst w;exact z (a.inj i j q e2 h2)
    exact ⟨q,us,h1,h2,h3,h4,by rw [zax this];exact h5,h6⟩
   | ol q ds =>
    obtain ⟨us,h1,h2,h3,h4,h5,h6⟩:=this
    have:q≠p:=λw=>by subst w;exact z (a.inj i j q e2 h2)
    exact ⟨us,h1,h2,h3,h4,by rw [zax this];exact h5,h6⟩
   | ob m C q dx fs =>
    obtain ⟨us,h1,h2,h3,h4,h5,h6⟩:=this
    have n1:q≠p:=λw=>by subst w;exact z (a.inj i j q e2 h2)
    have n2:dx≠p:=zjG h5.2 hp (by intro z;cases z)
    exact ⟨us,h1,h2,h3,h4,⟨by rw [zax n1];exact h5.1,by rw [zax n2];exact h5.2⟩,h6⟩
theorem At.turnOb {F0 Hb F H:Hp} {σ:St} {own:Nat->Option Addr} {Γ:Ctx} (a:At F0 Hb F H σ own Γ) {i:Nat} {m n:Bool} {C p dx:Addr} {fs gs:List (Str×Ds)} {ws:List (Str×V)} (e:Γ[i]?=some (.ob m C p dx fs))
  (h:Paired (λ(a:Str×V) (b:Str×Ds)=>a.1=b.1∧b.2.pr (part n F Hb) a.2) ws gs):At F0 Hb F (upd H p (.ins C dx ws)) σ own (Γ.set i (.ob n C p dx gs)):=by
 obtain ⟨vs,e1,e2,hf,hb,hp,_⟩:=a.sl i _ e
 have ndp:dx≠p:=zjG hp.2 hp.1 (by intro z;cases z)
 refine ⟨a.g.setH hf.1 hb.1,a.inj,λj q ej=>?_,λj s es'=>?_,by simp [a.len]⟩
 ·by_cases z:q=p
  ·subst z;rw [zaG];simp
  ·rw [zax z];exact a.liv j q ej
 ·by_cases z:i=j
  ·subst z
   have hi:i<Γ.length:=(↑29).1
   rw [List.getElem?_set_self hi] at es'
   cases es'
   exact ⟨ws,e1,e2,hf,hb,⟨zaG,by rw [zax ndp];exact hp.2⟩,h⟩
  ·rw [List.getElem?_set_ne z] at es'
   have:=a.sl j s es'
   cases s with
   | no=>trivial
   | tl d =>
    obtain ⟨x,R,q1,q2,q3,q4,q5⟩:=this
    exact ⟨x,R,q1,λb o w=>by rw [zax (zbk w (q4 i p e2))];exact q2 b o w,q3,q4,q5⟩
   | va m d=>exact this
   | ow m ds =>
    obtain ⟨q,us,h1,h2,h3,h4,h5,h6⟩:=this
    have:q≠p:=λw=>by subst w;exact z (a.inj i j q e2 h2)
    exact ⟨q,us,h1,h2,h3,h4,by rw [zax this];exact h5,h6⟩
   | ol q ds =>
    obtain ⟨us,h1,h2,h3,h4,h5,h6⟩:=this
    have:q≠p:=λw=>by subst w;exact z (a.inj i j q e2 h2)
    exact ⟨us,h1,h2,h3,h4,by rw [zax this];exact h5,h6⟩
   | ob m C q dy fs =>
    obtain ⟨us,h1,h2,h3,h4,h5,h6⟩:=this
    have n1:q≠p:=λw=>by subst w;exact z (a.inj i j q e2 h2)
    have n2:dy≠p:=zjG h5.2 hp.1 (by intro z;cases z)
    exact ⟨us,h1,h2,h3,h4,⟨by rw [zax n1];exact h5.1,by rw [zax n2];exact h5.2⟩,h6⟩
inductive Wk:Ctx->Ctx->Prop where
 | nil:Wk [] []
 | eq {s Γ Δ}:Wk Γ Δ->Wk (s :: Γ) (s :: Δ)
 | no {s Γ Δ}:Wk Γ Δ->Wk (s :: Γ) (.no :: Δ)
 | old {m d Γ Δ}:Wk Γ Δ->Wk (.va m d :: Γ) (.va false d :: Δ)
 | oldL {m d Γ Δ}:Wk Γ Δ->Wk (.ow m d :: Γ) (.ow false d :: Δ)
theorem Wk.refl:∀ Γ:Ctx,Wk Γ Γ
 | []=>.nil
 | _ :: Γ=>.eq (Wk.refl Γ)
theorem Wk.len {Γ Δ:Ctx} (h:Wk Γ Δ):Γ.length=Δ.length:=by
 induction h<;>simp_all
theorem Wk.slot {Γ Δ:Ctx} (h:Wk Γ Δ):∀ {i:Nat} {s:Slot},Δ[i]?=some s->∃ r,Γ[i]?=some r∧∀ {Hb F H:Hp} {own:Nat->Option Addr} {j:Nat} {v:Option V},zgQ Hb F H own j v r->zgQ Hb F H own j v s:=by
 induction h with
 | nil=>intro i s e;simp at e
 | eq _ ih =>
  intro i s e
  cases i with
  | zero=>simp at e;subst e;exact ⟨_,rfl,λh=>h⟩
  | succ i=>simpa using ih (i:=i) (s:=s) (by simpa using e)
 | no _ ih =>
  intro i s e
  cases i with
  | zero=>simp at e;subst e;exact ⟨_,rfl,λ_=>trivial⟩
  | succ i=>simpa using ih (i:=i) (s:=s) (by simpa using e)
 | old _ ih =>
  intro i s e
  cases i with
  | zero=>simp at e;subst e;exact ⟨_,rfl,λ⟨x,h1,h2⟩=>⟨x,h1,Ds.up _ zbj h2⟩⟩
  | succ i=>simpa using ih (i:=i) (s:=s) (by simpa using e)
 | oldL _ ih =>
  intro i s e
  cases i with
  | zero=>simp at e;subst e;exact ⟨_,rfl,λ⟨p,vs,h1,h2,h3,h4,h5,h6⟩=>⟨p,vs,h1,h2,h3,h4,h5,zdM (ds:=[]) zbj h6⟩⟩
  | succ i=>simpa using ih (i:=i) (s:=s) (by simpa using e)
theorem At.wk {F0 Hb F H:Hp} {σ:St} {own:Nat->Option Addr} {Γ Δ:Ctx} (a:At F0 Hb F H σ own Γ) (w:Wk Γ Δ):At F0 Hb F H σ own Δ :=
 ⟨a.g,a.inj,a.liv,λi s e=>by
  obtain ⟨r,e1,h⟩:=w.slot e
  exact h (a.sl i r e1),by rw [a.len,w.len]⟩
theorem At.share {F0 Hb F H:Hp} {σ:St} {own:Nat->Option Addr} {Γ:Ctx} (a:At F0 Hb F H σ own Γ) {i:Nat} {m:Bool} {ds:List Ds} (e:Γ[i]?=some (.ow m ds)) :
  ∃ F' own',Grow F0 Hb F' H∧At F0 Hb F' H σ own' (Γ.set i (.va m (dL ds))):=by
 obtain ⟨p,vs,e1,e2,hf,hb,hp,hq⟩:=a.sl i _ e
 have g:=a.g.take hb hp
 have fs:Same F (upd F p (.lst vs)):=Same.new hf _
 refine ⟨upd F p (.lst vs),λj=>if j=i then none else own j,g,g,λj k q h1 h2=>?_,λj q h1=>?_,λj s es=>?_,by simp [a.len]⟩
 ·skip
  split at h1
  ·cases h1
  ·split at h2
   ·cases h2
   ·exact a.inj j k q h1 h2
 ·skip
  split at h1
  ·cases h1
  ·exact a.liv j q h1
 ·by_cases z:i=j
  ·subst z
   have hi:i<Γ.length:=(↑29).1
   rw [List.getElem?_set_self hi] at es
   cases es
   exact ⟨.ref p,e1,p,vs,rfl,zer hb zaG,zdM (ds:=[]) (zbq fs) hq⟩
  ·rw [List.getElem?_set_ne z] at es
   have z':¬ j=i:=Ne.symm z
   have:=a.sl j s es
   cases s with
   | no=>trivial
   | tl d =>
    obtain ⟨x,R,q1,q2,q3,q4,q5⟩:=this
    refine ⟨x,R,q1,q2,λb o w=>⟨by rw [zax (zbk w (q4 i p e2))];exact (q3 b o w).1,(q3 b o w).2⟩,λk q w=>?_,q5⟩
    dsimp only at w
    split at w
    ·cases w
    ·exact q4 k q w
   | va m d=>obtain ⟨x,h1,h2⟩:=this;exact ⟨x,h1,d.up (zbq fs) h2⟩
   | ow m ds =>
    obtain ⟨q,us,h1,h2,h3,h4,h5,h6⟩:=this
    have:q≠p:=λw=>by subst w;exact z (a.inj i j q e2 h2)
    exact ⟨q,us,h1,(if_neg z').trans h2,by rw [zax this];exact h3,h4,h5,zdM (ds:=[]) (zbq fs) h6⟩
   | ol q ds =>
    obtain ⟨us,h1,h2,h3,h4,h5,h6⟩:=this
    have:q≠p:=λw=>by subst w;exact z (a.inj i j q e2 h2)
    exact ⟨us,h1,(if_neg z').trans h2,by rw [zax this];exact h3,h4,h5,zdM (ds:=[]) fs h6⟩
   | ob m C q dx gs =>
    obtain ⟨us,h1,h2,h3,h4,h5,h6⟩:=this
    have n1:q≠p:=λw=>by subst w;exact z (a.inj i j q e2 h2)
    have n2:dx≠p:=zjG h5.2 hp (by intro z;cases z)
    exact ⟨us,h1,(if_neg z').trans h2,⟨by rw [zax n1];exact h3.1,by rw [zax n2];exact h3.2⟩,h4,h5,zb6 (λ_ b z=>⟨z.1,b.2.up (zbq fs) z.2⟩) h6⟩
end L2
namespace L2
open PySem PySem.Spec PyProof.Rows
def Ev (Γ:Ctx) (t:TE) (m:Bool) (d:Ds):Prop:=∀ (F0 Hb F H:Hp) (σ:St) (own:Nat->Option Addr) (Q:VK),At F0 Hb F H σ own Γ →
 (∀ v F' H',Grow F H F' H'->d.pr (part m F' Hb) v->Q v H')->t σ H Q
def EvO (Γ:Ctx) (t:TE) (m:Bool) (ds:List Ds):Prop:=∀ (F0 Hb F H:Hp) (σ:St) (own:Nat->Option Addr) (Q:VK),At F0 Hb F H σ own Γ →
 (∀ p vs F' H',Grow F H F' H'->H p=none->F' p=none->H' p=some (.lst vs)->Paired (λv (d:Ds)=>d.pr (part m F' Hb) v) vs ds->Q (.ref p) H')->t σ H Q
def EvT (Γ:Ctx) (t:TT) (b:Bool):Prop:=∀ (F0 Hb F H:Hp) (σ:St) (own:Nat->Option Addr) (Q:Bool->Hp->Prop),At F0 Hb F H σ own Γ →
 (∀ F' H',Grow F H F' H'->Q b H')->t σ H Q
def EvA (Γ:Ctx) (t:TA) (m:Bool) (ds:List Ds):Prop:=∀ (F0 Hb F H:Hp) (σ:St) (own:Nat->Option Addr) (Q:List V->Hp->Prop),At F0 Hb F H σ own Γ →
 (∀ vs F' H',Grow F H F' H'->Paired (λv (d:Ds)=>d.pr (part m F' Hb) v) vs ds->Q vs H')->t σ H Q
def EvP (Γ:Ctx) (t:TO) (i:Option Int):Prop:=∀ (F0 Hb F H:Hp) (σ:St) (own:Nat->Option Addr) (Q:Option Int->Hp->Prop),At F0 Hb F H σ own Γ →
 (∀ F' H',Grow F H F' H'->Q i H')->t σ H Q
theorem At.free {F0 Hb F H:Hp} {σ:St} {own:Nat->Option Addr} {Γ:Ctx} (a:At F0 Hb F H σ own Γ) {F' H':Hp} (g:Grow F H F' H') {p:Addr} (h:H' p=none):H p=none∧F' p=none∧Hb p=none:=by
 have h1:=g.h.free h
 exact ⟨h1,g.fh.free h,a.g.h.free h1⟩
section
variable {Γ:Ctx} {t ta tb:TE} {m n:Bool} {d e:Ds} {ds es:List Ds} {K:W.Frag}
theorem Ev.old (h:Ev Γ t m d):Ev Γ t false d:=λF0 Hb F H σ own Q a k=>h F0 Hb F H σ own Q a λv F' H' g q=>k v F' H' g (d.up zbj q)
theorem Ev.conv (h:Ev Γ t m d) (e':d=e):Ev Γ t m e:=e' ▸ h
theorem EvO.conv (h:EvO Γ t m ds) (e':ds=es):EvO Γ t m es:=e' ▸ h
theorem EvT.conv {t:TT} {b c:Bool} (h:EvT Γ t b) (e':b=c):EvT Γ t c:=e' ▸ h
theorem EvO.ev (h:EvO Γ t m ds):Ev Γ t m (dL ds):=λF0 Hb F H σ own Q a k=>h F0 Hb F H σ own Q a λp vs F' H' g h1 h2 h3 q=>by
 have fs:Same F' (upd F' p (.lst vs)):=Same.new h2 _
 exact k (.ref p) (upd F' p (.lst vs)) H' (g.take h1 h3) ⟨p,vs,rfl,zer (a.g.h.free h1) zaG,zdM (ds:=[]) (zbq fs) q⟩
theorem Ev.weak (h:Ev Γ t m (dL ds)):Ev Γ t m (dQ K ds):=λF0 Hb F H σ own Q a k=>h F0 Hb F H σ own Q a λv F' H' g ⟨p,vs,h1,h2,h3⟩=>k v F' H' g ⟨p,vs,h1,SqL.of h2,h3⟩
theorem zaa {i:Nat} (h:Γ[i]?=some (.va m d)):Ev Γ (zjF i) m d:=λF0 Hb F H σ own Q a k=>by
 obtain ⟨x,e,q⟩:=a.sl i _ h
 have hi:i<σ.length:=by rw [a.len];exact ((List.getElem?_eq_some_iff.mp h)).1
 rw [List.getElem?_eq_getElem hi] at e
 have e':σ[i]=some x:=e
 exact ⟨x,by rw [List.getElem?_eq_getElem hi,e'],k x F H (Grow.refl a.fh) q⟩
theorem zaL {v:V}:Ev Γ (tC v) m (dV v):=λF0 Hb F H σ own Q a k=>k v F H (Grow.refl a.fh) rfl
theorem za0 {g:Int->Int->V} {x y:Int} (h1:Ev Γ ta false (dI x)) (h2:Ev Γ tb false (dI y)):Ev Γ (tOp (rI0 g) ta tb) m (dV (g x y)):=λF0 Hb F H σ own Q a k =>
 h1 F0 Hb F H σ own _ a λu F1 H1 g1 q1=>h2 F0 Hb F1 H1 σ own _ (a.grow g1) λv F2 H2 g2 q2=>⟨x,y,q1,q2,k _ F2 H2 (g1.trans g2) rfl⟩
theorem zaT {C:Int->Int->Prop} {g:Int->Int->V} {x y:Int} (h1:Ev Γ ta false (dI x)) (h2:Ev Γ tb false (dI y)) (c:C x y):Ev Γ (tOp (rI C g) ta tb) m (dV (g x y)):=λF0 Hb F H σ own Q a k =>
 h1 F0 Hb F H σ own _ a λu F1 H1 g1 q1=>h2 F0 Hb F1 H1 σ own _ (a.grow g1) λv F2 H2 g2 q2=>⟨x,y,q1,q2,c,k _ F2 H2 (g1.trans g2) rfl⟩
theorem zmX {g:Int->V} {x:Int} (h1:Ev Γ ta false (dI x)):Ev Γ (tUn (rU g) ta) m (dV (g x)):=λF0 Hb F H σ own Q a k =>
 h1 F0 Hb F H σ own _ a λu F1 H1 g1 q1=>⟨x,q1,k _ F1 H1 g1 rfl⟩
theorem zuq {v w:V} (h1:Ev Γ ta false (dV v)) (h2:Ev Γ tb false (dV w)) (hs:scal v w=true):Ev Γ (tOp rEq ta tb) m (dB (decide (v=w))):=λF0 Hb F H σ own Q a k =>
 h1 F0 Hb F H σ own _ a λu F1 H1 g1 q1=>h2 F0 Hb F1 H1 σ own _ (a.grow g1) λv F2 H2 g2 q2=>by
  cases q1;cases q2;exact ⟨hs,k _ F2 H2 (g1.trans g2) rfl⟩
theorem zsH {v w:V} (h1:Ev Γ ta false (dV v)) (h2:Ev Γ tb false (dV w)) (hs:scal v w=true):Ev Γ (tOp rNe ta tb) m (dB (!decide (v=w))):=λF0 Hb F H σ own Q a k =>
 h1 F0 Hb F H σ own _ a λu F1 H1 g1 q1=>h2 F0 Hb F1 H1 σ own _ (a.grow g1) λv F2 H2 g2 q2=>by
  cases q1;cases q2;exact ⟨hs,k _ F2 H2 (g1.trans g2) rfl⟩
theorem zoy (x y:Int):decide (V.int x=V.int y)=decide (x=y):=by simp
theorem zfw {x y:Int} (h1:Ev Γ ta false (dI x)) (h2:Ev Γ tb false (dI y)):Ev Γ (tOp rEq ta tb) m (dB (decide (x=y))):=(zuq h1 h2 rfl).conv (by rw [zoy])
theorem zfz {x y:Int} (h1:Ev Γ ta false (dI x)) (h2:Ev Γ tb false (dI y)):Ev Γ (tOp rNe ta tb) m (dB (!decide (x=y))):=(zsH h1 h2 rfl).conv (by rw [zoy])
theorem zaA {b:Bool} (h:Ev Γ t false (dB b)):EvT Γ (zsd t) b:=λF0 Hb F H σ own Q a k=>h F0 Hb F H σ own _ a λv F' H' g q=>⟨b,q,k F' H' g⟩
theorem zkG {b:Bool} (h:Ev Γ t false (dB b)):EvT Γ (tB t) b:=λF0 Hb F H σ own Q a k=>h F0 Hb F H σ own _ a λv F' H' g q=>⟨b,q,k F' H' g⟩
theorem zoG {t:TT} {b:Bool} (h:EvT Γ t b):EvT Γ (zuX t) (!b):=λF0 Hb F H σ own Q a k=>h F0 Hb F H σ own _ a λF' H' g=>k F' H' g
theorem zk5 {t u:TT} {b c:Bool} (h:EvT Γ t b) (h2:b=true->EvT Γ u c):EvT Γ (zuW t u) (b&&c):=λF0 Hb F H σ own Q a k=>h F0 Hb F H σ own _ a λF' H' g=>by
 cases b with
 | true=>exact h2 rfl F0 Hb F' H' σ own Q (a.grow g) λF2 H2 g2=>k F2 H2 (g.trans g2)
 | false=>exact k F' H' g
theorem zj3 {t u:TT} {b c:Bool} (h:EvT Γ t b) (h2:b=false->EvT Γ u c):EvT Γ (tOr t u) (b||c):=λF0 Hb F H σ own Q a k=>h F0 Hb F H σ own _ a λF' H' g=>by
 cases b with
 | false=>exact h2 rfl F0 Hb F' H' σ own Q (a.grow g) λF2 H2 g2=>k F2 H2 (g.trans g2)
 | true=>exact k F' H' g
theorem zuw {tc:TT} {α:Type} {b:Bool} {x y:α} (f:α->Ds) (h:EvT Γ tc b) (h1:b=true->Ev Γ ta m (f x)) (h2:b=false->Ev Γ tb m (f y)):Ev Γ (tIf tc ta tb) m (f (bif b then x else y)):=λF0 Hb F H σ own Q a k=>h F0 Hb F H σ own _ a λF' H' g=>by
 cases b with
 | true=>exact h1 rfl F0 Hb F' H' σ own Q (a.grow g) λv F2 H2 g2 q2=>k v F2 H2 (g.trans g2) q2
 | false=>exact h2 rfl F0 Hb F' H' σ own Q (a.grow g) λv F2 H2 g2 q2=>k v F2 H2 (g.trans g2) q2
theorem zag:EvA Γ tNil m []:=λF0 Hb F H σ own Q a k=>k [] F H (Grow.refl a.fh) .nil
theorem zab {tr:TA} (h:Ev Γ ta m d) (h2:EvA Γ tr m ds):EvA Γ (tCons ta tr) m (d :: ds):=λF0 Hb F H σ own Q a k =>
 h F0 Hb F H σ own _ a λv F1 H1 g1 q1=>h2 F0 Hb F1 H1 σ own _ (a.grow g1) λvs F2 H2 g2 q2=>k _ F2 H2 (g1.trans g2) (.cons (d.up (zbq g2.f) q1) q2)
theorem zdl {tr:TA} (h:EvA Γ tr m ds) (hz:ds.length≤sizeLine):EvO Γ (zt7 tr) m ds:=λF0 Hb F H σ own Q a k =>
 h F0 Hb F H σ own _ a λvs F1 H1 g1 q1=>⟨by rw [Paired.length q1];exact hz,λp hp=>by
  obtain ⟨h1,h2,h3⟩:=a.free g1 hp
  exact k p vs F1 _ (g1.newH hp) h1 h2 zaG q1⟩
theorem zhy {tr:TA} (h:EvA Γ tr m ds) (hz:ds.length≤sizeLine):Ev Γ (zva tr) m (dT ds):=λF0 Hb F H σ own Q a k =>
 h F0 Hb F H σ own _ a λvs F1 H1 g1 q1=>⟨by rw [Paired.length q1];exact hz,λp hp=>by
  obtain ⟨h1,h2,h3⟩:=a.free g1 hp
  exact k (.ref p) _ _ (g1.new hp) ⟨p,vs,rfl,zer h3 zaG,zdM (ds:=[]) (zbq (Same.new h2 _)) q1⟩⟩
theorem zdH {tr:TA} (h:EvA Γ tr m []):EvO Γ (zt7 tr) m []:=zdl h (Nat.zero_le _)
theorem zhi {R:V->Ds->Prop} {vs:List V} {ds:List Ds} {i:Int} {d:Ds} (h:Paired R vs ds) (e:atI ds i=some d):∃ v,atI vs i=some v∧R v d:=by
 unfold atI at e ⊢
 rw [Paired.length h]
 cases q:ixN ds.length i with
 | none=>rw [q] at e;cases e
 | some j =>
  rw [q] at e
  obtain ⟨v,e1,r⟩:=zbw h (show ds[j]?=some d from e)
  exact ⟨v,e1,r⟩
theorem znr {α β:Type} {f:α->β} {xs:List α} {i:Int} {x:α} (e:atI xs i=some x):atI (xs.map f) i=some (f x):=by
 unfold atI at e ⊢
 rw [List.length_map]
 cases q:ixN xs.length i with
 | none=>rw [q] at e;cases e
 | some j =>
  rw [q] at e
  have e':xs[j]?=some x:=e
  show ((xs.map f))[j]?=_
  rw [List.getElem?_map,e']
  rfl
theorem zt6 {i:Int} (h1:Ev Γ ta m (dQ K ds)) (h2:Ev Γ tb false (dI i)) (e:atI ds i=some d):Ev Γ (tOp (zrI K) ta tb) m d:=λF0 Hb F H σ own Q a k =>
 h1 F0 Hb F H σ own _ a λu F1 H1 g1 ⟨p,vs,e1,e2,e3⟩=>h2 F0 Hb F1 H1 σ own _ (a.grow g1) λv F2 H2 g2 q2=>by
  obtain ⟨x,ex,rx⟩:=zhi e3 e
  exact ⟨p,vs,i,x,e1,q2,((zbj.trans (g2.f.trans g2.fh))).seq e2,ex,k x F2 H2 (g1.trans g2) (d.up (zbq g2.f) rx)⟩
theorem zcs {i:Int} (h1:Ev Γ ta m (dT ds)) (h2:Ev Γ tb false (dI i)) (e:atI ds i=some d):Ev Γ (tOp (ztX K) ta tb) m d:=λF0 Hb F H σ own Q a k =>
 h1 F0 Hb F H σ own _ a λu F1 H1 g1 ⟨p,vs,e1,e2,e3⟩=>h2 F0 Hb F1 H1 σ own _ (a.grow g1) λv F2 H2 g2 q2=>by
  obtain ⟨x,ex,rx⟩:=zhi e3 e
  exact ⟨p,vs,i,x,e1,q2,.inl (.inl ((zbj.trans (g2.f.trans g2.fh)) _ _ e2)),ex,k x F2 H2 (g1.trans g2) (d.up (zbq g2.f) rx)⟩
theorem zth {t:TE} (h1:Ev Γ t false (dQ K ds)):Ev Γ (tCB ↑95 (tCons t tNil)) m (dI ds.length):=λF0 Hb F H σ own Q a k =>
 h1 F0 Hb F H σ own _ a λu F1 H1 g1 ⟨p,vs,e1,e2,e3⟩=>⟨p,vs,by rw [e1],.inl (g1.fh.seq e2),k _ F1 H1 g1 (by show V.int _=_;rw [Paired.length e3])⟩
theorem zgD {t:TE} (h1:Ev Γ t m (dQ K ds)):EvO Γ (tCB (λxs H Q=>∃p ys,xs=[.ref p]∧(SqL K H p ys∨SqT K H p ys)∧∀l,H l=none->Q (.ref l) (upd H l (.lst ys))) (tCons t tNil)) m ds:=λF0 Hb F H σ own Q a k =>
 h1 F0 Hb F H σ own _ a λu F1 H1 g1 ⟨p,vs,e1,e2,e3⟩=>⟨p,vs,by rw [e1],.inl ((zbj.trans g1.fh).seq e2),λl hl=>by
  obtain ⟨h1,h2,h3⟩:=a.free g1 hl
  exact k l vs F1 _ (g1.newH hl) h1 h2 zaG e3⟩
theorem zd7:EvP Γ znv none:=λF0 Hb F H σ own Q a k=>k F H (Grow.refl a.fh)
theorem zck {i:Int} (h:Ev Γ t false (dI i)):EvP Γ (zsx t) (some i):=λF0 Hb F H σ own Q a k=>h F0 Hb F H σ own _ a λv F' H' g q=>⟨i,q,k F' H' g⟩
def zcQ {α:Type} (xs:List α) (lo hi:Option Int):List α:=(xs.drop (HT.sIx xs.length 0 lo)).take (HT.sIx xs.length xs.length hi-HT.sIx xs.length 0 lo)
theorem zpe {α β:Type} {f:α->β} {xs:List α} {lo hi:Option Int}:(zcQ xs lo hi).map f=zcQ (xs.map f) lo hi:=by
 unfold zcQ;rw [List.map_take,List.map_drop,List.length_map]
theorem ztB {tl th:TO} {lo hi:Option Int} (h1:Ev Γ t m (dQ K ds)) (h2:EvP Γ tl lo) (h3:EvP Γ th hi):EvO Γ (tSl (ztE K) t tl th) m (zcQ ds lo hi):=λF0 Hb F H σ own Q a k =>
 h1 F0 Hb F H σ own _ a λu F1 H1 g1 ⟨p,vs,e1,e2,e3⟩=>h2 F0 Hb F1 H1 σ own _ (a.grow g1) λF2 H2 g2=>h3 F0 Hb F2 H2 σ own _ (((a.grow g1)).grow g2) λF3 H3 g3 =>
  ⟨p,vs,e1,(zbj.trans (g1.fh.trans (g2.h.trans g3.h))).seq e2,λl hl=>by
   have g:=g1.trans (g2.trans g3)
   obtain ⟨h1,h2,h3⟩:=a.free g hl
   refine k l _ F3 _ (g.newH hl) h1 h2 zaG ?_
   unfold zs6 zcQ
   rw [Paired.length e3]
   exact zib _ (ziB _ (zdM (ds:=[]) (zbq (g2.f.trans g3.f)) e3))⟩
theorem zsM {es:List Ds} (h1:Ev Γ ta m (dL ds)) (h2:Ev Γ tb m (dL es)) (hz:ds.length+es.length≤sizeLine):EvO Γ (tOp zt5 ta tb) m (ds++es):=λF0 Hb F H σ own Q a k =>
 h1 F0 Hb F H σ own _ a λu F1 H1 g1 ⟨p,vs,e1,e2,e3⟩=>h2 F0 Hb F1 H1 σ own _ (a.grow g1) λv F2 H2 g2 ⟨q,ws,f1,f2,f3⟩ =>
  ⟨p,q,vs,ws,e1,f1,(zbj.trans (g2.f.trans g2.fh)) _ _ e2,(zbj.trans g2.fh) _ _ f2,by rw [Paired.length e3,Paired.length f3];exact hz,λl hl=>by
   have g:=g1.trans g2
   obtain ⟨h1,h2,h3⟩:=a.free g hl
   exact k l _ F2 _ (g.newH hl) h1 h2 zaG (zdb (zdM (ds:=[]) (zbq g2.f) e3) f3)⟩
theorem ztd {n:Int} (h1:Ev Γ ta m (dL ds)) (h2:Ev Γ tb false (dI n)) (hn:-(2^63)≤n∧n<2^63) (hz:ds.length*n.toNat≤sizeLine):EvO Γ (tOp zuJ ta tb) m (List.replicate n.toNat ds).flatten:=λF0 Hb F H σ own Q a k =>
 h1 F0 Hb F H σ own _ a λu F1 H1 g1 ⟨p,vs,e1,e2,e3⟩=>h2 F0 Hb F1 H1 σ own _ (a.grow g1) λv F2 H2 g2 q2 =>
  ⟨p,n,vs,e1,q2,(zbj.trans (g2.f.trans g2.fh)) _ _ e2,hn.1,hn.2,by rw [Paired.length e3];exact hz,λl hl=>by
   have g:=g1.trans g2
   obtain ⟨h1,h2,h3⟩:=a.free g hl
   exact k l _ F2 _ (g.newH hl) h1 h2 zaG (ziX (zdM (ds:=[]) (zbq g2.f) e3) _)⟩
theorem zs4 {d:Ds} {b:Bool} (h1:Ev Γ ta false d) (h2:Ev Γ tb false dN) (hb:∀ H v,d.pr H v->decide (v=V.non)=b):Ev Γ (tOp (λx y H Q=>y= .non∧Q (.bl (decide (x= .non))) H) ta tb) m (dB b):=λF0 Hb F H σ own Q a k =>
 h1 F0 Hb F H σ own _ a λu F1 H1 g1 q1=>h2 F0 Hb F1 H1 σ own _ (a.grow g1) λv F2 H2 g2 q2=>⟨q2,k _ F2 H2 (g1.trans g2) (by show V.bl _=_;rw [hb _ _ q1])⟩
theorem zrr {d:Ds} {b:Bool} (h1:Ev Γ ta false d) (h2:Ev Γ tb false dN) (hb:∀ H v,d.pr H v->decide (v=V.non)=b):Ev Γ (tOp (λx y H Q=>y= .non∧Q (.bl (!decide (x= .non))) H) ta tb) m (dB (!b)):=λF0 Hb F H σ own Q a k =>
 h1 F0 Hb F H σ own _ a λu F1 H1 g1 q1=>h2 F0 Hb F1 H1 σ own _ (a.grow g1) λv F2 H2 g2 q2=>⟨q2,k _ F2 H2 (g1.trans g2) (by show V.bl _=_;rw [hb _ _ q1])⟩
theorem zpQ {x y:Int} {tr:TA} (h:EvA Γ tr false [dI x,dI y]):Ev Γ (tCB (λxs H Q=>∃i j,xs=[.int i,.int j]∧Q (.int (if j>i then j else i)) H) tr) m (dI (max x y)):=λF0 Hb F H σ own Q a k =>
 h F0 Hb F H σ own _ a λvs F1 H1 g1 q=>by
  cases q with | cons q1 q=>cases q with | cons q2 q=>cases q;cases q1;cases q2;exact ⟨x,y,rfl,k _ F1 H1 g1 (by show V.int _=V.int _;congr 1;omega)⟩
theorem zk2 {b:Bool} {tr:TA} (h:EvA Γ tr false [dB b]):Ev Γ (tCB (λxs H Q=>(∃i,xs=[.int i]∧Q (.int i) H)∨∃k,xs=[.bl k]∧Q (.int (if k then 1 else 0)) H) tr) m (dI (if b then 1 else 0)):=λF0 Hb F H σ own Q a k =>
 h F0 Hb F H σ own _ a λvs F1 H1 g1 q=>by
  cases q with | cons q1 q=>cases q;cases q1;exact .inr ⟨b,rfl,k _ F1 H1 g1 rfl⟩
theorem zgs {f:α->V} {R:Hp} {xs:List α}:∀ {vs:List V},Paired (λv (d:Ds)=>d.pr R v) vs (xs.map λx=>dV (f x))->vs=xs.map f:=by
 induction xs with
 | nil=>intro vs h;cases h;rfl
 | cons x xs ih=>intro vs h;cases h with | cons h1 h2=>rw [ih h2,h1];rfl
theorem zs0 {xs:Ji} {t:TE} (h1:Ev Γ t false (dQ K (xs.map dI))):Ev Γ (tCB (λxs H Q=>∃(a:Addr) (ns:Ji),xs=[.ref a]∧SqL K H a (ns.map V.int)∧Q (.int ns.sum) H) (tCons t tNil)) m (dI xs.sum):=λF0 Hb F H σ own Q a k =>
 h1 F0 Hb F H σ own _ a λu F1 H1 g1 ⟨p,vs,e1,e2,e3⟩=>⟨p,xs,by rw [e1],by rw [←zgs e3];exact g1.fh.seq e2,k _ F1 H1 g1 rfl⟩
theorem zgV {H:Hp} {f:Str} {d:Ds}:∀ {vs:List (Str×V)} {fs:List (Str×Ds)},Paired (λ(a:Str×V) (b:Str×Ds)=>a.1=b.1∧b.2.pr H a.2) vs fs->fs.lookup f=some d->∃ v,vs.lookup f=some v∧d.pr H v
 | _,_,.nil,e=>by cases e
 | _,_,.cons (a:=(x,v)) (b:=(y,d')) ⟨h1,h2⟩ t,e=>by
  have h1:x=y:=h1
  subst h1
  simp only [List.lookup_cons] at e ⊢
  cases q:f == x with
  | true=>rw [q] at e;cases e;exact ⟨v,rfl,h2⟩
  | false=>rw [q] at e;exact zgV t e
theorem zaU {C:Addr} {fs:List (Str×Ds)} {f:Str} (h1:Ev Γ ta m (dO C fs)) (c:Cls K C) (nf:NoAttr K C f) (e:fs.lookup f=some d):Ev Γ (tFld K ta f) m d:=λF0 Hb F H σ own Q a k =>
 h1 F0 Hb F H σ own _ a λu F1 H1 g1 ⟨p,dx,vs,e1,e2,e3,e4⟩=>by
  obtain ⟨v,ev,qv⟩:=zgV e4 e
  exact ⟨p,C,dx,vs,v,e1,(zbj.trans g1.fh) _ _ e2,c,nf,ev,k v F1 H1 g1 qv⟩
inductive Rs where
 | va (m:Bool) (d:Ds)
 | ow (m:Bool) (ds:List Ds)
 | ex (C:Addr)
def Spv {ι:Type} (args:ι->List Ds) (pre:ι->Prop) (res:ι->Rs):Sp:=λvs H Q E=>∃ (x:ι) (F:Hp),Same F H∧Paired (λv (d:Ds)=>d.pr F v) vs (args x)∧pre x∧match res x with
 | .ex C=>∀ dct F' H',Grow F H F' H'->E (.ref C) dct H'
 | .va m d=>∀ v F' H',Grow F H F' H'->d.pr (part m F' H) v->Q v H'
 | .ow m ds=>∀ p ws F' H',Grow F H F' H'->H p=none->F' p=none->H' p=some (.lst ws)->Paired (λv (d:Ds)=>d.pr (part m F' H) v) ws ds->Q (.ref p) H'
theorem zhO {m:Bool} {F Hb H:Hp} (e:Same Hb H):Same (part m F H) (part m F Hb):=by
 cases m with
 | true=>exact zkI e
 | false=>exact Same.refl _
theorem zam {ι:Type} {args:ι->List Ds} {pre:ι->Prop} {res:ι->Rs} {tr:TA} {E:XK} (x:ι) (h:EvA Γ tr false ds) (ha:ds=args x) (hp:pre x) (hr:res x=.va m d):Ev Γ (tCall (Spv args pre res) [] E tr) m d:=λF0 Hb F H σ own Q a k=>by
 subst ha
 refine h F0 Hb F H σ own _ a λvs F1 H1 g1 q1=>⟨x,F1,g1.fh,by rw [List.append_nil];exact q1,hp,?_⟩
 rw [hr]
 exact λv F' H' g q=>k v F' H' (g1.trans g) (d.up (zhO (a.g.h.trans g1.h)) q)
theorem zcT {ι:Type} {args:ι->List Ds} {pre:ι->Prop} {res:ι->Rs} {tr:TA} {E:XK} (x:ι) (h:EvA Γ tr false es) (ha:es=args x) (hp:pre x) (hr:res x=.ow m ds):EvO Γ (tCall (Spv args pre res) [] E tr) m ds:=λF0 Hb F H σ own Q a k=>by
 subst ha
 refine h F0 Hb F H σ own _ a λvs F1 H1 g1 q1=>⟨x,F1,g1.fh,by rw [List.append_nil];exact q1,hp,?_⟩
 rw [hr]
 exact λp ws F' H' g h1 h2 h3 q=>k p ws F' H' (g1.trans g) (g1.h.free h1) h2 h3 (zdM (ds:=[]) (zhO (a.g.h.trans g1.h)) q)
end
end L2
namespace L2
open PySem PySem.Spec PyProof.Rows
def ztP:List Nat->List V->St->St
 | j :: js,v :: vs,σ=>ztP js vs (σ.set j (some v))
 | _,_,σ=>σ
def zmM:List Nat->List Ds->Bool->Ctx->Ctx
 | j :: js,d :: ds,m,Γ=>zmM js ds m (Γ.set j (.va m d))
 | _,_,_,Γ=>Γ
theorem At.setMany {F0 Hb F H:Hp} {own:Nat->Option Addr} {m:Bool}:∀ {js:List Nat} {vs:List V} {ds:List Ds} {σ:St} {Γ:Ctx},At F0 Hb F H σ own Γ->Paired (λv (d:Ds)=>d.pr (part m F Hb) v) vs ds →
  At F0 Hb F H (ztP js vs σ) own (zmM js ds m Γ)
 | [],_,_,_,_,a,.nil=>a
 | [],_,_,_,_,a,.cons _ _=>a
 | _ :: _,_,_,_,_,a,.nil=>a
 | j :: js,_,_,_,_,a,.cons h t=>At.setMany (js:=js) (a.set j h) t
theorem At.unset {F0 Hb F H:Hp} {own:Nat->Option Addr} {σ:St} {Γ:Ctx} {j:Nat} {s:Slot} (a:At F0 Hb F H σ own (Γ.set j s)) (h:Γ[j]?=some .no):At F0 Hb F H σ own Γ :=
 ⟨a.g,a.inj,a.liv,λi r e=>by
  by_cases z:j=i
  ·subst z;rw [h] at e;cases e;trivial
  ·exact a.sl i r (by rw [List.getElem?_set_ne z];exact e),by rw [a.len];simp⟩
theorem At.unsetMany {F0 Hb F H:Hp} {own:Nat->Option Addr} {σ:St} {m:Bool}:∀ {js:List Nat} {ds:List Ds} {Γ:Ctx},At F0 Hb F H σ own (zmM js ds m Γ)->(∀ j∈js,Γ[j]?=some .no)->js.Nodup->At F0 Hb F H σ own Γ
 | [],[],_,a,_,_=>a
 | [],_ :: _,_,a,_,_=>a
 | _ :: _,[],_,a,_,_=>a
 | j :: js,d :: ds,Γ,a,h,hn=>by
  have hn:=List.nodup_cons.mp hn
  refine At.unset (At.unsetMany (js:=js) (ds:=ds) (Γ:=Γ.set j (.va m d)) a (λi hi=>?_) hn.2) (h j List.mem_cons_self)
  rw [List.getElem?_set_ne (λ(z:j=i)=>hn.1 (by rw [z];exact hi))]
  exact h i (List.mem_cons_of_mem _ hi)
def ztc {γ:Type} (Hb F:Hp) (J:It) (g:TG) (js:List Nat) (xs:List γ) (bds:γ->List Ds) (m:Bool):Prop:=∀ H,Same F H->J.stop xs.length H∧∀ i x,xs[i]?=some x->J.go i H ∧
 ∀ v H',J.yld i H v H'->Grow F H F H'∧∀ (σ:St) (Q:St->Hp->Prop),(∀ vs,Paired (λv (d:Ds)=>d.pr (part m F Hb) v) vs (bds x)->Q (ztP js vs σ) H')->g v σ H' Q
def Iv {γ:Type} (Γ:Ctx) (wi:TI) (g:TG) (js:List Nat) (xs:List γ) (bds:γ->List Ds) (m:Bool):Prop:=∀ (F0 Hb F H:Hp) (σ:St) (own:Nat->Option Addr) (R:It->Hp->Prop),At F0 Hb F H σ own Γ →
 (∀ J F' H',Grow F H F' H'->ztc Hb F' J g js xs bds m->R J H')->wi σ H R
section
variable {Γ:Ctx} {m:Bool} {K:W.Frag} {γ δ:Type}
theorem ztc.up {Hb F F':Hp} {J:It} {g:TG} {js:List Nat} {xs:List γ} {bds:γ->List Ds} (h:ztc Hb F J g js xs bds m) (e:Same F F'):ztc Hb F' J g js xs bds m:=λH hs=>by
 obtain ⟨h1,h2⟩:=h H (e.trans hs)
 refine ⟨h1,λi x ex=>?_⟩
 obtain ⟨h3,h4⟩:=h2 i x ex
 refine ⟨h3,λv H' y=>?_⟩
 obtain ⟨h5,h6⟩:=h4 v H' y
 exact ⟨⟨Same.refl _,hs.trans h5.h,h5.h,λ_ _ z=>z⟩,λσ Q k=>h6 σ Q λvs q=>k vs (zdM (ds:=[]) (zbq e) q)⟩
theorem zbG {tl:TE} {j:Nat} {xs:List γ} (f:γ->Ds) (h:Ev Γ tl m (dQ K (xs.map f))):Iv Γ (zpH K tl) (zdE j) [j] xs (λx=>[f x]) m:=λF0 Hb F H σ own R a k =>
 h F0 Hb F H σ own _ a λu F1 H1 g1 ⟨p,vs,e1,e2,e3⟩=>by
  have e2':SqL K F1 p vs:=zbj.seq e2
  refine ⟨p,e1,⟨vs,g1.fh.seq e2'⟩,k _ F1 H1 g1 λH hs=>⟨⟨vs,hs.seq e2',by rw [Paired.length e3,List.length_map];exact Nat.le_refl _⟩,λi x ex=>?_⟩⟩
  obtain ⟨v,ev,qv⟩:=zbw e3 (show ((xs.map f))[i]?=some (f x) by rw [List.getElem?_map,ex];rfl)
  refine ⟨⟨vs,v,hs.seq e2',ev⟩,λw H' y=>?_⟩
  obtain ⟨rfl,y⟩:=y
  have:=y vs (hs.seq e2')
  rw [ev] at this
  cases this
  exact ⟨Grow.refl hs,λσ Q k=>k [v] (.cons qv .nil)⟩
def za6 (lo:Int) (n:Nat):Ji:=(List.range n).map λ(i:Nat)=>lo+(i:Int)
theorem zaY {lo:Int} {n:Nat}:(za6 lo n).length=n:=by simp [za6]
theorem zbs {lo:Int} {n i:Nat} {x:Int} (h:(za6 lo n)[i]?=some x):i<n∧x=lo+i:=by
 unfold za6 at h
 rw [List.getElem?_map] at h
 by_cases z:i<n
 ·rw [List.getElem?_range z] at h
  exact ⟨z,(Option.some.inj h).symm⟩
 ·rw [List.getElem?_eq_none (by simp;omega)] at h;cases h
theorem zjB {lo:Int} {n:Nat} {x:Int}:x∈za6 lo n ↔ lo≤x∧x<lo+n:=by
 unfold za6
 rw [List.mem_map]
 constructor
 ·rintro ⟨i,hi,rfl⟩;have:=List.mem_range.mp hi;omega
 ·intro h;exact ⟨(x-lo).toNat,List.mem_range.mpr ↑0,by omega⟩
theorem zsL {Hb F:Hp} {lo:Int} {n j:Nat}:ztc Hb F (Itr lo n) (zdE j) [j] (za6 lo n) (λx=>[dI x]) m:=λH hs =>
 ⟨by show n≤_;rw [zaY];exact Nat.le_refl _,λi x ex=>by
  obtain ⟨hi,rfl⟩:=zbs ex
  refine ⟨hi,λv H' y=>?_⟩
  obtain ⟨rfl,rfl⟩:=y
  exact ⟨Grow.refl hs,λσ Q k=>k [_] (.cons rfl .nil)⟩⟩
theorem zdv {t:TE} {j:Nat} {n:Int} (h:Ev Γ t false (dI n)) (hn:-(2^62)≤n∧n<2^62):Iv Γ (zsA (tCons t tNil)) (zdE j) [j] (za6 0 n.toNat) (λx=>[dI x]) m:=λF0 Hb F H σ own R a k =>
 h F0 Hb F H σ own _ a λu F1 H1 g1 q1=>⟨n,by rw [q1],hn.1,hn.2,k _ F1 H1 g1 zsL⟩
theorem zdw {α β:Type} {xs:List α} {ys:List β} {i:Nat} {p:α×β} (h:(xs.zip ys)[i]?=some p):xs[i]?=some p.1∧ys[i]?=some p.2:=by
 rw [List.getElem?_zip_eq_some] at h;exact h
theorem zgk {ta tb:TE} {j1 j2:Nat} {xs:List γ} {ys:List δ} (f1:γ->Ds) (f2:δ->Ds) (h1:Ev Γ ta m (dQ K (xs.map f1))) (h2:Ev Γ tb m (dQ K (ys.map f2))) :
  Iv Γ (zt8 K (tCons ta (tCons tb tNil))) (zq7 K 2 (zgu (zdE j1) (zgu (zdE j2) zqL))) [j1,j2] (xs.zip ys) (λx=>[f1 x.1,f2 x.2]) m:=λF0 Hb F H σ own R a k =>
 h1 F0 Hb F H σ own _ a λu F1 H1 g1 ⟨p,vs,e1,e2,e3⟩=>h2 F0 Hb F1 H1 σ own _ (a.grow g1) λu' F2 H2 g2 ⟨q,ws,d1,d2,d3⟩=>by
  have e2':SqL K F2 p vs:=g2.f.seq (zbj.seq e2)
  have d2':SqL K F2 q ws:=zbj.seq d2
  have e3':=zdM (ds:=[]) (zbq (m:=m) (Hb:=Hb) g2.f) e3
  have le:=Paired.length e3
  have ld:=Paired.length d3
  rw [List.length_map] at le ld
  refine ⟨p,q,by rw [e1,d1],⟨vs,g2.fh.seq e2'⟩,⟨ws,g2.fh.seq d2'⟩,k _ F2 H2 (g1.trans g2) λH hs=>⟨⟨vs,ws,hs.seq e2',hs.seq d2',by rw [le,ld,List.length_zip];omega⟩,λi x ex=>?_⟩⟩
  obtain ⟨x1,x2⟩:=zdw ex
  obtain ⟨v,ev,qv⟩:=zbw e3' (show (xs.map f1)[i]?=some (f1 x.1) by rw [List.getElem?_map,x1];rfl)
  obtain ⟨w,ew,qw⟩:=zbw d3 (show (ys.map f2)[i]?=some (f2 x.2) by rw [List.getElem?_map,x2];rfl)
  refine ⟨⟨vs,ws,v,w,hs.seq e2',hs.seq d2',ev,ew⟩,λz H' y=>?_⟩
  obtain ⟨r,x',y',rfl,hr,rfl,hxy⟩:=y
  obtain ⟨hx,hy⟩:=hxy vs ws (hs.seq e2') (hs.seq d2')
  rw [ev] at hx;rw [ew] at hy
  cases hx;cases hy
  exact ⟨(Grow.refl hs).newH hr,λσ Q k=>⟨r,_,rfl,.inl (.inl zaG),rfl,_,_,rfl,_,_,rfl,rfl,k [v,w] (.cons qv (.cons qw .nil))⟩⟩
def ztF:Option Slot->Slot
 | some (.va m d)=>.va m d
 | _=>.no
def zky (own:Nat) (fv:List Nat) (Γ:Ctx):Ctx:=List.replicate own .no++fv.map λi=>ztF Γ[i]?
theorem At.block {F0 Hb F H:Hp} {own:Nat->Option Addr} {σ:St} (a:At F0 Hb F H σ own Γ) (k:Nat) (fv:List Nat):At F0 Hb F H (zin k fv σ) (λ_=>none) (zky k fv Γ):=by
 refine ⟨a.g,λ_ _ _ h=>(by cases h),λ_ _ h=>(by cases h),λi s e=>?_,?_⟩
 ·unfold zky at e
  unfold zin
  by_cases hi:i<k
  ·rw [List.getElem?_append_left (by simpa using hi),List.getElem?_replicate,if_pos hi] at e
   cases e;trivial
  ·rw [List.getElem?_append_right (by simpa using hi),List.length_replicate,List.getElem?_map] at e
   rw [List.getElem?_append_right (by simpa using hi),List.length_replicate,List.getElem?_map]
   cases q:fv[i-k]? with
   | none=>rw [q] at e;cases e
   | some j =>
    rw [q] at e
    have e':ztF Γ[j]?=s:=Option.some.inj e
    subst e'
    show zgQ Hb F H (λ_=>none) _ ((σ[j]?).join) (ztF Γ[j]?)
    cases z:Γ[j]? with
    | none=>trivial
    | some r =>
     cases r with
     | no=>trivial
     | va m d=>exact (show zgQ Hb F H own j _ (.va m d) from a.sl j _ z)
     | ow m ds=>trivial
     | ob m C p dx fs=>trivial
     | ol p ds=>trivial
     | tl d=>trivial
 ·unfold zin zky;simp
theorem znp {k:Nat} {fv:List Nat} {j:Nat} {d:Ds} (e:(zky k fv Γ)[j]?=some (.tl d)):False:=by
 unfold zky at e
 have:=List.mem_of_getElem? e
 rcases List.mem_append.mp this with q | q
 ·cases (List.mem_replicate.mp q).2
 ·obtain ⟨l,_,q⟩:=List.mem_map.mp q
  unfold ztF at q
  split at q<;>cases q
theorem zlC:EvT Γ zpm true:=λF0 Hb F H σ own Q a k=>k F H (Grow.refl a.fh)
theorem zkf {xs:List γ} {i:Nat} {x:γ} (h:xs[i]?=some x):xs.take (i+1)=xs.take i++[x]:=by
 rw [List.take_succ,h];rfl
theorem zjR {own:Nat} {fv:List Nat} {wi:TI} {tg:TG} {tt:TTs} {te:TE} {js:List Nat} {xs:List γ} {bds:γ->List Ds} {mi:Bool} {c:γ->Bool} {g:γ->Ds} (it:Iv Γ wi tg js xs bds mi) (hz:xs.length≤sizeLine) (hj:(∀ j∈js,j<own)∧js.Nodup)
  (ht:∀ (i:Nat) (x:γ),xs[i]?=some x->EvT (zmM js (bds x) mi (zky own fv Γ)) tt (c x)) (he:∀ (i:Nat) (x:γ),xs[i]?=some x->c x=true->Ev (zmM js (bds x) mi (zky own fv Γ)) te m (g x)):EvO Γ (zna own fv wi tg tt te) m ((xs.filter c).map g):=λF0 Hb F H σ ow Q a k =>
 it F0 Hb F H σ ow _ a λJ F1 H1 g1 ok D hD=>by
  have hno:∀ j∈js,((zky own fv Γ))[j]?=some .no:=λj hj'=>by
   have:=hj.1 j hj'
   unfold zky
   rw [List.getElem?_append_left (by simpa using this),List.getElem?_replicate,if_pos this]
  obtain ⟨hD0,hDF,hDb⟩:=a.free g1 hD
  refine ⟨λi mm ys σb H2=>mm=xs.length-i∧i≤xs.length∧ys.length≤i∧∃ F2,Grow F1 H1 F2 H2∧F2 D=none∧H2 D=some (.lst ys)∧Paired (λv (d:Ds)=>d.pr (part m F2 Hb) v) ys (((xs.take i).filter c).map g)∧At F0 Hb F2 H2 σb (λ_=>none) (zky own fv Γ),
   ⟨_,rfl,Nat.zero_le _,Nat.zero_le _,F1,((Grow.refl g1.fh)).newH hD,hDF,zaG,by simpa using Paired.nil,(((a.grow g1)).block own fv).grow (((Grow.refl g1.fh)).newH hD)⟩,?_⟩
  rintro i mm ys σb H2 ⟨rfl,hi,hy,F2,g2,hF2,hH2,hP,a2⟩
  refine ⟨hH2,?_⟩
  obtain ⟨hstop,hitem⟩:=ok.up g2.f H2 g2.fh
  by_cases hlt:i<xs.length
  ·obtain ⟨go,yl⟩:=hitem i xs[i] (List.getElem?_eq_getElem hlt)
   refine .inr ⟨go,λx H' y=>?_⟩
   obtain ⟨g3,bind⟩:=yl x H' y
   refine bind σb _ λvs hvs=>?_
   have a3:=(a2.grow g3).setMany (js:=js) hvs
   have hx:xs[i]?=some xs[i]:=List.getElem?_eq_getElem hlt
   refine ht i _ hx F0 Hb F2 H' _ _ _ a3 λF4 H4 g4=>?_
   have tk:=zkf hx
   have gD:∀ {F5 H5:Hp},Grow F2 H2 F5 H5->F5 D=none∧H5 D=some (.lst ys):=λg=>⟨g.no D (by rw [hH2];simp) hF2,g.h _ _ hH2⟩
   cases hc:c xs[i] with
   | true =>
    rw [if_pos rfl]
    refine he i _ hx hc F0 Hb F4 H4 _ _ _ (a3.grow g4) λv F5 H5 g5 q5=>?_
    have g25:=g3.trans (g4.trans g5)
    obtain ⟨n1,n2⟩:=gD g25
    have sD:Same H5 H5:=Same.refl _
    have n3:H1 D=none:=hD
    refine ⟨n2,by omega,xs.length-(i+1),by omega,rfl,hlt,by simp;omega,F5,?_,n1,zaG,?_,?_⟩
    ·exact (g2.trans g25).setH n1 n3
    ·rw [tk,List.filter_append,List.map_append]
     refine zdb (zdM (ds:=[]) (zbq g25.f) hP) ?_
     rw [List.filter_cons,hc]
     exact .cons q5 .nil
    ·have a5:=((a3.grow g4).grow g5).unsetMany hno hj.2
     refine ⟨a5.g.setH n1 hDb,a5.inj,λ_ _ h=>(nomatch h),λj s es=>?_,a5.len⟩
     ·have:=a5.sl j s es
      cases s with
      | no=>trivial
      | va m d=>exact this
      | ow m ds=>obtain ⟨_,_,_,h,_⟩:=this;exact (nomatch h)
      | ob m C p dx fs=>obtain ⟨_,_,h,_⟩:=this;exact (nomatch h)
      | ol p ds=>obtain ⟨_,_,h,_⟩:=this;exact (nomatch h)
      | tl d=>exact (znp es).elim
   | false =>
    rw [if_neg Bool.false_ne_true]
    have g25:=g3.trans g4
    obtain ⟨n1,n2⟩:=gD g25
    refine ⟨xs.length-(i+1),by omega,rfl,hlt,by omega,F4,g2.trans g25,n1,n2,?_,(a3.grow g4).unsetMany hno hj.2⟩
    rw [tk,List.filter_append,List.map_append,List.filter_cons,hc]
    simpa using zdM (ds:=[]) (zbq g25.f) hP
  ·have e:i=xs.length:=by omega
   subst e
   rw [List.take_length] at hP
   exact .inl ⟨hstop,k D ys F2 H2 (g1.trans g2) hD0 hF2 hH2 hP⟩
theorem zbS {own:Nat} {fv:List Nat} {wi:TI} {tg:TG} {te:TE} {js:List Nat} {xs:List γ} {bds:γ->List Ds} {mi:Bool} {g:γ->Ds} (it:Iv Γ wi tg js xs bds mi) (hz:xs.length≤sizeLine) (hj:(∀ j∈js,j<own)∧js.Nodup)
  (he:∀ (i:Nat) (x:γ),xs[i]?=some x->Ev (zmM js (bds x) mi (zky own fv Γ)) te m (g x)):EvO Γ (zna own fv wi tg zpm te) m (xs.map g):=by
 have:=zjR (c:=λ_=>true) it hz hj (λ_ _ _=>zlC) (λi x hx _=>he i x hx)
 rwa [show xs.filter (λ_=>true)=xs from List.filter_eq_self.mpr λ_ _=>rfl] at this
end
inductive Oc where
 | nx (Γ:Ctx)
 | rt (m:Bool) (d:Ds)
 | rl (m:Bool) (ds:List Ds)
 | bk (Γ:Ctx)
 | ct (Γ:Ctx)
 | ex (C:Addr) (Γ:Ctx)
 | rw (Γ:Ctx) (d:Ds)
def zhG (E:XS) (F0 Hb:Hp) (D:Ends):Oc->Prop
 | .ex C Γ=>∀ dct F H σ own,At F0 Hb F H σ own Γ->E σ (.ref C) dct H
 | .rw Γ d=>∀ v F H σ own,At F0 Hb F H σ own Γ->d.pr F v->D.rt v H
 | .nx Γ=>∀ F H σ own,At F0 Hb F H σ own Γ->D.nx σ H
 | .bk Γ=>∀ F H σ own,At F0 Hb F H σ own Γ->D.bk σ H
 | .ct Γ=>∀ F H σ own,At F0 Hb F H σ own Γ->D.ct σ H
 | .rt m d=>∀ v F H,Grow F0 Hb F H->d.pr (part m F Hb) v->D.rt v H
 | .rl m ds=>∀ p vs F H,Grow F0 Hb F H->Hb p=none->F p=none->H p=some (.lst vs)->Paired (λv (d:Ds)=>d.pr (part m F Hb) v) vs ds->D.rt (.ref p) H
def Run (E:XS) (Γ:Ctx) (t:TS) (o:Oc):Prop:=∀ (F0 Hb F H:Hp) (σ:St) (own:Nat->Option Addr) (D:Ends),At F0 Hb F H σ own Γ->zhG E F0 Hb D o->t D σ H
def Let {α:Type} {β:Type} (a:α) (k:α->β):β:=k a
def zc2 {σ:Type} {γ:Type} {β:Type} (f:σ->γ->σ ⊕ β):σ->List γ->σ ⊕ β
 | s,[]=>.inl s
 | s,x :: xs=>match f s x with | .inl s'=>zc2 f s' xs | .inr b=>.inr b
section
variable {E:XS} {Γ Δ:Ctx} {m:Bool} {K:W.Frag} {γ β:Type} {te:TE} {t u:TS} {d:Ds} {ds:List Ds} {o:Oc} {i:Nat}
theorem zau (w:Wk Γ Δ):Run E Γ zpt (.nx Δ):=λF0 Hb F H σ own D a k=>k F H σ own (a.wk w)
theorem zaE (h:Ev Γ te m d):Run E Γ (zoK te) (.rt m d):=λF0 Hb F H σ own D a k=>h F0 Hb F H σ own _ a λv F' H' g q=>k v F' H' (a.g.trans g) q
theorem zjm (h:EvO Γ te m ds):Run E Γ (zoK te) (.rl m ds):=λF0 Hb F H σ own D a k=>h F0 Hb F H σ own _ a λp vs F' H' g h1 h2 h3 q=>k p vs F' H' (a.g.trans g) (a.g.h.free h1) h2 h3 q
theorem zmI (e:Γ[i]?=some (.ow m ds)):Run E Γ (zoK (zjF i)) (.rl m ds):=λF0 Hb F H σ own D a k=>by
 obtain ⟨p,vs,e1,e2,e3,e4,e5,e6⟩:=a.sl i _ e
 have hi:i<σ.length:=by rw [a.len];exact (↑29).1
 rw [List.getElem?_eq_getElem hi] at e1
 have e':σ[i]=some (.ref p):=e1
 exact ⟨_,by rw [List.getElem?_eq_getElem hi,e'],k p vs F H a.g e4 e3 e5 e6⟩
theorem ziu (h:Run E Γ (zoK te) o) (ho:∀ F0 Hb D D',D.rt=D'.rt->zhG E F0 Hb D o->zhG E F0 Hb D' o):Run E Γ (tSeq (zoK te) u) o:=λF0 Hb F H σ own D a k=>h F0 Hb F H σ own _ a (ho F0 Hb D { D with nx:=u D } rfl k)
theorem zal (h:Run E Γ (zoK te) (.rt m d)):Run E Γ (tSeq (zoK te) u) (.rt m d):=ziu h λ_ _ _ _ e q v F H g p=>e ▸ q v F H g p
theorem zf1 (h:Run E Γ (zoK te) (.rl m ds)):Run E Γ (tSeq (zoK te) u) (.rl m ds):=ziu h λ_ _ _ _ e q p vs F H g h1 h2 h3 h4=>e ▸ q p vs F H g h1 h2 h3 h4
theorem zcO (h:Ev Γ te m d) (k:Run E (Γ.set i (.va m d)) u o):Run E Γ (tSeq (zke te (zdE i)) u) o:=λF0 Hb F H σ own D a q =>
 h F0 Hb F H σ own _ a λv F' H' g p=>k F0 Hb F' H' _ own D (((a.grow g)).set i p) q
theorem zeL (h:EvO Γ te m ds) (k:Run E (Γ.set i (.ow m ds)) u o):Run E Γ (tSeq (zke te (zdE i)) u) o:=λF0 Hb F H σ own D a q =>
 h F0 Hb F H σ own _ a λp vs F' H' g h1 h2 h3 h4=>k F0 Hb F' H' _ _ D (a.setOwn g i h1 h2 h3 h4) q
theorem zar {α:Type} {x:α} (f:α->Ds) (fo:β->Oc) {kk:α->β} (h:Ev Γ te m (f x)) (k:∀ y,y=x->Run E (Γ.set i (.va m (f y))) u (fo (kk y))):Run E Γ (tSeq (zke te (zdE i)) u) (fo (Let x kk)):=zcO h (k x rfl)
theorem zf4 {α:Type} {x:α} (f:α->List Ds) (fo:β->Oc) {kk:α->β} (h:EvO Γ te m (f x)) (k:∀ y,y=x->Run E (Γ.set i (.ow m (f y))) u (fo (kk y))):Run E Γ (tSeq (zke te (zdE i)) u) (fo (Let x kk)):=zeL h (k x rfl)
theorem zd4 (h:Ev Γ te m d) (k:Run E Γ u o):Run E Γ (tSeq (zm8 te) u) o:=λF0 Hb F H σ own D a q =>
 h F0 Hb F H σ own _ a λv F' H' g p=>k F0 Hb F' H' σ own D (a.grow g) q
theorem zco (e:Γ[i]?=some (.ow m ds)) (k:Run E (Γ.set i (.va m (dL ds))) t o):Run E Γ t o:=λF0 Hb F H σ own D a q=>by
 obtain ⟨F',own',_,a'⟩:=a.share e
 exact k F0 Hb F' H σ own' D a' q
theorem zbo {α:Type} {tc:TT} {b:Bool} {x y:α} {r:TS} (fo:α->Oc) (h:EvT Γ tc b) (h1:b=true->Run E Γ (tSeq t r) (fo x)) (h2:b=false->Run E Γ (tSeq u r) (fo y)):Run E Γ (tSeq (ztl tc t u) r) (fo (bif b then x else y)):=λF0 Hb F H σ own D a q =>
 h F0 Hb F H σ own _ a λF' H' g=>by
  cases b with
  | true=>rw [if_pos rfl];exact h1 rfl F0 Hb F' H' σ own D (a.grow g) q
  | false=>rw [if_neg Bool.false_ne_true];exact h2 rfl F0 Hb F' H' σ own D (a.grow g) q
theorem zlp {tc:TT} {r:TS} (h:EvT Γ tc true) (h1:Run E Γ (tSeq t r) o):Run E Γ (tSeq (ztl tc t u) r) o:=λF0 Hb F H σ own D a q=>h F0 Hb F H σ own _ a λF' H' g=>by
 rw [if_pos rfl];exact h1 F0 Hb F' H' σ own D (a.grow g) q
theorem zbD {tc:TT} {r:TS} (h:EvT Γ tc false) (h1:Run E Γ (tSeq u r) o):Run E Γ (tSeq (ztl tc t u) r) o:=λF0 Hb F H σ own D a q=>h F0 Hb F H σ own _ a λF' H' g=>by
 rw [if_neg Bool.false_ne_true];exact h1 F0 Hb F' H' σ own D (a.grow g) q
theorem zd0 {tc:TT} {b:Bool} {r:TS} (G:Bool->Ctx) (h:EvT Γ tc b) (h1:b=true->Run E Γ t (.nx (G true))) (h2:b=false->Run E Γ u (.nx (G false))) (k:Run E (G b) r o):Run E Γ (tSeq (ztl tc t u) r) o:=λF0 Hb F H σ own D a q =>
 h F0 Hb F H σ own _ a λF' H' g=>by
  cases b with
  | true=>rw [if_pos rfl];exact h1 rfl F0 Hb F' H' σ own _ (a.grow g) λF H σ own a'=>k F0 Hb F H σ own D a' q
  | false=>rw [if_neg Bool.false_ne_true];exact h2 rfl F0 Hb F' H' σ own _ (a.grow g) λF H σ own a'=>k F0 Hb F H σ own D a' q
theorem zay (k:Run E Γ u o):Run E Γ (tSeq zpt u) o:=λF0 Hb F H σ own D a q=>k F0 Hb F H σ own D a q
theorem zmW {Δ:Ctx} (h:Run E Γ t (.nx Δ)) (k:Run E Δ u o):Run E Γ (tSeq t u) o:=λF0 Hb F H σ own D a q=>h F0 Hb F H σ own _ a λF H σ own a'=>k F0 Hb F H σ own D a' q
theorem zaJ {r:TS} (h:Run E Γ (tSeq t (tSeq u r)) o):Run E Γ (tSeq (tSeq t u) r) o:=λF0 Hb F H σ own D a q=>h F0 Hb F H σ own D a q
theorem zi2 {F0 Hb F H:Hp} {σ:St} {own:Nat->Option Addr} (a:At F0 Hb F H σ own Γ) (e:Γ[i]?=some (.ow m ds)) :
  ∃ p vs,σ[i]?=some (some (.ref p))∧own i=some p∧F p=none∧Hb p=none∧H p=some (.lst vs)∧Paired (λv (d:Ds)=>d.pr (part m F Hb) v) vs ds:=by
 obtain ⟨p,vs,e1,e2,e3,e4,e5,e6⟩:=a.sl i _ e
 have hi:i<σ.length:=by rw [a.len];exact (↑29).1
 rw [List.getElem?_eq_getElem hi] at e1
 have e':σ[i]=some (.ref p):=e1
 exact ⟨p,vs,by rw [List.getElem?_eq_getElem hi,e'],e2,e3,e4,e5,e6⟩
theorem zmK {te:TE} (e:Γ[i]?=some (.ow m ds)) (h:Ev Γ te m d) (hz:ds.length<sizeLine) (k:Run E (Γ.set i (.ow m (ds++[d]))) u o):Run E Γ (tSeq (zm8 (tBM K "list" zid (zjF i) (tCons te tNil))) u) o:=λF0 Hb F H σ own D a q=>by
 obtain ⟨p,vs,e1,e2,e3,e4,e5,e6⟩:=zi2 a e
 refine ⟨_,e1,.inl ⟨rfl,_,SqL.of e5⟩,?_⟩
 refine h F0 Hb F H σ own _ a λv F' H' g qv=>?_
 obtain ⟨p',vs',f1,f2,f3,f4,f5,f6⟩:=zi2 (a.grow g) e
 rw [e1] at f1
 cases f1
 exact ⟨p,vs',v,rfl,rfl,f5,by rw [Paired.length f6];exact hz,k F0 Hb F' _ σ own D (((a.grow g)).turn e e1 (zdb f6 (.cons qv .nil))) q⟩
theorem zpo {tb:TE} {n:Bool} {j:Int} (e:Γ[i]?=some (.ow m ds)) (h2:Ev Γ tb false (dI j)) (ej:atI ds j=some d):Ev Γ (tOp (zrI K) (zjF i) tb) m d:=λF0 Hb F H σ own Q a k=>by
 obtain ⟨p,vs,e1,e2,e3,e4,e5,e6⟩:=zi2 a e
 refine ⟨_,e1,h2 F0 Hb F H σ own _ a λv F' H' g qv=>?_⟩
 obtain ⟨x,ex,rx⟩:=zhi e6 ej
 exact ⟨p,vs,j,x,rfl,qv,SqL.of (g.h _ _ e5),ex,k x F' H' g (d.up (zbq g.f) rx)⟩
theorem zn4 {n:Bool} (e:Γ[i]?=some (.ow m ds)):Ev Γ (tCB ↑95 (tCons (zjF i) tNil)) n (dI ds.length):=λF0 Hb F H σ own Q a k=>by
 obtain ⟨p,vs,e1,e2,e3,e4,e5,e6⟩:=zi2 a e
 exact ⟨_,e1,p,vs,rfl,.inl (SqL.of e5),k _ F H (Grow.refl a.fh) (by show V.int _=_;rw [Paired.length e6])⟩
theorem znE {te tj:TE} {j:Int} {n:Nat} (e:Γ[i]?=some (.ow m ds)) (h:Ev Γ te m d) (hj:Ev Γ tj false (dI j)) (ej:ixN ds.length j=some n) (k:Run E (Γ.set i (.ow m (ds.set n d))) u o):Run E Γ (tSeq (zke te (zsr (zjF i) tj znn)) u) o:=λF0 Hb F H σ own D a q=>by
 refine h F0 Hb F H σ own _ a λv F' H' g qv=>?_
 obtain ⟨p,vs,e1,e2,e3,e4,e5,e6⟩:=zi2 (a.grow g) e
 refine ⟨_,e1,hj F0 Hb F' H' σ own _ (a.grow g) λw F2 H2 g2 qw=>?_⟩
 obtain ⟨p',vs',f1,f2,f3,f4,f5,f6⟩:=zi2 (((a.grow g)).grow g2) e
 rw [e1] at f1
 cases f1
 exact ⟨p,vs',j,n,rfl,qw,f5,by rw [Paired.length f6];exact ej,k F0 Hb F2 _ σ own D ((((a.grow g)).grow g2).turn e e1 (zi6 (R:=λv (d:Ds)=>d.pr (part m F2 Hb) v) (d.up (zbq g2.f) qv) n f6)) q⟩
theorem zi9 {S:Type} (f:S->γ->S ⊕ β):∀ (xs:List γ) (s:S) (i:Nat) (s':S),zc2 f s (xs.take i)=.inl s'->∀ x,xs[i]?=some x->zc2 f s (xs.take (i+1))=f s' x
 | [],_,_,_,_,_,h=>by simp at h
 | y :: ys,s,0,s',e,x,h=>by
  simp at h;subst h
  have e':s=s':=by simpa [zc2] using e
  subst e'
  show zc2 f s [y]=_
  simp only [zc2]
  cases f s y<;>rfl
 | y :: ys,s,i+1,s',e,x,h=>by
  simp only [List.take_succ_cons,zc2] at e ⊢
  cases q:f s y with
  | inl s1=>rw [q] at e;exact zi9 f ys s1 i s' e x (by simpa using h)
  | inr b=>rw [q] at e;cases e
theorem zi1 {S:Type} (f:S->γ->S ⊕ β):∀ (xs:List γ) (s:S) (i:Nat) (b:β),zc2 f s (xs.take i)=.inr b->zc2 f s xs=.inr b
 | [],s,i,b,e=>by simpa using e
 | y :: ys,s,0,b,e=>by simp [zc2] at e
 | y :: ys,s,i+1,b,e=>by
  simp only [List.take_succ_cons,zc2] at e ⊢
  cases q:f s y with
  | inl s1=>rw [q] at e;exact zi1 f ys s1 i b e
  | inr b'=>rw [q] at e;exact e
def zhE {S:Type} (G:S->Ctx) (res:β->Oc):S ⊕ β->Oc
 | .inl s=>.nx (G s)
 | .inr b=>res b
theorem Grow.rebase {F0 Hb F1 H1 F H:Hp} (g1:Grow F0 Hb F1 H1) (g:Grow F0 Hb F H) (e:Same F1 F):Grow F1 Hb F H :=
 ⟨e,g.fh,g.h,λa h1 h2=>g.no a h1 (g1.f.free h2)⟩
theorem Grow.unbase {F0 Hb F1 H1 F H:Hp} (g1:Grow F0 Hb F1 H1) (g:Grow F1 Hb F H):Grow F0 Hb F H :=
 ⟨g1.f.trans g.f,g.fh,g.h,λa h1 h2=>g.no a h1 (g1.no a h1 h2)⟩
theorem At.rebase {F0 Hb F1 H1 F H:Hp} {σ:St} {own:Nat->Option Addr} (g1:Grow F0 Hb F1 H1) (a:At F0 Hb F H σ own Γ) (e:Same F1 F):At F1 Hb F H σ own Γ:=⟨g1.rebase a.g e,a.inj,a.liv,a.sl,a.len⟩
theorem At.unbase {F0 Hb F1 H1 F H:Hp} {σ:St} {own:Nat->Option Addr} (g1:Grow F0 Hb F1 H1) (a:At F1 Hb F H σ own Γ):At F0 Hb F H σ own Γ:=⟨g1.unbase a.g,a.inj,a.liv,a.sl,a.len⟩
theorem zhG.rebase {F0 Hb F1 H1:Hp} {D:Ends} (g1:Grow F0 Hb F1 H1) (h:zhG E F0 Hb D o):zhG E F1 Hb D o:=by
 cases o with
 | nx Γ=>exact λF H σ own a=>h F H σ own (a.unbase g1)
 | bk Γ=>exact λF H σ own a=>h F H σ own (a.unbase g1)
 | ct Γ=>exact λF H σ own a=>h F H σ own (a.unbase g1)
 | rt m d=>exact λv F H g q=>h v F H (g1.unbase g) q
 | rl m ds=>exact λp vs F H g h1 h2 h3 q=>h p vs F H (g1.unbase g) h1 h2 h3 q
 | ex C Γ=>exact λdct F H σ own a=>h dct F H σ own (a.unbase g1)
 | rw Γ d=>exact λv F H σ own a q=>h v F H σ own (a.unbase g1) q
theorem znQ {S:Type} {wi:TI} {g:TG} {tb:TS} {js:List Nat} {xs:List γ} {bds:γ->List Ds} {mi:Bool} {s0:S} (G:S->Ctx) (res:β->Oc) (f:S->γ->S ⊕ β) (I:Nat->S->Prop) (it:Iv Γ wi g js xs bds mi) (w:Wk Γ (G s0)) (h0:I 0 s0)
  (hres:∀ (b:β) (F0 Hb:Hp) (D D':Ends),D.rt=D'.rt->zhG E F0 Hb D (res b)->zhG E F0 Hb D' (res b))
  (body:∀ (i:Nat) (x:γ) (s:S),xs[i]?=some x->I i s->(∀ s',f s x=.inl s'->I (i+1) s')∧Run E (zmM js (bds x) mi (G s)) tb (zhE G res (f s x))):Run E Γ (zrL wi g tb) (zhE G res (zc2 f s0 xs)):=λF0 Hb F H σ own D a q =>
 it F0 Hb F H σ own _ a λJ F1 H1 g1 ok=>by
  have gb:Grow F0 Hb F1 H1:=a.g.trans g1
  refine ⟨λi mm σ H2=>mm=xs.length-i∧i≤xs.length∧∃ s F2 own2,zc2 f s0 (xs.take i)=.inl s∧I i s∧At F1 Hb F2 H2 σ own2 (G s),⟨_,rfl,Nat.zero_le _,s0,F1,own,by simp [zc2],h0,(((a.grow g1)).wk w).rebase gb (Same.refl _)⟩,?_⟩
  rintro i mm σ2 H2 ⟨rfl,hi,s,F2,own2,es,hI,a2⟩
  obtain ⟨hstop,hitem⟩:=ok.up a2.g.f H2 a2.fh
  by_cases hlt:i<xs.length
  ·have hx:xs[i]?=some xs[i]:=List.getElem?_eq_getElem hlt
   obtain ⟨go,yl⟩:=hitem i xs[i] hx
   obtain ⟨hI',hb⟩:=body i _ s hx hI
   have tk:=zi9 f xs s0 i s es _ hx
   refine .inr ⟨go,λσ' H'=>∃ s' F3 own3,f s xs[i]=.inl s'∧At F1 Hb F3 H' σ' own3 (G s'),λσ' H' ⟨s',F3,own3,e3,a3⟩=>⟨xs.length-(i+1),by omega,rfl,hlt,s',F3,own3,by rw [tk,e3],hI' s' e3,a3⟩,λx H' y=>?_⟩
   obtain ⟨g3,bind⟩:=yl x H' y
   refine bind σ2 _ λvs hvs=>?_
   have a3:=(a2.grow g3).setMany (js:=js) hvs
   refine hb F1 Hb F2 H' _ own2 _ a3 ?_
   cases e3:f s xs[i] with
   | inl s'=>exact λF3 H3 σ3 own3 a4=>⟨s',F3,own3,rfl,a4⟩
   | inr b =>
    have:=zi1 f xs s0 (i+1) b (by rw [tk,e3])
    rw [this] at q
    exact hres b F1 Hb D _ rfl (zhG.rebase (o:=res b) gb q)
  ·have e:i=xs.length:=by omega
   subst e
   rw [List.take_length] at es
   rw [es] at q
   exact .inl ⟨hstop,q F2 H2 σ2 own2 (a2.unbase gb)⟩
end
end L2
namespace L2
open PySem PySem.Spec PyProof.Rows
structure EqD {α:Type} [DecidableEq α] (K:W.Frag) (f:α->Ds) (n:Nat):Prop where
 eq:∀ H x y v w,(f x).pr H v->(f y).pr H w->EqV K H n v w (decide (x=y))
 inj:∀ H x y v,(f x).pr H v->(f y).pr H v->x=y
theorem EqD.int {K:W.Frag} {n:Nat}:EqD K dI n:=⟨λH x y v w h1 h2=>by
 cases h1;cases h2
 have:decide (x=y)=eqV (.int x) (.int y):=Bool.eq_iff_iff.mpr (by unfold eqV;simp)
 rw [this];exact .flat rfl rfl,λH x y v h1 h2=>by cases h1;cases h2;rfl⟩
theorem EqD.bool {K:W.Frag} {n:Nat}:EqD K dB n:=⟨λH x y v w h1 h2=>by
 cases h1;cases h2
 have:decide (x=y)=eqV (.bl x) (.bl y):=by cases x<;>cases y<;>rfl
 rw [this];exact .flat rfl rfl,λH x y v h1 h2=>by cases h1;cases h2;rfl⟩
theorem EqD.str {K:W.Frag} {n:Nat}:EqD K dS n:=⟨λH x y v w h1 h2=>by
 cases h1;cases h2
 have:decide (x=y)=eqV (.str x) (.str y):=Bool.eq_iff_iff.mpr (by unfold eqV;simp)
 rw [this];exact .flat rfl rfl,λH x y v h1 h2=>by cases h1;cases h2;rfl⟩
theorem zhs {α:Type} {f:α->Ds} {H:Hp} (h:∀ x y v,(f x).pr H v->(f y).pr H v->x=y):∀ {xs ys:List α} {vs:List V},Paired (λv (d:Ds)=>d.pr H v) vs (xs.map f)->Paired (λv (d:Ds)=>d.pr H v) vs (ys.map f)->xs=ys
 | [],[],_,_,_=>rfl
 | [],_ :: _,_,.nil,h2=>by cases h2
 | _ :: _,[],_,h1,.nil=>by cases h1
 | x :: xs,y :: ys,_,.cons a s,.cons b t=>by rw [h x y _ a b,zhs h s t]
theorem zoI {α:Type} [DecidableEq α] {xs ys:List α} (h:xs.length=ys.length):(((List.range xs.length)).all λj=>decide (xs[j]? =ys[j]?))=decide (xs=ys):=by
 by_cases e:xs=ys
 ·subst e;simp
 ·rw [decide_eq_false e]
  by_cases z:(((List.range xs.length)).all λj=>decide (xs[j]? =ys[j]?))=true
  ·exfalso
   apply e
   rw [List.all_eq_true] at z
   refine List.ext_getElem? λj=>?_
   by_cases hj:j<xs.length
   ·simpa using z j (List.mem_range.mpr hj)
   ·rw [List.getElem?_eq_none ↑0,List.getElem?_eq_none ↑0]
  ·simpa using z
theorem zlR {α:Type} [DecidableEq α] {K:W.Frag} {f:α->Ds} {n:Nat} (E:EqD K f n) {H:Hp} {xs ys:List α} {vs ws:List V} (h1:Paired (λv (d:Ds)=>d.pr H v) vs (xs.map f)) (h2:Paired (λv (d:Ds)=>d.pr H v) ws (ys.map f)) (hl:xs.length=ys.length) :
  ∀ (j:Nat) (x y:V),vs[j]?=some x->ws[j]?=some y->EqV K H n x y (decide (xs[j]?=ys[j]?)):=λj x y e1 e2=>by
 have l1:=Paired.length h1
 have l2:=Paired.length h2
 rw [List.length_map] at l1 l2
 have hj:j<vs.length:=(List.getElem?_eq_some_iff.mp e1).1
 have q1:xs[j]?=some (xs[j]' ↑0):=List.getElem?_eq_getElem ↑0
 have q2:ys[j]?=some (ys[j]' ↑0):=List.getElem?_eq_getElem ↑0
 obtain ⟨v,ev,rv⟩:=zbw h1 (show ((xs.map f))[j]?=some (f (xs[j]' ↑0)) by rw [List.getElem?_map,q1];rfl)
 obtain ⟨w,ew,rw'⟩:=zbw h2 (show (ys.map f)[j]?=some (f (ys[j]' ↑0)) by rw [List.getElem?_map,q2];rfl)
 rw [e1] at ev;rw [e2] at ew
 cases ev;cases ew
 have:=E.eq H _ _ _ _ rv rw'
 rw [q1,q2]
 simpa using this
theorem EqD.list {α:Type} [DecidableEq α] {K:W.Frag} {f:α->Ds} {n:Nat} (E:EqD K f n):EqD K (λxs:List α=>dL (xs.map f)) (n+1):=⟨λH xs ys v w h1 h2=>by
 obtain ⟨p,vs,rfl,hp,qp⟩:=h1
 obtain ⟨q,ws,rfl,hq,qq⟩:=h2
 by_cases e:p=q
 ·subst e
  rw [hp] at hq
  cases hq
  rw [zhs (E.inj H) qp qq,decide_eq_true rfl]
  exact .same
 ·have l1:=Paired.length qp
  have l2:=Paired.length qq
  rw [List.length_map] at l1 l2
  by_cases hl:xs.length=ys.length
  ·rw [← zoI hl,← l1]
   exact .lists e (SqL.of hp) (SqL.of hq) ↑0 (zlR E qp qq hl)
  ·have:decide (xs=ys)=false:=decide_eq_false λz=>hl (by rw [z])
   rw [this]
   exact .lens e (SqL.of hp) (SqL.of hq) ↑0,λH xs ys v h1 h2=>by
 obtain ⟨p,vs,rfl,hp,qp⟩:=h1
 obtain ⟨q,ws,e,hq,qq⟩:=h2
 cases e
 rw [hp] at hq
 cases hq
 exact zhs (E.inj H) qp qq⟩
theorem zi7 {α:Type} [DecidableEq α] {K:W.Frag} {f:α->Ds} {n:Nat} (E:EqD K f n) {Γ:Ctx} {ta tb:TE} {m neg:Bool} {xs ys:List α} (h1:Ev Γ ta false (dQ K (xs.map f))) (h2:Ev Γ tb false (dQ K (ys.map f))) (hn:n≤50:=by decide) :
  Ev Γ (tOp (zpb K neg) ta tb) m (dB (bif neg then !decide (xs=ys) else decide (xs=ys))):=λF0 Hb F H σ own Q a k =>
 h1 F0 Hb F H σ own _ a λu F1 H1 g1 ⟨p,vs,e1,e2,e3⟩=>h2 F0 Hb F1 H1 σ own _ (a.grow g1) λu' F2 H2 g2 ⟨q,ws,d1,d2,d3⟩=>by
  have e2':SqL K H2 p vs:=(g1.fh.trans g2.h).seq e2
  have d2':SqL K H2 q ws:=g2.fh.seq d2
  have e3':=zdM (ds:=[]) (g1.fh.trans g2.h) e3
  have d3':=zdM (ds:=[]) g2.fh d3
  have l1:=Paired.length e3'
  have l2:=Paired.length d3'
  rw [List.length_map] at l1 l2
  refine ⟨p,q,n,vs,ws,e1,d1,e2',d2',hn,?_⟩
  by_cases hl:xs.length=ys.length
  ·refine .inr ⟨_,by omega,zlR E e3' d3' hl,k _ F2 H2 (g1.trans g2) ?_⟩
   rw [l1,zoI hl]
   cases neg<;>rfl
  ·refine .inl ⟨by omega,k _ F2 H2 (g1.trans g2) ?_⟩
   rw [show decide (xs=ys)=false from decide_eq_false λz=>hl (by rw [z])]
   cases neg<;>rfl
def zif (N:List Str) (ds:List Ds):Ctx:=ds.map (.va false)++List.replicate (N.length-ds.length) .no
def zuK (n:Nat):Rs->Oc
 | .va m d=>.rt m d
 | .ow m ds=>.rl m ds
 | .ex C=>.ex C (List.replicate n .no)
theorem zlE {F H:Hp} {N:List Str} {vs:List V} {ds:List Ds} (hF:Same F H) (hv:Paired (λv (d:Ds)=>d.pr F v) vs ds):At F H F H (start N vs) (λ_=>none) (zif N ds):=by
 have hl:=Paired.length hv
 refine ⟨Grow.refl hF,λ_ _ _ h=>(nomatch h),λ_ _ h=>(nomatch h),λi s e=>?_,by unfold start zif;simp [hl]⟩
 unfold zif at e
 unfold start
 by_cases hi:i<ds.length
 ·rw [List.getElem?_append_left (by simpa using hi),List.getElem?_map] at e
  rw [List.getElem?_append_left (by simpa [hl] using hi),List.getElem?_map]
  obtain ⟨v,ev,rv⟩:=zbw hv (List.getElem?_eq_getElem hi)
  rw [List.getElem?_eq_getElem hi] at e
  have e':Slot.va false ds[i]=s:=Option.some.inj e
  subst e'
  exact ⟨v,by rw [ev];rfl,rv⟩
 ·rw [List.getElem?_append_right (by simpa using hi),List.getElem?_replicate] at e
  split at e
  ·cases e;trivial
  ·cases e
def zrz (H F:Hp) (Q:VK) (E:XK):Rs->Prop
 | .ex C=>∀ dct F' H',Grow F H F' H'->E (.ref C) dct H'
 | .va m d=>∀ v F' H',Grow F H F' H'->d.pr (part m F' H) v->Q v H'
 | .ow m ds=>∀ p ws F' H',Grow F H F' H'->H p=none->F' p=none->H' p=some (.lst ws)->Paired (λv (d:Ds)=>d.pr (part m F' H) v) ws ds->Q (.ref p) H'
theorem zq0 {E:XK} {F H:Hp} {N:List Str} {vs:List V} {ds:List Ds} {Q:VK} {t:TS} {r:Rs} (hF:Same F H) (hv:Paired (λv (d:Ds)=>d.pr F v) vs ds) (hq:zrz H F Q E r) (h:Run (λ_=>E) (zif N ds) t (zuK N.length r)):t { nx:=λ_ H'=>Q .non H',rt:=Q } (start N vs) H:=by
 refine h F H F H _ _ _ (zlE hF hv) ?_
 cases r with
 | va m d=>exact λv F' H' g q=>hq v F' H' g q
 | ow m ds=>exact λp ws F' H' g h1 h2 h3 q=>hq p ws F' H' g h1 h2 h3 q
 | ex C=>exact λdct F' H' σ own a=>hq dct F' H' a.g
theorem zpp {E:XK} {F H:Hp} {N:List Str} {vs:List V} {ds:List Ds} {Q:VK} {t:TS} {m:Bool} {Δ:Ctx} (hF:Same F H) (hv:Paired (λv (d:Ds)=>d.pr F v) vs ds) (hq:zrz H F Q E (.va m dN)) (h:Run (λ_=>E) (zif N ds) t (.nx Δ)):t { nx:=λ_ H'=>Q .non H',rt:=Q } (start N vs) H :=
 h F H F H _ _ _ (zlE hF hv) λF' H' σ own a=>hq _ F' H' a.g rfl
section
variable {P:Program} {w:World} {K:W.Frag} {mg:Str->Option Value} {base:Heap} {x qual:Str} {st:Stmt} {f:Addr} {fd:FuncData} {N ps:List Str} {k:Nat}
theorem Fun.okV {ι:Type} {args:ι->List Ds} {pre:ι->Prop} {res:ι->Rs} (F:Fun K x qual st f fd) (S:FnScope N ps (zaf st)) (hl:∀ i,(args i).length=ps.length)
  (hbody:∀ (cdv:Value) (A:Around) (outer:List Env) (s:Shared) (H:Hp) (E:XK) (i:ι),Room k (A.deeper (envOfC qual (zaf st) s.heap.objs.size f cdv))->pre i →
   ∃ t,PSs ((zmY ⇑1 P w K mg base N qual (zaf st) f cdv A outer s H E)).nox (zaw st) t∧(Run (λ_=>E) (zif N (args i)) t (zuK N.length (res i))∨∃ m Δ,res i=.va m dN∧Run (λ_=>E) (zif N (args i)) t (.nx Δ))):FnOk P w K mg base ⇑1 (k+1) f fd ps (Spv args pre res):=by
 refine F.okX S (λvs H Q E ⟨i,F',_,hv,_⟩=>by rw [Paired.length hv];exact hl i) λcdv A outer s H vs Q E hr ⟨i,F',hF,hv,hp,hq⟩=>?_
 obtain ⟨t,h1,h2⟩:=hbody cdv A outer s H E i hr hp
 have hq':zrz H F' Q E (res i):=by
  cases e:res i with
  | va m d=>rw [e] at hq;exact hq
  | ow m ds=>rw [e] at hq;exact hq
  | ex C=>rw [e] at hq;exact hq
 refine ⟨_,zj0 h1,?_⟩
 rcases h2 with h2 | ⟨m,Δ,e,h2⟩
 ·exact zq0 hF hv hq' h2
 ·rw [e] at hq'
  exact zpp hF hv hq' h2
end
def putD (f:Str) (d:Ds):List (Str×Ds)->List (Str×Ds)
 | []=>[(f,d)]
 | (g,x) :: r=>if g=f then (g,d) :: r else (g,x) :: putD f d r
theorem zi0 {R:V->Ds->Prop} {f:Str} {v:V} {d:Ds} (h:R v d):∀ {vs:List (Str×V)} {fs:List (Str×Ds)},Paired (λ(a:Str×V) (b:Str×Ds)=>a.1=b.1∧R a.2 b.2) vs fs->Paired (λ(a:Str×V) (b:Str×Ds)=>a.1=b.1∧R a.2 b.2) (putF f v vs) (putD f d fs)
 | _,_,.nil=>.cons ⟨rfl,h⟩ .nil
 | _,_,.cons (a:=(x,u)) (b:=(y,e)) ⟨h1,h2⟩ t=>by
  have h1:x=y:=h1
  subst h1
  unfold putF putD
  split
  ·exact .cons ⟨rfl,h⟩ t
  ·exact .cons ⟨rfl,h2⟩ (zi0 h t)
theorem zqA {Γ:Ctx} {i:Nat} {m:Bool} {C p dx:Addr} {fs:List (Str×Ds)} {K:W.Frag} {tv:TE} {d:Ds} {f:Str} {u:TS} {o:Oc} {E:XS} (e:Γ[i]?=some (.ob m C p dx fs)) (h:Ev Γ tv m d) (c:Cls K C) (nf:NoAttr K C f) (hz:fs.length<1000) (k:Run E (Γ.set i (.ob m C p dx (putD f d fs))) u o):Run E Γ (tSeq (zuv K (zjF i) tv f) u) o:=λF0 Hb F H σ own D a q=>by
 refine h F0 Hb F H σ own _ a λv F' H' g qv=>?_
 have a':=a.grow g
 obtain ⟨vs,e1,e2,e3,e4,e5,e6⟩:=a'.sl i _ e
 have hi:i<σ.length:=by rw [a.len];exact (↑29).1
 rw [List.getElem?_eq_getElem hi] at e1
 have e':σ[i]=some (.ref p):=e1
 have ei:σ[i]?=some (some (.ref p)):=by rw [List.getElem?_eq_getElem hi,e']
 exact ⟨_,ei,p,C,dx,vs,rfl,e5.1,c,nf,by rw [Paired.length e6];exact hz,k F0 Hb F' _ σ own D (a'.turnOb e (zi0 (R:=λv (d:Ds)=>d.pr (part m F' Hb) v) qv e6)) q⟩
def zrJ {ι:Type} (C:Addr) (args:ι->List Ds) (pre:ι->Prop) (m:Bool) (fs:ι->List (Str×Ds)):Sp:=λvs H Q _=>∃ (i:ι) (p dx:Addr) (ws:List V) (H1 F:Hp),vs=.ref p :: ws∧H1 p=none∧H1 dx=none∧dx≠p∧H=upd (upd H1 dx (.own p)) p (.ins C dx [])∧Same F H1 ∧
 Paired (λv (d:Ds)=>d.pr F v) ws (args i)∧pre i∧∀ us F' H',Grow F H1 F' H'->F' p=none->F' dx=none->H' p=some (.ins C dx us)->H' dx=some (.own p)->Paired (λ(a:Str×V) (b:Str×Ds)=>a.1=b.1∧b.2.pr (part m F' H1) a.2) us (fs i)->Q .non H'
def znM (m:Bool) (C p dx:Addr) (N:List Str) (ds:List Ds):Ctx:=.ob m C p dx [] :: (ds.map (.va false)++List.replicate (N.length-(ds.length+1)) .no)
section
variable {P:Program} {w:World} {K:W.Frag} {mg:Str->Option Value} {base:Heap} {x qual:Str} {st:Stmt} {f:Addr} {fd:FuncData} {N ps:List Str} {k:Nat}
theorem znU {m:Bool} {F H1:Hp} {C p dx:Addr} {N:List Str} {ws:List V} {ds:List Ds} (hF:Same F H1) (hv:Paired (λv (d:Ds)=>d.pr F v) ws ds) (h1:H1 p=none) (h2:H1 dx=none) (h3:dx≠p) :
  At F H1 F (upd (upd H1 dx (.own p)) p (.ins C dx [])) (start N (.ref p :: ws)) (λi=>if i=0 then some p else none) (znM m C p dx N ds):=by
 have hl:=Paired.length hv
 have n1:upd H1 dx (.own p) p=none:=by rw [zax (Ne.symm h3)];exact h1
 have g:Grow F H1 F (upd (upd H1 dx (.own p)) p (.ins C dx [])):=((Grow.refl hF).newH h2).newH n1
 refine ⟨g,λi j q e1 e2=>?_,λi q e=>?_,λi s e=>?_,?_⟩
 ·split at e1
  ·split at e2
   ·omega
   ·cases e2
  ·cases e1
 ·split at e
  ·cases e;rw [zaG];simp
  ·cases e
 ·cases i with
  | zero =>
   have e':Slot.ob m C p dx []=s:=Option.some.inj e
   subst e'
   exact ⟨[],rfl,rfl,⟨hF.free h1,hF.free h2⟩,⟨h1,h2⟩,⟨zaG,by rw [zax h3];exact zaG⟩,.nil⟩
  | succ i =>
   have e:(ds.map (Slot.va false)++List.replicate (N.length-(ds.length+1)) Slot.no)[i]?=some s:=e
   show zgQ H1 F _ _ _ ((ws.map some++List.replicate (N.length-(ws.length+1)) none)[i]?).join s
   by_cases hi:i<ds.length
   ·rw [List.getElem?_append_left (by simpa using hi),List.getElem?_map] at e
    rw [List.getElem?_append_left (by simpa [hl] using hi),List.getElem?_map]
    obtain ⟨v,ev,rv⟩:=zbw hv (List.getElem?_eq_getElem hi)
    rw [List.getElem?_eq_getElem hi] at e
    have e':Slot.va false ds[i]=s:=Option.some.inj e
    subst e'
    exact ⟨v,by rw [ev];rfl,rv⟩
   ·rw [List.getElem?_append_right (by simpa using hi),List.getElem?_replicate] at e
    split at e
    ·cases e;trivial
    ·cases e
 ·unfold start znM;simp [hl]
theorem Fun.okI {ι:Type} {C:Addr} {args:ι->List Ds} {pre:ι->Prop} {m:Bool} {fs:ι->List (Str×Ds)} (F:Fun K x qual st f fd) (S:FnScope N ps (zaf st)) (hl:∀ i,(args i).length+1=ps.length)
  (hbody:∀ (cdv:Value) (A:Around) (outer:List Env) (s:Shared) (H:Hp) (E:XK) (i:ι),Room k (A.deeper (envOfC qual (zaf st) s.heap.objs.size f cdv))->pre i →
   ∃ t,PSs ((zmY ⇑1 P w K mg base N qual (zaf st) f cdv A outer s H E)).nox (zaw st) t∧∀ p dx,∃ Δ,Run (λ_=>E) (znM m C p dx N (args i)) t (.nx Δ)∧Δ[0]?=some (.ob m C p dx (fs i))):FnOk P w K mg base ⇑1 (k+1) f fd ps (zrJ C args pre m fs):=by
 refine F.okX S (λvs H Q E ⟨i,p,dx,ws,H1,F',e,_,_,_,_,_,hv,_⟩=>by rw [e,List.length_cons,Paired.length hv];exact hl i) λcdv A outer s H vs Q E hr ⟨i,p,dx,ws,H1,F',e,h1,h2,h3,h4,hF,hv,hp,hq⟩=>?_
 subst e h4
 obtain ⟨t,t1,t2⟩:=hbody cdv A outer s _ E i hr hp
 obtain ⟨Δ,t2,t3⟩:=t2 p dx
 refine ⟨_,zj0 t1,?_⟩
 refine t2 F' H1 F' _ _ _ _ (znU hF hv h1 h2 h3) λF2 H2 σ2 own2 a2=>?_
 obtain ⟨us,e1,e2,e3,e4,e5,e6⟩:=a2.sl 0 _ t3
 exact hq us F2 H2 a2.g e3.1 e3.2 e5.1 e5.2 e6
end
section
variable {Γ:Ctx} {K:W.Frag} {ds:List Ds} {tr:TA} {E:XK}
theorem zlj {ι:Type} {C:Addr} {args:ι->List Ds} {pre:ι->Prop} {m:Bool} {fs:ι->List (Str×Ds)} (i:ι) (h:EvA Γ tr false ds) (ha:ds=args i) (hp:pre i):Ev Γ (zpA C (zrJ C args pre m fs) [] E tr) m (dO C (fs i)):=λF0 Hb F H σ own Q a k=>by
 subst ha
 refine h F0 Hb F H σ own _ a λvs F1 H1 g1 q1 p dx h1 h2 h3=>⟨i,p,dx,vs,H1,F1,by rw [List.append_nil],h1,h2,h3,rfl,g1.fh,q1,hp,λus F' H' g n1 n2 e1 e2 e3=>⟨rfl,?_⟩⟩
 have g2:=g1.trans g
 obtain ⟨p0,_,pb⟩:=a.free g1 h1
 obtain ⟨d0,_,db⟩:=a.free g1 h2
 have g3:=(g2.take p0 e1).take d0 e2
 have s1:Same F' (upd F' p (.ins C dx us)):=Same.new n1 _
 have n3:upd F' p (.ins C dx us) dx=none:=by rw [zax h3];exact n2
 have s2:Same F' (upd (upd F' p (.ins C dx us)) dx (.own p)):=s1.trans (Same.new n3 _)
 refine k _ _ _ g3 ⟨p,dx,us,rfl,zer pb (by rw [zax (Ne.symm h3)];exact zaG),zer db zaG,?_⟩
 exact zb6 (λ_ b q=>⟨q.1,b.2.up (((zhO (a.g.h.trans g1.h))).trans (zbq s2)) q.2⟩) e3
end
end L2
namespace L2
open PySem PySem.Spec PyProof.Rows
def Ite (K:W.Frag) (a:Addr):It :=
 ⟨λi H=>∃ xs x,SqL K H a xs∧xs[i]?=some x,
  λi H v H'=>∃ p x,v=.ref p∧H p=none∧H'=upd H p (.tup [.int (i:Int),x])∧∀ xs,SqL K H a xs->xs[i]?=some x,
  λi H=>∃ xs,SqL K H a xs∧xs.length≤i⟩
theorem zoF {P:Program} {w:World} {K:W.Frag} {elts:List Expr} {x1:Nat} {tp:Pos} {a e it:Addr} (hne:e≠it) :
  Turn P w K (.Tuple elts x1 tp) (Ite K a) [e,it] e (λi h=>(∃ old,IsEnum h e it (i:Int) old)∧h.IsListIter it a i) where
 mem:=by simp
 obj:=λi h st c hc=>by
  obtain ⟨⟨old,he⟩,⟨o1,e1,_,d1⟩⟩:=st
  simp only [List.mem_cons,List.not_mem_nil,or_false] at hc
  rcases hc with rfl | rfl
  ·exact ⟨_,he,λv z=>by cases z⟩
  ·exact ⟨o1,e1,λv z=>by rw [d1] at z;cases z⟩
 keep:=λi h h' st k=>by
  obtain ⟨⟨old,he⟩,h1⟩:=st
  exact ⟨⟨old,k e (by simp) _ he⟩,h1.at λo q=>k it (by simp) o q⟩
 item:=by
  intro X hP hw hK hc i pins s σ H E I hf st hg
  subst hP hw hK
  obtain ⟨xs,x,hxs,hx⟩:=hg
  obtain ⟨itx,rx,px,hzx⟩:=I.list hxs
  obtain ⟨u,hu,ru⟩:=rx.get hx
  obtain ⟨⟨old,he⟩,h1⟩:=st
  refine wpAny_pyNext_enum_item (x:=u) he h1 px.isList (by simpa using hu) hne λh' a1 a2 a3 a4 hk=>?_
  refine ⟨_,rfl,wpAny_letOwnedTupleGo_enum a1 λh'' b1 b2=>?_⟩
  have elt:e<s.heap.objs.size:=Heap.lt_size he
  have itl:it<s.heap.objs.size:=by obtain ⟨_,q,_⟩:=h1;exact Heap.lt_size q
  have tup:h''.get? s.heap.objs.size=some { cls:=.type "tuple",data:=.seq #[.int i s.toks,u] }:=b2.extBut _ _ (Nat.ne_of_gt elt) a3
  have I1:Inv X pins σ (upd H s.heap.objs.size (.tup [.int (i:Int),x])) { s with heap:=h'',toks:=s.toks+1 }:=by
   refine I.turnedNew (t':=s.toks+1) (ch:=[e,it]) (λc hc=>hf c hc) (λc ob hc q=>?_) ↥7 ?_
   ·simp only [List.mem_cons,List.not_mem_nil,or_false,not_or] at hc
    exact b2.extBut _ _ hc.1 (hk c ob hc.1 hc.2 q)
   ·exact ⟨by show 2≤sizeLine;decide,[.int i s.toks,u],.cons ⟨_,rfl⟩ (.cons ru .nil),⟨_,tup,rfl,_,rfl⟩⟩
  refine ⟨.ref s.heap.objs.size,_,I1,rfl,⟨_,x,rfl,I.hok.fresh ↥7,rfl,λxs' q1=>?_⟩,⟨⟨u,?_⟩,a2.extBut b2.extBut (Ne.symm hne)⟩,λc hc=>?_⟩
  ·rw [I.list_inj q1 hxs];exact hx
  ·exact b1
  ·have:c≠s.heap.objs.size:=by
    simp only [List.mem_cons,List.not_mem_nil,or_false] at hc
    rcases hc with rfl | rfl
    ·exact Nat.ne_of_lt elt
    ·exact Nat.ne_of_lt itl
   rw [zax this];exact (hf c hc).1
 done:=by
  intro X hP hw hK hc i pins s σ H E I hf st hg
  subst hP hw hK
  obtain ⟨xs,hxs,hend⟩:=hg
  obtain ⟨itx,rx,px,hzx⟩:=I.list hxs
  obtain ⟨⟨old,he⟩,h1⟩:=st
  have lx:=rx.length
  refine wpAny_pyNext_enum_end (I.ok.hd hc) he h1 px.isList (by simp;omega) λh' hk=>⟨rfl,?_⟩
  refine I.turnedL (t':=s.toks) (ch:=[e,it]) (λc hc=>hf c hc) (λc ob hc q=>?_)
  simp only [List.mem_cons,List.not_mem_nil,or_false,not_or] at hc
  exact hk c ob hc.2 q
 self:=λ_ _ _ _ _ st h=>by obtain ⟨⟨old,he⟩,_⟩:=st;exact wpAny_pyIter_enum he h
section
variable {X:Cx} {K:W.Frag}
def zsK (K:W.Frag) (ta:TA):TI:=λσ H R=>ta σ H λvs H1=>∃ a,vs=[.ref a]∧(∃xs,SqL K H1 a xs)∧R (Ite K a) H1
theorem zhc {a:Expr} {ta:TA} {p pos tp:Pos} {elts:List Expr} {x1:Nat} (hK:X.K=K) (hg:Gl X "enumerate") (hm:X.mg "enumerate"=none) (ha:PA X [a] ta) (hs:starEach [a] X.env=[(false,eval a X.env)]:=by rfl) :
  PI X (.Tuple elts x1 tp) (.Call (.Name "enumerate" p) [a] [] pos) (zsK K ta):=by
 subst hK
 intro pins s σ H R I h
 refine Call_ (zhx I hg hm boot_enumerate (PyProof.Rows.callWith_type1 ↑110 (by rw [hs];rfl) rfl))
 obtain ⟨l,e,⟨xs,hx⟩,q⟩:=q1
 subst e
 cases r1 with
 | cons r rr =>
  cases rr
  cases r
  obtain ⟨itx,rx,px,hzx⟩:=I1.list hx
  refine call_enumerate_list px.isList λh' he h1 hsz hk=>wpAny_pyIter_enum he ?_
  have hne:(s1.heap.objs.size+1:Nat)≠s1.heap.objs.size:=by omega
  refine ⟨s1.heap.objs.size+1,[s1.heap.objs.size+1,s1.heap.objs.size],_,Ite X.K l,H1,rfl,I1.kept (t':=s1.toks) hk,zoF hne,⟨⟨_,he⟩,h1⟩,λc hc=>?_,q⟩
  have hle:@LE.le Nat _ s1.heap.objs.size c:=by
   simp only [List.mem_cons,List.not_mem_nil,or_false] at hc
   rcases hc with rfl | rfl<;>omega
  exact I1.fpOk hle (I1.hok.fresh hle)
end
def Itv (K:W.Frag) (a:Addr) (n:Nat):It :=
 ⟨λi H=>i<n∧∃ xs x,SqL K H a xs∧xs.length=n∧xs[n-1-i]?=some x,λi H x H'=>H'=H∧∀ xs,SqL K H a xs->xs[n-1-i]?=some x,λi _=>i=n⟩
theorem zph {P:Program} {w:World} {K:W.Frag} {tg:Expr} (a it:Addr) (n:Nat):Turn P w K tg (Itv K a n) [it] it (λi h=>h.IsRevIter it a ((n:Int)-1-(i:Int))) where
 mem:=by simp
 obj:=λi h st b hb=>by
  have e:b=it:=by simpa using hb
  subst e
  obtain ⟨o,e,c,d⟩:=st
  exact ⟨o,e,λv z=>by rw [d] at z;cases z⟩
 keep:=λi h h' st k=>st.at λo e=>k it (by simp) o e
 item:=by
  intro X hP hw hK hc i pins s σ H E I hf st hg
  subst hP hw hK
  obtain ⟨hi,xs,x,hq,hn,hx⟩:=hg
  obtain ⟨its,rv,p,hz⟩:=I.list hq
  obtain ⟨u,hu,ru⟩:=rv.get hx
  obtain ⟨f0,f1,f2,f3,f4,f5⟩:=hf it (by simp)
  have e1:(n:Int)-1-(i:Int)=((n-1-i:Nat):Int):=by omega
  have e2:((n-1-i:Nat):Int)-1=(n:Int)-1-((i+1:Nat):Int):=by omega
  rw [e1] at st
  refine wpAny_pyNext_rev_item st p.isList (x:=u) (by simpa using hu) λh' st' sb=>?_
  rw [e2] at st'
  have I1:Inv X pins σ H { s with heap:=h' }:=I.turned (t':=s.toks) (λb o hb e=>(sb.2 b hb).trans e) f0 f1 f3 f4 f5
  obtain ⟨o,e,c,d⟩:=id st'
  exact ⟨u,rfl,zqF (s:= {s with heap:=h'}) e c d ↑1 ⟨x,H,I1,ru,⟨rfl,λys hy=>by rw [I.list_inj hy hq];exact hx⟩,st',λb hb=>(hf b hb).1⟩⟩
 done:=by
  intro X hP hw hK hc i pins s σ H E I hf st hg
  subst hP hw hK
  have hg:i=n:=hg
  subst hg
  obtain ⟨f0,f1,f2,f3,f4,f5⟩:=hf it (by simp)
  have e1:(i:Int)-1-(i:Int)=-1:=by omega
  rw [e1] at st
  exact wpAny_pyNext_rev_end (I.ok.hd hc) st λh' eb=>⟨rfl,I.turned (t':=s.toks) (λb o hb e=>eb b o hb e) f0 f1 f3 f4 f5⟩
 self:=λ_ _ _ _ _ st h=>wpAny_pyIter_revIter st h
section
variable {X:Cx} {K:W.Frag}
def zu5 (K:W.Frag) (ta:TA):TI:=λσ H R=>ta σ H λvs H1=>∃ a xs,vs=[.ref a]∧SqL K H1 a xs∧R (Itv K a xs.length) H1
theorem zp6 {a tg:Expr} {ta:TA} {p pos:Pos} (hK:X.K=K) (hg:Gl X "reversed") (hm:X.mg "reversed"=none) (ha:PA X [a] ta) (hs:starEach [a] X.env=[(false,eval a X.env)]:=by rfl) :
  PI X tg (.Call (.Name "reversed" p) [a] [] pos) (zu5 K ta):=by
 subst hK
 intro pins s σ H R I h
 refine Call_ (zhx I hg hm boot_reversed (PyProof.Rows.callWith_type1 ↑110 (by rw [hs];rfl) rfl))
 obtain ⟨l,xs,e,hx,q⟩:=q1
 subst e
 cases r1 with
 | cons r rr =>
  cases rr
  cases r
  obtain ⟨itx,rx,px,hzx⟩:=I1.list hx
  have hl:=rx.length
  refine call_reversed_list px.isList ?_
  have ho:=Heap.get?_push_size s1.heap (o:=revObj l ((itx.toArray.size:Int)-1)) rfl
  have st:(s1.heap.push (revObj l ((itx.toArray.size:Int)-1))).IsRevIter s1.heap.objs.size l ((xs.length:Int)-1-((0:Nat):Int)):=⟨_,ho,rfl,by rw [List.size_toArray,← hl];simp [revObj]⟩
  refine wpAny_pyIter_revIter st ?_
  refine ⟨s1.heap.objs.size,[s1.heap.objs.size],_,Itv X.K l xs.length,H1,rfl,I1.kept (t':=s1.toks) (λb o e=>Heap.get?_push_of_some _ e),zph l s1.heap.objs.size xs.length,st,λc hc=>?_,q⟩
  have hle:@LE.le Nat _ s1.heap.objs.size c:=by
   simp only [List.mem_cons,List.not_mem_nil,or_false] at hc
   rw [hc];exact Nat.le_refl _
  exact I1.fpOk hle (I1.hok.fresh hle)
theorem zn7 (hK:X.K=K) (hc:X.calm=true):ziz X (.builtin "any") (λxs H Q=>∃(a:Addr) (ns:Ji),xs=[.ref a]∧SqL K H a (ns.map V.int)∧Q (.bl (ns.any (· !=0))) H):=by
 subst hK
 intro pins s σ H xs us Q I r h
 obtain ⟨a,bs,rfl,hq,q⟩:=h
 obtain ⟨u,rfl,rx⟩:=zmG r
 cases rx
 obtain ⟨its,rv,p,hz⟩:=I.list hq
 have hl:=rv.length
 rw [List.length_map] at hl
 have alt:a<s.heap.objs.size:=by obtain ⟨o,e,_⟩:=p.isList;exact Heap.lt_size e
 have hl1:((s.heap.push {cls:= .type "list_iterator",data:= .fields #[.ref a,.int 0 0]})).IsList a its.toArray:=Heap.IsList.push p.isList _
 refine call_any_walk (wpAny_pyIter_list p.isList ?_)
 refine ⟨s.heap.objs.size,[s.heap.objs.size,a],[s.heap.objs.size],its.toArray.size,_,_,λi=>(bs[i]?).getD 0 != 0,rfl,Walks.list (A:=X.A.in1) (I.ok.hd hc) s.heap.objs.size a (Nat.ne_of_lt alt) its.toArray,⟨⟨_,Heap.get?_push_size _ rfl,rfl,rfl⟩,hl1⟩,λi v s' Q' E' hv hQ'=>?_,λh' tk hk=>?_⟩
 ·have hv':its[i]?=some v:=by simpa using hv
  have hi:i<its.length:=(List.getElem?_eq_some_iff.mp hv').1
  obtain ⟨u,hu,ru⟩:=rv.get (i:=i) (x:=.int (bs[i]' ↑0)) (by rw [List.getElem?_map,List.getElem?_eq_getElem ↑0];rfl)
  rw [hv'] at hu
  cases hu
  obtain ⟨t,rfl⟩:=ru
  have e:(bs[i]?).getD 0=bs[i]' ↑0:=by rw [List.getElem?_eq_getElem (show i<bs.length by omega)];rfl
  have hQ2:Q' ((bs[i]?).getD 0 != 0) s':=hQ'
  rw [e] at hQ2
  exact PySem.P.truthy_int hQ2
 ·have e:(List.range its.toArray.size).any (λi=>(bs[i]?).getD 0 != 0)=bs.any (· != 0):=by
   rw [List.size_toArray,← hl,Bool.eq_iff_iff,List.any_eq_true,List.any_eq_true]
   constructor
   ·rintro ⟨i,hi,z⟩
    have hi':=List.mem_range.mp hi
    rw [List.getElem?_eq_getElem hi'] at z
    exact ⟨_,List.getElem_mem hi',z⟩
   ·rintro ⟨x,hx,z⟩
    obtain ⟨i,hi,rfl⟩:=List.getElem_of_mem hx
    exact ⟨i,List.mem_range.mpr hi,by rw [List.getElem?_eq_getElem hi];exact z⟩
  rw [e]
  exact ⟨.bl _,H,I.kept (h':=h') (t':=tk) λb o e=>hk b o (by simp only [List.mem_singleton];exact Nat.ne_of_lt (Heap.lt_size e)) (Heap.get?_push_of_some _ e),rfl,q⟩
end
section
variable {Γ:Ctx} {m:Bool} {K:W.Frag} {γ:Type}
def zfB {α:Type} (xs:List α):List (Int×α):=(za6 0 xs.length).zip xs
theorem zh0 {α:Type} {xs:List α}:(zfB xs).length=xs.length:=by simp [zfB,List.length_zip,zaY]
theorem zdG {α:Type} {xs:List α} {i:Nat} {p:Int×α} (h:(zfB xs)[i]?=some p):i<xs.length∧p.1=i∧xs[i]?=some p.2:=by
 obtain ⟨h1,h2⟩:=zdw h
 obtain ⟨h3,h4⟩:=zbs h1
 exact ⟨h3,by rw [h4];omega,h2⟩
theorem zg8 {tl:TE} {j1 j2:Nat} {xs:List γ} (f:γ->Ds) (h:Ev Γ tl m (dQ K (xs.map f))) :
  Iv Γ (zsK K (tCons tl tNil)) (zq7 K 2 (zgu (zdE j1) (zgu (zdE j2) zqL))) [j1,j2] (zfB xs) (λx=>[dI x.1,f x.2]) m:=λF0 Hb F H σ own R a k =>
 h F0 Hb F H σ own _ a λu F1 H1 g1 ⟨p,vs,e1,e2,e3⟩=>by
  have e2':SqL K F1 p vs:=zbj.seq e2
  have le:=Paired.length e3
  rw [List.length_map] at le
  refine ⟨p,by rw [e1],⟨vs,g1.fh.seq e2'⟩,k _ F1 H1 g1 λH hs=>⟨⟨vs,hs.seq e2',by rw [le,zh0];exact Nat.le_refl _⟩,λi x ex=>?_⟩⟩
  obtain ⟨hi,x1,x2⟩:=zdG ex
  obtain ⟨v,ev,qv⟩:=zbw e3 (show ((xs.map f))[i]?=some (f x.2) by rw [List.getElem?_map,x2];rfl)
  refine ⟨⟨vs,v,hs.seq e2',ev⟩,λz H' y=>?_⟩
  obtain ⟨r,x',rfl,hr,rfl,hxy⟩:=y
  have hx:=hxy vs (hs.seq e2')
  rw [ev] at hx
  cases hx
  exact ⟨(Grow.refl hs).newH hr,λσ Q k=>⟨r,_,rfl,.inl (.inl zaG),rfl,_,_,rfl,_,_,rfl,rfl,k [.int i,v] (.cons (by show V.int _=V.int _;rw [x1]) (.cons qv .nil))⟩⟩
theorem zqf {tl:TE} {j:Nat} {xs:List γ} (f:γ->Ds) (h:Ev Γ tl m (dQ K (xs.map f))):Iv Γ (zu5 K (tCons tl tNil)) (zdE j) [j] xs.reverse (λx=>[f x]) m:=λF0 Hb F H σ own R a k =>
 h F0 Hb F H σ own _ a λu F1 H1 g1 ⟨p,vs,e1,e2,e3⟩=>by
  have e2':SqL K F1 p vs:=zbj.seq e2
  have le:=Paired.length e3
  rw [List.length_map] at le
  refine ⟨p,vs,by rw [e1],g1.fh.seq e2',k _ F1 H1 g1 λH hs=>⟨by show xs.reverse.length=vs.length;rw [List.length_reverse,le],λi x ex=>?_⟩⟩
  have hi:i<xs.length:=by simpa using (List.getElem?_eq_some_iff.mp ex).1
  rw [List.getElem?_reverse hi] at ex
  obtain ⟨v,ev,qv⟩:=zbw e3 (show ((xs.map f))[xs.length-1-i]?=some (f x) by rw [List.getElem?_map,ex];rfl)
  rw [← le] at ev
  refine ⟨⟨by rw [le];exact hi,vs,v,hs.seq e2',rfl,ev⟩,λw H' y=>?_⟩
  obtain ⟨rfl,y⟩:=y
  have:=y vs (hs.seq e2')
  rw [ev] at this
  cases this
  exact ⟨Grow.refl hs,λσ Q k=>k [v] (.cons qv .nil)⟩
theorem ztf {xs:Ji} {t:TE} (h1:Ev Γ t false (dQ K (xs.map dI))):Ev Γ (tCB (λxs H Q=>∃(a:Addr) (ns:Ji),xs=[.ref a]∧SqL K H a (ns.map V.int)∧Q (.bl (ns.any (· !=0))) H) (tCons t tNil)) m (dB (xs.any (· != 0))):=λF0 Hb F H σ own Q a k =>
 h1 F0 Hb F H σ own _ a λu F1 H1 g1 ⟨p,vs,e1,e2,e3⟩=>⟨p,xs,by rw [e1],by rw [←zgs e3];exact g1.fh.seq e2,k _ F1 H1 g1 rfl⟩
end
end L2
namespace L2
open PySem PySem.Spec PyProof.Rows
theorem Ev.any {Γ:Ctx} {t:TE} {m n:Bool} {v:V} (h:Ev Γ t m (dV v)):Ev Γ t n (dV v):=λF0 Hb F H σ own Q a k=>h F0 Hb F H σ own Q a λu F' H' g q=>k u F' H' g q
theorem znf {α:Type} {R R':Hp} {g:α->V} {vs:List V} {xs:List α} (h:Paired (λv (d:Ds)=>d.pr R v) vs (xs.map λx=>dV (g x))):Paired (λv (d:Ds)=>d.pr R' v) vs (xs.map λx=>dV (g x)):=by
 rw [zgs h]
 clear h
 induction xs with
 | nil=>exact .nil
 | cons x xs ih=>exact .cons rfl ih
theorem EvO.anyV {Γ:Ctx} {t:TE} {m n:Bool} {α:Type} {g:α->V} {xs:List α} (h:EvO Γ t m (xs.map λx=>dV (g x))):EvO Γ t n (xs.map λx=>dV (g x)):=λF0 Hb F H σ own Q a k=>h F0 Hb F H σ own Q a λp vs F' H' g h1 h2 h3 q=>k p vs F' H' g h1 h2 h3 (znf q)
theorem EvO.anyI {Γ:Ctx} {t:TE} {m n:Bool} {xs:Ji} (h:EvO Γ t m (xs.map dI)):EvO Γ t n (xs.map dI):=EvO.anyV h
section
variable {X:Cx}
def zeI (i j:Int):Prop:=(-(2^64)<i∧i<2^64)∨(-(2^64)<j∧j<2^64)∨(i.natAbs.log2<60000000∧j.natAbs.log2<60000000)
theorem zmU {a b:Int} (ha:Builtin.Int.intBits a≤60000000) (hb:Builtin.Int.intBits b≤60000000):IntMulOk a b:=by
 have h:Builtin.Int.intTooBig (Builtin.Int.intBits a+Builtin.Int.intBits b)=false:=by
  unfold Builtin.Int.intTooBig bitsLine
  exact decide_eq_false ↑0
 unfold IntMulOk
 rw [h]
 simp
theorem zbK:OpR X (binaryOp .Mult) (rI zeI λi j=>.int (i*j)):=opI λ_ _ _ _ _ _ _ hc q=>mul_int q (by
 rcases hc with h | h | h
 ·exact .of_left (intBits_le_64 h.1 h.2)
 ·exact .of_right (intBits_le_64 h.1 h.2)
 ·exact zmU (zop h.1) (zop h.2))
end
def ixD {α:Type} [Inhabited α] (xs:List α) (i:Int):α:=(atI xs i).getD default
def InB (n:Nat) (i:Int):Prop:=-(n:Int)≤i∧i<n
theorem zjX {n:Nat} {i:Int} (h:InB n i):∃ j,ixN n i=some j∧j<n∧(0≤i->j=i.toNat):=by
 unfold InB at h
 unfold ixN
 by_cases h0:0≤i
 ·rw [if_pos h0,if_pos h.2];exact ⟨_,rfl,by omega,λ_=>rfl⟩
 ·rw [if_neg h0,if_pos h.1];exact ⟨_,rfl,by omega,λz=>absurd z h0⟩
theorem znm {α:Type} [Inhabited α] {xs:List α} {i:Int} (h:InB xs.length i):atI xs i=some (ixD xs i):=by
 obtain ⟨j,e,hj,_⟩:=zjX h
 unfold ixD atI
 rw [e]
 show xs[j]?=some (xs[j]?.getD default)
 rw [List.getElem?_eq_getElem hj];rfl
theorem zbJ {α:Type} [Inhabited α] {xs:List α} {n:Nat} {x:α} (h:xs[n]?=some x):ixD xs (n:Int)=x:=by
 have hn:n<xs.length:=((List.getElem?_eq_some_iff.mp h)).1
 unfold ixD atI ixN
 rw [if_pos ↑0,if_pos ↑0]
 show (xs[(n:Int).toNat]?).getD default=x
 rw [Int.toNat_natCast,h];rfl
theorem zcp {α:Type} [Inhabited α] {xs:List α} {i:Int} (h:InB xs.length i):ixD xs i∈xs:=by
 have:=znm h
 unfold atI at this
 obtain ⟨j,e,hj,_⟩:=zjX h
 rw [e] at this
 exact List.mem_of_getElem? this
def zc7 {α:Type} (xs:List α) (i:Int) (x:α):List α:=match ixN xs.length i with
 | some n=>xs.set n x
 | none=>xs
theorem zeR {α:Type} {xs:List α} {i:Int} {x:α}:(zc7 xs i x).length=xs.length:=by
 unfold zc7;split<;>simp
def zch {α:Type} (n:Int) (xs:List α):List α:=(List.replicate n.toNat xs).flatten
def dOpt {α:Type} (f:α->Ds):Option α->Ds
 | none=>dN
 | some x=>f x
def NN {α:Type} (f:α->Ds):Prop:=∀ x H v,(f x).pr H v->v≠.non
theorem NN.lst {α:Type} {f:α->Ds}:NN (λxs:List α=>dL (xs.map f)):=λ_ _ _ ⟨_,_,e,_⟩=>by rw [e];simp
theorem NN.tup {α:Type} {f:α->List Ds}:NN (λx=>dT (f x)):=λ_ _ _ ⟨_,_,e,_⟩=>by rw [e];simp
theorem NN.obj {α:Type} {C:Addr} {f:α->List (Str×Ds)}:NN (λx=>dO C (f x)):=λ_ _ _ ⟨_,_,_,e,_⟩=>by rw [e];simp
section
variable {E:XS} {Γ:Ctx} {m:Bool} {K:W.Frag} {α β γ:Type} {f:α->Ds} {t ta tb te:TE} {u r:TS} {o:Oc} {xs ys:List α} {i:Nat}
theorem zbg [Inhabited α] {j:Int} (h1:Ev Γ ta m (dQ K (xs.map f))) (h2:Ev Γ tb false (dI j)) (h:InB xs.length j):Ev Γ (tOp (zrI K) ta tb) m (f (ixD xs j)):=zt6 h1 h2 (znr (znm h))
theorem zbb {n:Bool} (h1:Ev Γ t false (dQ K (xs.map f))):Ev Γ (tCB ↑95 (tCons t tNil)) n (dI (xs.length:Nat)):=(zth h1).conv (by rw [List.length_map])
theorem zdZ {tl th:TO} {lo hi:Option Int} (h1:Ev Γ t m (dQ K (xs.map f))) (h2:EvP Γ tl lo) (h3:EvP Γ th hi):EvO Γ (tSl (ztE K) t tl th) m ((zcQ xs lo hi).map f):=(ztB h1 h2 h3).conv zpe.symm
theorem zdC (h1:Ev Γ ta m (dL (xs.map f))) (h2:Ev Γ tb m (dL (ys.map f))) (hz:xs.length+ys.length≤sizeLine):EvO Γ (tOp zt5 ta tb) m ((xs++ys).map f):=(zsM h1 h2 (by rw [List.length_map,List.length_map];exact hz)).conv (List.map_append ..).symm
theorem zio {n:Nat}:(List.replicate n (xs.map f)).flatten=((List.replicate n xs).flatten).map f:=by
 induction n with
 | zero=>rfl
 | succ n ih=>rw [List.replicate_succ,List.replicate_succ,List.flatten_cons,List.flatten_cons,List.map_append,ih]
theorem zfo {n:Int} (h1:Ev Γ ta m (dL (xs.map f))) (h2:Ev Γ tb false (dI n)) (hn:-(2^63)≤n∧n<2^63) (hz:xs.length*n.toNat≤sizeLine):EvO Γ (tOp zuJ ta tb) m ((zch n xs).map f):=(ztd h1 h2 hn (by rw [List.length_map];exact hz)).conv zio
theorem zm2 {x:Option α} {n:Bool} (h1:Ev Γ ta false (dOpt f x)) (h2:Ev Γ tb false dN) (hf:NN f):Ev Γ (tOp (λx y H Q=>y= .non∧Q (.bl (decide (x= .non))) H) ta tb) n (dB x.isNone):=zs4 h1 h2 λH v q=>by
 cases x with
 | none=>rw [show v=V.non from q];rfl
 | some x=>exact decide_eq_false (hf x H v q)
theorem zcZ {x:Option α} {n:Bool} (h1:Ev Γ ta false (dOpt f x)) (h2:Ev Γ tb false dN) (hf:NN f):Ev Γ (tOp (λx y H Q=>y= .non∧Q (.bl (!decide (x= .non))) H) ta tb) n (dB x.isSome):=(zrr (b:=x.isNone) h1 h2 λH v q=>by
 cases x with
 | none=>rw [show v=V.non from q];rfl
 | some x=>exact decide_eq_false (hf x H v q)).conv (by cases x<;>rfl)
theorem zcc [Inhabited α] {j:Int} (e:Γ[i]?=some (.ow m (xs.map f))) (h2:Ev Γ tb false (dI j)) (h:InB xs.length j):Ev Γ (tOp (zrI K) (zjF i) tb) m (f (ixD xs j)):=zpo (n:=m) e h2 (znr (znm h))
theorem zho {n:Bool} (e:Γ[i]?=some (.ow m (xs.map f))):Ev Γ (tCB ↑95 (tCons (zjF i) tNil)) n (dI (xs.length:Nat)):=(zn4 (n:=n) e).conv (by rw [List.length_map])
theorem zcv {x:α} (e:Γ[i]?=some (.ow m (xs.map f))) (h:Ev Γ te m (f x)) (hz:xs.length<sizeLine) (k:Run E (Γ.set i (.ow m ((xs++[x]).map f))) u o):Run E Γ (tSeq (zm8 (tBM K "list" zid (zjF i) (tCons te tNil))) u) o :=
 zmK e h (by rw [List.length_map];exact hz) (by rw [List.map_append] at k;exact k)
theorem zf2 {tj:TE} {x:α} {j:Int} (e:Γ[i]?=some (.ow m (xs.map f))) (h:Ev Γ te m (f x)) (hj:Ev Γ tj false (dI j)) (hb:InB xs.length j) (k:Run E (Γ.set i (.ow m ((zc7 xs j x).map f))) u o):Run E Γ (tSeq (zke te (zsr (zjF i) tj znn)) u) o:=by
 obtain ⟨n,en,hn,_⟩:=zjX hb
 refine znE (n:=n) e h hj (by rw [List.length_map];exact en) ?_
 unfold zc7 at k
 rw [en] at k
 rw [← List.map_set]
 exact k
theorem zjb {tj:TE} {x:α} {j:Int} (fo:β->Oc) {kk:List α->β} (e:Γ[i]?=some (.ow m (xs.map f))) (h:Ev Γ te m (f x)) (hj:Ev Γ tj false (dI j)) (hb:InB xs.length j) (k:∀ y,y=zc7 xs j x->Run E (Γ.set i (.ow m (y.map f))) u (fo (kk y))):Run E Γ (tSeq (zke te (zsr (zjF i) tj znn)) u) (fo (Let (zc7 xs j x) kk)) :=
 zf2 e h hj hb (k _ rfl)
theorem zlm {d1 d2:Ds} {i j:Nat} (h:Ev Γ te m (dT [d1,d2])) (k:Run E ((Γ.set i (.va m d1)).set j (.va m d2)) u o):Run E Γ (tSeq (zke te (zq7 K 2 (zgu (zdE i) (zgu (zdE j) zqL)))) u) o:=λF0 Hb F H σ own D a q =>
 h F0 Hb F H σ own _ a λv F' H' g ⟨p,vs,e1,e2,e3⟩=>by
  cases e3 with | cons q1 t=>cases t with | cons q2 t=>cases t;exact ⟨p,_,e1,.inl (.inl ((zbj.trans g.fh) _ _ e2)),rfl,_,_,rfl,_,_,rfl,rfl,k F0 Hb F' H' _ own D ((((a.grow g)).set i q1).set j q2) q⟩
theorem zel {x:α} (G:α->Ctx) (fo:β->Oc) {kk:α->β} (k:∀ y,y=x->Run E (G y) u (fo (kk y))):Run E (G x) u (fo (Let x kk)):=k x rfl
def zqv (o:Oc):Prop:=(∃ m d,o=.rt m d)∨(∃ m ds,o=.rl m ds)∨∃ C Γ,o=.ex C Γ
theorem zqv.meets (h:zqv o) {F0 Hb:Hp} {D D':Ends} (e:D.rt=D'.rt) (q:zhG E F0 Hb D o):zhG E F0 Hb D' o:=by
 rcases h with ⟨m,d,rfl⟩ | ⟨m,ds,rfl⟩ | ⟨C,Γ',rfl⟩
 ·exact λv F H g p=>e ▸ q v F H g p
 ·exact λp vs F H g h1 h2 h3 h4=>e ▸ q p vs F H g h1 h2 h3 h4
 ·exact q
def zmO {S:Type} (x:S ⊕ β) (k:S->α) (w:β->α):α:=match x with
 | .inl s=>k s
 | .inr b=>w b
theorem zmb {f:Str} {d:Ds}:∀ {fs:List (Str×Ds)} {ns:List Str},fs.map Prod.fst=ns->ns.contains f=false->putD f d fs=fs++[(f,d)]
 | [],_,_,_=>rfl
 | (g,e) :: r,_,rfl,h=>by
  have h':f≠g∧f ∉ r.map Prod.fst:=by simpa using h
  unfold putD
  rw [if_neg (Ne.symm h'.1),zmb rfl (by simpa using h'.2)]
  rfl
theorem zeJ {C p dx:Addr} {fs:List (Str×Ds)} {tv:TE} {d:Ds} {f:Str} (e:Γ[i]?=some (.ob m C p dx fs)) (h:Ev Γ tv m d) (c:Cls K C) (nf:NoAttr K C f) (ns:List Str) (hns:fs.map Prod.fst=ns) (hn:ns.contains f=false) (hz:ns.length<1000) (k:Run E (Γ.set i (.ob m C p dx (fs++[(f,d)]))) u o) :
  Run E Γ (tSeq (zuv K (zjF i) tv f) u) o:=zqA e h c nf (by rw [← List.length_map (f:=Prod.fst),hns];exact hz) (by rw [zmb hns hn];exact k)
theorem zjc {S:Type} (f:S->γ->S):∀ (xs:List γ) (s:S),zc2 (β:=Empty) (λs x=>.inl (f s x)) s xs=.inl (xs.foldl f s)
 | [],_=>rfl
 | x :: xs,s=>zjc f xs (f s x)
theorem zit {S:Type} {f:S->γ->S} {I:Nat->S->Prop}:∀ {xs:List γ} {s:S} {n:Nat},I n s->(∀ (i:Nat) (x:γ) (s:S),xs[i]?=some x->I (n+i) s->I (n+i+1) (f s x))->I (n+xs.length) (xs.foldl f s)
 | [],s,n,h,_=>h
 | x :: xs,s,n,h,k=>by
  have h1:=k 0 x s rfl h
  have:=zit (xs:=xs) (s:=f s x) (n:=n+1) h1 λi y s' e q=>by
   have:=k (i+1) y s' (by simpa using e) (by rw [show n+(i+1)=n+1+i by omega];exact q)
   rw [show n+1+i+1=n+(i+1)+1 by omega];exact this
  rw [List.length_cons,show n+(xs.length+1)=n+1+xs.length by omega]
  exact this
theorem zb2 {S:Type} {wi:TI} {g:TG} {tb:TS} {js:List Nat} {xs:List γ} {bds:γ->List Ds} {mi:Bool} {s0:S} (G:S->Ctx) (fo:β->Oc) {kk:S->β} (f:S->γ->S) (I:Nat->S->Prop) (it:Iv Γ wi g js xs bds mi) (w:Wk Γ (G s0)) (h0:I 0 s0)
  (body:∀ (i:Nat) (x:γ) (s:S),xs[i]?=some x->I i s->I (i+1) (f s x)∧Run E (zmM js (bds x) mi (G s)) tb (.nx (G (f s x)))) (k:∀ s,s=xs.foldl f s0->I xs.length s->Run E (G s) u (fo (kk s))):Run E Γ (tSeq (zrL wi g tb) u) (fo (Let (xs.foldl f s0) kk)):=by
 refine zmW (Δ:=G (xs.foldl f s0)) ?_ (k _ rfl (by simpa using zit (n:=0) (I:=I) h0 λi x s e q=>by rw [Nat.zero_add] at q ⊢;exact ((body i x s e q)).1))
 have:=znQ (β:=Empty) G (λz=>z.elim) (λs x=>.inl (f s x)) I it w h0 (λb=>b.elim) λi x s e q=>⟨λs' z=>by cases z;exact ((body i x s e q)).1,((body i x s e q)).2⟩
 rw [zjc] at this
 exact this
theorem zjZ {S:Type} {f:S->γ->S ⊕ β} {I:Nat->S->Prop}:∀ {xs:List γ} {s s':S} {n:Nat},I n s->(∀ (i:Nat) (x:γ) (s:S),xs[i]?=some x->I (n+i) s->∀ s',f s x=.inl s'->I (n+i+1) s')->zc2 f s xs=.inl s'->I (n+xs.length) s'
 | [],s,s',n,h,_,e=>by cases e;exact h
 | x :: xs,s,s',n,h,k,e=>by
  unfold zc2 at e
  cases q:f s x with
  | inr b=>rw [q] at e;cases e
  | inl s1 =>
   rw [q] at e
   have h1:=k 0 x s rfl h s1 q
   have:=zjZ (xs:=xs) (s:=s1) (n:=n+1) h1 (λi y s' e q=>by
    have:=k (i+1) y s' (by simpa using e) (by rw [show n+(i+1)=n+1+i by omega];exact q)
    rw [show n+1+i+1=n+(i+1)+1 by omega];exact this) e
   rw [List.length_cons,show n+(xs.length+1)=n+1+xs.length by omega]
   exact this
theorem zhW {S:Type} {wi:TI} {g:TG} {tb:TS} {js:List Nat} {xs:List γ} {bds:γ->List Ds} {mi:Bool} {s0:S} (G:S->Ctx) (fo:α->Oc) (wr:β->α) {kk:S->α} (f:S->γ->S ⊕ β) (I:Nat->S->Prop) (hres:∀ b,zqv (fo (wr b))) (it:Iv Γ wi g js xs bds mi) (w:Wk Γ (G s0)) (h0:I 0 s0)
  (body:∀ (i:Nat) (x:γ) (s:S),xs[i]?=some x->I i s->(∀ s',f s x=.inl s'->I (i+1) s')∧Run E (zmM js (bds x) mi (G s)) tb (zhE G (λb=>fo (wr b)) (f s x))) (k:∀ s,zc2 f s0 xs=.inl s->I xs.length s->Run E (G s) u (fo (kk s))):Run E Γ (tSeq (zrL wi g tb) u) (fo (zmO (zc2 f s0 xs) kk wr)):=by
 have h:=znQ G (λb=>fo (wr b)) f I it w h0 (λb F0 Hb D D' e q=>(hres b).meets e q) body
 cases e:zc2 f s0 xs with
 | inl s =>
  rw [e] at h
  exact zmW h (k s e (by simpa using zjZ (n:=0) h0 (λi x s e q=>by rw [Nat.zero_add] at q ⊢;exact ((body i x s e q)).1) e))
 | inr b =>
  rw [e] at h
  exact λF0 Hb F H σ own D a q=>h F0 Hb F H σ own _ a ((hres b).meets (D:=D) rfl (show zhG E F0 Hb D (fo (wr b)) from q))
end
end L2
namespace L2
open PySem PySem.Spec PyProof.Rows PySem.Builtin PySem.Builtin.Getset_descriptor
structure XCls (K:W.Frag) (C:Addr):Prop where
 ga:W.findIn K (.ref C) "__getattribute__"=some (some (.builtin "BaseException.__getattribute__"))
 gn:W.findIn K (.ref C) "__getattr__"=some none
 cl:W.findIn K (.ref C) "__class__"=some (some (.builtin "object.__class__"))
 ob:W.mroIn K C (.type "object")=some true
 be:W.mroIn K C (.type "BaseException")=some true
 gt:W.specialIn K (.builtin "object.__class__") "__get__"=some (some (.builtin "getset_descriptor.__get__"))
 tk:W.takesIn K (.builtin "object.__class__")=some true
def XAt (h:Heap) (a C:Addr):Prop:=∃ o vs,h.get? a=some o∧o.cls=.ref C∧o.data=.fields vs
section
variable {prog:Program} {w:World} {A:Around} {E:Value->Shared->Prop} {K:W.Frag} {C a:Addr} {h:Heap} {g:Array GenState} {d:Drawn} {t:Nat} {os:OsState}
theorem XAt.ty {M:Model} (x:XAt h a C):W.Looks M h (typeOf (.ref a)) (.ref C):=by
 obtain ⟨o,vs,hx,hc,hd⟩:=x
 exact hc ▸ (W.Looks.ld hx).andThen .now
end
section
variable {X:Cx} {K:W.Frag}
end
end L2
namespace L2
open PySem PySem.Spec PyProof.Rows
section
variable {X:Cx} {pins:List ↥2} {σ:St} {H:Hp} {s:Shared}
theorem Inv.locals {h':Heap} {t':Nat} {m':Str->Option Value} {σ':St} (I:Inv X pins σ H s) (hs:Heap.SameBut X.env.locals s.heap h') (hn':h'.Ns X.env.locals m')
  (hl:∀ (j:Nat) (y:Str) (v:V),X.N[j]?=some y->σ'[j]?=some (some v)->Vis X.env.scope y->∃ u,zef v u∧zuZ X.env h' m' y u) (len:σ'.length=X.N.length):Inv X pins σ' H { s with heap:=h',toks:=t' }:=by
 have lt:∀ b o,X.s₀.heap.get? b=some o->b≠X.env.locals:=λb o e=>Nat.ne_of_lt ↑86
 refine ⟨I.ok,I.os,I.bare,⟨λb o e n hb hx=>(hs.2 b (lt b o e)).trans (I.base.keep b o e n hb hx),λb o e n hb hx=>?_,I.base.free,λb o e hx=>?_,I.base.tups,I.base.frzs,I.base.tbls⟩,⟨m',hn',hl⟩,λy c e=>?_,I.free,I.freeC,λp hp=>?_,λb u e=>?_,len⟩
 ·obtain ⟨sl,q⟩:=I.base.slot b o e n hb hx
  exact ⟨sl,(hs.2 b (lt b o e)).trans q⟩
 ·obtain ⟨o',q⟩:=I.base.there b o e hx
  exact ⟨o',(hs.2 b (lt b o e)).trans q⟩
 ·obtain ⟨w',z⟩:=I.cell y c e
  exact ⟨w',z.sameBut hs (I.cne y c e)⟩
 ·obtain ⟨e,n,ne,nf,d⟩:=I.pin p hp
  exact ⟨(hs.2 p.1 ne).trans e,n,ne,nf,d⟩
 ·refine ((I.hok b u e)).stay (λc v hc q=>(hs.2 c ?_).trans q) (λ_ q=>q) λ_ _ q=>q
  intro z
  have z':=I.free
  rw [← z] at z'
  rcases hc with hc | hc
  ·rw [hc,e] at z';cases z'
  ·rw [hc] at z';cases z'
abbrev Cx.marked (X:Cx) (e:Addr):Cx:={ X with A:=X.A.mark (some (.ref e)),calm:=false,xe:=λ_ _=>False }
theorem Inv.marked {e:Addr} (I:Inv X pins σ H s):Inv (X.marked e) pins σ H s :=
 ⟨⟨I.ok.mod,I.ok.kind,I.ok.glob,I.ok.blt,I.ok.above,I.ok.inj,I.ok.has,I.ok.cab,(λz=>(nomatch z)),I.ok.frames,I.ok.stk,I.ok.exf,I.ok.bs,I.ok.bsz,I.ok.noex,I.ok.exfs,I.ok.funs,I.ok.frf⟩,I.os,I.bare,I.base,I.loc,I.cell,I.free,I.freeC,I.pin,I.hok,I.len⟩
end
section
variable {X:Cx} {K:W.Frag}
end
end L2
namespace L2
open PySem PySem.Spec PyProof.Rows
section
variable {X:Cx} {K:W.Frag} {e:Expr} {st:Stmt} {rest:List Stmt} {pos:Pos}
end
section
variable {E:XS} {Γ Δ Γx:Ctx} {m:Bool} {K:W.Frag} {α β ε:Type} {u:TS} {o:Oc} {ds:List Ds}
end
section
variable {E:XS} {Γ:Ctx} {K:W.Frag} {α β ε:Type} {u:TS}
end
section
variable {P:Program} {w:World} {K:W.Frag} {mg:Str->Option Value} {base:Heap} {x qual:Str} {st:Stmt} {f:Addr} {fd:FuncData} {N ps:List Str} {k:Nat}
end
end L2
namespace L2
open PySem PySem.Spec PyProof.Rows
def EvN (Γ:Ctx) (t:TE) (d:Ds):Prop:=∀ (F0 Hb F H:Hp) (σ:St) (own:Nat->Option Addr) (Q:VK),At F0 Hb F H σ own Γ->(∀ v F' H',Grow F H F' H'->d.pr (off F' H) v->Q v H')->t σ H Q
def zu0:Slot->Slot
 | .va _ d=>.va false d
 | _=>.no
def zsQ (Γ:Ctx):Ctx:=Γ.map zu0
theorem At.now {F0 Hb F H:Hp} {σ:St} {own:Nat->Option Addr} {Γ:Ctx} (a:At F0 Hb F H σ own Γ):At F H F H σ (λ_=>none) (zsQ Γ):=by
 refine ⟨Grow.refl a.fh,λ_ _ _ h=>(nomatch h),λ_ _ h=>(nomatch h),λi s e=>?_,by unfold zsQ;rw [List.length_map];exact a.len⟩
 unfold zsQ at e
 rw [List.getElem?_map] at e
 cases q:Γ[i]? with
 | none=>rw [q] at e;cases e
 | some r =>
  rw [q] at e
  have e':zu0 r=s:=Option.some.inj e
  subst e'
  have h:=a.sl i r q
  cases r with
  | va m d =>
   obtain ⟨x,h1,h2⟩:=h
   exact ⟨x,h1,d.up zbj h2⟩
  | no=>trivial
  | ow m ds=>trivial
  | ob m C p dx fs=>trivial
  | ol p ds=>trivial
  | tl d=>trivial
theorem zlP {Γ:Ctx} {t:TE} {d:Ds} (h:Ev (zsQ Γ) t true d):EvN Γ t d:=λF0 Hb F H σ own Q a k=>h F H F H σ _ Q a.now λv F' H' g q=>k v F' H' g q
theorem At.setTl {F0 Hb F H F' H':Hp} {σ:St} {own:Nat->Option Addr} {Γ:Ctx} (a:At F0 Hb F H σ own Γ) (g:Grow F H F' H') (i:Nat) {d:Ds} {v:V} (h:d.pr (off F' H) v):At F0 Hb F H' (σ.set i (some v)) own (Γ.set i (.tl d)):=by
 have gF:Grow F H F H':=⟨Same.refl _,a.fh.trans g.h,g.h,λ_ _ z=>z⟩
 have a':=a.grow gF
 refine ⟨a'.g,a'.inj,a'.liv,λj s e=>?_,by simp [a.len]⟩
 by_cases z:i=j
 ·subst z
  have hi:i<Γ.length:=by simpa using (↑29).1
  rw [List.getElem?_set_self hi] at e
  cases e
  rw [zfn (by rw [a.len];exact hi)]
  refine ⟨v,off F' H,rfl,zlk.trans g.fh,λb o q=>?_,λj p q=>?_,h⟩
  ·have hb:=(zcm.mp q).1
   exact ⟨a.fh.free hb,a.g.h.free hb⟩
  ·have:=a.liv j p q
   cases w:off F' H p with
   | none=>rfl
   | some o=>exact absurd (zcm.mp w).1 this
 ·rw [List.getElem?_set_ne z] at e
  rw [zgr z]
  exact a'.sl j s e
section
variable {E:XS} {Γ:Ctx} {te:TE} {u:TS} {o:Oc} {d d1 d2:Ds} {K:W.Frag} {i j:Nat}
theorem zoW (h:EvN Γ te d) (k:Run E (Γ.set i (.tl d)) u o):Run E Γ (tSeq (zke te (zdE i)) u) o:=λF0 Hb F H σ own D a q =>
 h F0 Hb F H σ own _ a λv F' H' g p=>k F0 Hb F H' _ own D (a.setTl g i p) q
theorem zoT {α β:Type} {x:α} (f:α->Ds) (fo:β->Oc) {kk:α->β} (h:EvN Γ te (f x)) (k:∀ y,y=x->Run E (Γ.set i (.tl (f y))) u (fo (kk y))):Run E Γ (tSeq (zke te (zdE i)) u) (fo (Let x kk)):=zoW h (k x rfl)
end
def shS:Slot->Slot
 | .tl d=>.va true d
 | s=>s
def shC (Γ:Ctx):Ctx:=Γ.map shS
def zoM (Γ:Ctx):Bool:=Γ.all λs=>match s with | .ob _ _ _ _ _=>false | _=>true
open Classical in
noncomputable def wide (F Hb H:Hp) (own:Nat->Option Addr):Hp:=λa=>match F a with
 | some o=>some o
 | none=>if Hb a=none∧∀ j,own j≠some a then H a else none
theorem zlD {F Hb H:Hp} {own:Nat->Option Addr}:Same F (wide F Hb H own):=λa o q=>by unfold wide;rw [q]
theorem zrX {F Hb H:Hp} {own:Nat->Option Addr} (e:Same F H):Same (wide F Hb H own) H:=λa o q=>by
 unfold wide at q
 cases z:F a with
 | some o'=>rw [z] at q;cases q;exact e _ _ z
 | none =>
  rw [z] at q
  dsimp only at q
  split at q
  ·exact q
  ·cases q
theorem At.wide {F0 Hb F H:Hp} {σ:St} {own:Nat->Option Addr} {Γ:Ctx} (a:At F0 Hb F H σ own Γ) (hno:zoM Γ=true):At F0 Hb (wide F Hb H own) H σ own (shC Γ):=by
 refine ⟨⟨a.g.f.trans zlD,zrX a.fh,a.g.h,λb h1 h2=>?_⟩,a.inj,a.liv,λi s e=>?_,by unfold shC;rw [List.length_map];exact a.len⟩
 ·unfold L2.wide
  rw [a.g.no b h1 h2]
  dsimp only
  rw [if_neg (λz=>h1 z.1)]
 ·unfold shC at e
  rw [List.getElem?_map] at e
  cases q:Γ[i]? with
  | none=>rw [q] at e;cases e
  | some r =>
   rw [q] at e
   have e':shS r=s:=Option.some.inj e
   subst e'
   have h:=a.sl i r q
   cases r with
   | va m d =>
    obtain ⟨x,h1,h2⟩:=h
    exact ⟨x,h1,d.up (zbq zlD) h2⟩
   | no=>trivial
   | ow m ds =>
    obtain ⟨p,vs,h1,h2,h3,h4,h5,h6⟩:=h
    refine ⟨p,vs,h1,h2,?_,h4,h5,zdM (ds:=[]) (zbq zlD) h6⟩
    unfold L2.wide
    rw [h3]
    dsimp only
    rw [if_neg (λz=>z.2 i h2)]
   | ol p ds =>
    obtain ⟨vs,h1,h2,h3,h4,h5,h6⟩:=h
    refine ⟨vs,h1,h2,?_,h4,h5,zdM (ds:=[]) zlD h6⟩
    unfold L2.wide
    rw [h3]
    dsimp only
    rw [if_neg (λz=>z.2 i h2)]
   | ob m C p dx fs =>
    have:=List.all_eq_true.mp hno _ (List.mem_of_getElem? q)
    cases this
   | tl d =>
    obtain ⟨x,R,h1,h2,h3,h4,h5⟩:=h
    refine ⟨x,h1,d.up (λb o w=>?_) h5⟩
    refine zcm.mpr ⟨(h3 b o w).2,?_⟩
    unfold L2.wide
    rw [(h3 b o w).1]
    dsimp only
    rw [if_pos ⟨(h3 b o w).2,λj z=>by rw [h4 j b z] at w;cases w⟩]
    exact h2 b o w
section
variable {E:XS} {Γ:Ctx} {t:TE} {d:Ds} {m n:Bool} {u:TS} {o:Oc}
theorem Grow.only {F H H':Hp} (e:Same F H) (g:Same H H'):Grow F H F H':=⟨Same.refl _,e.trans g,g,λ_ _ z=>z⟩
theorem Ev.borrow {v:V} (hno:zoM Γ=true) (h:Ev (shC Γ) t m (dV v)):Ev Γ t n (dV v):=λF0 Hb F H σ own Q a k =>
 h F0 Hb _ H σ own Q (a.wide hno) λx F' H' g q=>k x F H' (Grow.only a.fh g.h) q
theorem EvN.ev (h:EvN Γ t d):Ev Γ t true d:=λF0 Hb F H σ own Q a k=>h F0 Hb F H σ own Q a λv F' H' g q=>k v F' H' g (d.up (zkI a.g.h) q)
theorem zmp {t:TS} (hno:zoM Γ=true) (k:Run E (shC Γ) t o):Run E Γ t o:=λF0 Hb F H σ own D a q=>k F0 Hb _ H σ own D (a.wide hno) q
def unS:Slot->Slot
 | .tl _=>.no
 | s=>s
def unC (Γ:Ctx):Ctx:=Γ.map unS
theorem At.spoil {F0 Hb F H:Hp} {σ:St} {own:Nat->Option Addr} (a:At F0 Hb F H σ own Γ) (hno:zoM Γ=true) {p:Addr} (w:HO) (h1:F p=none) (h2:Hb p=none) (h3:∀ j,own j≠some p):At F0 Hb F (upd H p w) σ own (unC Γ):=by
 refine ⟨a.g.setH h1 h2,a.inj,λj q e=>?_,λi s e=>?_,by unfold unC;rw [List.length_map];exact a.len⟩
 ·have:q≠p:=λz=>h3 j (z ▸ e)
  rw [zax this];exact a.liv j q e
 ·unfold unC at e
  rw [List.getElem?_map] at e
  cases q:Γ[i]? with
  | none=>rw [q] at e;cases e
  | some r =>
   rw [q] at e
   have e':unS r=s:=Option.some.inj e
   subst e'
   have h:=a.sl i r q
   cases r with
   | va m d=>exact h
   | no=>trivial
   | ow m ds =>
    obtain ⟨x,vs,q1,q2,q3,q4,q5,q6⟩:=h
    have:x≠p:=λz=>h3 i (z ▸ q2)
    exact ⟨x,vs,q1,q2,q3,q4,by rw [zax this];exact q5,q6⟩
   | ol x ds =>
    obtain ⟨vs,q1,q2,q3,q4,q5,q6⟩:=h
    have:x≠p:=λz=>h3 i (z ▸ q2)
    exact ⟨vs,q1,q2,q3,q4,by rw [zax this];exact q5,q6⟩
   | ob m C p dx fs =>
    have:=List.all_eq_true.mp hno _ (List.mem_of_getElem? q)
    cases this
   | tl d=>trivial
def EvW (Γ:Ctx) (t:TE) (n:Nat):Prop:=∀ (F0 Hb F H:Hp) (σ:St) (own:Nat->Option Addr) (Q:VK),At F0 Hb F H σ own Γ →
 (∀ p vs H',Same H H'->F p=none->Hb p=none->(∀ j,own j≠some p)->H' p=some (.lst vs)->vs.length=n->Q (.ref p) H')->t σ H Q
theorem zqu {ds:List Ds} (h:EvN Γ t (dL ds)):EvW Γ t ds.length:=λF0 Hb F H σ own Q a k=>h F0 Hb F H σ own Q a λv F' H' g ⟨p,vs,e1,e2,e3⟩=>by
 obtain ⟨z1,z2⟩:=zcm.mp e2
 subst e1
 exact k p vs H' g.h (a.fh.free z1) (a.g.h.free z1) (λj z=>a.liv j p z z1) (g.fh _ _ z2) (Paired.length e3)
theorem ziV {K:W.Frag} {to te:TE} {v:V} {l:Nat} (hno:zoM Γ=true) (h:EvW Γ to l) (hv:Ev Γ te m (dV v)) (hz:l<sizeLine) (k:Run E (unC Γ) u o):Run E Γ (tSeq (zm8 (tBM K "list" zid to (tCons te tNil))) u) o:=λF0 Hb F H σ own D a q =>
 h F0 Hb F H σ own _ a λp vs H1 g1 h1 h2 h3 h4 h5=>⟨.inl ⟨rfl,_,SqL.of h4⟩,by
  have a1:=a.grow (Grow.only a.fh g1)
  refine hv F0 Hb F H1 σ own _ a1 λx F2 H2 g2 qx=>?_
  have a2:=a.grow (Grow.only a.fh (g1.trans g2.h))
  exact ⟨p,vs,x,rfl,rfl,g2.h _ _ h4,by omega,k F0 Hb F _ σ own D (a2.spoil hno _ h1 h2 h3) q⟩⟩
end
theorem ev_some {Γ:Ctx} {t:TE} {m:Bool} {α:Type} [Inhabited α] {f:α->Ds} {x:Option α} (h:Ev Γ t m (dOpt f x)) (hs:x.isSome=true):Ev Γ t m (f (x.getD default)):=by
 cases x with
 | none=>cases hs
 | some v=>exact h
def gS {α:Type} [Inhabited α] (x:Option α):α:=x.getD default
section
variable {E:XS} {Γ:Ctx} {te:TE} {u:TS} {K:W.Frag} {i j:Nat} {α β:Type} {f:α->Ds}
theorem zlS {xs:List α} (h:EvN Γ te (dL (xs.map f))):EvW Γ te xs.length:=by
 have:=zqu h
 rwa [List.length_map] at this
end
section
variable {X:Cx} {K:W.Frag}
end
end L2
namespace Lat
abbrev Vc:=Nat->Int
inductive Sp (A:Vc->Prop):Vc->Prop
 | zero:Sp A (λ_=>0)
 | add {u a:Vc} (x:Int):Sp A u->A a->Sp A (λi=>u i+x*a i)
section
variable {A B:Vc->Prop} {u v a:Vc}
theorem Sp.conv (h:Sp A u) (e:∀ i,u i=v i):Sp A v:=(funext e:u=v) ▸ h
theorem Sp.mem (h:A a):Sp A a:=(Sp.add 1 Sp.zero h).conv λi=>by grind
theorem Sp.smul (x:Int) (h:Sp A u):Sp A (λi=>x*u i):=by
 induction h with
 | zero=>exact Sp.zero.conv λi=>by grind
 | @add u a z _ ha ih=>exact (Sp.add (x*z) ih ha).conv λi=>by grind
theorem Sp.plus (h:Sp A u) (k:Sp A v):Sp A (λi=>u i+v i):=by
 induction k with
 | zero=>exact h.conv λi=>by grind
 | @add w a z _ ha ih=>exact (Sp.add z ih ha).conv λi=>by grind
theorem Sp.lin (x y:Int) (h:Sp A u) (k:Sp A v):Sp A (λi=>x*u i+y*v i):=(h.smul x).plus (k.smul y)
theorem Sp.sub (k:∀ a,A a->Sp B a) (h:Sp A u):Sp B u:=by
 induction h with
 | zero=>exact Sp.zero
 | @add u a z _ ha ih=>exact (ih.plus ((k a ha).smul z)).conv λi=>by grind
theorem Sp.mono (k:∀ a,A a->B a) (h:Sp A u):Sp B u:=h.sub λa ha=>.mem (k a ha)
theorem Sp.at0 {i:Nat} (k:∀ a,A a->a i=0) (h:Sp A u):u i=0:=by
 induction h with
 | zero=>rfl
 | @add u a z _ ha ih=>show u i+z*a i=0;rw [ih,k a ha];simp
theorem Sp.split {a:Vc} (h:Sp (λu=>A u∨u=a) v):∃ w y,Sp A w∧∀ i,v i=w i+y*a i:=by
 induction h with
 | zero=>exact ⟨_,0,.zero,λi=>by grind⟩
 | @add u b z _ hb ih =>
  obtain ⟨w,y,hw,e⟩:=ih
  rcases hb with hb | rfl
  ·exact ⟨_,y,.add z hw hb,λi=>by grind⟩
  ·exact ⟨w,y+z,hw,λi=>by grind⟩
end
def comb:Ji->List Vc->Vc
 | x :: xs,a :: as=>λi=>x*a i+comb xs as i
 | _,_=>λ_=>0
theorem ziG {A:Vc->Prop}:∀ {xs:Ji} {as:List Vc},(∀ a∈as,A a)->Sp A (comb xs as)
 | [],_,_=>.zero
 | _ :: _,[],_=>.zero
 | x :: xs,a :: as,h=>(((Sp.mem (h a List.mem_cons_self)).smul x).plus (ziG (xs:=xs) λb hb=>h b (List.mem_cons_of_mem _ hb))).conv λi=>by simp only [comb]
theorem zlT:∀ {xs ys:Ji} {as:List Vc} (i:Nat),xs.length=ys.length->comb (List.zipWith (·-·) xs ys) as i=comb xs as i-comb ys as i
 | [],[],_,_,_=>by simp [comb]
 | x :: xs,y :: ys,[],_,_=>by simp [comb]
 | x :: xs,y :: ys,a :: as,i,h=>by
  have:=zlT (xs:=xs) (ys:=ys) (as:=as) i (by simpa using h)
  simp only [comb,List.zipWith_cons_cons,this]
  grind
theorem zjk {X B:Nat} {i:Nat}:∀ {xs:Ji} {as:List Vc},(∀ x∈xs,x.natAbs≤X)->(∀ a∈as,(a i).natAbs≤B)->(comb xs as i).natAbs≤as.length*(X*B)
 | [],_,_,_=>by simp [comb]
 | _ :: _,[],_,_=>by simp [comb]
 | x :: xs,a :: as,h,k=>by
  have h1:=zjk (xs:=xs) (as:=as) (λy hy=>h y (List.mem_cons_of_mem _ hy)) λb hb=>k b (List.mem_cons_of_mem _ hb)
  have h2:(x*a i).natAbs≤X*B:=by rw [Int.natAbs_mul];exact Nat.mul_le_mul (h x List.mem_cons_self) (k a List.mem_cons_self)
  simp only [comb,List.length_cons,Nat.succ_mul]
  omega
theorem zpZ:∀ (M N:Nat) (f:Nat->Nat),M<N->(∀ n,n<N->f n<M)->∃ i j,i<j∧j<N∧f i=f j
 | 0,N,f,h,k=>absurd (k 0 h) (Nat.not_lt_zero _)
 | M+1,N,f,h,k=>by
  by_cases q:∃ i,i<N-1∧f i=f (N-1)
  ·obtain ⟨i,h1,h2⟩:=q
   exact ⟨i,N-1,h1,by omega,h2⟩
  ·have q:∀ i,i<N-1->f i≠f (N-1):=λi h1 h2=>q ⟨i,h1,h2⟩
   obtain ⟨i,j,h1,h2,h3⟩:=zpZ M (N-1) (λn=>if f (N-1)<f n then f n-1 else f n) ↑0 λn hn=>by
    have a:=k n ↑0
    have b:=k (N-1) ↑0
    have c:=q n hn
    show (if f (N-1)<f n then f n-1 else f n)<M
    split<;>omega
   refine ⟨i,j,h1,by omega,?_⟩
   have a:=q i ↑0
   have b:=q j h2
   split at h3<;>split at h3<;>omega
def ziR (b:Nat):Nat->Nat->Ji
 | 0,_=>[]
 | k+1,n=>((n%b:Nat):Int) :: ziR b k (n/b)
theorem zeU {b:Nat}:∀ {k n:Nat},(ziR b k n).length=k
 | 0,_=>rfl
 | k+1,n=>by simp [ziR,zeU]
theorem zjC {b:Nat} (hb:0<b):∀ {k n:Nat},∀ x∈ziR b k n,0≤x∧x<b
 | 0,_,x,h=>by simp [ziR] at h
 | k+1,n,x,h=>by
  simp only [ziR,List.mem_cons] at h
  rcases h with rfl | h
  ·have:=Nat.mod_lt n hb
   omega
  ·exact zjC hb x h
theorem zlZ {b:Nat} (hb:0<b):∀ {k n m:Nat},n<b^k->m<b^k->ziR b k n=ziR b k m->n=m
 | 0,n,m,h1,h2,_=>by simp at h1 h2;omega
 | k+1,n,m,h1,h2,e=>by
  simp only [ziR,List.cons.injEq] at e
  have h3:=zlZ hb (k:=k) (Nat.div_lt_of_lt_mul (by rw [Nat.pow_succ,Nat.mul_comm] at h1;exact h1)) (Nat.div_lt_of_lt_mul (by rw [Nat.pow_succ,Nat.mul_comm] at h2;exact h2)) e.2
  have h4:=Nat.div_add_mod n b
  have h5:=Nat.div_add_mod m b
  rw [h3] at h4
  omega
def enc (W:Nat) (u:Vc):List Nat->Nat
 | []=>0
 | h :: hs=>(u h+W).toNat+(2*W+1)*enc W u hs
theorem zp8 {W:Nat} {u:Vc}:∀ {hs:List Nat},(∀ h∈hs,(u h).natAbs≤W)->enc W u hs<(2*W+1)^hs.length
 | [],_=>by simp [enc]
 | h :: hs,k=>by
  have h1:=zp8 (hs:=hs) λg hg=>k g (List.mem_cons_of_mem _ hg)
  have h2:=k h List.mem_cons_self
  simp only [enc,List.length_cons,Nat.pow_succ]
  have h3:(2*W+1)*(enc W u hs+1)≤(2*W+1)*(2*W+1)^hs.length:=Nat.mul_le_mul_left _ h1
  rw [Nat.mul_comm ((2*W+1)^hs.length)]
  rw [Nat.mul_add] at h3
  omega
theorem znV {W:Nat} {u v:Vc}:∀ {hs:List Nat},(∀ h∈hs,(u h).natAbs≤W∧(v h).natAbs≤W)->enc W u hs=enc W v hs->∀ h∈hs,u h=v h
 | [],_,_,h,hh=>by simp at hh
 | g :: hs,k,e,h,hh=>by
  have h2:=k g List.mem_cons_self
  simp only [enc] at e
  have e1:((u g+W).toNat+(2*W+1)*enc W u hs)%(2*W+1)=((v g+W).toNat+(2*W+1)*enc W v hs)%(2*W+1):=by rw [e]
  rw [Nat.add_mul_mod_self_left,Nat.add_mul_mod_self_left,Nat.mod_eq_of_lt ↑0,Nat.mod_eq_of_lt ↑0] at e1
  have e2:u g=v g:=by omega
  rcases List.mem_cons.mp hh with rfl | hh
  ·exact e2
  ·refine znV (λx hx=>k x (List.mem_cons_of_mem _ hx)) ?_ h hh
   rw [e1] at e
   exact Nat.eq_of_mul_eq_mul_left (show 0<2*W+1 by omega) (Nat.add_left_cancel e)
theorem zrP {as:List Vc} {hs:List Nat} {B:Nat} (hl:hs.length<as.length) (hB:∀ a∈as,∀ h∈hs,(a h).natAbs≤B) :
  ∃ xs:Ji,xs.length=as.length∧(∃ x∈xs,x≠0)∧(∀ x∈xs,x.natAbs≤(2*(as.length*B)+1)^hs.length)∧∀ h∈hs,comb xs as h=0:=by
 generalize hY:2*(as.length*B)+1=Y
 have hY1:1≤Y:=by omega
 generalize hX:Y^hs.length=X
 have hX1:1≤X:=by rw [← hX];exact Nat.one_le_pow _ _ hY1
 have key:∀ n,∀ h∈hs,(comb (ziR (X+1) as.length n) as h).natAbs≤as.length*(X*B):=λn h hh =>
  zjk (λx hx=>by have:=zjC ↑0 x hx;omega) λa ha=>hB a ha h hh
 obtain ⟨i,j,h1,h2,h3⟩:=zpZ ((2*(as.length*(X*B))+1)^hs.length) ((X+1)^as.length) (λn=>enc (as.length*(X*B)) (comb (ziR (X+1) as.length n) as) hs) (by
  have e1:2*(as.length*(X*B))+1≤Y*X:=by
   rw [← hY,Nat.add_mul,Nat.one_mul,Nat.mul_assoc,Nat.mul_assoc,Nat.mul_comm B X]
   omega
  calc (2*(as.length*(X*B))+1)^hs.length≤(Y*X)^hs.length:=Nat.pow_le_pow_left e1 _
   _=X*X^hs.length:=by rw [Nat.mul_pow,hX]
   _=X^(hs.length+1):=by rw [Nat.pow_succ,Nat.mul_comm]
   _≤X^as.length:=Nat.pow_le_pow_right hX1 hl
   _<(X+1)^as.length:=Nat.pow_lt_pow_left ↑0 ↑0) λn _=>zp8 (key n)
 refine ⟨List.zipWith (·-·) (ziR (X+1) as.length i) (ziR (X+1) as.length j),by simp [zeU],?_,λx hx=>?_,λh hh=>?_⟩
 ·refine Classical.byContradiction λq=>?_
  have q:∀ x∈List.zipWith (·-·) (ziR (X+1) as.length i) (ziR (X+1) as.length j),x=0:=λx hx=>Classical.byContradiction λz=>q ⟨x,hx,z⟩
  have e:ziR (X+1) as.length i=ziR (X+1) as.length j:=by
   refine List.ext_getElem (by simp [zeU]) λk k1 k2=>?_
   have:=q _ (List.getElem_mem (l:=List.zipWith (·-·) (ziR (X+1) as.length i) (ziR (X+1) as.length j)) (n:=k) (by simp [zeU] at *;omega))
   rw [List.getElem_zipWith] at this
   omega
  have:=zlZ ↑0 (Nat.lt_trans h1 h2) h2 e
  omega
 ·obtain ⟨k,hk,rfl⟩:=List.getElem_of_mem hx
  have hk':k<as.length:=by simpa [zeU] using hk
  rw [List.getElem_zipWith]
  have:=zjC (b:=X+1) ↑0 _ (List.getElem_mem (l:=ziR (X+1) as.length i) (n:=k) (by rw [zeU];exact hk'))
  have:=zjC (b:=X+1) ↑0 _ (List.getElem_mem (l:=ziR (X+1) as.length j) (n:=k) (by rw [zeU];exact hk'))
  omega
 ·rw [zlT _ (by simp [zeU])]
  have:=znV (λh hh=>⟨key i h hh,key j h hh⟩) h3 h hh
  omega
theorem first {u:Vc} {c:Nat} (h:u c≠0):∃ d,d≤c∧u d≠0∧∀ i,i<d->u i=0:=by
 induction c using Nat.strongRecOn with
 | _ c ih =>
  by_cases q:∃ i,i<c∧u i≠0
  ·obtain ⟨i,h1,h2⟩:=q
   obtain ⟨d,h3,h4⟩:=ih i h1 h2
   exact ⟨d,by omega,h4⟩
  ·exact ⟨c,Nat.le_refl c,h,λi hi=>Classical.byContradiction λz=>q ⟨i,hi,z⟩⟩
def bnd (k B C:Nat):Nat:=(k+1)*((2*((k+1)*C)+1)^k*B)
theorem zl7 {k l B C:Nat} (h:k≤l):bnd k B C≤bnd l B C:=by
 unfold bnd
 refine Nat.mul_le_mul ↑0 (Nat.mul_le_mul_right _ ?_)
 refine Nat.le_trans (Nat.pow_le_pow_right ↑0 h) (Nat.pow_le_pow_left ?_ _)
 have:=Nat.mul_le_mul_right C (show k+1≤l+1 by omega)
 omega
structure Wit (A:Vc->Prop) (B E:Nat) (hs:List Nat) (as:List Vc):Prop where
 len:hs.length=as.length
 mem:∀ a∈as,A a
 bd:∀ a∈as,∀ i,(a i).natAbs≤B
 van:∀ u,Sp A u->(∀ h∈hs,u h=0)->∀ i,u i=0
 hd:∀ h∈hs,∃ v,Sp A v∧(∀ i,i<h->v i=0)∧v h≠0∧∀ i,(v i).natAbs≤E
 ind:∀ xs:Ji,xs.length=as.length->(∀ i,comb xs as i=0)->∀ x∈xs,x=0
theorem Wit.nil {B E:Nat}:Wit (λ_=>False) B E [] [] where
 len:=rfl
 mem:=by simp
 bd:=by simp
 van:=λu h _ i=>h.at0 λ_ z=>z.elim
 hd:=by simp
 ind:=λxs h _ x hx=>by rw [List.length_eq_zero_iff.mp h] at hx;simp at hx
theorem Wit.rel {A:Vc->Prop} {B C E:Nat} {hs:List Nat} {as:List Vc} {u:Vc} (W:Wit A B E hs as) (hBC:B≤C) (hu:∀ h∈hs,(u h).natAbs≤C) :
  ∃ (x:Int) (xs:Ji),x≠0∧xs.length=as.length∧x.natAbs≤(2*((as.length+1)*C)+1)^as.length∧(∀ y∈xs,y.natAbs≤(2*((as.length+1)*C)+1)^as.length)∧∀ h∈hs,x*u h+comb xs as h=0:=by
 obtain ⟨xs,h1,⟨z,hz,hz0⟩,h3,h4⟩:=zrP (as:=u :: as) (hs:=hs) (B:=C) (by simp [W.len]) λa ha h hh=>by
  rcases List.mem_cons.mp ha with rfl | ha
  ·exact hu h hh
  ·exact Nat.le_trans (W.bd a ha h) hBC
 rw [W.len,List.length_cons] at h3
 match xs,h1 with
 | x :: xs,h1 =>
  refine ⟨x,xs,λq=>?_,by simpa using h1,h3 x List.mem_cons_self,λy hy=>h3 y (List.mem_cons_of_mem _ hy),λh hh=>by have:=h4 h hh;simpa [comb] using this⟩
  subst q
  have k1:∀ i,comb xs as i=0:=W.van _ (ziG W.mem) λh hh=>by have:=h4 h hh;simpa [comb] using this
  have k2:=W.ind xs (by simpa using h1) k1
  rcases List.mem_cons.mp hz with rfl | hz
  ·exact hz0 rfl
  ·exact hz0 (k2 z hz)
theorem Wit.step {A:Vc->Prop} {B E:Nat} {hs:List Nat} {as:List Vc} {a:Vc} (W:Wit A B E hs as) (ha:∀ i,(a i).natAbs≤B) (hE:bnd as.length B B≤E) :
  ∃ hs' as',Wit (λu=>A u∨u=a) B E hs' as'∧as'.length≤as.length+1:=by
 obtain ⟨x,xs,hx,hl,b1,b2,h0⟩:=W.rel (u:=a) (Nat.le_refl B) λh _=>ha h
 have sp1:Sp A (comb xs as):=ziG W.mem
 have up:∀ u,Sp A u->Sp (λu=>A u∨u=a) u:=λu hu=>hu.mono λ_=>.inl
 have hva:Sp (λu=>A u∨u=a) (λi=>x*a i+comb xs as i):=((Sp.mem (.inr rfl)).smul x).plus (up _ sp1)
 by_cases q:∃ i,x*a i+comb xs as i≠0
 ·obtain ⟨i,hi⟩:=q
  obtain ⟨c,_,hc,hc0⟩:=first (u:=λi=>x*a i+comb xs as i) hi
  refine ⟨c :: hs,a :: as,⟨by simp [W.len],λb hb=>?_,λb hb=>?_,λu hu hv=>?_,λh hh=>?_,λys hy hys=>?_⟩,by simp⟩
  ·rcases List.mem_cons.mp hb with rfl | hb
   ·exact .inr rfl
   ·exact .inl (W.mem b hb)
  ·rcases List.mem_cons.mp hb with rfl | hb
   ·exact ha
   ·exact W.bd b hb
  ·obtain ⟨w,y,hw,e⟩:=hu.split
   have k1:∀ i,x*w i-y*comb xs as i=0:=λi=>by
    have:=W.van _ (hw.lin x (-y) sp1) (λh hh=>by
     have e1:=e h
     rw [hv h (List.mem_cons_of_mem _ hh)] at e1
     have e2:=h0 h hh
     grind) i
    grind
   have k2:y=0:=by
    have e1:=e c
    rw [hv c List.mem_cons_self] at e1
    have e2:=k1 c
    have e3:y*(x*a c+comb xs as c)=0:=by grind
    rcases Int.mul_eq_zero.mp e3 with z | z
    ·exact z
    ·exact (hc z).elim
   intro i
   have e1:=e i
   have e2:=k1 i
   have e3:x*u i=0:=by grind
   exact (Int.mul_eq_zero.mp e3).resolve_left hx
  ·rcases List.mem_cons.mp hh with rfl | hh
   ·refine ⟨_,hva,hc0,hc,λi=>?_⟩
    have e1:=zjk (i:=i) b2 λb hb=>W.bd b hb i
    have e2:(x*a i).natAbs≤(2*((as.length+1)*B)+1)^as.length*B:=by rw [Int.natAbs_mul];exact Nat.mul_le_mul b1 (ha i)
    unfold bnd at hE
    rw [Nat.add_mul,Nat.one_mul] at hE
    show (x*a i+comb xs as i).natAbs≤E
    omega
   ·obtain ⟨v,q1,q2⟩:=W.hd h hh
    exact ⟨v,up v q1,q2⟩
  ·match ys,hy with
   | y :: ys,hy =>
    have k1:∀ i,x*comb ys as i-y*comb xs as i=0:=λi=>by
     have:=W.van _ ((ziG (xs:=ys) W.mem).lin x (-y) sp1) (λh hh=>by
      have e1:=hys h
      simp only [comb] at e1
      have e2:=h0 h hh
      grind) i
     grind
    have k2:y=0:=by
     have e1:=hys c
     simp only [comb] at e1
     have e2:=k1 c
     have e3:y*(x*a c+comb xs as c)=0:=by grind
     rcases Int.mul_eq_zero.mp e3 with z | z
     ·exact z
     ·exact (hc z).elim
    subst k2
    have k3:=W.ind ys (by simpa using hy) λi=>by have:=hys i;simpa [comb] using this
    intro z hz
    rcases List.mem_cons.mp hz with rfl | hz
    ·rfl
    ·exact k3 z hz
 ·have q:∀ i,x*a i+comb xs as i=0:=λi=>Classical.byContradiction λz=>q ⟨i,z⟩
  refine ⟨hs,as,⟨W.len,λb hb=>.inl (W.mem b hb),W.bd,λu hu hv=>?_,λh hh=>?_,W.ind⟩,by omega⟩
  ·obtain ⟨w,y,hw,e⟩:=hu.split
   have k1:∀ i,x*w i-y*comb xs as i=0:=λi=>by
    have:=W.van _ (hw.lin x (-y) sp1) (λh hh=>by
     have e1:=e h
     rw [hv h hh] at e1
     have e2:=h0 h hh
     grind) i
    grind
   intro i
   have e1:=e i
   have e2:=k1 i
   have e3:=q i
   have e4:x*u i=0:=by grind
   exact (Int.mul_eq_zero.mp e4).resolve_left hx
  ·obtain ⟨v,q1,q2⟩:=W.hd h hh
   exact ⟨v,up v q1,q2⟩
theorem Wit.small {A:Vc->Prop} {B C E:Nat} {hs:List Nat} {as:List Vc} {u:Vc} (W:Wit A B E hs as) (hBC:B≤C) (hs_:Sp A u) (hu:∀ h∈hs,(u h).natAbs≤C) (i:Nat):(u i).natAbs≤bnd as.length B C:=by
 obtain ⟨x,xs,hx,hl,b1,b2,h0⟩:=W.rel hBC hu
 have k:=W.van _ ((hs_.smul x).plus (ziG (xs:=xs) W.mem)) h0 i
 have e1:=zjk (i:=i) b2 λb hb=>W.bd b hb i
 have e2:(x*u i).natAbs=(comb xs as i).natAbs:=by
  have k:x*u i+comb xs as i=0:=k
  omega
 rw [Int.natAbs_mul] at e2
 have e3:(u i).natAbs≤x.natAbs*(u i).natAbs:=Nat.le_mul_of_pos_left _ (Int.natAbs_pos.mpr hx)
 unfold bnd
 rw [Nat.add_mul]
 omega
theorem Wit.head {A:Vc->Prop} {B E:Nat} {hs:List Nat} {as:List Vc} {u:Vc} {h:Nat} (W:Wit A B E hs as) (hu:Sp A u) (h0:∀ i,i<h->u i=0) (h1:u h≠0):h∈hs:=by
 refine Classical.byContradiction λq=>?_
 have hm:∃ n,∀ g∈hs,g<n:=by
  clear W q
  induction hs with
  | nil=>exact ⟨0,by simp⟩
  | cons g hs ih =>
   obtain ⟨n,hn⟩:=ih
   exact ⟨max n (g+1),λk hk=>by
    rcases List.mem_cons.mp hk with rfl | hk
    ·omega
    ·have:=hn k hk;omega⟩
 obtain ⟨n,hn⟩:=hm
 have main:∀ (d t:Nat) (u:Vc),n-t=d->h<t->Sp A u->u h≠0->(∀ g∈hs,g<t->u g=0)->False:=by
  intro d
  induction d with
  | zero=>exact λt u e _ hu h1 k=>h1 (W.van u hu (λg hg=>k g hg (by have:=hn g hg;omega)) h)
  | succ d ih =>
   intro t u e ht hu h1 k
   by_cases z:t∈hs
   ·obtain ⟨v,v1,v2,v3,_⟩:=W.hd t z
    refine ih (t+1) _ ↑0 ↑0 (hu.lin (v t) (-(u t)) v1) ?_ λg hg hgt=>?_
    ·show v t*u h+-u t*v h≠0
     rw [v2 h ht]
     intro y
     rcases Int.mul_eq_zero.mp (show v t*u h=0 by grind) with y | y
     ·exact v3 y
     ·exact h1 y
    ·show v t*u g+-u t*v g=0
     by_cases y:g=t
     ·subst y;grind
     ·rw [v2 g ↑0,k g hg ↑0];grind
   ·exact ih (t+1) u ↑0 ↑0 hu h1 λg hg hgt=>k g hg (by
     have:g≠t:=λy=>z (y ▸ hg)
     omega)
 exact main _ (h+1) u rfl ↑0 hu h1 λg hg hgt=>by
  by_cases y:g=h
  ·exact (q (y ▸ hg)).elim
  ·exact h0 g ↑0
end Lat
namespace L2
open PySem PySem.Spec PyProof.Rows
def whl {S:Type} (c:S->Bool) (f:S->S):Nat->S->S
 | 0,s=>s
 | n+1,s=>bif c s then whl c f n (f s) else s
theorem zme {S:Type} {c:S->Bool} {f:S->S} {s:S} (h:c s=false):∀ n,whl c f n s=s
 | 0=>rfl
 | n+1=>by rw [whl,h];rfl
theorem zp1 {S:Type} {c:S->Bool} {f:S->S} {s:S} (h:c s=true) (n:Nat):whl c f (n+1) s=whl c f n (f s):=by rw [whl,h];rfl
theorem zjP {S:Type} {c:S->Bool} {f:S->S} {I:S->Prop} {μ:S->Nat} (hs:∀ s,I s->c s=true->I (f s)∧μ (f s)<μ s):∀ {n:Nat} {s:S},I s->μ s≤n->I (whl c f n s)∧c (whl c f n s)=false
 | 0,s,h,k=>⟨h,by
  show c s=false
  cases q:c s with
  | false=>rfl
  | true=>have:=(hs s h q).2;omega⟩
 | n+1,s,h,k=>by
  cases q:c s with
  | false=>rw [zme q];exact ⟨h,q⟩
  | true =>
   rw [zp1 q]
   exact zjP hs (hs s h q).1 (by have:=(hs s h q).2;omega)
section
variable {E:XS} {Γ:Ctx} {β:Type} {u:TS}
theorem zks {S:Type} {tc:TT} {tb:TS} {s0:S} (G:S->Ctx) (fo:β->Oc) {kk:S->β} (c:S->Bool) (f:S->S) (I:S->Prop) (μ:S->Nat) (n:Nat) (w:Wk Γ (G s0)) (h0:I s0) (hn:μ s0≤n)
  (body:∀ s,I s->EvT (G s) tc (c s)∧(c s=true->(I (f s)∧μ (f s)<μ s)∧Run E (G s) tb (.nx (G (f s)))))
  (k:∀ s,s=whl c f n s0->I s->c s=false->Run E (G s) u (fo (kk s))):Run E Γ (tSeq (zpV tc tb) u) (fo (Let (whl c f n s0) kk)):=λF0 Hb F H σ own D a q=>by
 obtain ⟨i1,i2⟩:=zjP (n:=n) (λs hi hc=>((body s hi).2 hc).1) h0 hn
 have kf:=k _ rfl i1 i2
 refine ⟨λm σ H=>∃ s F own,At F0 Hb F H σ own (G s)∧I s∧μ s=m∧∃ j,μ s≤j∧whl c f j s=whl c f n s0,⟨_,s0,F,own,a.wk w,h0,rfl,n,hn,rfl⟩,?_⟩
 rintro m σ1 H1 ⟨s,F1,own1,a1,hI,rfl,j,hj,ej⟩
 obtain ⟨b1,b2⟩:=body s hI
 refine b1 F0 Hb F1 H1 σ1 own1 _ a1 λF2 H2 g=>?_
 cases e:c s with
 | false =>
  rw [if_neg Bool.false_ne_true]
  rw [zme e] at ej
  rw [← ej] at kf
  exact kf F0 Hb F2 H2 σ1 own1 D (a1.grow g) (by rw [ej];exact q)
 | true =>
  rw [if_pos rfl]
  obtain ⟨⟨c1,c2⟩,c3⟩:=b2 e
  refine ⟨λσ' H'=>∃ F own,At F0 Hb F H' σ' own (G (f s)),λσ' H' ⟨F',own',a'⟩=>⟨_,c2,f s,F',own',a',c1,rfl,j-1,by omega,?_⟩,?_⟩
  ·rw [← ej,show j=(j-1)+1 by omega,zp1 e];simp
  ·exact c3 F0 Hb F2 H2 σ1 own1 _ (a1.grow g) λF' H' σ' own' a'=>⟨F',own',a'⟩
end
end L2
namespace Lat
def vec (l:Ji):Vc:=λi=>l.getD i 0
def hd:Ji->Nat
 | []=>0
 | x :: xs=>bif (!decide (x=0)) then 0 else hd xs+1
def add (l s:Ji):Ji:=List.map (λ(x:Int×Int)=>x.1+x.2) (List.zip l s)
def sub (l s:Ji):Ji:=List.map (λ(x:Int×Int)=>x.1-x.2) (List.zip l s)
def mul (l:Ji) (c:Int):Ji:=List.map (λ(x:Int)=>x*c) l
theorem zmZ {x:Int} {xs:Ji}:vec (x :: xs) 0=x:=rfl
theorem zbI {x:Int} {xs:Ji} {i:Nat}:vec (x :: xs) (i+1)=vec xs i:=by simp [vec]
theorem zbL {l:Ji} {i:Nat} (h:l.length≤i):vec l i=0:=by simp [vec,List.getD_eq_getElem?_getD,List.getElem?_eq_none h]
theorem znj {l:Ji} {i:Nat} (h:i<l.length):vec l i∈l:=by
 simp only [vec,List.getD_eq_getElem?_getD,List.getElem?_eq_getElem h,Option.getD_some];exact List.getElem_mem h
theorem zjT {l:Ji} {x:Int} (h:x∈l):∃ i,i<l.length∧vec l i=x:=by
 obtain ⟨i,hi,e⟩:=List.getElem_of_mem h
 exact ⟨i,hi,by simp [vec,List.getD_eq_getElem?_getD,List.getElem?_eq_getElem hi,e]⟩
theorem zhY {l s:Ji} (h:l.length=s.length) (e:∀ i,vec l i=vec s i):l=s:=by
 refine List.ext_getElem h λi h1 h2=>?_
 have:=e i
 simpa [vec,List.getD_eq_getElem?_getD,List.getElem?_eq_getElem h1,List.getElem?_eq_getElem h2] using this
theorem zpS {l:Ji} {B:Nat} (h:∀ x∈l,x.natAbs≤B) (i:Nat):(vec l i).natAbs≤B:=by
 by_cases q:i<l.length
 ·exact h _ (znj q)
 ·rw [zbL ↑0];exact Nat.zero_le _
theorem zng {l s:Ji} (h:l.length=s.length):(sub l s).length=l.length:=by simp [sub,h]
theorem zju {l s:Ji} (h:l.length=s.length):(add l s).length=l.length:=by simp [add,h]
theorem zbr {l:Ji} {c:Int}:(mul l c).length=l.length:=by simp [mul]
theorem zk8:∀ {l s:Ji} {i:Nat},l.length=s.length->vec (sub l s) i=vec l i-vec s i
 | [],[],i,_=>by simp [sub,vec]
 | x :: l,y :: s,0,_=>rfl
 | x :: l,y :: s,i+1,h=>by
  have:=zk8 (l:=l) (s:=s) (i:=i) (by simpa using h)
  rw [zbI,zbI,← this]
  exact zbI
theorem zjx:∀ {l s:Ji} {i:Nat},l.length=s.length->vec (add l s) i=vec l i+vec s i
 | [],[],i,_=>by simp [add,vec]
 | x :: l,y :: s,0,_=>rfl
 | x :: l,y :: s,i+1,h=>by
  have:=zjx (l:=l) (s:=s) (i:=i) (by simpa using h)
  rw [zbI,zbI,← this]
  exact zbI
theorem zdR:∀ {l:Ji} {c:Int} {i:Nat},vec (mul l c) i=vec l i*c
 | [],c,i=>by simp [mul,vec]
 | x :: l,c,0=>rfl
 | x :: l,c,i+1=>by
  have:=zdR (l:=l) (c:=c) (i:=i)
  rw [zbI,← this]
  exact zbI
theorem zsP:∀ {l:Ji},hd l≤l.length
 | []=>Nat.le_refl 0
 | x :: xs=>by
  unfold hd
  cases (!decide (x=0))
  ·exact Nat.succ_le_succ zsP
  ·exact Nat.zero_le _
theorem zbA:∀ {l:Ji} {i:Nat},i<hd l->vec l i=0
 | [],i,h=>absurd h (Nat.not_lt_zero i)
 | x :: xs,i,h=>by
  unfold hd at h
  by_cases q:x=0
  ·rw [show (!decide (x=0))=false by simp [q]] at h
   have h:i<hd xs+1:=h
   cases i with
   | zero=>exact q
   | succ i=>rw [zbI];exact zbA ↑0
  ·rw [show (!decide (x=0))=true by simp [q]] at h
   exact absurd h (Nat.not_lt_zero i)
theorem zhv:∀ {l:Ji},hd l<l.length->vec l (hd l)≠0
 | [],h=>absurd h (Nat.not_lt_zero _)
 | x :: xs,h=>by
  unfold hd at h ⊢
  by_cases q:x=0
  ·rw [show (!decide (x=0))=false by simp [q]] at h ⊢
   have h:hd xs+1<xs.length+1:=h
   show vec (x :: xs) (hd xs+1)≠0
   rw [zbI]
   exact zhv ↑0
  ·rw [show (!decide (x=0))=true by simp [q]]
   exact q
theorem zkw {l:Ji} {d:Nat} (h:vec l d≠0) (k:∀ i,i<d->vec l i=0):hd l=d:=by
 have h1:¬ hd l<d:=λq=>by
  have hl:d<l.length:=Nat.lt_of_not_le λz=>h (zbL z)
  exact zhv ↑0 (k _ q)
 have h2:¬ d<hd l:=λq=>h (zbA q)
 omega
theorem zr3 {l:Ji} {d:Nat} (hl:d≤l.length) (k:∀ i,i<d->vec l i=0):d≤hd l:=by
 refine Nat.le_of_not_lt λq=>?_
 exact zhv ↑0 (k _ q)
def quo (l s:Ji):Int:=vec l (hd s)/vec s (hd s)
def zlc (l s:Ji):Ji:=bif (!decide (quo l s=0)) then sub l (mul s (quo l s)) else l
def low (l:Ji) (ss:Jq):Ji:=ss.foldl zlc l
theorem zjL {l s:Ji} (h:l.length=s.length):(zlc l s).length=l.length:=by
 unfold zlc
 cases (!decide (quo l s=0))
 ·rfl
 ·show (sub l (mul s (quo l s))).length=_
  rw [zng (by rw [zbr];exact h)]
theorem zhT {l s:Ji} (h:l.length=s.length) (i:Nat):vec (zlc l s) i=vec l i-vec s i*quo l s:=by
 unfold zlc
 by_cases q:quo l s=0
 ·rw [show (!decide (quo l s=0))=false by simp [q],q]
  show vec l i=_
  omega
 ·rw [show (!decide (quo l s=0))=true by simp [q]]
  show vec (sub l (mul s (quo l s))) i=_
  rw [zk8 (by rw [zbr];exact h),zdR]
def Ech (n:Nat):Nat->Jq->Prop
 | _,[]=>True
 | lo,s :: ss=>s.length=n∧lo≤hd s∧hd s<n∧0<vec s (hd s)∧Ech n (hd s+1) ss
def SpL (ss:Jq):Vc->Prop:=Sp (λu=>∃ s∈ss,u=vec s)
theorem Ech.mono {n:Nat}:∀ {ss:Jq} {lo lo':Nat},Ech n lo ss->lo'≤lo->Ech n lo' ss
 | [],_,_,_,_=>trivial
 | s :: ss,lo,lo',h,k=>⟨h.1,Nat.le_trans k h.2.1,h.2.2⟩
theorem Ech.mem {n:Nat}:∀ {ss:Jq} {lo:Nat},Ech n lo ss->∀ t∈ss,t.length=n∧lo≤hd t∧hd t<n∧0<vec t (hd t)
 | [],_,_,t,h=>by simp at h
 | s :: ss,lo,h,t,ht=>by
  rcases List.mem_cons.mp ht with rfl | ht
  ·exact ⟨h.1,h.2.1,h.2.2.1,h.2.2.2.1⟩
  ·obtain ⟨a,b,c,d⟩:=Ech.mem h.2.2.2.2 t ht
   have:=h.2.1
   exact ⟨a,by omega,c,d⟩
theorem Ech.before {n lo i:Nat} {ss:Jq} (h:Ech n lo ss) (hi:i<lo):∀ t∈ss,vec t i=0:=λt ht=>zbA (by have:=(h.mem t ht).2.1;omega)
theorem SpL.before {n lo i:Nat} {ss:Jq} {u:Vc} (h:Ech n lo ss) (hi:i<lo) (hu:SpL ss u):u i=0:=Sp.at0 (λa ⟨s,hs,e⟩=>by rw [e];exact h.before hi s hs) hu
theorem SpL.cons {s:Ji} {ss:Jq} {u:Vc} (h:SpL (s :: ss) u):∃ w y,SpL ss w∧∀ i,u i=w i+y*vec s i:=by
 have:Sp (λu=>(∃ t∈ss,u=vec t)∨u=vec s) u:=Sp.mono (λa ⟨t,ht,e⟩=>by
  rcases List.mem_cons.mp ht with rfl | ht
  ·exact .inr e
  ·exact .inl ⟨t,ht,e⟩) h
 exact this.split
theorem SpL.mem {ss:Jq} {s:Ji} (h:s∈ss):SpL ss (vec s):=Sp.mem ⟨s,h,rfl⟩
theorem SpL.up {s:Ji} {ss:Jq} {u:Vc} (h:SpL ss u):SpL (s :: ss) u:=Sp.mono (λ_ ⟨t,ht,e⟩=>⟨t,List.mem_cons_of_mem _ ht,e⟩) h
theorem SpL.sub {ss tt:Jq} {u:Vc} (k:∀ s∈ss,SpL tt (vec s)) (h:SpL ss u):SpL tt u:=Sp.sub (λ_ ⟨s,hs,e⟩=>e ▸ k s hs) h
theorem zlI {n:Nat}:∀ {ss:Jq} {lo:Nat} {u:Vc},Ech n lo ss->SpL ss u->(∀ t∈ss,0≤u (hd t)∧u (hd t)<vec t (hd t))->∀ i,u i=0
 | [],_,u,_,h,_,i=>Sp.at0 (λ_ ⟨_,z,_⟩=>by simp at z) h
 | s :: ss,lo,u,e,h,k,i=>by
  obtain ⟨w,y,hw,hu⟩:=h.cons
  have e1:=SpL.before e.2.2.2.2 (Nat.lt_succ_self (hd s)) hw
  have e2:=hu (hd s)
  have e3:=k s List.mem_cons_self
  have e4:=e.2.2.2.1
  rw [e1] at e2
  have y0:y=0:=by
   rw [e2,Int.zero_add] at e3
   refine Classical.byContradiction λq=>?_
   rcases Int.lt_or_gt_of_ne q with q | q
   ·have:=Int.mul_neg_of_neg_of_pos q e4
    omega
   ·have:=Int.mul_le_mul_of_nonneg_right (show (1:Int)≤y by omega) (Int.le_of_lt e4)
    omega
  have hu':∀ i,u i=w i:=λi=>by rw [hu i,y0];omega
  have:u=w:=funext hu'
  subst this
  exact zlI e.2.2.2.2 hw (λt ht=>k t ↑38) i
theorem zig {n:Nat}:∀ {ss:Jq} {lo:Nat} {u:Vc} {t:Ji},Ech n lo ss->SpL ss u->t∈ss->(∀ i,i<hd t->u i=0)->vec t (hd t) ∣ u (hd t)
 | [],_,_,t,_,_,h,_=>by simp at h
 | s :: ss,lo,u,t,e,h,ht,k=>by
  obtain ⟨w,y,hw,hu⟩:=h.cons
  have e1:=SpL.before e.2.2.2.2 (Nat.lt_succ_self (hd s)) hw
  rcases List.mem_cons.mp ht with rfl | ht
  ·rw [hu,e1];exact ⟨y,by grind⟩
  ·have e5:=(Ech.mem e.2.2.2.2 t ht).2.1
   have e6:=hu (hd s)
   rw [k (hd s) ↑0,e1] at e6
   have y0:y=0:=(Int.mul_eq_zero.mp (show y*vec s (hd s)=0 by omega)).resolve_right (by have:=e.2.2.2.1;omega)
   have:u=w:=funext λi=>by rw [hu i,y0];omega
   subst this
   exact zig e.2.2.2.2 hw ht k
theorem zgK {n:Nat}:∀ {ss:Jq} {lo:Nat} {u:Vc} {h:Nat},Ech n lo ss->SpL ss u->(∀ i,i<h->u i=0)->u h≠0->∃ t∈ss,hd t=h
 | [],_,u,h,_,hu,_,q=>(q (Sp.at0 (λ_ ⟨_,z,_⟩=>by simp at z) hu)).elim
 | s :: ss,lo,u,h,e,hu,k,q=>by
  obtain ⟨w,y,hw,hu⟩:=hu.cons
  by_cases z:hd s=h
  ·exact ⟨s,List.mem_cons_self,z⟩
  ·have e1:=SpL.before e.2.2.2.2 (Nat.lt_succ_self (hd s)) hw
   by_cases y0:y=0
   ·have:u=w:=funext λi=>by rw [hu i,y0];omega
    subst this
    obtain ⟨t,ht,e⟩:=zgK e.2.2.2.2 hw k q
    exact ⟨t,List.mem_cons_of_mem _ ht,e⟩
   ·have e6:=hu (hd s)
    rw [e1,Int.zero_add] at e6
    have e7:u (hd s)≠0:=by
     rw [e6];intro z;rcases Int.mul_eq_zero.mp z with z | z
     ·exact y0 z
     ·have:=e.2.2.2.1;omega
    have e8:h<hd s:=Nat.lt_of_not_le λz'=>e7 (k _ ↑0)
    have e9:w h=0:=SpL.before e.2.2.2.2 (Nat.lt_succ_of_lt e8) hw
    rw [hu h,e9,zbA e8] at q
    simp at q
theorem zdf {n:Nat}:∀ {ss:Jq} {lo:Nat} {l:Ji},Ech n lo ss->l.length=n →
  (low l ss).length=n∧SpL ss (λi=>vec l i-vec (low l ss) i)∧(∀ t∈ss,0≤vec (low l ss) (hd t)∧vec (low l ss) (hd t)<vec t (hd t))∧∀ i,i<lo->vec (low l ss) i=vec l i
 | [],lo,l,_,h=>⟨h,Sp.zero.conv λi=>by show (0:Int)=vec l i-vec l i;omega,by simp,λ_ _=>rfl⟩
 | s :: ss,lo,l,e,h=>by
  have hl:l.length=s.length:=by rw [h,e.1]
  obtain ⟨a,b,c,d⟩:=zdf (l:=zlc l s) e.2.2.2.2 (by rw [zjL hl,h])
  refine ⟨a,?_,λt ht=>?_,λi hi=>?_⟩
  ·refine ((SpL.up (s:=s) b).plus (((SpL.mem (ss:=s::ss) List.mem_cons_self)).smul (quo l s))).conv λi=>?_
   rw [zhT hl]
   show vec l i-vec s i*quo l s-vec (low (zlc l s) ss) i+quo l s*vec s i=vec l i-vec (low (zlc l s) ss) i
   rw [Int.mul_comm (quo l s)];omega
  ·rcases List.mem_cons.mp ht with rfl | ht
   ·show 0≤vec (low (zlc l t) ss) (hd t)∧vec (low (zlc l t) ss) (hd t)<_
    rw [d (hd t) (Nat.lt_succ_self _),zhT hl]
    have p:=e.2.2.2.1
    have e1:=Int.mul_ediv_add_emod (vec l (hd t)) (vec t (hd t))
    have e2:=Int.emod_nonneg (vec l (hd t)) (show vec t (hd t)≠0 by omega)
    have e3:=Int.emod_lt_of_pos (vec l (hd t)) p
    unfold quo
    omega
   ·exact c t ht
  ·show vec (low (zlc l s) ss) i=_
   have:=e.2.1
   rw [d i ↑0,zhT hl,zbA (show i<hd s by omega)];omega
end Lat
namespace Lat
abbrev G4:=Int×Int×Int×Int
def cmC (s:G4):Bool:=!decide (s.2.1=(0:Int))
def cmF (s:G4):G4:=(s.2.1,s.1-s.1/s.2.1*s.2.1,s.2.2.2,s.2.2.1-s.1/s.2.1*s.2.2.2)
structure GI (one other:Int) (s:G4):Prop where
 g:0<s.1
 m:0≤s.2.1
 gb:s.1≤one+other
 mb:s.2.1≤one+other
 tb:-other≤s.2.2.1∧s.2.2.1≤other
 lb:-other≤s.2.2.2∧s.2.2.2≤other
 sg:(0≤s.2.2.1∧s.2.2.2≤0∧s.2.1*s.2.2.1-s.1*s.2.2.2=other)∨(s.2.2.1≤0∧0≤s.2.2.2∧s.1*s.2.2.2-s.2.1*s.2.2.1=other)
 bg:∃ y,s.1=s.2.2.1*one+y*other
 bm:∃ y,s.2.1=s.2.2.2*one+y*other
 d1:∃ p q,one=p*s.1+q*s.2.1
 d2:∃ p q,other=p*s.1+q*s.2.1
theorem GI.start {one other:Int} (h1:0<one) (h2:0<other):GI one other (one,other,1,0) where
 g:=h1
 m:=by show 0≤other;omega
 gb:=by show one≤one+other;omega
 mb:=by show other≤one+other;omega
 tb:=by show -other≤1∧1≤other;omega
 lb:=by show -other≤0∧0≤other;omega
 sg:=.inl (by show (0:Int)≤1∧(0:Int)≤0∧other*1-one*0=other;omega)
 bg:=⟨0,by show one=1*one+0*other;omega⟩
 bm:=⟨1,by show other=0*one+1*other;omega⟩
 d1:=⟨1,0,by show one=1*one+0*other;omega⟩
 d2:=⟨0,1,by show other=0*one+1*other;omega⟩
theorem GI.step {one other:Int} {s:G4} (I:GI one other s) (hc:cmC s=true):GI one other (cmF s)∧(cmF s).2.1.toNat<s.2.1.toNat:=by
 obtain ⟨g,m,t,l⟩:=s
 obtain ⟨h1,h2,h3,h4,h5,h6,h7,⟨y1,h8⟩,⟨y2,h9⟩,⟨p1,q1,hA⟩,⟨p2,q2,hB⟩⟩:=I
 simp only at h1 h2 h3 h4 h5 h6 h7 h8 h9 hA hB
 have hm:0<m:=by
  unfold cmC at hc
  simp only [Bool.not_eq_true',decide_eq_false_iff_not] at hc
  omega
 have e1:=Int.mul_ediv_add_emod g m
 have e2:=Int.emod_nonneg g (show m≠0 by omega)
 have e3:=Int.emod_lt_of_pos g hm
 have e4:0≤g/m:=Int.ediv_nonneg ↑0 ↑0
 have e5:g-g/m*m=g%m:=by rw [Int.mul_comm];omega
 show GI one other (m,g-g/m*m,l,t-g/m*l)∧(g-g/m*m).toNat<m.toNat
 rw [e5]
 generalize hq:g/m=q at *
 generalize hr:g%m=r at *
 have eg:g=m*q+r:=by omega
 have sg:(0≤l∧t-q*l≤0∧r*l-m*(t-q*l)=other)∨(l≤0∧0≤t-q*l∧m*(t-q*l)-r*l=other):=by
  rcases h7 with ⟨a,b,c⟩ | ⟨a,b,c⟩
  ·refine .inr ⟨b,?_,by grind⟩
   have:=Int.mul_nonneg e4 (show (0:Int)≤-l by omega)
   grind
  ·refine .inl ⟨b,?_,by grind⟩
   have:=Int.mul_nonneg e4 b
   omega
 have hl:-other≤t-q*l∧t-q*l≤other:=by
  rcases sg with ⟨a,b,c⟩ | ⟨a,b,c⟩
  ·have k1:=Int.mul_nonneg e2 a
   have k2:=Int.mul_le_mul_of_nonneg_right (show (1:Int)≤m by omega) (show (0:Int)≤-(t-q*l) by omega)
   have k3:m*-(t-q*l)=-(m*(t-q*l)):=by grind
   rw [k3] at k2
   omega
  ·have k1:=Int.mul_nonneg e2 (show (0:Int)≤-l by omega)
   have k2:=Int.mul_le_mul_of_nonneg_right (show (1:Int)≤m by omega) b
   have k3:r*-l=-(r*l):=by grind
   rw [k3] at k1
   omega
 refine ⟨⟨hm,e2,h4,by show r≤_;omega,h6,hl,sg,⟨y2,h9⟩,⟨y1-q*y2,?_⟩,⟨p1*q+q1,p1,?_⟩,⟨p2*q+q2,p2,?_⟩⟩,by omega⟩
 ·show r=(t-q*l)*one+(y1-q*y2)*other
  grind
 ·show one=(p1*q+q1)*m+p1*r
  grind
 ·show other=(p2*q+q2)*m+p2*r
  grind
structure Cm (one other g x y:Int):Prop where
 pos:0<g
 le:g≤one+other
 xb:-other≤x∧x≤other
 eq:g=x*one+y*other
 d1:one/g*g=one
 d2:other/g*g=other
theorem GI.done {one other:Int} {s:G4} (h2:0<other) (I:GI one other s) (hc:cmC s=false):Cm one other s.1 s.2.2.1 ((s.1-s.2.2.1*one)/other):=by
 obtain ⟨g,m,t,l⟩:=s
 obtain ⟨h1,_,h3,_,h5,_,_,⟨y1,h8⟩,_,⟨p1,q1,hA⟩,⟨p2,q2,hB⟩⟩:=I
 simp only at h1 h3 h5 h8 hA hB
 have hm:m=0:=by
  unfold cmC at hc
  simpa using hc
 subst hm
 have e:(g-t*one)/other=y1:=by
  rw [show g-t*one=y1*other by omega]
  exact Int.mul_ediv_cancel _ ↑0
 refine ⟨h1,h3,h5,?_,?_,?_⟩
 ·show g=t*one+(g-t*one)/other*other
  rw [e];exact h8
 ·exact Int.ediv_mul_cancel ⟨p1,by show one=g*p1;rw [Int.mul_comm];omega⟩
 ·exact Int.ediv_mul_cancel ⟨p2,by show other=g*p2;rw [Int.mul_comm];omega⟩
def mg1 (s l:Ji) (x y:Int):Ji:=add (mul s x) (mul l y)
def mg2 (s l:Ji) (g:Int):Ji:=sub (mul l (vec s (hd s)/g)) (mul s (vec l (hd s)/g))
theorem zie {s l:Ji} {x y:Int} (h:s.length=l.length) (i:Nat):vec (mg1 s l x y) i=x*vec s i+y*vec l i:=by
 unfold mg1
 rw [zjx (by rw [zbr,zbr,h]),zdR,zdR,Int.mul_comm,Int.mul_comm (vec l i)]
theorem zjh {s l:Ji} {g:Int} (h:s.length=l.length) (i:Nat):vec (mg2 s l g) i=vec s (hd s)/g*vec l i-vec l (hd s)/g*vec s i:=by
 unfold mg2
 rw [zk8 (by rw [zbr,zbr,h]),zdR,zdR,Int.mul_comm,Int.mul_comm (vec s i)]
theorem zog {s l:Ji} {x y:Int} (h:s.length=l.length):((mg1 s l x y)).length=s.length:=by unfold mg1;rw [zju (by rw [zbr,zbr,h]),zbr]
theorem zne {s l:Ji} {g:Int} (h:s.length=l.length):((mg2 s l g)).length=s.length:=by unfold mg2;rw [zng (by rw [zbr,zbr,h]),zbr,h]
theorem zod {s l:Ji} {g x y:Int} (h:s.length=l.length) (C:Cm (vec s (hd s)) (vec l (hd s)) g x y) (i:Nat) :
  vec s i=vec s (hd s)/g*vec (mg1 s l x y) i-y*vec (mg2 s l g) i∧vec l i=vec l (hd s)/g*vec (mg1 s l x y) i+x*vec (mg2 s l g) i:=by
 rw [zie h,zjh h]
 have e1:=C.eq
 have e2:=C.d1
 have e3:=C.d2
 have e4:=C.pos
 generalize vec s (hd s)=a at *
 generalize vec l (hd s)=b at *
 generalize a/g=p at *
 generalize b/g=q at *
 have u:x*p+y*q=1:=by
  have:(x*p+y*q-1)*g=0:=by grind
  rcases Int.mul_eq_zero.mp this with z | z<;>omega
 constructor<;>grind
def upr (l:Ji):Ji:=bif decide (vec l (hd l)<(0:Int)) then mul l ⇑5 else l
theorem znq {l:Ji}:(upr l).length=l.length:=by
 unfold upr
 cases decide (vec l (hd l)<(0:Int))
 ·rfl
 ·exact zbr
theorem zkW {l:Ji}:∃ c:Int,c*c=1∧(∀ i,vec (upr l) i=c*vec l i)∧0≤c*vec l (hd l):=by
 unfold upr
 by_cases q:vec l (hd l)<0
 ·rw [show decide (vec l (hd l)<(0:Int))=true by simp [q]]
  exact ⟨-1,by decide,λi=>by show vec (mul l ⇑5) i=_;rw [zdR];omega,by omega⟩
 ·rw [show decide (vec l (hd l)<(0:Int))=false by simp [q]]
  exact ⟨1,by decide,λi=>by show vec l i=_;omega,by omega⟩
theorem zqe {l:Ji} (h:hd l<l.length):hd (upr l)=hd l∧0<vec (upr l) (hd l):=by
 obtain ⟨c,c1,c2,c3⟩:=zkW (l:=l)
 have e:=zhv h
 have c0:c≠0:=by intro z;subst z;simp at c1
 have e1:c*vec l (hd l)≠0:=λz=>by
  rcases Int.mul_eq_zero.mp z with z | z
  ·exact c0 z
  ·exact e z
 refine ⟨zkw (by rw [c2];exact e1) λi hi=>by rw [c2,zbA hi];simp,by rw [c2];omega⟩
theorem zp5 {l:Ji} {ss:Jq} (h:SpL ss (vec l)):SpL ss (vec (upr l)):=by
 obtain ⟨c,_,c2,_⟩:=zkW (l:=l)
 exact (Sp.smul c h).conv λi=>(c2 i).symm
theorem znI {l:Ji} {ss:Jq} (h:SpL ss (vec (upr l))):SpL ss (vec l):=by
 obtain ⟨c,c1,c2,_⟩:=zkW (l:=l)
 exact (Sp.smul c h).conv λi=>by rw [c2,← Int.mul_assoc,c1,Int.one_mul]
structure Mg where
 f:Int->Int->Int×Int×Int
 ok:∀ a b:Int,0<a->0<b->Cm a b (f a b).1 (f a b).2.1 (f a b).2.2
def tin (M:Mg):Jq->Ji->Jq
 | [],l=>bif decide (hd l<l.length) then [upr l] else []
 | s :: ss,l=>bif decide (hd l<hd s) then upr l :: s :: ss else
   bif decide (hd l=hd s) then mg1 s l ((M.f (vec s (hd s)) (vec l (hd s)))).2.1 ((M.f (vec s (hd s)) (vec l (hd s)))).2.2 :: tin M ss (low (mg2 s l ((M.f (vec s (hd s)) (vec l (hd s)))).1) ss) else s :: tin M ss l
theorem zgP (M:Mg) {n:Nat}:∀ {ss:Jq} {lo:Nat} {l:Ji},Ech n lo ss->l.length=n->(∀ i,i<lo->vec l i=0)->(∀t∈ss,0≤vec l (hd t)∧vec l (hd t)<vec t (hd t))->lo≤n →
  Ech n lo (tin M ss l)∧(tin M ss l).length≤ss.length+1∧(∀ t∈tin M ss l,SpL (l :: ss) (vec t))∧(∀ t∈l :: ss,SpL (tin M ss l) (vec t))
 | [],lo,l,_,hl,h0,_,hlo=>by
  unfold tin
  by_cases q:hd l<l.length
  ·rw [show decide (hd l<l.length)=true by simp [q],cond_true]
   obtain ⟨e1,e2⟩:=zqe q
   refine ⟨⟨by rw [znq,hl],by rw [e1];exact zr3 ↑0 h0,by rw [e1];omega,by rw [e1];exact e2,trivial⟩,by simp,λt ht=>?_,λt ht=>?_⟩
   ·rw [List.mem_singleton.mp ht];exact zp5 (SpL.mem List.mem_cons_self)
   ·rw [List.mem_singleton.mp ht];exact znI (SpL.mem List.mem_cons_self)
  ·rw [show decide (hd l<l.length)=false by simp [q],cond_false]
   have hz:hd l=l.length:=by have:=zsP (l:=l);omega
   refine ⟨trivial,by simp,by simp,λt ht=>?_⟩
   rw [List.mem_singleton.mp ht]
   exact Sp.zero.conv λi=>by
    by_cases z:i<l.length
    ·rw [zbA ↑0]
    ·rw [zbL ↑0]
 | s :: ss,lo,l,e,hl,h0,hr,hlo=>by
  unfold tin
  have hsl:s.length=l.length:=by rw [e.1,hl]
  by_cases q:hd l<hd s
  ·rw [show decide (hd l<hd s)=true by simp [q],cond_true]
   have hsn:=e.2.2.1
   obtain ⟨e1,e2⟩:=zqe (l:=l) ↑0
   refine ⟨⟨by rw [znq,hl],by rw [e1];exact zr3 ↑0 h0,by rw [e1];omega,by rw [e1];exact e2,e.1,by rw [e1];omega,e.2.2⟩,by simp,λt ht=>?_,λt ht=>?_⟩
   ·rcases List.mem_cons.mp ht with rfl | ht
    ·exact zp5 (SpL.mem List.mem_cons_self)
    ·exact SpL.mem ↑38
   ·rcases List.mem_cons.mp ht with rfl | ht
    ·exact znI (SpL.mem List.mem_cons_self)
    ·exact SpL.mem ↑38
  ·rw [show decide (hd l<hd s)=false by simp [q],cond_false]
   by_cases z:hd l=hd s
   ·rw [show decide (hd l=hd s)=true by simp [z],cond_true]
    have hb:0<vec l (hd s):=by
     have:=(hr s List.mem_cons_self).1
     have:=zhv (l:=l) (by rw [z,hl];exact e.2.2.1)
     rw [z] at this;omega
    have C:=M.ok _ _ e.2.2.2.1 hb
    generalize hg:((M.f (vec s (hd s)) (vec l (hd s)))).1=g at *
    generalize hx:((M.f (vec s (hd s)) (vec l (hd s)))).2.1=x at *
    generalize hy:((M.f (vec s (hd s)) (vec l (hd s)))).2.2=y at *
    have f0:∀ i,i<hd s->vec (mg1 s l x y) i=0:=λi hi=>by rw [zie hsl,zbA hi,zbA (show i<hd l by omega)];omega
    have f1:vec (mg1 s l x y) (hd s)=g:=by rw [zie hsl];exact C.eq.symm
    have f2:hd (mg1 s l x y)=hd s:=zkw (by rw [f1];have:=C.pos;omega) f0
    have g0:∀ i,i<hd s+1->vec (mg2 s l g) i=0:=λi hi=>by
     rw [zjh hsl]
     by_cases zi:i=hd s
     ·subst zi
      have:=C.d1;have:=C.d2
      generalize vec s (hd s)/g=p at *
      generalize vec l (hd s)/g=r at *
      generalize vec s (hd s)=a at *
      generalize vec l (hd s)=b at *
      grind
     ·rw [zbA (show i<hd s by omega),zbA (show i<hd l by omega)];omega
    obtain ⟨k1,k2,k3,k4⟩:=zdf (l:=mg2 s l g) e.2.2.2.2 (by rw [zne hsl,e.1])
    obtain ⟨i1,i2,i3,i4⟩:=zgP M (l:=low (mg2 s l g) ss) e.2.2.2.2 k1 (λi hi=>by rw [k4 i hi,g0 i hi]) k3 (by have:=e.2.2.1;omega)
    have low_in:∀ {tt:Jq},(∀t∈ss,SpL tt (vec t))->SpL tt (vec (mg2 s l g))->SpL tt (vec (low (mg2 s l g) ss)):=λh1 h2=>(Sp.lin 1 (-1) h2 (k2.sub h1)).conv λi=>by omega
    have low_out:∀ {tt:Jq},(∀t∈ss,SpL tt (vec t))->SpL tt (vec (low (mg2 s l g) ss))->SpL tt (vec (mg2 s l g)):=λh1 h2=>(Sp.plus h2 (k2.sub h1)).conv λi=>by omega
    have hS:SpL (l :: s :: ss) (vec s):=SpL.mem (List.mem_cons_of_mem _ List.mem_cons_self)
    have hL:SpL (l :: s :: ss) (vec l):=SpL.mem List.mem_cons_self
    refine ⟨⟨by rw [zog hsl,e.1],by rw [f2];exact e.2.1,by rw [f2];exact e.2.2.1,by rw [f2,f1];exact C.pos,by rw [f2];exact i1⟩,by simp only [List.length_cons];omega,λt ht=>?_,λt ht=>?_⟩
    ·rcases List.mem_cons.mp ht with rfl | ht
     ·exact (Sp.lin x y hS hL).conv λi=>(zie hsl i).symm
     ·refine (i3 t ht).sub λv hv=>?_
      rcases List.mem_cons.mp hv with rfl | hv
      ·refine low_in (λt ht=>SpL.mem (List.mem_cons_of_mem _ ↑38)) ((Sp.lin (vec s (hd s)/g) (-(vec l (hd s)/g)) hL hS).conv λi=>?_)
       rw [zjh hsl];grind
      ·exact SpL.mem (List.mem_cons_of_mem _ (List.mem_cons_of_mem _ hv))
    ·have u1:∀ v∈low (mg2 s l g) ss :: ss,SpL (mg1 s l x y::tin M ss (low (mg2 s l g) ss)) (vec v):=λv hv=>(i4 v hv).up
     have u2:=low_out (λt ht=>u1 t ↑38) (u1 _ List.mem_cons_self)
     have u3:SpL (mg1 s l x y::tin M ss (low (mg2 s l g) ss)) (vec (mg1 s l x y)):=SpL.mem List.mem_cons_self
     rcases List.mem_cons.mp ht with rfl | ht
     ·exact (Sp.lin (vec t (hd s)/g) x u3 u2).conv λi=>((zod hsl C i).2).symm
     ·rcases List.mem_cons.mp ht with rfl | ht
      ·exact (Sp.lin (vec t (hd t)/g) (-y) u3 u2).conv λi=>by rw [(zod hsl C i).1];grind
      ·exact u1 t ↑38
   ·rw [show decide (hd l=hd s)=false by simp [z],cond_false]
    obtain ⟨i1,i2,i3,i4⟩:=zgP M (l:=l) e.2.2.2.2 hl (λi hi=>zbA ↑0) (λt ht=>hr t ↑38) (by have:=e.2.2.1;omega)
    refine ⟨⟨e.1,e.2.1,e.2.2.1,e.2.2.2.1,i1⟩,by simp only [List.length_cons];omega,λt ht=>?_,λt ht=>?_⟩
    ·rcases List.mem_cons.mp ht with rfl | ht
     ·exact SpL.mem (List.mem_cons_of_mem _ List.mem_cons_self)
     ·refine (i3 t ht).sub λv hv=>?_
      rcases List.mem_cons.mp hv with rfl | hv
      ·exact SpL.mem List.mem_cons_self
      ·exact SpL.mem (List.mem_cons_of_mem _ (List.mem_cons_of_mem _ hv))
    ·rcases List.mem_cons.mp ht with rfl | ht
     ·exact (i4 t List.mem_cons_self).up
     ·rcases List.mem_cons.mp ht with rfl | ht
      ·exact SpL.mem List.mem_cons_self
      ·exact (i4 t ↑38).up
def stl:Jq->Jq
 | []=>[]
 | s :: ss=>low s (stl ss) :: stl ss
def Red:Jq->Prop
 | []=>True
 | s :: ss=>(∀ t∈ss,0≤vec s (hd t)∧vec s (hd t)<vec t (hd t))∧Red ss
theorem zlL {n:Nat}:∀ {ss:Jq} {lo:Nat},Ech n lo ss->Ech n lo (stl ss)∧Red (stl ss)∧(stl ss).length=ss.length∧(∀ t∈stl ss,SpL ss (vec t))∧∀ t∈ss,SpL (stl ss) (vec t)
 | [],_,_=>⟨trivial,trivial,rfl,by simp [stl],by simp⟩
 | s :: ss,lo,e=>by
  obtain ⟨a,b,c,d,f⟩:=zlL e.2.2.2.2
  obtain ⟨k1,k2,k3,k4⟩:=zdf (l:=s) a e.1
  have h1:hd (low s (stl ss))=hd s:=zkw (by rw [k4 _ (Nat.lt_succ_self _)];have:=e.2.2.2.1;omega) λi hi=>by rw [k4 _ ↑0,zbA hi]
  refine ⟨⟨k1,by rw [h1];exact e.2.1,by rw [h1];exact e.2.2.1,by rw [h1,k4 _ (Nat.lt_succ_self _)];exact e.2.2.2.1,by rw [h1];exact a⟩,⟨k3,b⟩,by simp [stl,c],λt ht=>?_,λt ht=>?_⟩
  ·rcases List.mem_cons.mp ht with rfl | ht
   ·exact (Sp.lin 1 (-1) (SpL.mem (ss:=s::ss) List.mem_cons_self) (k2.sub λv hv=>(d v hv).up)).conv λi=>by omega
   ·exact (d t ht).up
  ·rcases List.mem_cons.mp ht with rfl | ht
   ·exact (Sp.plus (SpL.mem (ss:=stl (t :: ss)) (s:=low t (stl ss)) List.mem_cons_self) (k2.sub λv hv=>SpL.mem (List.mem_cons_of_mem _ hv))).conv λi=>by omega
   ·exact (f t ht).up
def clm (M:Mg) (rows:Jq):Jq:=rows.foldl (λss r=>stl (tin M ss (low r ss))) []
structure Stairs (n:Nat) (rows ss:Jq):Prop where
 ech:Ech n 0 ss
 red:Red ss
 inn:∀ t∈ss,SpL rows (vec t)
 out:∀ r∈rows,SpL ss (vec r)
theorem Stairs.nil {n:Nat}:Stairs n [] []:=⟨trivial,trivial,by simp,by simp⟩
theorem Stairs.step {n:Nat} {rows ss:Jq} {r:Ji} (M:Mg) (h:Stairs n rows ss) (hr:r.length=n):Stairs n (rows++[r]) (stl (tin M ss (low r ss)))∧(stl (tin M ss (low r ss))).length≤ss.length+1:=by
 obtain ⟨k1,k2,k3,_⟩:=zdf (l:=r) h.ech hr
 obtain ⟨t1,t2,t3,t4⟩:=zgP M h.ech k1 (λi hi=>absurd hi (Nat.not_lt_zero i)) k3 (Nat.zero_le n)
 obtain ⟨s1,s2,s3,s4,s5⟩:=zlL t1
 have inn:∀ t∈ss,SpL (rows++[r]) (vec t):=λt ht=>(h.inn t ht).sub λv hv=>SpL.mem (List.mem_append_left _ hv)
 have hr':SpL (rows++[r]) (vec r):=SpL.mem (List.mem_append_right _ List.mem_cons_self)
 have f1:∀ t∈low r ss :: ss,SpL (stl (tin M ss (low r ss))) (vec t):=λt ht=>(t4 t ht).sub s5
 refine ⟨⟨s1,s2,λt ht=>(s4 t ht).sub λv hv=>(t3 v hv).sub λw hw=>?_,λt ht=>?_⟩,by rw [s3];exact t2⟩
 ·rcases List.mem_cons.mp hw with rfl | hw
  ·exact (Sp.lin 1 (-1) hr' (k2.sub inn)).conv λi=>by omega
  ·exact inn w hw
 ·rcases List.mem_append.mp ht with ht | ht
  ·exact (h.out t ht).sub λv hv=>f1 v (List.mem_cons_of_mem _ hv)
  ·rw [List.mem_singleton.mp ht]
   exact (Sp.plus (f1 _ List.mem_cons_self) (k2.sub λv hv=>f1 v (List.mem_cons_of_mem _ hv))).conv λi=>by omega
end Lat
namespace Lat
theorem zn5 {n:Nat}:∀ {ss:Jq} {lo:Nat},Ech n lo ss->Red ss->∀ t∈ss,∀ t'∈ss,hd t'<hd t∨t=t'∨(0≤vec t (hd t')∧vec t (hd t')<vec t' (hd t'))
 | [],_,_,_,t,h,_,_=>by simp at h
 | s :: ss,lo,e,r,t,ht,t',ht'=>by
  rcases List.mem_cons.mp ht with h1 | h1
  ·rcases List.mem_cons.mp ht' with h2 | h2
   ·exact .inr (.inl (h1.trans h2.symm))
   ·rw [h1];exact .inr (.inr (r.1 t' h2))
  ·rcases List.mem_cons.mp ht' with h2 | h2
   ·rw [h2]
    have:=(Ech.mem e.2.2.2.2 t h1).2.1
    exact .inl ↑0
   ·exact zn5 e.2.2.2.2 r.2 t h1 t' h2
theorem zhn {n:Nat}:∀ {ss:Jq} {lo:Nat},Ech n lo ss->lo≤n->ss.length+lo≤n
 | [],_,_,h=>by simpa using h
 | s :: ss,lo,e,h=>by
  have:=zhn e.2.2.2.2 (by have:=e.2.2.1;omega)
  have:=e.2.1
  simp only [List.length_cons]
  omega
abbrev Rw (rows:Jq):Vc->Prop:=λu=>∃ r∈rows,u=vec r
theorem zlw {B E R:Nat} (hE:bnd R B B≤E):∀ (k:Nat) (rows:Jq),rows.length=k->k≤R+1->(∀ r∈rows,∀ x∈r,x.natAbs≤B)->∃ hs as,Wit (Rw rows) B E hs as∧as.length≤rows.length
 | 0,rows,h,_,_=>by
  rw [List.length_eq_zero_iff.mp h]
  refine ⟨[],[],?_,by simp⟩
  have e:Rw []=λ_=>False:=funext λu=>propext ⟨λ⟨_,z,_⟩=>by simp at z,λz=>z.elim⟩
  rw [e]
  exact Wit.nil
 | k+1,rows,h,hk,hb=>by
  have hne:rows≠[]:=by intro z;rw [z] at h;simp at h
  obtain ⟨rs,r,rfl⟩:∃ rs r,rows=rs++[r]:=⟨rows.dropLast,rows.getLast hne,(List.dropLast_concat_getLast hne).symm⟩
  have hl:rs.length=k:=by simpa using h
  obtain ⟨hs,as,W,h1⟩:=zlw hE k rs hl ↑0 λr hr=>hb r (List.mem_append_left _ hr)
  obtain ⟨hs',as',W',h2⟩:=W.step (a:=vec r) (λi=>zpS (hb r (List.mem_append_right _ List.mem_cons_self)) i) (Nat.le_trans (zl7 ↑0) hE)
  refine ⟨hs',as',?_,by simp only [List.length_append,List.length_singleton];omega⟩
  have e:Rw (rs++[r])=λu=>Rw rs u∨u=vec r:=funext λu=>propext ⟨λ⟨s,hs,e⟩=>by
   rcases List.mem_append.mp hs with z | z
   ·exact .inl ⟨s,z,e⟩
   ·rw [List.mem_singleton.mp z] at e;exact .inr e,λz=>by
   rcases z with ⟨s,hs,e⟩ | z
   ·exact ⟨s,List.mem_append_left _ hs,e⟩
   ·exact ⟨r,List.mem_append_right _ List.mem_cons_self,z⟩⟩
  rw [e]
  exact W'
theorem Stairs.wit {n B E:Nat} {rows ss:Jq} {hs:List Nat} {as:List Vc} (h:Stairs n rows ss) (W:Wit (Rw rows) B E hs as) (hBE:B≤E):∀ t∈ss,((vec t (hd t))).natAbs≤E∧∀ i,(vec t i).natAbs≤bnd as.length B E:=by
 have hd1:∀ t∈ss,((vec t (hd t))).natAbs≤E:=λt ht=>by
  obtain ⟨m1,m2,m3,m4⟩:=h.ech.mem t ht
  obtain ⟨v,v1,v2,v3,v4⟩:=W.hd _ (W.head (h.inn t ht) (λi hi=>zbA hi) ↑0)
  have d:=zig h.ech (v1.sub λa ⟨r,hr,e⟩=>e ▸ h.out r hr) ht v2
  exact Nat.le_trans (Nat.le_of_dvd (Int.natAbs_pos.mpr v3) (Int.natAbs_dvd_natAbs.mpr d)) (v4 _)
 refine λt ht=>⟨hd1 t ht,λi=>W.small hBE (h.inn t ht) (λg hg=>?_) i⟩
 obtain ⟨v,v1,v2,v3,v4⟩:=W.hd g hg
 obtain ⟨t',ht',rfl⟩:=zgK h.ech (v1.sub λa ⟨r,hr,e⟩=>e ▸ h.out r hr) v2 v3
 rcases zn5 h.ech h.red t ht t' ht' with z | rfl | ⟨z1,z2⟩
 ·rw [zbA z];exact Nat.zero_le _
 ·exact hd1 t ht
 ·have:=hd1 t' ht';omega
theorem zlY {k R b c:Nat} (hk:k≤R) (hR:R≤31) (hbc:b≤c):bnd k (2^b) (2^c)≤2^((c+7)*(R+1)):=by
 refine Nat.le_trans (zl7 hk) ?_
 unfold bnd
 have h1:R+1≤2^5:=by omega
 have h2:2*((R+1)*2^c)+1≤2^(c+7):=by
  have e1:(R+1)*2^c≤2^5*2^c:=Nat.mul_le_mul_right _ h1
  have e2:2^(c+7)=4*(2^5*2^c):=by rw [Nat.pow_add];omega
  have e3:0<2^c:=Nat.pow_pos ↑1
  omega
 calc (R+1)*((2*((R+1)*2^c)+1)^R*2^b)≤2^5*((2^(c+7))^R*2^b):=Nat.mul_le_mul h1 (Nat.mul_le_mul_right _ (Nat.pow_le_pow_left h2 _))
  _=2^(5+((c+7)*R+b)):=by rw [← Nat.pow_mul,← Nat.pow_add,← Nat.pow_add]
  _≤2^((c+7)*(R+1)):=Nat.pow_le_pow_right ↑1 (by rw [Nat.mul_add];omega)
def Bit (a:Nat) (l:Ji):Prop:=∀ x∈l,x.natAbs≤2^a
theorem Bit.vec {a:Nat} {l:Ji} (h:Bit a l) (i:Nat):(vec l i).natAbs≤2^a:=zpS h i
theorem Bit.of {a:Nat} {l:Ji} (h:∀ i,(Lat.vec l i).natAbs≤2^a):Bit a l:=λx hx=>by
 obtain ⟨i,_,rfl⟩:=zjT hx
 exact h i
theorem Bit.mono {a b:Nat} {l:Ji} (h:Bit a l) (k:a≤b):Bit b l:=λx hx=>Nat.le_trans (h x hx) (Nat.pow_le_pow_right ↑1 k)
def eB (b R:Nat):Nat:=(b+7)*(R+1)
def sB (b R:Nat):Nat:=(eB b R+7)*(R+1)
theorem Stairs.bits {n b R:Nat} {rows ss:Jq} (h:Stairs n rows ss) (hR:R≤31) (hr:rows.length≤R) (hb:∀ r∈rows,Bit b r):∀ t∈ss,((vec t (hd t))).natAbs≤2^eB b R∧Bit (sB b R) t:=by
 obtain ⟨hs,as,W,hl⟩:=zlw (B:=2^b) (E:=2^eB b R) (R:=R) (zlY ↥7 hR ↥7) rows.length rows rfl ↑0 hb
 have e:b≤eB b R:=by unfold eB;exact Nat.le_trans ↑0 (Nat.le_mul_of_pos_right _ (Nat.succ_pos R))
 refine λt ht=>?_
 obtain ⟨a1,a2⟩:=h.wit W (Nat.pow_le_pow_right ↑1 e) t ht
 exact ⟨a1,Bit.of λi=>Nat.le_trans (a2 i) (zlY (Nat.le_trans hl hr) hR e)⟩
theorem zgC {x y a b:Nat} (h1:x≤2^a) (h2:y≤2^b):x*y≤2^(a+b):=by rw [Nat.pow_add];exact Nat.mul_le_mul h1 h2
theorem zjM {x d:Int} (_h:0<d):(x/d).natAbs≤x.natAbs:=by
 have:=Int.natAbs_ediv_le_natAbs x d
 exact this
structure Sd (n s:Nat) (t:Ji):Prop where
 len:t.length=n
 hd:hd t<n
 pos:0<vec t (Lat.hd t)
 top:(vec t (Lat.hd t)).natAbs≤2^8980
 bit:Bit s t
theorem zpR {n s a:Nat} {l t:Ji} (T:Sd n s t) (hb:Bit a l):(quo l t).natAbs≤2^a:=Nat.le_trans (zjM T.pos) (hb.vec _)
theorem zlU {n s a:Nat} {l t:Ji} (T:Sd n s t) (hl:l.length=n) (hb:Bit a l):Bit (a+(s+1)) (zlc l t):=Bit.of λi=>by
 rw [zhT (by rw [hl,T.len])]
 have e1:=hb.vec i
 have e2:(vec t i*quo l t).natAbs≤2^(s+a):=by rw [Int.natAbs_mul];exact zgC (T.bit.vec i) (zpR T hb)
 have e3:2^a≤2^(s+a):=Nat.pow_le_pow_right ↑1 ↑0
 have e4:2^(a+(s+1))=2^(s+a)+2^(s+a):=by rw [show a+(s+1)=(s+a)+1 by omega,Nat.pow_succ];omega
 omega
theorem zgz {n s:Nat}:∀ {ss:Jq} {a:Nat} {l:Ji},(∀ t∈ss,Sd n s t)->l.length=n->Bit a l->Bit (a+ss.length*(s+1)) (low l ss)
 | [],a,l,_,_,h=>by simpa [low] using h
 | t :: ss,a,l,T,hl,h=>by
  have T1:=T t List.mem_cons_self
  have:=zgz (ss:=ss) (λt ht=>T t ↑38) (by rw [zjL (by rw [hl,T1.len]),hl]) (zlU T1 hl h)
  refine Bit.mono this ?_
  rw [List.length_cons,Nat.succ_mul]
  omega
theorem Cm.bd {one other g x y:Int} (C:Cm one other g x y) (h2:0<other) (hy:y=(g-x*one)/other) {c:Nat} (b1:one.natAbs≤2^c) (b2:other.natAbs≤2^c):g.natAbs≤2^(c+1)∧x.natAbs≤2^c∧y.natAbs≤2^(2*c+2):=by
 have e1:=C.le
 have e2:=C.xb
 have e3:=C.pos
 have g1:g.natAbs≤2^(c+1):=by
  rw [Nat.pow_succ]
  omega
 have x1:x.natAbs≤2^c:=by omega
 refine ⟨g1,x1,?_⟩
 rw [hy]
 refine Nat.le_trans (zjM h2) ?_
 have e4:(x*one).natAbs≤2^(c+c):=by rw [Int.natAbs_mul];exact zgC x1 b1
 have e5:2^(c+1)≤2^(c+c+1):=Nat.pow_le_pow_right ↑1 ↑0
 have e6:2^(2*c+2)=2^(c+c+1)+2^(c+c+1):=by rw [show 2*c+2=(c+c+1)+1 by omega,Nat.pow_succ];omega
 have e7:2^(c+c)≤2^(c+c+1):=Nat.pow_le_pow_right ↑1 ↑0
 omega
theorem zht {a g:Int} (hg:0<g) {c:Nat} (h:a.natAbs≤2^c):(a/g).natAbs≤2^c:=Nat.le_trans (zjM hg) h
theorem zrs {n s a:Nat} {l t:Ji} {g x y:Int} (T:Sd n s t) (hl:l.length=n) (hb:Bit a l) (C:Cm (vec t (hd t)) (vec l (hd t)) g x y) (hlt:vec l (hd t)<vec t (hd t)) (h0:0≤vec l (hd t)):Bit (a+(s+8982)) (mg2 t l g):=Bit.of λi=>by
 rw [zjh (by rw [hl,T.len])]
 have e1:(vec t (hd t)/g*vec l i).natAbs≤2^(8980+a):=by rw [Int.natAbs_mul];exact zgC (zht C.pos T.top) (hb.vec i)
 have e2:(vec l (hd t)/g*vec t i).natAbs≤2^(8980+s):=by rw [Int.natAbs_mul];exact zgC (zht C.pos (by have:=T.top;omega)) (T.bit.vec i)
 have e3:2^(8980+a)≤2^(a+(s+8981)):=Nat.pow_le_pow_right ↑1 ↑0
 have e4:2^(8980+s)≤2^(a+(s+8981)):=Nat.pow_le_pow_right ↑1 ↑0
 have e5:2^(a+(s+8982))=2^(a+(s+8981))+2^(a+(s+8981)):=by rw [show a+(s+8982)=(a+(s+8981))+1 by omega,Nat.pow_succ];omega
 omega
theorem zq8 {n s a:Nat} {l t:Ji} {x y:Int} (T:Sd n s t) (hl:l.length=n) (hb:Bit a l) (hx:x.natAbs≤2^8980) (hy:y.natAbs≤2^17962):Bit (a+(s+17964)) (mg1 t l x y):=Bit.of λi=>by
 rw [zie (by rw [hl,T.len])]
 have e1:(x*vec t i).natAbs≤2^(8980+s):=by rw [Int.natAbs_mul];exact zgC hx (T.bit.vec i)
 have e2:(y*vec l i).natAbs≤2^(17962+a):=by rw [Int.natAbs_mul];exact zgC hy (hb.vec i)
 have e3:2^(8980+s)≤2^ (a+(s+17963)):=Nat.pow_le_pow_right ↑1 ↑0
 have e4:2^(17962+a)≤2^ (a+(s+17963)):=Nat.pow_le_pow_right ↑1 ↑0
 have e5:2^(a+(s+17964))=2^ (a+(s+17963))+2^ (a+(s+17963)):=by rw [show a+(s+17964)=(a+(s+17963))+1 by omega,Nat.pow_succ];omega
 omega
theorem zns {a:Nat} {l:Ji} (h:Bit a l):Bit a (upr l):=by
 unfold upr
 cases decide (vec l (hd l)<(0:Int))
 ·exact h
 ·exact Bit.of λi=>by
   show (vec (mul l ⇑5) i).natAbs≤_
   rw [zdR]
   have:=h.vec i
   omega
end Lat
namespace Lat
open L2
theorem zcP (l:Ji) (k:Nat):ixD l (k:Int)=vec l k:=by
 by_cases h:k<l.length
 ·rw [zbJ (List.getElem?_eq_getElem h)]
  simp [vec,List.getD_eq_getElem?_getD,List.getElem?_eq_getElem h]
 ·rw [zbL ↑0]
  unfold ixD atI ixN
  rw [if_pos ↑0,if_neg ↑0]
  rfl
theorem zgG {lo:Int} {n:Nat}:za6 lo (n+1)=lo :: za6 (lo+1) n:=by
 unfold za6
 rw [List.range_succ_eq_map,List.map_cons,List.map_map]
 congr 1
 ·simp
 ·exact List.map_congr_left λi _=>by show lo+((i+1:Nat):Int)=lo+1+(i:Int);omega
abbrev hdB:Unit->Int×Int->Unit ⊕ Int:=λ_ x=>bif (!decide (x.2=(0:Int))) then (Sum.inr x.1) else (Sum.inl ())
theorem znw:∀ (xs:Ji) (lo:Int),zmO (zc2 hdB () ((za6 lo xs.length).zip xs)) (λ(_:Unit)=>lo+(xs.length:Int)) (λb=>b)=lo+(hd xs:Int)
 | [],lo=>rfl
 | x :: xs,lo=>by
  rw [List.length_cons,zgG,List.zip_cons_cons]
  unfold zc2 hd
  cases q:(!decide (x=(0:Int))) with
  | true =>
   rw [show hdB () (lo,x)=.inr lo by unfold hdB;dsimp only;rw [q];rfl]
   show lo=lo+((0:Nat):Int)
   omega
  | false =>
   rw [show hdB () (lo,x)=.inl () by unfold hdB;dsimp only;rw [q];rfl]
   have:=znw xs (lo+1)
   have e:(λ(_:Unit)=>lo+1+(xs.length:Int))=(λ(_:Unit)=>lo+((xs.length+1:Nat):Int)):=funext λ_=>by omega
   rw [e] at this
   show zmO (zc2 hdB () ((za6 (lo+1) xs.length).zip xs)) _ _=_
   rw [this]
   show lo+1+(hd xs:Int)=lo+((hd xs+1:Nat):Int)
   omega
theorem zut (xs:Ji):zmO (zc2 hdB () (zfB xs)) (λ(_:Unit)=>((xs.length:Nat):Int)) (λb=>b)=(hd xs:Int):=by
 have:=znw xs 0
 simp only [Int.zero_add] at this
 exact this
theorem zeV {α:Type} {xs:List α} {k:Nat}:zcQ xs (some (k:Int)) none=xs.drop k:=by
 unfold zcQ
 rw [HT.sIx_nat,HT.sIx_none]
 by_cases h:k≤xs.length
 ·rw [Nat.min_eq_left h,List.take_of_length_le (by rw [List.length_drop];omega)]
 ·rw [Nat.min_eq_right ↑0,List.drop_eq_nil_of_le ↑0,List.drop_eq_nil_of_le ↑0];simp
def cmn (a b:Int):T3 Int Int Int:=Let (whl cmC cmF b.toNat (a,b,(1:Int),(0:Int))) (λ(r:G4)=>T3.mk r.1 r.2.2.1 ((r.1-(r.2.2.1*a))/b))
theorem znY {a b:Int} (h1:0<a) (h2:0<b):Cm a b (cmn a b).a (cmn a b).b (cmn a b).c:=by
 obtain ⟨i1,i2⟩:=zjP (n:=b.toNat) (c:=cmC) (f:=cmF) (I:=GI a b) (μ:=λs=>s.2.1.toNat) (λs h c=>h.step c) (GI.start h1 h2) ↥7
 exact i1.done h2 i2
theorem zuo {a b:Int}:(cmn a b).c=((cmn a b).a-(cmn a b).b*a)/b:=rfl
def MG:Mg:=⟨λa b=>((cmn a b).a,(cmn a b).b,(cmn a b).c),λ_ _ h1 h2=>znY h1 h2⟩
def mrg (s l:Ji):Ji×Ji:=(mg1 s l ((cmn (vec s (hd s)) (vec l (hd s)))).b ((cmn (vec s (hd s)) (vec l (hd s)))).c,mg2 s l ((cmn (vec s (hd s)) (vec l (hd s)))).a)
theorem zl3 {s:Ji} {ss:Jq} {l:Ji}:tin MG (s :: ss) l=bif decide (hd l<hd s) then upr l :: s :: ss else bif decide (hd l=hd s) then (mrg s l).1 :: tin MG ss (low (mrg s l).2 ss) else s :: tin MG ss l:=rfl
abbrev TS2:=Jq×Ji
def zmN (steps:Jq):TS2->Int×Ji->TS2 ⊕ Jq:=λs x =>
 bif decide ((hd s.2:Int)<(hd x.2:Int)) then (Sum.inr ((s.1++[upr s.2])++(zcQ steps (some x.1) none)))
 else Let (bif decide ((hd s.2:Int)=(hd x.2:Int)) then (s.1++[(mrg x.2 s.2).1]) else (s.1++[x.2])) (λ(g:Jq) =>
  Let (bif decide ((hd s.2:Int)=(hd x.2:Int)) then (low ((mrg x.2 s.2).2) (zcQ steps (some (x.1+(1:Int))) none)) else s.2) (λ(l:Ji)=>Sum.inl (g,l)))
abbrev ztG:TS2->Jq:=λr=>Let (bif decide ((hd r.2:Int)<((r.2.length:Nat):Int)) then (r.1++[upr r.2]) else r.1) (λ(g:Jq)=>g)
theorem zjt {steps:Jq}:∀ (ss:Jq) (k:Nat) (g:Jq) (l:Ji),steps.drop k=ss->zmO (zc2 (zmN steps) (g,l) ((za6 (k:Int) ss.length).zip ss)) ztG (λb=>b)=g++tin MG ss l
 | [],k,g,l,_=>by
  show ztG (g,l)=_
  unfold ztG Let tin
  dsimp only
  by_cases q:hd l<l.length
  ·rw [show decide ((hd l:Int)<((l.length:Nat):Int))=true by simp [q],show decide (hd l<l.length)=true by simp [q]];rfl
  ·rw [show decide ((hd l:Int)<((l.length:Nat):Int))=false by simpa using q,show decide (hd l<l.length)=false by simp [q]]
   simp
 | s :: ss,k,g,l,e=>by
  have e':steps.drop (k+1)=ss:=by rw [← List.drop_drop,e];rfl
  have e2:((k:Int)+(1:Int))=((k+1:Nat):Int):=by omega
  rw [List.length_cons,zgG,List.zip_cons_cons,zl3]
  unfold zc2
  by_cases q:hd l<hd s
  ·rw [show zmN steps (g,l) ((k:Int),s)=.inr ((g++[upr l])++(s :: ss)) by
    unfold zmN;dsimp only
    rw [show decide ((hd l:Int)<(hd s:Int))=true by simp [q],cond_true,zeV,e]]
   rw [show decide (hd l<hd s)=true by simp [q],cond_true]
   show (g++[upr l])++(s :: ss)=_
   simp
  ·rw [show decide (hd l<hd s)=false by simp [q],cond_false]
   have q':decide ((hd l:Int)<(hd s:Int))=false:=by simp;omega
   by_cases z:hd l=hd s
   ·rw [show zmN steps (g,l) ((k:Int),s)=.inl (g++[(mrg s l).1],low (mrg s l).2 ss) by
     unfold zmN Let;dsimp only
     rw [q',show decide ((hd l:Int)=(hd s:Int))=true by simp [z],cond_false,cond_true,cond_true,e2,zeV,e']]
    rw [show decide (hd l=hd s)=true by simp [z],cond_true]
    show zmO (zc2 (zmN steps) _ ((za6 ((k:Int)+1) ss.length).zip ss)) _ _=_
    rw [e2,zjt ss (k+1) _ _ e']
    simp
   ·rw [show zmN steps (g,l) ((k:Int),s)=.inl (g++[s],l) by
     unfold zmN Let;dsimp only
     rw [q',show decide ((hd l:Int)=(hd s:Int))=false by simp;omega,cond_false,cond_false,cond_false]]
    rw [show decide (hd l=hd s)=false by simp [z],cond_false]
    show zmO (zc2 (zmN steps) _ ((za6 ((k:Int)+1) ss.length).zip ss)) _ _=_
    rw [e2,zjt ss (k+1) _ _ e']
    simp
theorem zvx (steps:Jq) (l:Ji):zmO (zc2 (zmN steps) ([],l) (zfB steps)) ztG (λb=>b)=tin MG steps l:=by
 have:=zjt (steps:=steps) steps 0 [] l rfl
 simp only [List.nil_append] at this
 exact this
theorem zu3:∀ (ss:Jq),List.foldl (λ(s:Jq) (x:Ji)=>[low x s]++s) [] ss.reverse=stl ss
 | []=>rfl
 | s :: ss=>by
  rw [List.reverse_cons,List.foldl_append,zu3 ss]
  rfl
theorem zjE:∀ {ss:Jq} {j:Nat},stl (ss.drop j)=(stl ss).drop j
 | [],j=>by simp [stl]
 | s :: ss,0=>rfl
 | s :: ss,j+1=>by rw [List.drop_succ_cons,zjE];rfl
theorem zeI.of {x y:Int} {a b:Nat} (h1:x.natAbs≤2^a) (h2:y.natAbs≤2^b) (ha:a≤50000000) (hb:b≤50000000):zeI x y :=
 .inr (.inr ⟨zm1 (k:=a+1) (by have:2^a<2^(a+1):=Nat.pow_lt_pow_right ↑1 (Nat.lt_succ_self a);omega) ↑0 ↑0,zm1 (k:=b+1) (by have:2^b<2^(b+1):=Nat.pow_lt_pow_right ↑1 (Nat.lt_succ_self b);omega) ↑0 ↑0⟩)
theorem zfi.of {x y:Int} {b:Nat} (h:0<y) (h2:y.natAbs≤2^b) (hb:b≤8990):zfi x y :=
 ⟨h,zm1 (k:=b+1) (by have:2^b<2^(b+1):=Nat.pow_lt_pow_right ↑1 (Nat.lt_succ_self b);omega) ↑0 ↑0⟩
def zkS (a b:Int):Prop:=0<a∧0<b∧a.natAbs≤2^8980∧b.natAbs≤2^8980
section
variable {one other:Int} {s:G4}
theorem GI.gn (I:GI one other s) (h:zkS one other):s.1.natAbs≤2^8981:=by
 have:=I.g;have:=I.gb;obtain ⟨h1,h2,h3,h4⟩:=h
 rw [Nat.pow_succ]
 omega
theorem GI.mn (I:GI one other s) (h:zkS one other):s.2.1.natAbs≤2^8981:=by
 have:=I.m;have:=I.mb;obtain ⟨h1,h2,h3,h4⟩:=h
 rw [Nat.pow_succ]
 omega
theorem GI.tn (I:GI one other s) (h:zkS one other):s.2.2.1.natAbs≤2^8980:=by
 have:=I.tb;obtain ⟨h1,h2,h3,h4⟩:=h
 omega
theorem GI.ln (I:GI one other s) (h:zkS one other):s.2.2.2.natAbs≤2^8980:=by
 have:=I.lb;obtain ⟨h1,h2,h3,h4⟩:=h
 omega
theorem GI.pos (I:GI one other s) (hc:(!decide (s.2.1=(0:Int)))=true):0<s.2.1:=by
 have:=I.m
 simp only [Bool.not_eq_true',decide_eq_false_iff_not] at hc
 omega
theorem GI.div (I:GI one other s) (h:zkS one other) (hc:(!decide (s.2.1=(0:Int)))=true):zfi s.1 s.2.1:=zfi.of (I.pos hc) (I.mn h) ↑1
theorem GI.mul1 (I:GI one other s) (h:zkS one other) (hc:(!decide (s.2.1=(0:Int)))=true) {p:Int} (e:p=s.1/s.2.1):zeI p s.2.1:=by
 subst e;exact zeI.of (zht (I.pos hc) (I.gn h)) (I.mn h) ↑1 ↑1
theorem GI.mul2 (I:GI one other s) (h:zkS one other) (hc:(!decide (s.2.1=(0:Int)))=true) {p:Int} (e:p=s.1/s.2.1):zeI p s.2.2.2:=by
 subst e;exact zeI.of (zht (I.pos hc) (I.gn h)) (I.ln h) ↑1 ↑1
theorem GI.mul3 (I:GI one other s) (h:zkS one other):zeI s.2.2.1 one:=zeI.of (I.tn h) h.2.2.1 ↑1 ↑1
theorem zkS.div (h:zkS one other) {x:Int}:zfi x other:=zfi.of h.2.1 h.2.2.2 ↑1
end
def LowP (row:Ji) (steps:Jq):Prop:=∃ n a s,n≤1000∧row.length=n∧steps.length≤1000∧Bit a row∧(∀ t∈steps,Sd n s t)∧a+steps.length*(s+1)+s≤50000000
section
variable {n s a i:Nat} {l t:Ji} {h q:Int}
theorem zlB (T:Sd n s t) (e:h=(hd t:Int)) (hl:l.length=n):InB l.length h:=by
 have:=T.hd
 unfold InB
 omega
theorem zqT (T:Sd n s t) (e:h=(hd t:Int)):zfi (ixD l h) (ixD t h):=by
 subst e
 rw [zcP,zcP]
 exact zfi.of T.pos T.top ↑1
theorem zqm (T:Sd n s t) (e:h=(hd t:Int)) (hb:Bit a l) (eq:q=ixD l h/ixD t h) (ha:a+s≤50000000):∀ y∈t,zeI y q:=by
 subst e eq
 rw [zcP,zcP]
 exact λy hy=>zeI.of (T.bit y hy) (zpR T hb) ↑0 ↑0
theorem zrq (T:Sd n s t) (hl:l.length=n∧Bit (a+i*(s+1)) l) {y:Ji} (e:y=zlc l t):y.length=n∧Bit (a+(i+1)*(s+1)) y:=by
 subst e
 refine ⟨by rw [zjL (by rw [hl.1,T.len]),hl.1],(zlU T hl.1 hl.2).mono ?_⟩
 rw [Nat.succ_mul];omega
theorem zry {k i:Nat} (h:a+k*(s+1)+s≤50000000) (hi:i<k):a+i*(s+1)+s≤50000000:=by
 have:=Nat.mul_le_mul_right (s+1) (show i≤k by omega)
 omega
end
def MrgP (t l:Ji):Prop:=∃ n a s,n≤1000∧Sd n s t∧l.length=n∧Bit a l∧0<vec l (hd t)∧vec l (hd t)<vec t (hd t)∧a+s≤40000000
section
variable {n s a:Nat} {l t:Ji} {h:Int}
theorem zoE (T:Sd n s t) (e:h=(hd t:Int)) (h0:0<vec l (hd t)) (h1:vec l (hd t)<vec t (hd t)):zkS (ixD t h) (ixD l h):=by
 subst e
 rw [zcP,zcP]
 exact ⟨T.pos,h0,T.top,by have:=T.top;omega⟩
theorem zp3 {x y:Int} (h:zkS x y):0<(cmn x y).a∧(cmn x y).a.natAbs≤2^8981∧(cmn x y).b.natAbs≤2^8980∧(cmn x y).c.natAbs≤2^17962:=by
 have C:=znY h.1 h.2.1
 have:=C.bd h.2.1 zuo h.2.2.1 h.2.2.2
 exact ⟨C.pos,this⟩
theorem zjq {x:Int} {a b:Nat} {l:Ji} (h1:Bit a l) (h2:x.natAbs≤2^b) (ha:a≤50000000) (hb:b≤50000000):∀ y∈l,zeI y x:=λy hy=>zeI.of (h1 y hy) h2 ha hb
end
def TinP (steps:Jq) (row:Ji):Prop:=∃ n a s,n≤1000∧Ech n 0 steps∧(∀ t∈steps,Sd n s t)∧row.length=n∧Bit a row∧steps.length≤100∧a+(steps.length+2)*↑37+s≤40000000
theorem zl6 {n:Nat}:∀ {ss:Jq} {lo j:Nat},Ech n lo ss->Ech n lo (ss.drop j)
 | [],_,_,_=>by simp [Ech]
 | _ :: _,_,0,h=>h
 | s :: ss,lo,j+1,h=>by
  rw [List.drop_succ_cons]
  exact zl6 (h.2.2.2.2.mono (by have:=h.2.1;omega))
section
variable {n s a i:Nat} {steps:Jq} {st:TS2} {x:Int×Ji}
structure TI (steps:Jq) (n a s i:Nat) (st:TS2):Prop where
 g:st.1.length≤i
 len:st.2.length=n
 bit:Bit (a+steps.length*(s+1)+i*↑37) st.2
 red:∀ t∈steps.drop i,0≤vec st.2 (hd t)∧vec st.2 (hd t)<vec t (hd t)
theorem TI.start {row:Ji} (e:Ech n 0 steps) (T:∀ t∈steps,Sd n s t) (hl:row.length=n) (hb:Bit a row):TI steps n a s 0 ([],low row steps):=by
 obtain ⟨k1,k2,k3,k4⟩:=zdf (l:=row) e hl
 exact ⟨Nat.le_refl 0,k1,by simpa using zgz T hl hb,by simpa using k3⟩
theorem TI.mem (hx:i<steps.length∧x.1=(i:Int)∧steps[i]?=some x.2):x.2∈steps∧x.2∈steps.drop i∧steps.drop i=x.2 :: steps.drop (i+1):=by
 have e:steps.drop i=x.2 :: steps.drop (i+1):=by
  rw [List.drop_eq_getElem_cons hx.1]
  congr 1
  have:=hx.2.2
  rw [List.getElem?_eq_getElem hx.1] at this
  exact Option.some.inj this
 exact ⟨List.mem_of_getElem? hx.2.2,by rw [e];exact List.mem_cons_self,e⟩
theorem TI.num (hi:i≤steps.length) (h:a+(steps.length+2)*↑37+s≤40000000):a+steps.length*(s+1)+i*↑37+(s+9000)≤40000000:=by
 have e1:i*↑37≤steps.length*↑37:=Nat.mul_le_mul_right _ hi
 have e2:steps.length*(s+1)≤(steps.length+1)*(s+9000):=Nat.mul_le_mul ↑0 ↑0
 have e3:s+9000≤(steps.length+1)*(s+9000):=Nat.le_mul_of_pos_left _ ↑0
 rw [Nat.add_mul] at h
 omega
theorem TI.mrg (I:TI steps n a s i st) (hn:n≤1000) (T:∀ t∈steps,Sd n s t) (hx:i<steps.length∧x.1=(i:Int)∧steps[i]?=some x.2) (hh:hd st.2=hd x.2) (hN:a+(steps.length+2)*↑37+s≤40000000):MrgP x.2 st.2:=by
 obtain ⟨m1,m2,m3⟩:=TI.mem hx
 have r:=I.red _ m2
 have T1:=T _ m1
 have ne:=zhv (l:=st.2) (by rw [hh,I.len];exact T1.hd)
 rw [hh] at ne
 exact ⟨n,_,s,hn,T1,I.len,I.bit,by omega,r.2,by have:=TI.num (Nat.le_of_lt hx.1) hN;omega⟩
theorem zlq {t l:Ji} {b:Nat} (T:Sd n s t) (hl:l.length=n) (hb:Bit b l) (h0:0<vec l (hd t)) (h1:vec l (hd t)<vec t (hd t)):(mrg t l).2.length=n∧Bit (b+(s+8982)) (mrg t l).2∧(mrg t l).1.length=n∧Bit (b+(s+17964)) (mrg t l).1:=by
 have e:t.length=l.length:=by rw [hl,T.len]
 have P:zkS (vec t (hd t)) (vec l (hd t)):=⟨T.pos,h0,T.top,by have:=T.top;omega⟩
 have C:=zp3 P
 exact ⟨by rw [show (mrg t l).2=mg2 t l _ from rfl,zne e,T.len],zrs T hl hb (znY T.pos h0) h1 ↑0,by rw [show (mrg t l).1=mg1 t l _ _ from rfl,zog e,T.len],zq8 T hl hb C.2.2.1 C.2.2.2⟩
theorem TI.low (I:TI steps n a s i st) (hn:n≤1000) (hk:steps.length≤100) (T:∀ t∈steps,Sd n s t) (hx:i<steps.length∧x.1=(i:Int)∧steps[i]?=some x.2) (hh:hd st.2=hd x.2) (hN:a+(steps.length+2)*↑37+s≤40000000):LowP (Lat.mrg x.2 st.2).2 (zcQ steps (some (x.1+(1:Int))) none):=by
 obtain ⟨m1,m2,m3⟩:=TI.mem hx
 have r:=I.red _ m2
 have T1:=T _ m1
 have ne:=zhv (l:=st.2) (by rw [hh,I.len];exact T1.hd)
 rw [hh] at ne
 obtain ⟨b1,b2,_⟩:=zlq T1 I.len I.bit ↑0 r.2
 rw [hx.2.1,show ((i:Int)+(1:Int))=((i+1:Nat):Int) by omega,zeV]
 refine ⟨n,_,s,hn,b1,by rw [List.length_drop];omega,b2,λt ht=>T t (List.mem_of_mem_drop ht),?_⟩
 have hp:(List.drop (i+1) steps).length*(s+1)≤steps.length*(s+9000):=Nat.mul_le_mul (by rw [List.length_drop];omega) ↑0
 have hm:steps.length*(s+1)≤(steps.length+1)*(s+9000):=Nat.mul_le_mul ↑0 ↑0
 have ho:i*↑37≤steps.length*↑37:=Nat.mul_le_mul_right _ ↑0
 have hq:(steps.length+1)*(s+9000)=steps.length*(s+9000)+(s+9000):=Nat.succ_mul _ _
 rw [Nat.add_mul steps.length 2] at hN
 omega
theorem TI.step (I:TI steps n a s i st) (e:Ech n 0 steps) (T:∀ t∈steps,Sd n s t) (hx:i<steps.length∧x.1=(i:Int)∧steps[i]?=some x.2) {st':TS2} (hf:zmN steps st x=.inl st'):TI steps n a s (i+1) st':=by
 obtain ⟨m1,m2,m3⟩:=TI.mem hx
 have r:=I.red _ m2
 have T1:=T _ m1
 have dd:∀ t∈steps.drop (i+1),t∈steps.drop i:=λt ht=>by rw [m3];exact List.mem_cons_of_mem _ ht
 have mo:a+steps.length*(s+1)+i*↑37≤a+steps.length*(s+1)+(i+1)*↑37:=by
  have:=Nat.mul_le_mul_right ↑37 (show i≤i+1 by omega)
  omega
 unfold zmN Let at hf
 by_cases q:hd st.2<hd x.2
 ·rw [show decide ((hd st.2:Int)<(hd x.2:Int))=true by simp [q],cond_true] at hf
  cases hf
 ·rw [show decide ((hd st.2:Int)<(hd x.2:Int))=false by simp;omega,cond_false] at hf
  by_cases z:hd st.2=hd x.2
  ·rw [show decide ((hd st.2:Int)=(hd x.2:Int))=true by simp [z],cond_true,cond_true] at hf
   cases hf
   have ne:=zhv (l:=st.2) (by rw [z,I.len];exact T1.hd)
   rw [z] at ne
   obtain ⟨b1,b2,_⟩:=zlq T1 I.len I.bit ↑0 r.2
   rw [hx.2.1,show ((i:Int)+(1:Int))=((i+1:Nat):Int) by omega,zeV]
   have ed:Ech n 0 (steps.drop (i+1)):=zl6 e
   obtain ⟨k1,k2,k3,k4⟩:=zdf (l:=(Lat.mrg x.2 st.2).2) ed b1
   refine ⟨by have:=I.g;simp;omega,k1,(zgz (λt ht=>T t (List.mem_of_mem_drop ht)) b1 b2).mono ?_,k3⟩
   have e5:(List.drop (i+1) steps).length*(s+1)≤steps.length*(s+9000):=Nat.mul_le_mul (by rw [List.length_drop];omega) ↑0
   rw [Nat.succ_mul i,Nat.add_mul steps.length 1]
   omega
  ·rw [show decide ((hd st.2:Int)=(hd x.2:Int))=false by simp;omega,cond_false,cond_false] at hf
   cases hf
   exact ⟨by have:=I.g;simp;omega,I.len,I.bit.mono mo,λt ht=>I.red t (dd t ht)⟩
end
theorem tin_bit {n s K:Nat}:∀ {ss:Jq} {lo a:Nat} {l:Ji},Ech n lo ss->(∀ t∈ss,Sd n s t)->l.length=n->(∀t∈ss,0≤vec l (hd t)∧vec l (hd t)<vec t (hd t))->Bit a l->ss.length≤K →
  ∀ t∈tin MG ss l,Bit (a+ss.length*((K+1)*(s+9000))+s+18000) t
 | [],lo,a,l,_,_,_,_,hb,_,t,ht=>by
  unfold tin at ht
  cases q:decide (hd l<l.length) with
  | true=>rw [q,cond_true] at ht;rw [List.mem_singleton.mp ht];exact (zns hb).mono ↑0
  | false=>rw [q,cond_false] at ht;simp at ht
 | s' :: ss,lo,a,l,e,T,hl,r,hb,hK,t,ht=>by
  have T1:=T s' List.mem_cons_self
  have hS:∀ t∈s' :: ss,Bit (a+(s' :: ss).length*((K+1)*(s+9000))+s+18000) t:=λt ht=>(T t ht).bit.mono ↑0
  rw [zl3] at ht
  cases q:decide (hd l<hd s') with
  | true =>
   rw [q,cond_true] at ht
   rcases List.mem_cons.mp ht with rfl | ht
   ·exact (zns hb).mono ↑0
   ·exact hS t ht
  | false =>
   rw [q,cond_false] at ht
   by_cases z:hd l=hd s'
   ·rw [show decide (hd l=hd s')=true by simp [z],cond_true] at ht
    have ne:=zhv (l:=l) (by rw [z,hl];exact T1.hd)
    rw [z] at ne
    have r1:=r s' List.mem_cons_self
    obtain ⟨b1,b2,b3,b4⟩:=zlq T1 hl hb ↑0 r1.2
    rcases List.mem_cons.mp ht with rfl | ht
    ·exact b4.mono ↑0
    ·obtain ⟨k1,k2,k3,k4⟩:=zdf (l:=(mrg s' l).2) e.2.2.2.2 b1
     have:=tin_bit (K:=K) e.2.2.2.2 (λt ht=>T t ↑38) k1 k3 (zgz (λt ht=>T t ↑38) b1 b2) (by simp at hK;omega) t ht
     refine this.mono ?_
     have e5:ss.length*(s+1)≤K*(s+9000):=Nat.mul_le_mul (by simp at hK;omega) ↑0
     rw [List.length_cons,Nat.succ_mul ss.length ((K+1)*(s+9000))]
     have e6:(K+1)*(s+9000)=K*(s+9000)+(s+9000):=Nat.succ_mul _ _
     omega
   ·rw [show decide (hd l=hd s')=false by simp [z],cond_false] at ht
    rcases List.mem_cons.mp ht with rfl | ht
    ·exact hS t List.mem_cons_self
    ·refine (tin_bit (K:=K) e.2.2.2.2 (λt ht=>T t ↑38) hl (λt ht=>r t ↑38) hb (by simp at hK;omega) t ht).mono ?_
     have:ss.length*((K+1)*(s+9000))≤(s' :: ss).length*((K+1)*(s+9000)):=Nat.mul_le_mul_right _ (by simp)
     omega
def zqG (steps:Jq):Prop:=steps.length≤1000∧∀ j x,steps[j]?=some x->LowP x (stl (steps.drop (j+1)))
section
variable {steps fl:Jq} {i:Nat} {x:Ji}
theorem zk0 (hx:steps.reverse[i]?=some x):∃ j,j+1+i=steps.length∧steps[j]?=some x∧steps.drop j=x :: steps.drop (j+1):=by
 have hi:i<steps.reverse.length:=((List.getElem?_eq_some_iff.mp hx)).1
 rw [List.length_reverse] at hi
 rw [List.getElem?_reverse hi] at hx
 have hj:steps.length-1-i<steps.length:=by omega
 refine ⟨steps.length-1-i,by omega,hx,?_⟩
 rw [List.getElem?_eq_getElem hj] at hx
 rw [List.drop_eq_getElem_cons hj,Option.some.inj hx]
theorem zqo (h:zqG steps) (hx:steps.reverse[i]?=some x) (e:fl=stl (steps.drop (steps.length-i))):LowP x fl:=by
 obtain ⟨j,h1,h2,h3⟩:=zk0 hx
 rw [e,show steps.length-i=j+1 by omega]
 exact h.2 j x h2
theorem zqC (hx:steps.reverse[i]?=some x) (e:fl=stl (steps.drop (steps.length-i))) {y:Jq} (hy:y=[low x fl]++fl):y=stl (steps.drop (steps.length-(i+1))):=by
 obtain ⟨j,h1,h2,h3⟩:=zk0 hx
 rw [hy,e,show steps.length-i=j+1 by omega,show steps.length-(i+1)=j by omega,h3]
 rfl
theorem zji:∀ {ss:Jq},(stl ss).length=ss.length
 | []=>rfl
 | s :: ss=>by simp [stl,zji]
theorem zsc (h:zqG steps) (hi:i<steps.length) (e:fl=stl (steps.drop (steps.length-i))):fl.length≤1000:=by
 rw [e,zji,List.length_drop]
 have:=h.1
 omega
end
def Fit (n b R:Nat):Prop:=n≤1000∧R≤31∧eB b R≤8980∧b+(min n R+2)*((min n R+1)*(sB b R+9000))+3*sB b R+18001+(min n R+1)*(sB b R+1)≤40000000
def zvi (rows:Jq):Prop:=∃ n b R,Fit n b R∧rows.length≤R∧∀ r∈rows,r.length=n∧Bit b r
section
variable {n b R i:Nat} {rows ss:Jq} {r:Ji}
theorem zhP (hr:rows[i]?=some r):clm MG (rows.take (i+1))=stl (tin MG (clm MG (rows.take i)) (low r (clm MG (rows.take i)))):=by
 have hi:=((List.getElem?_eq_some_iff.mp hr)).1
 rw [List.take_succ_eq_append_getElem hi]
 unfold clm
 rw [List.foldl_append]
 rw [List.getElem?_eq_getElem hi] at hr
 rw [← Option.some.inj hr]
 rfl
theorem zbQ (h:∀ r∈rows,r.length=n):Stairs n rows (clm MG rows)∧((clm MG rows)).length≤rows.length:=by
 have:∀ i,i≤rows.length->Stairs n (rows.take i) (clm MG (rows.take i))∧((clm MG (rows.take i))).length≤i:=by
  intro i
  induction i with
  | zero=>exact λ_=>⟨by simpa [clm] using Stairs.nil,by simp [clm]⟩
  | succ i ih =>
   intro hi
   obtain ⟨s1,s2⟩:=ih ↑0
   have e:rows[i]?=some rows[i]:=List.getElem?_eq_getElem ↑0
   obtain ⟨t1,t2⟩:=s1.step MG (r:=rows[i]) (h _ (List.getElem_mem _))
   rw [zhP e,List.take_succ_eq_append_getElem ↑0]
   exact ⟨t1,by omega⟩
 obtain ⟨t1,t2⟩:=this rows.length ↥7
 rw [List.take_length] at t1 t2
 exact ⟨t1,t2⟩
theorem zmc (F:Fit n b R) (hl:rows.length≤R) (h:∀ r∈rows,r.length=n∧Bit b r):Stairs n rows (clm MG rows)∧((clm MG rows)).length≤min n R∧∀ t∈clm MG rows,Sd n (sB b R) t:=by
 obtain ⟨s1,s2⟩:=zbQ (rows:=rows) λr hr=>(h r hr).1
 refine ⟨s1,?_,λt ht=>?_⟩
 ·have:=zhn s1.ech (Nat.zero_le n)
  omega
 ·obtain ⟨a1,a2,a3,a4⟩:=s1.ech.mem t ht
  obtain ⟨b1,b2⟩:=s1.bits F.2.1 hl (λr hr=>(h r hr).2) t ht
  exact ⟨a1,a3,a4,Nat.le_trans b1 (Nat.pow_le_pow_right ↑1 F.2.2.1),b2⟩
theorem zq9 (F:Fit n b R) (hl:rows.length≤R) (h:∀ r∈rows,r.length=n∧Bit b r) (hr:rows[i]?=some r) (e:ss=clm MG (rows.take i)):LowP r ss∧TinP ss r∧zqG (tin MG ss (low r ss)):=by
 subst e
 have hi:=((List.getElem?_eq_some_iff.mp hr)).1
 have hrm:=h r (List.mem_of_getElem? hr)
 obtain ⟨s1,s2,s3⟩:=zmc F (rows:=rows.take i) (by rw [List.length_take];omega) λr hr=>h r (List.mem_of_mem_take hr)
 obtain ⟨t1,t2,t3⟩:=zmc F (rows:=rows.take (i+1)) (by rw [List.length_take];omega) λr hr=>h r (List.mem_of_mem_take hr)
 rw [zhP hr] at t1 t2 t3
 obtain ⟨f1,f2,f3,f4⟩:=F
 generalize clm MG (rows.take i)=ss at *
 generalize hs:sB b R=s at *
 generalize hk:min n R=k at *
 obtain ⟨k1,k2,k3,k4⟩:=zdf (l:=r) s1.ech hrm.1
 have m1:ss.length*(s+1)≤(k+1)*(s+1):=Nat.mul_le_mul_right _ ↑0
 have m2:(ss.length+2)*((ss.length+1)*(s+9000))≤(k+2)*((k+1)*(s+9000)):=Nat.mul_le_mul ↑0 (Nat.mul_le_mul_right _ ↑0)
 have hk32:k≤31:=by omega
 refine ⟨⟨n,b,s,f1,hrm.1,by omega,hrm.2,s3,by omega⟩,⟨n,b,s,f1,s1.ech,s3,hrm.1,hrm.2,by omega,by omega⟩,?_,λj x hx=>?_⟩
 ·rw [zji] at t2;omega
 ·have hxm:=List.mem_of_getElem? hx
  have g1:=tin_bit (K:=k) s1.ech s3 k1 k3 (zgz s3 hrm.1 hrm.2) s2 x hxm
  obtain ⟨e1,_⟩:=zgP MG s1.ech k1 (λi hi=>absurd hi (Nat.not_lt_zero i)) k3 (Nat.zero_le n)
  rw [zjE]
  refine ⟨n,_,s,f1,(e1.mem x hxm).1,by rw [List.length_drop];omega,g1,λt ht=>t3 t (List.mem_of_mem_drop ht),?_⟩
  have m3:(List.drop (j+1) (stl (tin MG ss (low r ss)))).length*(s+1)≤(k+1)*(s+1):=Nat.mul_le_mul_right _ (by rw [List.length_drop];omega)
  have m4:ss.length*((k+1)*(s+9000))≤k*((k+1)*(s+9000)):=Nat.mul_le_mul_right _ s2
  have m5:(k+1)*(s+1)≤(k+1)*(s+9000):=Nat.mul_le_mul_left _ ↑0
  rw [Nat.add_mul k 2] at f4
  omega
theorem zqJ (F:Fit n b R) (hl:rows.length≤R) (h:∀ r∈rows,r.length=n∧Bit b r):((clm MG (rows.take i))).length≤31:=by
 obtain ⟨s1,s2,s3⟩:=zmc F (rows:=rows.take i) (by rw [List.length_take];omega) λr hr=>h r (List.mem_of_mem_take hr)
 have:=F.2.1
 omega
end
end Lat
namespace L2
open PySem PySem.Spec PyProof.Rows
section
variable {X:Cx} {K:W.Frag}
end
section
variable {E:XS} {Γ:Ctx} {te tj:TE} {u:TS} {o:Oc} {m:Bool} {K:W.Frag} {i j:Nat} {α β:Type} {f:α->Ds}
end
section
variable {E:XS} {Γ:Ctx} {u:TS} {o:Oc} {K:W.Frag} {i j:Nat}
theorem zoB {k:Nat} {s:Slot} (h:(unC Γ)[k]?=some s):∃ r,Γ[k]?=some r∧unS r=s:=by
 unfold unC at h
 rw [List.getElem?_map] at h
 cases q:Γ[k]? with
 | none=>rw [q] at h;cases h
 | some r=>rw [q] at h;exact ⟨r,rfl,Option.some.inj h⟩
theorem zr8:unC (unC Γ)=unC Γ:=by
 unfold unC
 rw [List.map_map]
 refine List.map_congr_left λs _=>?_
 cases s<;>rfl
theorem zq5 (h:zoM Γ=true):zoM (unC Γ)=true:=by
 unfold zoM unC at *
 rw [List.all_map]
 refine List.all_eq_true.mpr λs hs=>?_
 have:=List.all_eq_true.mp h s hs
 cases s<;>first | rfl | exact this
theorem zim {R:Hp}:∀ {vs:List V} {ns:Ji},Paired (λv (d:Ds)=>d.pr R v) vs (ns.map dI)->vs=ns.map V.int
 | [],[],_=>rfl
 | _ :: _,_ :: _,.cons h t=>by
  have h:_=V.int _:=h
  rw [h,zim t];rfl
end
end L2
namespace L2
open PySem PySem.Spec PyProof.Rows
end L2
namespace Lat
open L2
def RB (w b:Nat) (rows:Jq):Prop:=∀ r∈rows,r.length=w∧Bit b r
theorem zgF {α:Type} {xs:List α} {i:Int} {x y:α} (h:y∈zc7 xs i x):y=x∨y∈xs:=by
 unfold zc7 at h
 split at h
 ·rcases List.mem_or_eq_of_mem_set h with h | h
  ·exact .inr h
  ·exact .inl h
 ·exact .inr h
theorem zg0 {α β:Type} (g:α->β):∀ (xs:List α) (acc:List β),List.foldl (λs x=>s++[g x]) acc xs=acc++xs.map g
 | [],acc=>by simp
 | x :: xs,acc=>by rw [List.foldl_cons,zg0 g xs];simp
end Lat
namespace Lat
theorem zih {n:Nat}:∀ {ss:Jq} {lo:Nat} {u:Vc},Ech n lo ss->SpL ss u->(∀ t∈ss,-vec t (hd t)<u (hd t)∧u (hd t)<vec t (hd t))->∀ i,u i=0
 | [],_,u,_,h,_,i=>Sp.at0 (λ_ ⟨_,z,_⟩=>by simp at z) h
 | s :: ss,lo,u,e,h,k,i=>by
  obtain ⟨w,y,hw,hu⟩:=h.cons
  have e1:=SpL.before e.2.2.2.2 (Nat.lt_succ_self (hd s)) hw
  have e2:=hu (hd s)
  have e3:=k s List.mem_cons_self
  have e4:=e.2.2.2.1
  rw [e1] at e2
  have y0:y=0:=by
   rw [e2,Int.zero_add] at e3
   refine Classical.byContradiction λq=>?_
   rcases Int.lt_or_gt_of_ne q with q | q
   ·have:=Int.mul_le_mul_of_nonneg_right (show y≤(-1:Int) by omega) (Int.le_of_lt e4)
    omega
   ·have:=Int.mul_le_mul_of_nonneg_right (show (1:Int)≤y by omega) (Int.le_of_lt e4)
    omega
  have hu':∀ i,u i=w i:=λi=>by rw [hu i,y0];omega
  have:u=w:=funext hu'
  subst this
  exact zih e.2.2.2.2 hw (λt ht=>k t ↑38) i
theorem SpL.tail {n lo:Nat} {s:Ji} {ss:Jq} {u:Vc} (e:Ech n lo (s :: ss)) (h:SpL (s :: ss) u) (h0:u (hd s)=0):SpL ss u:=by
 obtain ⟨w,y,hw,hu⟩:=h.cons
 have e1:=SpL.before e.2.2.2.2 (Nat.lt_succ_self (hd s)) hw
 have e2:=hu (hd s)
 rw [e1,h0,Int.zero_add] at e2
 have y0:y=0:=(Int.mul_eq_zero.mp e2.symm).resolve_right (by have:=e.2.2.2.1;omega)
 exact hw.conv λi=>by rw [hu i,y0];omega
theorem znH {n:Nat}:∀ {ss tt:Jq} {lo lo':Nat},Ech n lo ss->Red ss->Ech n lo' tt->Red tt->(∀t∈ss,SpL tt (vec t))->(∀ t∈tt,SpL ss (vec t))->ss=tt
 | [],[],_,_,_,_,_,_,_,_=>rfl
 | [],t :: tt,_,_,_,_,e,_,_,k=>by
  have:=Sp.at0 (i:=hd t) (λ_ ⟨_,z,_⟩=>by simp at z) (k t List.mem_cons_self)
  have:=e.2.2.2.1
  omega
 | s :: ss,[],_,_,e,_,_,_,k,_=>by
  have:=Sp.at0 (i:=hd s) (λ_ ⟨_,z,_⟩=>by simp at z) (k s List.mem_cons_self)
  have:=e.2.2.2.1
  omega
 | s :: ss,t :: tt,lo,lo',e,r,e',r',k,k'=>by
  have ks:=k s List.mem_cons_self
  have kt:=k' t List.mem_cons_self
  have ps:=e.2.2.2.1
  have pt:=e'.2.2.2.1
  have hh:hd s=hd t:=by
   obtain ⟨x,hx,ex⟩:=zgK e' ks (λi hi=>zbA hi) ↑0
   obtain ⟨y,hy,ey⟩:=zgK e kt (λi hi=>zbA hi) ↑0
   have h1:hd t≤hd s:=by
    rcases List.mem_cons.mp hx with rfl | hx
    ·omega
    ·have:=(Ech.mem e'.2.2.2.2 x hx).2.1;omega
   have h2:hd s≤hd t:=by
    rcases List.mem_cons.mp hy with rfl | hy
    ·omega
    ·have:=(Ech.mem e.2.2.2.2 y hy).2.1;omega
   omega
  have hn:vec s (hd s)=vec t (hd t):=by
   have d1:=zig e' ks List.mem_cons_self (λi hi=>zbA ↑0)
   have d2:=zig e kt List.mem_cons_self (λi hi=>zbA ↑0)
   rw [← hh] at d1
   rw [hh] at d2
   have d1':vec t (hd t) ∣ vec s (hd s):=by rw [← hh];exact d1
   have d2':vec s (hd s) ∣ vec t (hd t):=by rw [hh] at ps ⊢;exact d2
   exact Int.dvd_antisymm ↑0 ↑0 d2' d1'
  have tails:ss=tt:=znH e.2.2.2.2 r.2 e'.2.2.2.2 r'.2 (λx hx=>by
   refine SpL.tail e' (k x (List.mem_cons_of_mem _ hx)) ?_
   exact zbA (by have:=(Ech.mem e.2.2.2.2 x hx).2.1;omega)) λx hx=>by
   refine SpL.tail e (k' x (List.mem_cons_of_mem _ hx)) ?_
   exact zbA (by have:=(Ech.mem e'.2.2.2.2 x hx).2.1;omega)
  subst tails
  have hst:s=t:=by
   refine zhY (by rw [e.1,e'.1]) λi=>?_
   have:=zih (u:=λi=>vec s i-vec t i) e'.2.2.2.2 (SpL.tail e' ((Sp.lin 1 (-1) ks (SpL.mem List.mem_cons_self)).conv λi=>by omega) (by rw [← hh] at hn ⊢;omega)) (λx hx=>by
    have h1:=r.1 x hx
    have h2:=r'.1 x hx
    show -vec x (hd x)<vec s (hd x)-vec t (hd x)∧vec s (hd x)-vec t (hd x)<vec x (hd x)
    omega) i
   have this:vec s i-vec t i=0:=this
   omega
  rw [hst]
theorem Stairs.one {n:Nat} {rows rows' ss tt:Jq} (h:Stairs n rows ss) (h':Stairs n rows' tt) (k:∀ r∈rows,SpL rows' (vec r)) (k':∀ r∈rows',SpL rows (vec r)):ss=tt :=
 znH h.ech h.red h'.ech h'.red (λt ht=>((h.inn t ht).sub k).sub h'.out) λt ht=>((h'.inn t ht).sub k').sub h.out
theorem Sp.image {A B:Vc->Prop} {g:Vc->Vc} {u:Vc} (h0:∀ i,g (λ_=>0) i=0) (hl:∀ (u a:Vc) (x:Int) i,g (λi=>u i+x*a i) i=g u i+x*g a i) (hA:∀ a,A a->Sp B (g a)) (h:Sp A u):Sp B (g u):=by
 induction h with
 | zero=>exact Sp.zero.conv λi=>(h0 i).symm
 | @add u a z _ ha ih=>exact (ih.plus ((hA a ha).smul z)).conv λi=>(hl u a z i).symm
theorem zeY {l:Ji} {n i:Nat}:vec (l.take n) i=if i<n then vec l i else 0:=by
 unfold vec
 rw [List.getD_eq_getElem?_getD,List.getD_eq_getElem?_getD,List.getElem?_take]
 split<;>rfl
theorem zeb {l:Ji} {n i:Nat}:vec (l.drop n) i=vec l (n+i):=by
 unfold vec
 rw [List.getD_eq_getElem?_getD,List.getD_eq_getElem?_getD,List.getElem?_drop]
theorem zdV {l t:Ji} {i:Nat}:vec (l++t) i=if i<l.length then vec l i else vec t (i-l.length):=by
 unfold vec
 rw [List.getD_eq_getElem?_getD,List.getD_eq_getElem?_getD,List.getD_eq_getElem?_getD,List.getElem?_append]
 split<;>rfl
theorem zor {l:Ji} {n:Nat} (h:hd l<n) (hl:hd l<l.length):hd (l.take n)=hd l:=zkw (by rw [zeY,if_pos h];exact zhv hl) λi hi=>by
 rw [zeY]
 split
 ·exact zbA hi
 ·rfl
def zml (n:Nat) (ss:Jq):Jq:=List.map (λ(x:Ji)=>x.take n) (List.filter (λ(x:Ji)=>decide (hd x<n)) ss)
theorem zjJ {n m:Nat} (hnm:n≤m):∀ {ss:Jq} {lo:Nat},Ech m lo ss->Ech n lo (zml n ss)
 | [],_,_=>trivial
 | s :: ss,lo,e=>by
  unfold zml
  by_cases q:hd s<n
  ·rw [List.filter_cons_of_pos (by simpa using q),List.map_cons]
   have hl:=e.1
   have e1:=zor q (by rw [hl];exact e.2.2.1)
   refine ⟨by rw [List.length_take,hl];omega,by rw [e1];exact e.2.1,by rw [e1];exact q,by rw [e1,zeY,if_pos q];exact e.2.2.2.1,?_⟩
   rw [e1]
   exact zjJ hnm e.2.2.2.2
  ·rw [List.filter_cons_of_neg (by simpa using q)]
   exact (zjJ hnm e.2.2.2.2).mono (by have:=e.2.1;omega)
theorem zl9 {n:Nat} {ss:Jq} {t:Ji} (h:t∈zml n ss):∃ s∈ss,hd s<n∧t=s.take n:=by
 unfold zml at h
 obtain ⟨s,hs,rfl⟩:=List.mem_map.mp h
 obtain ⟨h1,h2⟩:=List.mem_filter.mp hs
 exact ⟨s,h1,by simpa using h2,rfl⟩
theorem zjo {n m:Nat} (hnm:n≤m):∀ {ss:Jq} {lo:Nat},Ech m lo ss->Red ss->Red (zml n ss)
 | [],_,_,_=>trivial
 | s :: ss,lo,e,r=>by
  unfold zml
  by_cases q:hd s<n
  ·rw [List.filter_cons_of_pos (by simpa using q),List.map_cons]
   refine ⟨λt ht=>?_,zjo hnm e.2.2.2.2 r.2⟩
   obtain ⟨x,hx,h1,rfl⟩:=zl9 ht
   have ex:=Ech.mem e.2.2.2.2 x hx
   rw [zor h1 (by rw [ex.1];exact ex.2.2.1),zeY,zeY,if_pos h1,if_pos h1]
   exact r.1 x hx
  ·rw [List.filter_cons_of_neg (by simpa using q)]
   exact zjo hnm e.2.2.2.2 r.2
abbrev rst (n:Nat) (u:Vc):Vc:=λi=>if i<n then u i else 0
theorem zhS {n:Nat} {l:Ji}:rst n (vec l)=vec (l.take n):=funext λi=>by rw [zeY]
theorem znW {n:Nat} (u a:Vc) (x:Int) (i:Nat):rst n (λi=>u i+x*a i) i=rst n u i+x*rst n a i:=by
 unfold rst;dsimp only;split<;>omega
theorem Stairs.cut {n m:Nat} {rows marked ss:Jq} (hnm:n≤m) (h:Stairs m marked ss) (k:∀ r∈marked,∃ r'∈rows,r.take n=r') (k':∀ r'∈rows,∃ r∈marked,r.take n=r'):Stairs n rows (zml n ss):=by
 refine ⟨zjJ hnm h.ech,zjo hnm h.ech h.red,λt ht=>?_,λr' hr'=>?_⟩
 ·obtain ⟨s,hs,_,rfl⟩:=zl9 ht
  rw [← zhS]
  refine Sp.image (g:=rst n) (λi=>by unfold rst;split<;>rfl) znW (λa ⟨r,hr,e⟩=>?_) (h.inn s hs)
  obtain ⟨r',hr',e'⟩:=k r hr
  rw [e,zhS,e']
  exact SpL.mem hr'
 ·obtain ⟨r,hr,rfl⟩:=k' r' hr'
  rw [← zhS]
  refine Sp.image (g:=rst n) (λi=>by unfold rst;split<;>rfl) znW (λa ⟨s,hs,e⟩=>?_) (h.out r hr)
  rw [e,zhS]
  by_cases q:hd s<n
  ·refine SpL.mem ?_
   unfold zml
   exact List.mem_map.mpr ⟨s,List.mem_filter.mpr ⟨hs,by simpa using q⟩,rfl⟩
  ·exact Sp.zero.conv λi=>by
    rw [zeY]
    split
    ·rw [zbA ↑0]
    ·rfl
end Lat
namespace L2
open PySem PySem.Spec PyProof.Rows
theorem zpg {Γ:Ctx} {ds:List Ds} {tr:TA} {E:XK} {ι:Type} {C:Addr} {args:ι->List Ds} {pre:ι->Prop} {fs:ι->List (Str×Ds)} (i:ι) (h:EvA Γ tr true ds) (ha:ds=args i) (hp:pre i):Ev Γ (zpA C (zrJ C args pre false fs) [] E tr) true (dO C (fs i)):=λF0 Hb F H σ own Q a k=>by
 subst ha
 refine h F0 Hb F H σ own _ a λvs F1 H1 g1 q1 p dx h1 h2 h3=>⟨i,p,dx,vs,H1,off F1 Hb,by rw [List.append_nil],h1,h2,h3,rfl,zlk.trans g1.fh,q1,hp,λus F' H' g n1 n2 e1 e2 e3=>⟨rfl,?_⟩⟩
 have hb1:Same Hb H1:=a.g.h.trans g1.h
 have nb:∀ b o,F' b=some o->Hb b=none:=λb o z=>by
  cases w:Hb b with
  | none=>rfl
  | some o' =>
   have:off F1 Hb b=none:=by unfold off;rw [w]
   have:=g.no b (by rw [hb1 _ _ w];simp) this
   rw [this] at z;cases z
 have gW:Grow F1 H1 (λb=>match F1 b with | some o=>some o | none=>F' b) H':=by
  refine ⟨λb o z=>by show (match F1 b with | some o=>some o | none=>F' b)=some o;rw [z],λb o z=>?_,g.h,λb z1 z2=>?_⟩
  ·have z:(match F1 b with | some o=>some o | none=>F' b)=some o:=z
   cases w:F1 b with
   | some o'=>rw [w] at z;cases z;exact g.h _ _ (g1.fh _ _ w)
   | none=>rw [w] at z;exact g.fh _ _ z
  ·show (match F1 b with | some o=>some o | none=>F' b)=none
   rw [z2]
   exact g.no b z1 (by unfold off;cases Hb b<;>first | rfl | exact z2)
 have sW:Same F' (off (λb=>match F1 b with | some o=>some o | none=>F' b) Hb):=λb o z=>by
  refine zcm.mpr ⟨nb b o z,?_⟩
  show (match F1 b with | some o=>some o | none=>F' b)=some o
  cases w:F1 b with
  | none=>exact z
  | some o' =>
   have u1:=g.h _ _ (g1.fh _ _ w)
   have u2:=g.fh _ _ z
   rw [u1] at u2
   exact u2
 have g2:=g1.trans gW
 obtain ⟨p0,_,pb⟩:=a.free g1 h1
 obtain ⟨d0,_,db⟩:=a.free g1 h2
 have np:(λb=>match F1 b with | some o=>some o | none=>F' b) p=none:=by
  show (match F1 p with | some o=>some o | none=>F' p)=none
  rw [g1.fh.free h1];exact n1
 have nd:(λb=>match F1 b with | some o=>some o | none=>F' b) dx=none:=by
  show (match F1 dx with | some o=>some o | none=>F' dx)=none
  rw [g1.fh.free h2];exact n2
 have g3:=(g2.take p0 e1).take d0 e2
 have s1:=Same.new (H:=λb=>match F1 b with | some o=>some o | none=>F' b) (p:=p) np (.ins C dx us)
 have n3:upd (λb=>match F1 b with | some o=>some o | none=>F' b) p (.ins C dx us) dx=none:=by rw [zax h3];exact nd
 have s2:=s1.trans (Same.new n3 (.own p))
 refine k _ _ _ g3 ⟨p,dx,us,rfl,zer pb (by rw [zax (Ne.symm h3)];exact zaG),zer db zaG,?_⟩
 exact zb6 (λ_ b q=>⟨q.1,b.2.up (sW.trans (zmf s2)) q.2⟩) e3
end L2
namespace Lat
open L2
def zf8 (k:Nat) (i:Int):Ji:=zc7 (zch (k:Int) [(0:Int)]) i (1:Int)
def mark (rows:Jq):Jq:=List.map (λ(x:Int×Ji)=>x.2++zf8 rows.length x.1) (zfB rows)
theorem zcg {k:Nat}:((zch (k:Int) [(0:Int)])).length=k:=by unfold zch;simp
theorem zhN {k:Nat} {i:Int}:(zf8 k i).length=k:=by unfold zf8;rw [zeR,zcg]
theorem zeG {k j:Nat}:vec (zch (k:Int) [(0:Int)]) j=0:=by
 by_cases h:j<((zch (k:Int) [(0:Int)])).length
 ·have:=znj h
  unfold zch at this
  obtain ⟨l,h1,h2⟩:=List.mem_flatten.mp this
  rw [(List.mem_replicate.mp h1).2] at h2
  exact List.mem_singleton.mp h2
 ·exact zbL ↑0
theorem zjA {k i j:Nat} (h:i<k):vec (zf8 k (i:Int)) j=if j=i then 1 else 0:=by
 unfold zf8 zc7 ixN
 rw [if_pos ↑0,zcg,if_pos ↑0]
 show vec (((zch (k:Int) [(0:Int)])).set (i:Int).toNat 1) j=_
 rw [Int.toNat_natCast]
 unfold vec
 rw [List.getD_eq_getElem?_getD,List.getElem?_set]
 by_cases q:j=i
 ·subst q
  rw [if_pos rfl,if_pos (by rw [zcg];exact h),if_pos rfl];rfl
 ·rw [if_neg (λz=>q z.symm),if_neg q,← List.getD_eq_getElem?_getD]
  exact zeG
theorem zlM {k:Nat} {i:Int} {b:Nat}:Bit b (zf8 k i):=λx hx=>by
 unfold zf8 at hx
 rcases zgF hx with rfl | hx
 ·exact Nat.one_le_two_pow
 ·obtain ⟨j,_,rfl⟩:=zjT hx
  rw [zeG];exact Nat.zero_le _
theorem zg2 {rows:Jq} {m:Ji} (h:m∈mark rows):∃ (i:Nat) (r:Ji),rows[i]?=some r∧m=r++zf8 rows.length (i:Int):=by
 unfold mark at h
 obtain ⟨x,hx,rfl⟩:=List.mem_map.mp h
 obtain ⟨i,hi⟩:=List.getElem?_of_mem hx
 obtain ⟨h1,h2,h3⟩:=zdG hi
 exact ⟨i,x.2,h3,by rw [h2]⟩
theorem zkM {rows:Jq} {i:Nat} {r:Ji} (h:rows[i]?=some r):r++zf8 rows.length (i:Int)∈mark rows:=by
 unfold mark
 have hi:=((List.getElem?_eq_some_iff.mp h)).1
 refine List.mem_map.mpr ⟨((i:Int),r),?_,rfl⟩
 refine List.mem_of_getElem? (i:=i) ?_
 unfold zfB
 rw [List.getElem?_zip_eq_some]
 refine ⟨?_,h⟩
 unfold za6
 rw [List.getElem?_map,List.getElem?_range hi]
 show some ((0:Int)+(i:Int))=some (i:Int)
 rw [Int.zero_add]
theorem zlv {rows:Jq}:(mark rows).length=rows.length:=by unfold mark;rw [List.length_map,zh0]
theorem znx {n b:Nat} {rows:Jq} (h:∀ r∈rows,r.length=n∧Bit b r):∀ m∈mark rows,m.length=n+rows.length∧Bit b m:=λm hm=>by
 obtain ⟨i,r,hr,rfl⟩:=zg2 hm
 have h1:=h r (List.mem_of_getElem? hr)
 refine ⟨by rw [List.length_append,h1.1,zhN],λx hx=>?_⟩
 rcases List.mem_append.mp hx with hx | hx
 ·exact h1.2 x hx
 ·exact zlM x hx
end Lat
namespace Lat
theorem zgE:∀ {l t:Ji} {q:Int} {i:Nat},l.length=t.length->vec (List.map (λ(x:Int×Int)=>x.1+(q*x.2)) (List.zip l t)) i=vec l i+q*vec t i
 | [],[],q,i,_=>by simp [vec]
 | a :: l,b :: t,q,0,_=>rfl
 | a :: l,b :: t,q,i+1,h=>by
  rw [zbI,zbI,← zgE (l:=l) (t:=t) (by simpa using h)]
  exact zbI
end Lat
namespace Lat
end Lat
namespace L2
open PySem PySem.Spec PyProof.Rows
section
variable {X:Cx} {K:W.Frag} {pos:Pos}
def zu4 (n:Nat) (t:TGs):TG:=λv σ H Q=>∃ a xs,v=.ref a∧H a=some (.lst xs)∧xs.length=n∧t xs σ H Q
theorem zsq {es:List Expr} {k:Nat} {t:TGs} {n:Nat} (hc:X.calm=true) (h:PGs X es t)
  (hn:((assignEach es X.env)).length=n:=by rfl) (hst:((assignEach es X.env)).findIdx? (·.1)=none:=by rfl):PG X (.Tuple es k pos) (zu4 n t):=by
 intro pins s σ H v u Q I r hw
 obtain ⟨a,xs,e1,hq,hl,hw⟩:=hw
 subst e1
 cases r
 obtain ⟨z,its,m,rv,hli,e⟩:=I.lstM hq
 have hs:its.toArray.size=n:=by rw [List.size_toArray,← hli,hl]
 rw [PyProof.Rows.assign_Tuple]
 refine wpAny_bind (wpAny_standAt ?_)
 unfold unpack
 rw [hst,hn,← hs]
 refine wpAny_bind (wpAny_holding (W.kun_itemsOf (I.ok.hd hc) ⟨_,e,rfl,_,rfl⟩ λh' hx=>?_))
 have I1:Inv X pins σ H { s with heap:=h' }:=I.kept (t':=s.toks) λb o e=>hx b o (Nat.ne_of_lt (Heap.lt_size e)) e
 exact h pins _ σ H xs _ Q I1 (by simpa using rv) hw
end
section
variable {E:XS} {Γ:Ctx} {te ta tb:TE} {u:TS} {o:Oc} {m:Bool} {K:W.Frag} {i j l:Nat} {α β:Type} {f:α->Ds}
theorem zkb [Inhabited α] {xs:List α} (fo:β->Oc) {kk:List α->β} (h:Ev Γ te m (dL (xs.map f))) (hl:xs.length=3) (k:∀ y,y=xs->Run E (((Γ.set i (.va m (f (ixD y (0:Int))))).set j (.va m (f (ixD y (1:Int))))).set l (.va m (f (ixD y (2:Int))))) u (fo (kk y))) :
  Run E Γ (tSeq (zke te (zu4 3 (zgu (zdE i) (zgu (zdE j) (zgu (zdE l) zqL))))) u) (fo (Let xs kk)):=λF0 Hb F H σ own D a q=>by
 match xs,hl with
 | [x1,x2,x3],_ =>
  refine h F0 Hb F H σ own _ a λv F' H' g ⟨p,vs,e1,e2,e3⟩=>?_
  cases e3 with | cons q1 t=>cases t with | cons q2 t=>cases t with | cons q3 t =>
   cases t
   exact ⟨p,_,e1,(zbj.trans g.fh) _ _ e2,rfl,_,_,rfl,_,_,rfl,_,_,rfl,rfl,k _ rfl F0 Hb F' H' _ own D (((((a.grow g)).set i q1).set j q2).set l q3) q⟩
theorem zrN {x y:Bool}:decide (V.bl x=V.bl y)=decide (x=y):=by cases x<;>cases y<;>rfl
theorem zsa {x y:Bool} (h1:Ev Γ ta false (dB x)) (h2:Ev Γ tb false (dB y)):Ev Γ (tOp rNe ta tb) m (dB (!decide (x=y))):=(zsH h1 h2 rfl).conv (by rw [zrN])
end
end L2
namespace Lat
open L2
end Lat
namespace L2
open PySem PySem.Spec PyProof.Rows
section
variable {X:Cx}
end
end L2
namespace L2
open PySem PySem.Spec PyProof.Rows
section
variable {E:XS} {Γ Γx:Ctx} {m:Bool} {α β ε S:Type} {u:TS} {ds:List Ds}
end
end L2
namespace L2
open PySem PySem.Spec PyProof.Rows
def ziv (R:Hp) (v:V) (ns:Ji):Prop:=∃ r,v=.ref r∧R r=some (.lst (List.map V.int ns))
def dRI (nss:Jq):Ds:=⟨λR v=>∃ p vs,v=.ref p∧R p=some (.lst vs)∧vs.Nodup∧V.ref p ∉ vs∧Paired (ziv R) vs nss,λe ⟨p,vs,h1,h2,h3,h4,h5⟩=>⟨p,vs,h1,e _ _ h2,h3,h4,zb6 (λ_ _ ⟨r,q1,q2⟩=>⟨r,q1,e _ _ q2⟩) h5⟩⟩
theorem zjO {R:Hp}:∀ {ns:Ji},Paired (λv (d:Ds)=>d.pr R v) (ns.map V.int) (ns.map dI)
 | []=>.nil
 | _ :: _=>.cons rfl zjO
theorem zsG {R:Hp} {v:V} {nss:Jq} (h:(dRI nss).pr R v):(dL (nss.map λl=>dL (l.map dI))).pr R v:=by
 obtain ⟨p,vs,rfl,h2,h3,h4,h5⟩:=h
 refine ⟨p,vs,rfl,h2,?_⟩
 clear h2 h3 h4
 induction h5 with
 | nil=>exact .nil
 | cons q _ ih =>
  obtain ⟨r,rfl,q2⟩:=q
  exact .cons ⟨r,_,rfl,q2,zjO⟩ ih
section
variable {Γ:Ctx} {m:Bool} {K:W.Frag} {γ:Type} {te tj:TE} {i:Nat} {nss:Jq}
theorem zt2 {t:TE} (h:Ev Γ t m (dRI nss)):Ev Γ t m (dL (nss.map λl=>dL (l.map dI))):=λF0 Hb F H σ own Q a k=>h F0 Hb F H σ own Q a λv F' H' g q=>k v F' H' g (zsG q)
theorem zpv {own:Nat} {fv:List Nat} {wi:TI} {tg:TG} {js:List Nat} {xs:List γ} {bds:γ->List Ds} {mi:Bool} {ns:γ->Ji} (it:Iv Γ wi tg js xs bds mi) (hz:xs.length≤sizeLine) (hj:(∀ j∈js,j<own)∧js.Nodup)
  (he:∀ (i:Nat) (x:γ),xs[i]?=some x->EvO (zmM js (bds x) mi (zky own fv Γ)) te true ((ns x).map dI)):Ev Γ (zna own fv wi tg zpm te) true (dRI (xs.map ns)):=λF0 Hb F H σ ow Q a k =>
 it F0 Hb F H σ ow _ a λJ F1 H1 g1 ok D hD=>by
  have hno:∀ j∈js,((zky own fv Γ))[j]?=some .no:=λj hj'=>by
   have:=hj.1 j hj'
   unfold zky
   rw [List.getElem?_append_left (by simpa using this),List.getElem?_replicate,if_pos this]
  obtain ⟨hD0,hDF,hDb⟩:=a.free g1 hD
  refine ⟨λi mm ys σb H2=>mm=xs.length-i∧i≤xs.length∧ys.length≤i∧∃ F2,Grow F1 H1 F2 H2∧F2 D=none∧H2 D=some (.lst ys)∧(ys.Nodup∧V.ref D ∉ ys∧Paired (ziv (off F2 Hb)) ys ((xs.take i).map ns))∧At F0 Hb F2 H2 σb (λ_=>none) (zky own fv Γ),
   ⟨_,rfl,Nat.zero_le _,Nat.zero_le _,F1,((Grow.refl g1.fh)).newH hD,hDF,zaG,⟨.nil,by simp,by simpa using Paired.nil⟩,(((a.grow g1)).block own fv).grow (((Grow.refl g1.fh)).newH hD)⟩,?_⟩
  rintro i mm ys σb H2 ⟨rfl,hi,hy,F2,g2,hF2,hH2,⟨hN,hDy,hP⟩,a2⟩
  refine ⟨hH2,?_⟩
  obtain ⟨hstop,hitem⟩:=ok.up g2.f H2 g2.fh
  by_cases hlt:i<xs.length
  ·obtain ⟨go,yl⟩:=hitem i xs[i] (List.getElem?_eq_getElem hlt)
   refine .inr ⟨go,λx H' y=>?_⟩
   obtain ⟨g3,bind⟩:=yl x H' y
   refine bind σb _ λvs hvs=>?_
   have a3:=(a2.grow g3).setMany (js:=js) hvs
   have hx:xs[i]?=some xs[i]:=List.getElem?_eq_getElem hlt
   refine zlC (Γ:=zmM js (bds xs[i]) mi (zky own fv Γ)) F0 Hb F2 H' _ _ _ a3 λF4 H4 g4=>?_
   have tk:=zkf hx
   rw [if_pos rfl]
   refine he i _ hx F0 Hb F4 H4 _ _ _ (a3.grow g4) λp ws F5 H5 g5 p1 p2 p3 q5=>?_
   have ew:=zim q5
   subst ew
   have g24:=g3.trans g4
   have g6:=g5.take p1 p3
   have g26:=g24.trans g6
   have n2:H5 D=some (.lst ys):=g26.h _ _ hH2
   have hpD:D≠p:=λz=>by rw [← z] at p1;rw [g24.h _ _ hH2] at p1;cases p1
   have n1:upd F5 p (.lst (List.map V.int (ns xs[i]))) D=none:=g26.no D (by rw [hH2];simp) hF2
   have hbp:Hb p=none:=(a2.g.h.trans g24.h).free p1
   have n3:H1 D=none:=hD
   refine ⟨n2,by omega,xs.length-(i+1),by omega,rfl,hlt,by simp;omega,upd F5 p (.lst (List.map V.int (ns xs[i]))),?_,n1,zaG,⟨?_,?_,?_⟩,?_⟩
   ·exact (g2.trans g26).setH n1 n3
   ·
    refine List.nodup_append.mpr ⟨hN,by simp,λv hv w hw z=>?_⟩
    rw [List.mem_singleton.mp hw] at z
    subst z
    obtain ⟨n,hn⟩:=List.getElem?_of_mem hv
    have hl:=Paired.length hP
    obtain ⟨v',e',⟨r,er,hr⟩⟩:=zbw hP (List.getElem?_eq_getElem (l:=(xs.take i).map ns) (i:=n) (by have:=((List.getElem?_eq_some_iff.mp hn)).1;omega))
    rw [hn] at e'
    cases e'
    cases er
    have:=(zcm.mp hr).2
    have:=g24.h _ _ (g2.fh _ _ this)
    rw [p1] at this;cases this
   ·intro z
    rcases List.mem_append.mp z with z | z
    ·exact hDy z
    ·have:=List.mem_singleton.mp z
     cases this
     exact hpD rfl
   ·rw [tk,List.map_append]
    refine zdb (zb6 (λ_ _ ⟨r,q1,q2⟩=>⟨r,q1,zmf g26.f _ _ q2⟩) hP) (.cons ⟨p,rfl,zcm.mpr ⟨hbp,zaG⟩⟩ .nil)
   ·have a5:=((a3.grow g4).grow g6).unsetMany hno hj.2
    refine ⟨a5.g.setH n1 hDb,a5.inj,λ_ _ h=>(nomatch h),λj s es=>?_,a5.len⟩
    have:=a5.sl j s es
    cases s with
    | no=>trivial
    | va m d=>exact this
    | ow m ds=>obtain ⟨_,_,_,h,_⟩:=this;exact (nomatch h)
    | ob m C p dx fs=>obtain ⟨_,_,h,_⟩:=this;exact (nomatch h)
    | ol p ds=>obtain ⟨_,_,h,_⟩:=this;exact (nomatch h)
    | tl d=>exact (znp es).elim
  ·have e:i=xs.length:=by omega
   subst e
   rw [List.take_length] at hP
   refine .inl ⟨hstop,k (.ref D) (upd F2 D (.lst ys)) H2 (((g1.trans g2)).take hD0 hH2) ⟨D,ys,rfl,zcm.mpr ⟨hDb,zaG⟩,hN,hDy,?_⟩⟩
   exact zb6 (λ_ _ ⟨r,q1,q2⟩=>⟨r,q1,zmf (Same.new hF2 _) _ _ q2⟩) hP
end
section
variable {E:XS} {Γ:Ctx} {m:Bool} {K:W.Frag} {te tj:TE} {u:TS} {o:Oc} {i:Nat} {nss:Jq}
theorem zjl {R:Hp} {r:Addr} {new:Ji}:∀ {vs:List V} {nss:Jq} {j:Nat},Paired (ziv R) vs nss->vs.Nodup->vs[j]?=some (.ref r)->Paired (ziv (upd R r (.lst (new.map V.int)))) vs (nss.set j new)
 | _,_,_,.nil,_,h=>by simp at h
 | v :: vs,ns :: nss,0,.cons q t,hN,h=>by
  have h:v=.ref r:=by simpa using h
  subst h
  refine .cons ⟨r,rfl,zaG⟩ ?_
  have hn1:=(List.nodup_cons.mp hN).1
  clear q h hN
  induction t with
  | nil=>exact .nil
  | @cons a b as bs q t ih =>
   obtain ⟨r',rfl,q2⟩:=q
   have hne:r'≠r:=λz=>hn1 (by rw [z];exact List.mem_cons_self)
   exact .cons ⟨r',rfl,by rw [zax hne];exact q2⟩ (ih λz=>hn1 (List.mem_cons_of_mem _ z))
 | v :: vs,ns :: nss,j+1,.cons q t,hN,h=>by
  have hN:=List.nodup_cons.mp hN
  have h:vs[j]?=some (.ref r):=by simpa using h
  obtain ⟨r',rfl,q2⟩:=q
  have hne:r'≠r:=λz=>hN.1 (by rw [z];exact List.mem_of_getElem? h)
  exact .cons ⟨r',rfl,by rw [zax hne];exact q2⟩ (zjl t hN.2 h)
theorem At.row {F0 Hb F H:Hp} {σ:St} {own:Nat->Option Addr} (a:At F0 Hb F H σ own Γ) (e:Γ[i]?=some (.tl (dRI nss))) (hno:zoM Γ=true) {k:Int} (hk:InB nss.length k) :
  ∃ p vs r,σ[i]?=some (some (.ref p))∧H p=some (.lst vs)∧atI vs k=some (.ref r)∧H r=some (.lst ((ixD nss k).map V.int))∧∀ (H':Hp) (new:Ji),Same H H'->At F0 Hb F (upd H' r (.lst (new.map V.int))) σ own ((unC Γ).set i (.tl (dRI (zc7 nss k new)))):=by
 obtain ⟨x,R,h1,h2,h3,h4,p,vs,rfl,h6,h7,h8,h9⟩:=a.sl i _ e
 have hi:i<σ.length:=by rw [a.len];exact (↑29).1
 have e':σ[i]?=some (some (.ref p)):=by
  rw [List.getElem?_eq_getElem hi] at h1 ⊢
  exact congrArg some h1
 have hl:=Paired.length h9
 obtain ⟨j,ej,hj,_⟩:=zjX hk
 obtain ⟨v,ev,⟨r,rfl,hr⟩⟩:=zbw h9 (List.getElem?_eq_getElem (l:=nss) (i:=j) hj)
 have ex:ixD nss k=nss[j]:=by
  unfold ixD atI
  rw [ej]
  show (nss[j]?).getD default=_
  rw [List.getElem?_eq_getElem hj];rfl
 have es:∀ new,zc7 nss k new=nss.set j new:=λnew=>by unfold zc7;rw [ej]
 have rF:=h3 r _ hr
 have rO:∀ l,own l≠some r:=λl z=>by rw [h4 l r z] at hr;cases hr
 have rp:p≠r:=λz=>h8 (by rw [z];exact List.mem_of_getElem? ev)
 refine ⟨p,vs,r,e',h2 _ _ h6,?_,by rw [ex];exact h2 _ _ hr,λH' new hs=>?_⟩
 ·unfold atI
  rw [hl,ej]
  exact ev
 ·have a1:=(a.grow (Grow.only a.fh hs)).spoil hno (.lst (new.map V.int)) rF.1 rF.2 rO
  refine ⟨a1.g,a1.inj,a1.liv,λl s es'=>?_,by rw [List.length_set];exact a1.len⟩
  by_cases z:i=l
  ·subst z
   rw [List.getElem?_set_self (by rw [← a1.len];exact hi)] at es'
   cases es'
   rw [e']
   refine ⟨.ref p,upd R r (.lst (new.map V.int)),rfl,λb w q=>?_,λb w q=>?_,λl' b q=>?_,p,vs,rfl,by rw [zax rp];exact h6,h7,h8,by rw [es];exact zjl h9 h7 ev⟩
   ·by_cases y:b=r
    ·subst y;rw [zaG] at q ⊢;exact q
    ·rw [zax y] at q ⊢;exact hs _ _ (h2 _ _ q)
   ·by_cases y:b=r
    ·subst y;exact rF
    ·rw [zax y] at q;exact h3 b w q
   ·have y:b≠r:=λy=>rO l' (y ▸ q)
    rw [zax y];exact h4 l' b q
  ·rw [List.getElem?_set_ne z] at es'
   exact a1.sl l s es'
end
end L2
namespace L2
open PySem PySem.Spec PyProof.Rows
section
variable {E:XS} {Γ Δ:Ctx} {m:Bool} {K:W.Frag} {te ta tb:TE} {t u:TS} {d:Ds} {ds es:List Ds} {o:Oc} {i j:Nat}
end
section
variable {P:Program} {w:World} {K:W.Frag} {mg:Str->Option Value} {base:Heap} {x qual:Str} {st:Stmt} {f:Addr} {fd:FuncData} {N ps:List Str} {k:Nat}
end
section
variable {E:XS} {Γ Δ:Ctx} {m:Bool} {K:W.Frag} {te ta tb tj:TE} {t u:TS} {d:Ds} {ds es:List Ds} {o:Oc} {i j:Nat} {p:Addr} {α β:Type} {f:α->Ds} {xs:List α}
theorem zkr {γ S:Type} {wi:TI} {g:TG} {tb:TS} {js:List Nat} {xs:List γ} {bds:γ->List Ds} {mi:Bool} {s0:S} (G:S->Ctx) (f:S->γ->S) (I:Nat->S->Prop) (it:Iv Γ wi g js xs bds mi) (w:Wk Γ (G s0)) (h0:I 0 s0)
  (body:∀ (i:Nat) (x:γ) (s:S),xs[i]?=some x->I i s->I (i+1) (f s x)∧Run E (zmM js (bds x) mi (G s)) tb (.nx (G (f s x)))) (k:Run E (G (xs.foldl f s0)) u o):Run E Γ (tSeq (zrL wi g tb) u) o :=
 zb2 (β:=Unit) (kk:=λ_=>()) G (λ_=>o) f I it w h0 body λs e _=>e ▸ k
end
end L2
namespace L2
open PySem PySem.Spec PyProof.Rows
structure T5 (α β γ δ ε:Type) where
 a:α
 b:β
 c:γ
 d:δ
 e:ε
section
variable {E:XS} {Γ:Ctx} {m:Bool} {K:W.Frag} {te tj:TE} {u:TS} {o:Oc} {i j:Nat} {nss:Jq} {α β:Type}
def zpN (Γ:Ctx) (t:TE) (ds:List Ds):Prop:=∀ (F0 Hb F H:Hp) (σ:St) (own:Nat->Option Addr) (Q:VK),At F0 Hb F H σ own Γ →
 (∀ p vs F' H',Grow F H F' H'->H p=none->F' p=none->H' p=some (.lst vs)->Paired (λv (d:Ds)=>d.pr (off F' H) v) vs ds->Q (.ref p) H')->t σ H Q
theorem zrB {ds:List Ds} (h:EvO (zsQ Γ) te true ds):zpN Γ te ds:=λF0 Hb F H σ own Q a k=>h F H F H σ _ Q a.now λp vs F' H' g h1 h2 h3 q=>k p vs F' H' g h1 h2 h3 q
theorem zpN.evo {ds:List Ds} (h:zpN Γ te ds):EvO Γ te true ds:=λF0 Hb F H σ own Q a k=>h F0 Hb F H σ own Q a λp vs F' H' g h1 h2 h3 q=>k p vs F' H' g h1 h2 h3 (zdM (ds:=[]) (zkI a.g.h) q)
theorem zpN.borrowO {ds es:List Ds} (e:Γ[i]?=some (.ow m es)) (h:zpN (Γ.set i (.va m (dL es))) te ds):zpN Γ te ds:=λF0 Hb F H σ own Q a k=>by
 obtain ⟨F1,own1,_,a1⟩:=a.share e
 refine h F0 Hb F1 H σ own1 Q a1 λp vs F' H' g h1 h2 h3 q=>?_
 have e:∀ b o,off F' H b=some o->H b=none∧F' b=some o:=λb o z=>zcm.mp z
 refine k p vs (λb=>match H b with | some _=>F b | none=>F' b) H' ⟨λb o z=>?_,λb o z=>?_,g.h,λb z1 z2=>?_⟩ h1 (by rw [h1];exact h2) h3 (zdM (ds:=[]) (λb o z=>?_) q)
 ·show (match H b with | some _=>F b | none=>F' b)=some o
  rw [a.fh _ _ z];exact z
 ·have z:(match H b with | some _=>F b | none=>F' b)=some o:=z
  cases w:H b with
  | some o'=>rw [w] at z;exact g.h _ _ (a.fh _ _ z)
  | none=>rw [w] at z;exact g.fh _ _ z
 ·show (match H b with | some _=>F b | none=>F' b)=none
  cases w:H b with
  | some o'=>exact z2
  | none=>exact absurd w z1
 ·obtain ⟨h1,h2⟩:=e b o z
  refine zcm.mpr ⟨h1,?_⟩
  show (match H b with | some _=>F b | none=>F' b)=some o
  rw [h1];exact h2
theorem zj8 {x:α} {i j:Nat} (d1 d2:α->Ds) (fo:β->Oc) {kk:α->β} (h:Ev Γ te m (dT [d1 x,d2 x])) (k:∀ y,y=x->Run E ((Γ.set i (.va m (d1 y))).set j (.va m (d2 y))) u (fo (kk y))):Run E Γ (tSeq (zke te (zq7 K 2 (zgu (zdE i) (zgu (zdE j) zqL)))) u) (fo (Let x kk)):=zlm h (k x rfl)
theorem zgi {R R':Hp} (e:Same R R') {vs:List V} (h:Paired (ziv R) vs nss):Paired (ziv R') vs nss:=zb6 (λ_ _ ⟨r,q1,q2⟩=>⟨r,q1,e _ _ q2⟩) h
open Classical in
theorem zk3 {v:Ji->Int} {k:Int} {P:Ji->Prop} (e:Γ[i]?=some (.tl (dRI nss))) (ej:Γ[j]?=some .no) (hno:zoM Γ=true) (hP:∀ ns∈nss,P ns) (hk:∀ ns,P ns->InB ns.length k)
  (h:∀ ns,P ns->Ev ((unC Γ).set j (.tl (dL (ns.map dI)))) te false (dI (v ns))) (hj:∀ ns,P ns->Ev ((unC Γ).set j (.tl (dL (ns.map dI)))) tj false (dI k))
  (kk:Run E ((unC Γ).set i (.tl (dRI (nss.map λns=>zc7 ns k (v ns))))) u o):Run E Γ (tSeq (zrL (zpH K (zjF i)) (zdE j) (tSeq (zke te (zsr (zjF j) tj znn)) zpt)) u) o:=λF0 Hb F H σ own D a q=>by
 obtain ⟨x,R,h1,h2,h3,h4,p,vs,rfl,h6,h7,h8,h9⟩:=a.sl i _ e
 have hi:i<σ.length:=by rw [a.len];exact (↑29).1
 have e':σ[i]?=some (some (.ref p)):=by
  rw [List.getElem?_eq_getElem hi] at h1 ⊢
  exact congrArg some h1
 have hij:i≠j:=λz=>by rw [z,ej] at e;cases e
 have hl:=Paired.length h9
 have st:∀ v'∈vs,∃ r,v'=.ref r∧F r=none∧Hb r=none∧(∀ l,own l≠some r)∧r≠p:=λv' hv=>by
  obtain ⟨n,hn⟩:=List.getElem?_of_mem hv
  have hn':=((List.getElem?_eq_some_iff.mp hn)).1
  obtain ⟨v2,ev,⟨r,er,hr⟩⟩:=zbw h9 (List.getElem?_eq_getElem (l:=nss) (i:=n) ↑0)
  rw [hn] at ev
  cases ev
  refine ⟨r,er,(h3 r _ hr).1,(h3 r _ hr).2,(λl z=>by rw [h4 l r z] at hr;cases hr),λz=>h8 ?_⟩
  subst z;rw [← er];exact hv
 have hp:H p=some (.lst vs):=h2 _ _ h6
 have pF:=h3 p _ h6
 have pO:∀ l,own l≠some p:=λl z=>by rw [h4 l p z] at h6;cases h6
 have a0:At F0 Hb F H σ own (unC Γ):=⟨a.g,a.inj,a.liv,λk s es=>by
  obtain ⟨r,e1,rfl⟩:=zoB es
  have:=a.sl k r e1
  cases r with
  | tl d=>trivial
  | no=>trivial
  | va m d=>exact this
  | ow m ds=>exact this
  | ol p ds=>exact this
  | ob m C p dx fs=>exact this,by unfold unC;rw [List.length_map];exact a.len⟩
 have gst:∀ n ns,nss[n]?=some ns->(((nss.take n).map (λns=>zc7 ns k (v ns))++nss.drop n)).set n (zc7 ns k (v ns))=(nss.take (n+1)).map (λns=>zc7 ns k (v ns))++nss.drop (n+1):=λn ns hn=>by
  have hlt:=((List.getElem?_eq_some_iff.mp hn)).1
  have en:nss[n]=ns:=by rw [List.getElem?_eq_getElem hlt] at hn;exact Option.some.inj hn
  rw [List.set_append_right _ _ (by rw [List.length_map,List.length_take];omega),List.length_map,List.length_take,Nat.min_eq_left ↑0,Nat.sub_self,List.drop_eq_getElem_cons hlt,List.set_cons_zero,List.take_succ_eq_append_getElem hlt,List.map_append,List.append_assoc,en]
  rfl
 refine ⟨_,e',p,rfl,⟨vs,SqL.of hp⟩,λn m σ' H'=>m=vs.length-n∧n≤vs.length∧At F0 Hb F H' σ' own (unC Γ)∧σ'[i]?=some (some (.ref p))∧H' p=some (.lst vs)∧Paired (ziv H') vs ((nss.take n).map (λns=>zc7 ns k (v ns))++nss.drop n),⟨_,rfl,Nat.zero_le _,a0,e',hp,by simpa using zgi h2 h9⟩,?_⟩
 rintro n m σ1 H1 ⟨rfl,hn,a1,s1,p1,rows1⟩
 by_cases hlt:n<vs.length
 ·refine .inr ⟨⟨vs,vs[n],SqL.of p1,List.getElem?_eq_getElem hlt⟩,λσ' H'=>At F0 Hb F H' σ' own (unC Γ)∧σ'[i]?=some (some (.ref p))∧H' p=some (.lst vs)∧Paired (ziv H') vs ((nss.take (n+1)).map (λns=>zc7 ns k (v ns))++nss.drop (n+1)),λσ' H' z=>⟨_,by omega,rfl,by omega,z⟩,λv' H' y=>?_⟩
  obtain ⟨rfl,y⟩:=y
  have hv:=y vs (SqL.of p1)
  obtain ⟨ns,hns⟩:∃ ns,nss[n]?=some ns:=⟨_,List.getElem?_eq_getElem ↑0⟩
  have hrow:(((nss.take n).map (λns=>zc7 ns k (v ns))++nss.drop n))[n]?=some ns:=by
   rw [List.getElem?_append_right (by rw [List.length_map,List.length_take];omega),List.length_map,List.length_take,Nat.min_eq_left ↑0,Nat.sub_self,List.getElem?_drop]
   exact hns
  obtain ⟨v2,ev,⟨r,er,hr⟩⟩:=zbw rows1 hrow
  rw [hv] at ev
  cases ev
  subst er
  obtain ⟨r',er',rF,rB,rO,rp⟩:=st _ (List.mem_of_getElem? hv)
  cases er'
  have Pn:P ns:=hP ns (List.mem_of_getElem? hns)
  have hjl:j<σ1.length:=by rw [a1.len];unfold unC;rw [List.length_map];exact (List.getElem?_eq_some_iff.mp ej).1
  have sj:((σ1.set j (some (.ref r))))[j]?=some (some (.ref r)):=List.getElem?_set_self hjl
  have a2:At F0 Hb F H' (σ1.set j (some (.ref r))) own (unC Γ):=⟨a1.g,a1.inj,a1.liv,λk s es=>by
   by_cases z:j=k
   ·subst z
    obtain ⟨r',e1,rfl⟩:=zoB es
    rw [ej] at e1
    cases e1
    trivial
   ·rw [List.getElem?_set_ne z]
    exact a1.sl k s es,by simp [a1.len]⟩
  have a3:At F0 Hb F H' (σ1.set j (some (.ref r))) own ((unC Γ).set j (.tl (dL (ns.map dI)))):=⟨a2.g,a2.inj,a2.liv,λk s es=>by
   by_cases z:j=k
   ·subst z
    rw [List.getElem?_set_self (by rw [← a1.len];exact hjl)] at es
    cases es
    rw [sj]
    refine ⟨.ref r,λb=>if b=r then some (.lst (ns.map V.int)) else none,rfl,λb o z=>?_,λb o z=>?_,λl b z=>?_,r,ns.map V.int,rfl,if_pos rfl,zjO⟩
    ·dsimp only at z
     split at z
     ·cases z;rename_i w;rw [w];exact hr
     ·cases z
    ·dsimp only at z
     split at z
     ·rename_i w;rw [w];exact ⟨rF,rB⟩
     ·cases z
    ·dsimp only
     rw [if_neg (λw=>rO l (by rw [← w];exact z))]
   ·rw [List.getElem?_set_ne z] at es
    exact a2.sl k s es,by simpa using a2.len⟩
  obtain ⟨nn,en,hnn,_⟩:=zjX (hk ns Pn)
  refine h ns Pn F0 Hb F H' _ own _ a3 λw F2 H2 g2 qw=>?_
  have qw:w=.int (v ns):=qw
  subst qw
  have a4:=a3.grow (Grow.only a3.fh g2.h)
  refine ⟨_,sj,hj ns Pn F0 Hb F H2 _ own _ a4 λw F3 H3 g3 qk=>?_⟩
  have qk:w=.int k:=qk
  subst qk
  have s13:Same H' H3:=g2.h.trans g3.h
  refine ⟨r,ns.map V.int,k,nn,rfl,rfl,s13 _ _ hr,by rw [List.length_map];exact en,?_⟩
  have enew:((ns.map V.int)).set nn (.int (v ns))=(zc7 ns k (v ns)).map V.int:=by
   unfold zc7
   rw [en]
   show _=(ns.set nn (v ns)).map V.int
   rw [List.map_set]
  rw [enew]
  refine ⟨?_,?_,?_,?_⟩
  ·have:=(a2.grow (Grow.only a2.fh s13)).spoil (zq5 hno) (.lst ((zc7 ns k (v ns)).map V.int)) rF rB rO
   rwa [zr8] at this
  ·rw [List.getElem?_set_ne (Ne.symm hij)];exact s1
  ·rw [zax (Ne.symm rp)];exact s13 _ _ p1
  ·rw [← gst n ns hns]
   exact zjl (zgi s13 rows1) h7 hv
 ·have en:n=nss.length:=by omega
  subst en
  refine .inl ⟨⟨vs,SqL.of p1,by omega⟩,kk F0 Hb F H1 σ1 own D ?_ q⟩
  refine ⟨a1.g,a1.inj,a1.liv,λl s es=>?_,by rw [List.length_set];exact a1.len⟩
  by_cases z:i=l
  ·subst z
   rw [List.getElem?_set_self (by rw [← a1.len];exact (List.getElem?_eq_some_iff.mp s1).1)] at es
   cases es
   rw [s1]
   have rows2:Paired (ziv H1) vs (nss.map λns=>zc7 ns k (v ns)):=by simpa using rows1
   refine ⟨.ref p,λb=>if b=p then some (.lst vs) else if V.ref b∈vs then H1 b else none,rfl,λb o z=>?_,λb o z=>?_,λl b z=>?_,p,vs,rfl,if_pos rfl,h7,h8,?_⟩
   ·dsimp only at z
    split at z
    ·cases z;rename_i w;rw [w];exact p1
    ·split at z
     ·exact z
     ·cases z
   ·dsimp only at z
    split at z
    ·rename_i w;rw [w];exact pF
    ·split at z
     ·rename_i w
      obtain ⟨r,er,t1,t2,_⟩:=st _ w
      cases er
      exact ⟨t1,t2⟩
     ·cases z
   ·dsimp only
    rw [if_neg (λw=>pO l (by rw [← w];exact z)),if_neg]
    intro w
    obtain ⟨r,er,_,_,t3,_⟩:=st _ w
    cases er
    exact t3 l z
   ·clear q rows1 h9 hp h6 h kk
    have key:∀ {ws:List V} {mss:Jq},(∀ w∈ws,w∈vs)->Paired (ziv H1) ws mss->Paired (ziv λb=>if b=p then some (.lst vs) else if V.ref b∈vs then H1 b else none) ws mss:=by
     intro ws mss hw hq
     induction hq with
     | nil=>exact .nil
     | cons q1 _ ih =>
      obtain ⟨r,rfl,q2⟩:=q1
      have hm:=hw _ List.mem_cons_self
      refine .cons ⟨r,rfl,?_⟩ (ih λw hw'=>hw w (List.mem_cons_of_mem _ hw'))
      dsimp only
      rw [if_neg (λz=>h8 (by rw [← z];exact hm)),if_pos hm]
      exact q2
    exact key (λ_ hw=>hw) rows2
  ·rw [List.getElem?_set_ne z] at es
   exact a1.sl l s es
end
end L2
namespace Lat
open L2
theorem zkd {j:Nat}:∀ {xs:Ji} {as:List Vc} {i:Nat} {x x0:Int} {a:Vc},xs[i]?=some x0->as[i]?=some a->comb (xs.set i x) as j=comb xs as j+(x-x0)*a j
 | [],_,_,_,_,_,h,_=>by simp at h
 | _ :: _,[],_,_,_,_,_,h=>by simp at h
 | y :: xs,b :: as,0,x,x0,a,h,k=>by
  have h:y=x0:=by simpa using h
  have k:b=a:=by simpa using k
  subst h k
  simp only [List.set_cons_zero,comb]
  grind
 | y :: xs,b :: as,i+1,x,x0,a,h,k=>by
  have:=zkd (j:=j) (xs:=xs) (as:=as) (i:=i) (x:=x) (x0:=x0) (a:=a) (by simpa using h) (by simpa using k)
  simp only [List.set_cons_succ,comb,this]
  omega
theorem zjU {j:Nat}:∀ {xs:Ji} {as:List Vc} {i:Nat} {x:Int} {a a0:Vc},xs[i]?=some x->as[i]?=some a0->comb xs (as.set i a) j=comb xs as j+x*(a j-a0 j)
 | [],_,_,_,_,_,h,_=>by simp at h
 | _ :: _,[],_,_,_,_,_,h=>by simp at h
 | y :: xs,b :: as,0,x,a,a0,h,k=>by
  have h:y=x:=by simpa using h
  have k:b=a0:=by simpa using k
  subst h k
  simp only [List.set_cons_zero,comb]
  grind
 | y :: xs,b :: as,i+1,x,a,a0,h,k=>by
  have:=zjU (j:=j) (xs:=xs) (as:=as) (i:=i) (x:=x) (a:=a) (a0:=a0) (by simpa using h) (by simpa using k)
  simp only [List.set_cons_succ,comb,this]
  omega
theorem zh3 {j:Nat}:∀ {xs:Ji} {as:List Vc},(∀ (i:Nat) (x:Int) (a:Vc),xs[i]?=some x->as[i]?=some a->x*a j=0)->comb xs as j=0
 | [],_,_=>rfl
 | _ :: _,[],_=>rfl
 | x :: xs,a :: as,h=>by
  have h0:=h 0 x a rfl rfl
  have:=zh3 (j:=j) (xs:=xs) (as:=as) λi y b h1 h2=>h (i+1) y b (by simpa using h1) (by simpa using h2)
  simp only [comb,h0,this]
  rfl
theorem zkn {j x y:Nat} {q:Int} {t:Ji} {as:List Vc} {t1 t2:Int} {a1 a2:Vc} (hxy:x≠y) (h1:t[x]?=some t1) (h2:t[y]?=some t2) (k1:as[x]?=some a1) (k2:as[y]?=some a2) {b:Vc} (hb:b j=a2 j+q*a1 j) :
  comb (t.set x (t1-q*t2)) (as.set y b) j=comb t as j:=by
 rw [zkd h1 (by rw [List.getElem?_set_ne (Ne.symm hxy)];exact k1),zjU h2 k2,hb]
 grind
def zgp (n:Nat) (ss:Jq):Jq:=List.map (λ(x:Ji)=>x.drop n) (List.filter (λ(x:Ji)=>decide (n≤hd x)) ss)
theorem zlu {l:Ji} {n:Nat} (h:n≤hd l) (hl:hd l<l.length):hd (l.drop n)=hd l-n:=zkw (by rw [zeb,show n+(hd l-n)=hd l by omega];exact zhv hl) λi hi=>by
 rw [zeb];exact zbA ↑0
theorem ziH {n:Nat} {ss:Jq} {t:Ji} (h:t∈zgp n ss):∃ s∈ss,n≤hd s∧t=s.drop n:=by
 unfold zgp at h
 obtain ⟨s,hs,rfl⟩:=List.mem_map.mp h
 obtain ⟨h1,h2⟩:=List.mem_filter.mp hs
 exact ⟨s,h1,by simpa using h2,rfl⟩
theorem zh2 {n k:Nat}:∀ {ss:Jq} {lo:Nat},Ech (n+k) lo ss->Ech k (lo-n) (zgp n ss)
 | [],_,_=>trivial
 | s :: ss,lo,e=>by
  unfold zgp
  by_cases q:n≤hd s
  ·rw [List.filter_cons_of_pos (by simpa using q),List.map_cons]
   have hl:=e.1
   have e1:=zlu q (by rw [hl];exact e.2.2.1)
   have e3:=e.2.2.1
   have e2:=e.2.1
   refine ⟨by rw [List.length_drop,hl];omega,by rw [e1];omega,by rw [e1];omega,by rw [e1,zeb,show n+(hd s-n)=hd s by omega];exact e.2.2.2.1,?_⟩
   have:=zh2 e.2.2.2.2
   rw [e1]
   exact this.mono ↑0
  ·rw [List.filter_cons_of_neg (by simpa using q)]
   have:=zh2 e.2.2.2.2
   exact this.mono (by have:=e.2.1;omega)
theorem zh7 {n k:Nat}:∀ {ss:Jq} {lo:Nat},Ech (n+k) lo ss->Red ss->Red (zgp n ss)
 | [],_,_,_=>trivial
 | s :: ss,lo,e,r=>by
  unfold zgp
  by_cases q:n≤hd s
  ·rw [List.filter_cons_of_pos (by simpa using q),List.map_cons]
   refine ⟨λt ht=>?_,zh7 e.2.2.2.2 r.2⟩
   obtain ⟨x,hx,h1,rfl⟩:=ziH ht
   have ex:=Ech.mem e.2.2.2.2 x hx
   rw [zlu h1 (by rw [ex.1];exact ex.2.2.1),zeb,zeb,show n+(hd x-n)=hd x by omega]
   exact r.1 x hx
  ·rw [List.filter_cons_of_neg (by simpa using q)]
   exact zh7 e.2.2.2.2 r.2
theorem zkT {m n:Nat}:∀ {ss:Jq} {lo:Nat} {u:Vc},Ech m lo ss->SpL ss u->(∀ i,i<n->u i=0)->SpL (List.filter (λ(x:Ji)=>decide (n≤hd x)) ss) u
 | [],_,_,_,h,_=>h
 | s :: ss,lo,u,e,h,hz=>by
  obtain ⟨w,y,hw,hu⟩:=h.cons
  have e1:=SpL.before e.2.2.2.2 (Nat.lt_succ_self (hd s)) hw
  by_cases q:n≤hd s
  ·rw [List.filter_cons_of_pos (by simpa using q)]
   have hw0:∀ i,i<n->w i=0:=λi hi=>SpL.before e.2.2.2.2 ↑0 hw
   exact ((SpL.up (s:=s) (zkT e.2.2.2.2 hw hw0)).plus ((SpL.mem (ss:=s :: _) List.mem_cons_self).smul y)).conv λi=>(hu i).symm
  ·rw [List.filter_cons_of_neg (by simpa using q)]
   have e2:=hu (hd s)
   rw [hz _ ↑0,e1] at e2
   have e4:=e.2.2.2.1
   have hy:y=0:=by
    rcases Int.mul_eq_zero.mp (show y*vec s (hd s)=0 by omega) with z | z
    ·exact z
    ·omega
   refine zkT e.2.2.2.2 (hw.conv λi=>?_) hz
   rw [hu i,hy];simp
end Lat
namespace L2
open PySem PySem.Spec PyProof.Rows
section
variable {X:Cx} {K:W.Frag}
end
section
variable {Γ:Ctx} {m:Bool} {K:W.Frag}
end
end L2
namespace L2
open PySem PySem.Spec PyProof.Rows
section
variable {E:XS} {Γ:Ctx} {u:TS} {o:Oc} {K:W.Frag} {i j:Nat}
end
end L2
namespace Lat
open L2
theorem zuM {m:Nat} {z:Int} {i:Nat}:vec (List.map (λ(y:Int)=>(if (decide (y=z)) then (1:Int) else 0)) (za6 0 m)) i=if i<m∧(i:Int)=z then 1 else 0:=by
 unfold vec
 rw [List.getD_eq_getElem?_getD,List.getElem?_map]
 by_cases hi:i<m
 ·have:(za6 0 m)[i]?=some (i:Int):=by
   unfold za6
   rw [List.getElem?_map,List.getElem?_range hi]
   show some ((0:Int)+(i:Int))=some (i:Int)
   rw [Int.zero_add]
  rw [this]
  show (if (decide ((i:Int)=z)) then (1:Int) else 0)=_
  by_cases e:(i:Int)=z
  ·rw [decide_eq_true e,if_pos rfl,if_pos ⟨hi,e⟩]
  ·rw [decide_eq_false e,if_neg (by simp),if_neg (λq=>e q.2)]
 ·rw [List.getElem?_eq_none (by rw [zaY];omega),if_neg (λq=>hi q.1)]
  rfl
theorem ziW {m:Nat} {c:Int}:∀ (ys:Ji) (s:Int) (i:Nat),i<m->0≤c+s->comb ys (List.map (λ(x:Int)=>vec (List.map (λ(y:Int)=>(if (decide (y=(c+x))) then (1:Int) else 0)) (za6 0 m))) (za6 s ys.length)) i=if c+s≤(i:Int) then vec ys ((i:Int)-(c+s)).toNat else 0
 | [],s,i,_,_=>by
  rw [show comb [] _ i=0 from rfl]
  split
  ·simp [vec]
  ·rfl
 | y :: ys,s,i,hi,hs=>by
  have ih:=ziW (c:=c) ys (s+1) i hi ↑0
  rw [List.length_cons,zgG,List.map_cons]
  simp only [comb,ih]
  rw [zuM]
  by_cases e:(i:Int)=c+s
  ·rw [if_pos ⟨hi,e⟩,if_neg ↑0,if_pos ↑0,show ((i:Int)-(c+s)).toNat=0 by omega,zmZ]
   omega
  ·rw [if_neg (λq=>e q.2)]
   by_cases e2:c+s≤(i:Int)
   ·rw [if_pos ↑0,if_pos e2,show ((i:Int)-(c+s)).toNat=((i:Int)-(c+(s+1))).toNat+1 by omega,zbI]
    omega
   ·rw [if_neg ↑0,if_neg e2]
    omega
end Lat
namespace L2
open PySem PySem.Spec PyProof.Rows
section
open PySem.SeqAt PySem.MeetsSeq PySem.MeetsSeq2 PySem.MeetsSeq3
open PySem.AutoSeq1 (wpAny_loadPart')
end
section
variable {X:Cx} {K:W.Frag}
end
section
variable {X:Cx} {K:W.Frag}
end
section
variable {E:XS} {Γ:Ctx} {te tj:TE} {t u:TS} {o:Oc} {m:Bool} {K:W.Frag} {i j:Nat} {α β:Type}
def dX (v:V) (d:Ds):Ds:=⟨λH u=>u=v∧d.pr H u,λe h=>⟨h.1,d.up e h.2⟩⟩
theorem zjs {v:V} {d:Ds} (e:Γ[i]?=some (.va m (dX v d))):Ev Γ (zjF i) m d:=λF0 Hb F H σ own Q a k =>
 (zaa e) F0 Hb F H σ own Q a λx F' H' g q=>k x F' H' g q.2
end
end L2
namespace L2
open PySem PySem.Spec PyProof.Rows
section
variable {X:Cx} {CX:CXT} {k:Nat} {f C:Addr} {fd:FuncData} {ps:List Str} {sp:Sp} {E:XK} {m:Str} {pos apos:Pos} {o e:Expr} {es:List Expr} {t:TA}
structure ByCls (K:W.Frag) (C f:Addr) (m:Str):Prop where
 ga:W.specialIn K (.ref C) "__getattribute__"=some (some (.builtin "type.__getattribute__"))
 rd:W.readsIn K C (.type "type")=true
 fn:W.findCls K (.ref C) (.type "type") m=some (.val (.ref f))
 kp:W.keepIn K (.ref f)=true
end
section
variable {E:XS} {Γ:Ctx} {u:TS} {o:Oc} {m m2:Bool} {K:W.Frag} {i:Nat} {ds:List Ds} {tr:TA}
end
section
variable {Γ:Ctx} {m:Bool}
end
section
variable {X:Cx} {CX:CXT} {k k2:Nat} {f f2 C C2:Addr} {fd fd2:FuncData} {ps ps2:List Str} {sp sp2:Sp} {E:XK} {m:Str} {pos apos:Pos} {o e:Expr} {es:List Expr} {ta:TE} {t:TA}
theorem zc4 {Γ:Ctx} {b:Bool} {ι:Type} {args:ι->List Ds} {pre:ι->Prop} {res:ι->Rs} {ds:List Ds} {d:Ds} {fs:List (Str×Ds)} (x:ι) (h1:Ev Γ ta false (dO C fs)) (h:EvA Γ t false ds) (ha:dO C fs :: ds=args x) (hp:pre x) (hr:res x=.va b d) (hn:(fs.map Prod.fst).contains m=false) :
  Ev Γ (zox C m (Spv args pre res) [] E ta t) b d:=λF0 Hb F H σ own Q a kk=>by
 refine h1 F0 Hb F H σ own _ a λu F1 H1 g1 ⟨p,dx,vs,e1,e2,e3,e4⟩=>⟨p,dx,vs,e1,g1.fh _ _ e2,?_,?_⟩
 ·have:∀ {vs:List (Str×V)} {fs:List (Str×Ds)} {R:Str×V->Str×Ds->Prop},Paired (λa b=>a.1=b.1∧R a b) vs fs->(fs.map Prod.fst).contains m=false->vs.lookup m=none:=by
   intro vs fs R hq
   induction hq with
   | nil=>intro _;rfl
   | @cons a b _ _ w _ ih =>
    intro z
    rw [List.map_cons,List.contains_cons,Bool.or_eq_false_iff] at z
    obtain ⟨a1,a2⟩:=a
    rw [List.lookup_cons]
    have:(m == a1)=false:=by rw [show a1=b.1 from w.1];exact z.1
    rw [this]
    exact ih z.2
  exact this e4 hn
 ·refine h F0 Hb F1 H1 σ own _ (a.grow g1) λws F2 H2 g2 q2=>⟨x,F2,g2.fh,?_,hp,?_⟩
  ·rw [← ha,List.append_nil]
   refine .cons ((dO C fs).up (show Same F1 F2 from g2.f) ⟨p,dx,vs,e1,e2,e3,e4⟩) q2
  ·rw [hr]
   exact λv F' H' g q=>kk v F' H' (((g1.trans g2)).trans g) (d.up (zhO (((a.grow g1)).g.h.trans g2.h)) q)
end
section
variable {Γ:Ctx} {i:Nat} {m n:Bool} {ds:List Ds}
end
end L2
namespace Lat
open L2
def dv:Ji->Vc->Int
 | [],_=>0
 | a :: w,u=>a*u 0+dv w λi=>u (i+1)
theorem zpX:∀ (w t:Ji),((List.map (λ(x:Int×Int)=>x.1*x.2) (List.zip w t))).sum=dv w (vec t)
 | [],_=>rfl
 | a :: w,[]=>by
  have:∀ (w:Ji),dv w (λ_=>0)=0:=by
   intro w
   induction w with
   | nil=>rfl
   | cons a w ih=>show a*0+dv w (λ_=>0)=0;rw [ih];omega
  exact (this (a :: w)).symm
 | a :: w,b :: t=>by
  show a*b+((List.map (λ(x:Int×Int)=>x.1*x.2) (List.zip w t))).sum=a*b+dv w λi=>vec (b :: t) (i+1)
  rw [zpX w t]
  congr 2
theorem ziT:∀ (w:Ji) (u v:Vc) (x:Int),dv w (λi=>u i+x*v i)=dv w u+x*dv w v
 | [],_,_,x=>by show (0:Int)=0+x*0;omega
 | a :: w,u,v,x=>by
  show a*(u 0+x*v 0)+dv w (λi=>u (i+1)+x*v (i+1))=_
  rw [ziT w (λi=>u (i+1)) (λi=>v (i+1)) x]
  show _=a*u 0+dv w (λi=>u (i+1))+x*(a*v 0+dv w λi=>v (i+1))
  grind
theorem zkA (w:Ji):dv w (λ_=>0)=0:=by
 have:=ziT w (λ_=>0) (λ_=>0) (-1)
 have e:(λ(i:Nat)=>(0:Int)+-1*0)=λ_=>0:=by funext i;omega
 rw [e] at this
 omega
theorem zjD {w:Ji} {u v:Vc} (h:∀ i,u i=v i):dv w u=dv w v:=by rw [show u=v from funext h]
theorem zsg {A:Vc->Prop} {w:Ji} {M:Int} {u:Vc} (h:∀ a,A a->M ∣ dv w a) (hu:Sp A u):M ∣ dv w u:=by
 induction hu with
 | zero=>rw [zkA];exact Int.dvd_zero _
 | @add u a z _ ha ih=>rw [ziT];exact Int.dvd_add ih (Int.dvd_trans (h a ha) (Int.dvd_mul_left _ _))
theorem zsm {X B:Nat}:∀ {w:Ji} {u:Vc},(∀ x∈w,x.natAbs≤X)->(∀ i,(u i).natAbs≤B)->(dv w u).natAbs≤w.length*(X*B)
 | [],u,_,_=>by show (0:Int).natAbs≤_;simp
 | a :: w,u,h,k=>by
  have h1:=zsm (w:=w) (u:=λi=>u (i+1)) (λy hy=>h y (List.mem_cons_of_mem _ hy)) λi=>k (i+1)
  have h2:(a*u 0).natAbs≤X*B:=by rw [Int.natAbs_mul];exact Nat.mul_le_mul (h a List.mem_cons_self) (k 0)
  show (a*u 0+dv w λi=>u (i+1)).natAbs≤(w.length+1)*(X*B)
  rw [Nat.succ_mul]
  omega
def lv1 (w t:Ji):Ji:=zc7 (mul w (vec t (hd t))) (hd t:Int) (-(dv w (vec t)))
def lv (N:Nat):Jq->Ji
 | []=>zch ((N:Int)-1) [(0:Int)]++[(1:Int)]
 | t :: ss=>lv1 (lv N ss) t
theorem zrW {n:Nat}:(lv (n+1) []).length=n+1∧(∀ i,i<n->vec (lv (n+1) []) i=0)∧vec (lv (n+1) []) n=1:=by
 have hl:(zch (((n+1:Nat):Int)-1) [(0:Int)]).length=n:=by rw [show ((n+1:Nat):Int)-1=(n:Int) by omega];exact zcg
 refine ⟨by show ((zch (((n+1:Nat):Int)-1) [(0:Int)]++[(1:Int)])).length=_;rw [List.length_append,hl];rfl,λi hi=>?_,?_⟩
 ·show vec (zch (((n+1:Nat):Int)-1) [(0:Int)]++[(1:Int)]) i=0
  rw [zdV,hl,if_pos hi]
  rw [show ((n+1:Nat):Int)-1=(n:Int) by omega]
  unfold zch vec
  rw [List.getD_eq_getElem?_getD]
  cases q:((List.replicate (n:Int).toNat [(0:Int)]).flatten)[i]? with
  | none=>rfl
  | some y =>
   obtain ⟨l,h1,h2⟩:=List.mem_flatten.mp (List.mem_of_getElem? q)
   rw [List.eq_of_mem_replicate h1] at h2
   rw [List.mem_singleton.mp h2];rfl
 ·show vec (zch (((n+1:Nat):Int)-1) [(0:Int)]++[(1:Int)]) n=1
  rw [zdV,hl,if_neg ↑0,Nat.sub_self];rfl
theorem zqx {n s a:Nat} {w t:Ji} (T:Sd n s t) (hw:w.length≤1000) (hb:Bit a w):Bit (a+(s+9000)) (lv1 w t):=λx hx=>by
 rcases zgF hx with rfl | hx
 ·have h1:=zsm hb T.bit.vec
  have h2:w.length*(2^a*2^s)≤2^10*(2^a*2^s):=Nat.mul_le_mul_right _ ↑0
  rw [← Nat.pow_add,← Nat.pow_add] at h2
  have h3:2^(10+(a+s))≤2^(a+(s+9000)):=Nat.pow_le_pow_right ↑1 ↑0
  rw [← Nat.pow_add] at h1
  rw [Int.natAbs_neg]
  exact Nat.le_trans h1 (Nat.le_trans h2 h3)
 ·unfold mul at hx
  obtain ⟨y,hy,rfl⟩:=List.mem_map.mp hx
  show (y*vec t (hd t)).natAbs≤_
  rw [Int.natAbs_mul]
  exact Nat.le_trans (zgC (hb y hy) T.top) (Nat.pow_le_pow_right ↑1 ↑0)
theorem zrA {w t:Ji}:(lv1 w t).length=w.length:=by unfold lv1;rw [zeR,zbr]
def lvI (N:Nat) (ss:Jq) (i:Nat) (w:Ji):Prop:=w=lv N (ss.drop (ss.length-i))
theorem zux {N:Nat} {ss:Jq}:lvI N ss 0 (lv N []):=by
 unfold lvI
 rw [Nat.sub_zero,List.drop_length]
theorem zud {N i:Nat} {ss:Jq} {t w:Ji} (hx:ss.reverse[i]?=some t) (I:lvI N ss i w):lvI N ss (i+1) (lv1 w t):=by
 have hi:i<ss.length:=by have:=((List.getElem?_eq_some_iff.mp hx)).1;rwa [List.length_reverse] at this
 have e:ss[ss.length-(i+1)]?=some t:=by rw [← hx,List.getElem?_reverse hi];congr 1;omega
 unfold lvI at *
 have hj:ss.length-(i+1)<ss.length:=by omega
 rw [List.drop_eq_getElem_cons hj,show ss.length-(i+1)+1=ss.length-i by omega]
 rw [List.getElem?_eq_getElem hj] at e
 cases e
 show lv1 w _=lv1 (lv N _) _
 rw [← I]
theorem zp2 {n s:Nat}:∀ {ss:Jq},(∀ t∈ss,Sd (n+1) s t)->n≤900->(lv (n+1) ss).length=n+1∧Bit (1+ss.length*(s+9000)) (lv (n+1) ss)
 | [],_,_=>⟨zrW.1,λx hx=>by
  have hx:x∈zch (((n+1:Nat):Int)-1) [(0:Int)]++[(1:Int)]:=hx
  rcases List.mem_append.mp hx with hx | hx
  ·unfold zch at hx
   obtain ⟨l,h1,h2⟩:=List.mem_flatten.mp hx
   rw [List.eq_of_mem_replicate h1] at h2
   rw [List.mem_singleton.mp h2];exact Nat.zero_le _
  ·rw [List.mem_singleton.mp hx]
   exact Nat.one_le_two_pow⟩
 | t :: ss,h,hn=>by
  obtain ⟨h1,h2⟩:=zp2 (λs hs=>h s (List.mem_cons_of_mem _ hs)) hn
  refine ⟨by show (lv1 _ _).length=_;rw [zrA,h1],(zqx (h t List.mem_cons_self) ↑0 h2).mono ?_⟩
  rw [List.length_cons,Nat.succ_mul];omega
def ziI (sw:Jq) (x:Ji):Jq:=List.map (λ(r:Ji)=>r++[(0:Int)]) sw++[x++[⇑5]]
theorem zbM {l:Ji}:vec (l++[(0:Int)])=vec l:=by
 funext i
 rw [zdV]
 split
 ·rfl
 ·rename_i h
  rw [zbL (l:=l) ↑0]
  cases q:i-l.length with
  | zero=>rfl
  | succ k=>rw [zbI];rfl
theorem zhR {l:Ji} {n:Nat} (h:l.length=n) (i:Nat):vec (l++[⇑5]) i=vec l i-(if i=n then 1 else 0):=by
 rw [zdV,h]
 by_cases q:i<n
 ·rw [if_pos q,if_neg ↑0];omega
 ·rw [if_neg q,zbL (l:=l) ↑0]
  by_cases z:i=n
  ·rw [if_pos z,z,Nat.sub_self];rfl
  ·rw [if_neg z]
   obtain ⟨k,hk⟩:∃ k,i-n=k+1:=⟨i-n-1,by omega⟩
   rw [hk,zbI];rfl
theorem zon {n:Nat} {sw:Jq} {x:Ji} (h:∀ r∈sw,r.length=n) (hx:x.length=n):∀ r∈ziI sw x,r.length=n+1:=λr hr=>by
 rcases List.mem_append.mp hr with hr | hr
 ·obtain ⟨s,hs,rfl⟩:=List.mem_map.mp hr
  rw [List.length_append,h s hs];rfl
 ·rw [List.mem_singleton.mp hr,List.length_append,hx];rfl
theorem zq6 {b:Nat} {sw:Jq} {x:Ji} (h:∀ r∈sw,Bit b r) (hx:Bit b x):∀ r∈ziI sw x,Bit b r:=λr hr y hy=>by
 rcases List.mem_append.mp hr with hr | hr
 ·obtain ⟨s,hs,rfl⟩:=List.mem_map.mp hr
  rcases List.mem_append.mp hy with hy | hy
  ·exact h s hs y hy
  ·rw [List.mem_singleton.mp hy];exact Nat.zero_le _
 ·rw [List.mem_singleton.mp hr] at hy
  rcases List.mem_append.mp hy with hy | hy
  ·exact hx y hy
  ·rw [List.mem_singleton.mp hy];exact Nat.one_le_two_pow
theorem zuL {n:Nat} {sw:Jq} {x:Ji} (h:∀ r∈sw,r.length=n) (hx:x.length=n) {v:Vc} (hv:SpL (ziI sw x) v):SpL sw (λi=>v i+v n*(vec x i-if i=n then 1 else 0)):=by
 have hv:Sp (λu=>(∃ s∈sw,u=vec s)∨u=vec (x++[⇑5])) v:=Sp.mono (λa ⟨r,hr,e⟩=>by
  rcases List.mem_append.mp hr with hr | hr
  ·obtain ⟨s,hs,rfl⟩:=List.mem_map.mp hr
   exact .inl ⟨s,hs,by rw [e,zbM]⟩
  ·rw [List.mem_singleton.mp hr] at e
   exact .inr e) hv
 obtain ⟨u,y,hu,e⟩:=hv.split
 have u0:u n=0:=Sp.at0 (λa ⟨s,hs,e⟩=>by rw [e];exact zbL (by rw [h s hs];exact Nat.le_refl _)) hu
 have en:=e n
 rw [u0,zhR hx,if_pos rfl,zbL (l:=x) ↑0] at en
 have hy:v n=-y:=by omega
 refine Sp.conv (A:=λu=>∃ s∈sw,u=vec s) hu λi=>?_
 rw [e i,hy,zhR hx]
 grind
theorem zsB {n:Nat} {sw:Jq} {x:Ji} (hx:x.length=n) {d:Int} (h:SpL sw (λi=>d*vec x i)):SpL (ziI sw x) (λi=>if i=n then d else 0):=by
 have h1:SpL (ziI sw x) (λi=>d*vec x i):=Sp.mono (λa ⟨s,hs,e⟩=>⟨s++[(0:Int)],List.mem_append_left _ (List.mem_map.mpr ⟨s,hs,rfl⟩),by rw [e,zbM]⟩) h
 have h2:SpL (ziI sw x) (vec (x++[⇑5])):=Sp.mem ⟨_,List.mem_append_right _ (List.mem_singleton.mpr rfl),rfl⟩
 refine (Sp.lin 1 (-d) h1 h2).conv λi=>?_
 rw [zhR hx]
 by_cases z:i=n
 ·rw [if_pos z,if_pos z];grind
 ·rw [if_neg z,if_neg z];grind
section
variable {n:Nat} {sw:Jq} {x:Ji} {R ss:Jq}
end
end Lat
namespace L2
open PySem PySem.Spec PyProof.Rows
section
variable {Γ:Ctx} {m:Bool} {K:W.Frag} {ta:TE} {α:Type} {f:α->Ds} {cl:α->Addr} {fs:α->List (Str×Ds)}
end
end L2
namespace L2
open PySem PySem.Spec PyProof.Rows
structure CalleeM (P:Program) (w:World) (K:W.Frag) (mg:Str->Option Value) (base:Heap) (CX:CXT) (k:Nat) (C:Addr) (m:Str) (ps:List Str) (sp:Sp):Prop where
 ex:∃ f fd,FnOk P w K mg base CX k f fd ps sp∧Meth K C m f∧zfA K fd ps []
def zu7 (t u:TE):TE:=λσ H Q=>t σ H Q∨u σ H Q
section
variable {X:Cx} {CX:CXT} {k:Nat} {C:Addr} {ps:List Str} {sp:Sp} {E:XK} {m:Str} {pos apos:Pos} {o e:Expr} {es:List Expr} {ta:TE} {t:TA}
theorem zfC {pl:Sem Bool} (he:PE X o ta) (c:Cls X.K C) (F:CalleeM X.prog X.w X.K X.mg X.base CX k C m ps sp) (hr:Room k X.A) (hx:zgj CX X E) (ha:PA X (e::es) t)
  (hst:starEach (e::es) X.env=(false,eval e X.env) :: starEach es X.env:=by rfl) (hpl:(↑64).any (·.1)=false:=by rfl)
  (ht:eval (.Call (.Attribute o m apos) (e::es) [] pos) X.env=(do
   let ov ← eval o X.env
   standAt apos.atName
   let (f,first) ← holding [ov] (getMethod ov m pl)
   callWith pos f first (backTo pos (starEach (e::es) X.env)) (backToKw pos (keywordEach [] X.env))):=by rfl) :
  PE X (.Call (.Attribute o m apos) (e::es) [] pos) (zox C m sp [] E ta t):=by
 obtain ⟨f,fd,G,hm,hb⟩:=F.ex
 exact zq3 he c hm G hr hb .nil hx ha hst hpl ht
theorem Ev.inl {Γ:Ctx} {t u:TE} {b:Bool} {d:Ds} (h:Ev Γ t b d):Ev Γ (zu7 t u) b d:=λF0 Hb F H σ own Q a k=>.inl (h F0 Hb F H σ own Q a k)
theorem Ev.inr {Γ:Ctx} {t u:TE} {b:Bool} {d:Ds} (h:Ev Γ u b d):Ev Γ (zu7 t u) b d:=λF0 Hb F H σ own Q a k=>.inr (h F0 Hb F H σ own Q a k)
end
section
variable {Γ:Ctx} {ta tb tc:TE} {m:Bool}
end
section
variable {E:XS} {Γ:Ctx} {m:Bool} {K:W.Frag} {te:TE} {u:TS} {α β:Type}
theorem zjH {x:α} {i1 i2 i3:Nat} (d1 d2 d3:α->Ds) (fo:β->Oc) {kk:α->β} (h:Ev Γ te m (dT [d1 x,d2 x,d3 x])) (k:∀ y,y=x->Run E (((Γ.set i1 (.va m (d1 y))).set i2 (.va m (d2 y))).set i3 (.va m (d3 y))) u (fo (kk y))) :
  Run E Γ (tSeq (zke te (zq7 K 3 (zgu (zdE i1) (zgu (zdE i2) (zgu (zdE i3) zqL))))) u) (fo (Let x kk)):=λF0 Hb F H σ own D a q =>
 h F0 Hb F H σ own _ a λv F' H' g ⟨p,vs,e1,e2,e3⟩=>by
  cases e3 with | cons q1 t=>cases t with | cons q2 t=>cases t with | cons q3 t =>
   cases t
   exact ⟨p,_,e1,.inl (.inl ((zbj.trans g.fh) _ _ e2)),rfl,_,_,rfl,_,_,rfl,_,_,rfl,rfl,k x rfl F0 Hb F' H' _ own D (((((a.grow g)).set i1 q1).set i2 q2).set i3 q3) q⟩
end
end L2
namespace L2
open PySem PySem.Spec PyProof.Rows
def orX (t u:TEX):TEX:=λσ H Q E=>t σ H Q E∨u σ H Q E
section
variable {X:Cx} {a b e o:Expr} {es:List Expr} {pos apos:Pos} {k:Nat} {C:Addr} {ps:List Str} {sp:Sp} {m:Str} {tb to:TE} {ta:TEX} {t:TA}
end
def EvX {α ε:Type} (xc:ε->Addr) (Γ:Ctx) (te:TEX) (m:Bool) (d:α->Ds) (r:Except ε α):Prop:=∀ (F0 Hb F H:Hp) (σ:St) (own:Nat->Option Addr) (Q:VK) (E:XK),At F0 Hb F H σ own Γ →
 (match r with | .ok v=>∀ v' F' H',Grow F H F' H'->(d v).pr (part m F' Hb) v'->Q v' H' | .error e=>∀ dct F' H',Grow F H F' H'->E (.ref (xc e)) dct H')->te σ H Q E
section
variable {α β ε:Type} {xc:ε->Addr} {Γ Γx:Ctx} {te:TEX} {tb:TE} {m m0:Bool} {d:α->Ds} {r:Except ε α} {ds:List Ds} {u:TS} {E:XS}
theorem EvX.inl {t u:TEX} (h:EvX xc Γ t m d r):EvX xc Γ (orX t u) m d r:=λF0 Hb F H σ own Q E a k=>.inl (h F0 Hb F H σ own Q E a k)
theorem EvX.inr {t u:TEX} (h:EvX xc Γ u m d r):EvX xc Γ (orX t u) m d r:=λF0 Hb F H σ own Q E a k=>.inr (h F0 Hb F H σ own Q E a k)
end
end L2
namespace L2
open PySem PySem.Spec PyProof.Rows
section
variable {P:Program} {w:World} {K:W.Frag} {mg:Str->Option Value} {base:Heap} {x qual:Str} {st:Stmt} {f:Addr} {fd:FuncData} {N ps:List Str} {k:Nat}
end
section
variable {X:Cx} {k:Nat} {f C:Addr} {fd:FuncData} {ps:List Str} {sp:Sp} {x:Str} {p pos:Pos} {e:Expr} {es:List Expr} {t:TA}
end
section
variable {E:XS} {Γ Γx:Ctx} {u t:TS} {o:Oc} {ds:List Ds} {tr:TA} {K:W.Frag} {m:Bool} {ta:TE}
end
end L2
namespace Lat
open L2
theorem zoH:∀ (w v:Ji) (q:Int) (u:Vc),w.length=v.length->dv (List.map (λ(x:Int×Int)=>x.1-(q*x.2)) (List.zip w v)) u=dv w u-q*dv v u
 | [],[],q,u,_=>by show (0:Int)=0-q*0;omega
 | a :: w,b :: v,q,u,h=>by
  show (a-q*b)*u 0+dv (List.map (λ(x:Int×Int)=>x.1-(q*x.2)) (List.zip w v)) (λi=>u (i+1))=(a*u 0+dv w λi=>u (i+1))-q*(b*u 0+dv v λi=>u (i+1))
  rw [zoH w v q (λi=>u (i+1)) (by simpa using h)]
  grind
theorem zro (w:Ji) (c:Int) (v:Vc):dv w (λi=>c*v i)=c*dv w v:=by
 have:=ziT w (λ_=>0) v c
 rw [zkA,Int.zero_add] at this
 rw [← this]
 exact zjD λi=>by omega
theorem zl8 {c:Int} {l:Ji} {k:Nat}:vec (List.map (λ(y:Int)=>c*y) l) k=c*vec l k:=by
 have e:List.map (λ(y:Int)=>c*y) l=mul l c:=by unfold mul;congr 1;funext y;exact Int.mul_comm _ _
 rw [e,zdR,Int.mul_comm]
theorem zla:∀ (n:Nat) (s i:Int) (u:Vc),dv (List.map (λ(y:Int)=>(if (decide (y=i)) then (1:Int) else 0)) (za6 s n)) u=if s≤i∧i<s+n then u (i-s).toNat else 0
 | 0,s,i,u=>by
  rw [if_neg ↑0]
  rfl
 | n+1,s,i,u=>by
  rw [zgG,List.map_cons]
  show (if (decide (s=i)) then (1:Int) else 0)*u 0+dv (List.map (λ(y:Int)=>(if (decide (y=i)) then (1:Int) else 0)) (za6 (s+1) n)) (λk=>u (k+1))=_
  rw [zla n (s+1) i]
  by_cases e:s=i
  ·have n1:¬ (s+1≤i∧i<s+1+(n:Int)):=by omega
   have n2:s≤i∧i<s+((n+1:Nat):Int):=by omega
   rw [decide_eq_true e,if_neg n1,if_pos n2,show (i-s).toNat=0 by omega]
   simp
  ·rw [decide_eq_false e]
   by_cases h:s+1≤i∧i<s+1+(n:Int)
   ·have n2:s≤i∧i<s+((n+1:Nat):Int):=by omega
    rw [if_pos h,if_pos n2,show (i-s).toNat=(i-(s+1)).toNat+1 by omega]
    simp
   ·have n2:¬ (s≤i∧i<s+((n+1:Nat):Int)):=by omega
    rw [if_neg h,if_neg n2]
    simp
structure Du (W:Nat) (s:Jq×Jq):Prop where
 l1:s.1.length=W
 l2:s.2.length=W
 r:∀ t∈s.1,t.length=W
 d:∀ t∈s.2,t.length=W
 A:∀ (i j:Nat) (t v:Ji),s.2[i]?=some t->s.1[j]?=some v->dv t (vec v)=if i=j then 1 else 0
 B:∀ u:Vc,(∀ k,W≤k->u k=0)->∀ j,comb (s.2.map λt=>dv t u) (s.1.map vec) j=u j
theorem Du.step {W o t:Nat} {s:Jq×Jq} {ro rt d_o dt:Ji} (h:Du W s) (q:Int) (hot:o≠t) (ho:s.1[o]?=some ro) (ht:s.1[t]?=some rt) (hdo:s.2[o]?=some d_o) (hdt:s.2[t]?=some dt) :
  Du W (s.1.set t (List.map (λ(x:Int×Int)=>x.1+(q*x.2)) (List.zip rt ro)),s.2.set o (List.map (λ(x:Int×Int)=>x.1-(q*x.2)) (List.zip d_o dt))):=by
 have m1:=h.r _ (List.mem_of_getElem? ho);have m2:=h.r _ (List.mem_of_getElem? ht)
 have m3:=h.d _ (List.mem_of_getElem? hdo);have m4:=h.d _ (List.mem_of_getElem? hdt)
 have hr:∀ (w:Ji),dv w (vec (List.map (λ(x:Int×Int)=>x.1+(q*x.2)) (List.zip rt ro)))=dv w (vec rt)+q*dv w (vec ro):=λw=>by
  rw [← ziT]
  exact zjD λi=>zgE (by rw [m1,m2])
 have hd:∀ u,dv (List.map (λ(x:Int×Int)=>x.1-(q*x.2)) (List.zip d_o dt)) u=dv d_o u-q*dv dt u:=λu=>zoH _ _ _ _ (by rw [m3,m4])
 refine ⟨by show (s.1.set t _).length=W;rw [List.length_set];exact h.l1,by show (s.2.set o _).length=W;rw [List.length_set];exact h.l2,λx hx=>?_,λx hx=>?_,λi j x v hx hv=>?_,λu hu j=>?_⟩
 ·rcases List.mem_or_eq_of_mem_set hx with hx | rfl
  ·exact h.r x hx
  ·rw [List.length_map,List.length_zip,m1,m2];omega
 ·rcases List.mem_or_eq_of_mem_set hx with hx | rfl
  ·exact h.d x hx
  ·rw [List.length_map,List.length_zip,m3,m4];omega
 ·have hx2:(s.2.set o (List.map (λ(x:Int×Int)=>x.1-(q*x.2)) (List.zip d_o dt)))[i]?=some x:=hx
  have hv2:(s.1.set t (List.map (λ(x:Int×Int)=>x.1+(q*x.2)) (List.zip rt ro)))[j]?=some v:=hv
  clear hx hv
  have lo:=(List.getElem?_eq_some_iff.mp hdo).1
  have lt:=(List.getElem?_eq_some_iff.mp ht).1
  by_cases hi:i=o
  ·subst hi
   rw [List.getElem?_set_self lo] at hx2
   cases hx2
   rw [hd]
   by_cases hj:j=t
   ·subst hj
    rw [List.getElem?_set_self lt] at hv2
    cases hv2
    rw [hr,hr,h.A _ _ _ _ hdo ht,h.A _ _ _ _ hdo ho,h.A _ _ _ _ hdt ht,h.A _ _ _ _ hdt ho,if_neg hot,if_pos rfl,if_pos rfl,if_neg (Ne.symm hot)]
    omega
   ·rw [List.getElem?_set_ne (Ne.symm hj)] at hv2
    rw [h.A _ _ _ _ hdo hv2,h.A _ _ _ _ hdt hv2,if_neg (Ne.symm hj)]
    omega
  ·rw [List.getElem?_set_ne (Ne.symm hi)] at hx2
   by_cases hj:j=t
   ·subst hj
    rw [List.getElem?_set_self lt] at hv2
    cases hv2
    rw [hr,h.A _ _ _ _ hx2 ht,h.A _ _ _ _ hx2 ho,if_neg hi]
    omega
   ·rw [List.getElem?_set_ne (Ne.symm hj)] at hv2
    exact h.A _ _ _ _ hx2 hv2
 ·show comb ((s.2.set o _).map λt=>dv t u) ((s.1.set t _).map vec) j=u j
  rw [List.map_set,List.map_set,hd]
  rw [zkn (a1:=vec ro) (a2:=vec rt) hot (by rw [List.getElem?_map,hdo];rfl) (by rw [List.getElem?_map,hdt];rfl) (by rw [List.getElem?_map,ho];rfl) (by rw [List.getElem?_map,ht];rfl) (zgE (by rw [m1,m2]))]
  exact h.B u hu j
theorem Du.start {W:Nat} {a:Jq} (ha:a=List.map (λ(x:Int)=>List.map (λ(y:Int)=>(if (decide (y=x)) then (1:Int) else 0)) (za6 0 W)) (za6 0 W)):Du W (a,a):=by
 have hm:∀ t∈a,t.length=W:=λt ht=>by
  rw [ha] at ht
  obtain ⟨x,_,rfl⟩:=List.mem_map.mp ht
  rw [List.length_map,zaY]
 have hl:a.length=W:=by rw [ha,List.length_map,zaY]
 have hg:∀ (i:Nat) (t:Ji),a[i]?=some t->i<W∧t=List.map (λ(y:Int)=>(if (decide (y=(i:Int))) then (1:Int) else 0)) (za6 0 W):=λi t h=>by
  have hi:=((List.getElem?_eq_some_iff.mp h)).1
  rw [ha,List.getElem?_map] at h
  cases q:(za6 0 W)[i]? with
  | none=>rw [q] at h;cases h
  | some z =>
   rw [q] at h
   obtain ⟨g1,g2⟩:=zbs q
   have h:List.map (λ(y:Int)=>(if (decide (y=z)) then (1:Int) else 0)) (za6 0 W)=t:=Option.some.inj h
   rw [← h,g2,Int.zero_add]
   exact ⟨g1,rfl⟩
 refine ⟨hl,hl,hm,hm,λi j t v ht hv=>?_,λu hu j=>?_⟩
 ·obtain ⟨hi,rfl⟩:=hg i t ht
  obtain ⟨hj,rfl⟩:=hg j v hv
  rw [zla,if_pos ↑0]
  rw [zuM]
  by_cases e:i=j
  ·rw [if_pos ↑33,if_pos e]
  ·rw [if_neg (λq=>e (by have:=q.2;omega)),if_neg e]
 ·show comb (a.map λt=>dv t u) (a.map vec) j=u j
  have e1:(a.map λt=>dv t u)=List.map (λ(x:Int)=>u x.toNat) (za6 0 W):=by
   rw [ha,List.map_map]
   refine List.map_congr_left λx hx=>?_
   obtain ⟨x1,x2⟩:=zjB.mp hx
   show dv (List.map (λ(y:Int)=>(if (decide (y=x)) then (1:Int) else 0)) (za6 0 W)) u=_
   rw [zla,if_pos ↑0,Int.sub_zero]
  have e2:a.map vec=List.map (λ(x:Int)=>vec (List.map (λ(y:Int)=>(if (decide (y=(0+x))) then (1:Int) else 0)) (za6 0 W))) (za6 0 (List.map (λ(x:Int)=>u x.toNat) (za6 0 W)).length):=by
   rw [ha,List.map_map,List.length_map,zaY]
   refine List.map_congr_left λx _=>?_
   rw [Int.zero_add];rfl
  rw [e1,e2]
  by_cases hj:j<W
  ·rw [ziW _ 0 j hj ↑0,if_pos ↑0]
   rw [show ((j:Int)-(0+0)).toNat=j by omega]
   unfold vec
   rw [List.getD_eq_getElem?_getD,List.getElem?_map]
   have q:(za6 0 W)[j]?=some (j:Int):=by
    unfold za6
    rw [List.getElem?_map,List.getElem?_range hj]
    show some ((0:Int)+(j:Int))=_
    rw [Int.zero_add]
   rw [q]
   show u ((j:Int)).toNat=u j
   rw [Int.toNat_natCast]
  ·rw [hu j ↑0]
   refine zh3 λi x v _ hv=>?_
   rw [List.getElem?_map] at hv
   cases q:((za6 0 (List.map (λ(x:Int)=>u x.toNat) (za6 0 W)).length))[i]? with
   | none=>rw [q] at hv;cases hv
   | some z =>
    rw [q] at hv
    have hv:=Option.some.inj hv
    rw [← hv]
    show x*vec (List.map (λ(y:Int)=>(if (decide (y=0+z)) then (1:Int) else 0)) (za6 0 W)) j=0
    rw [zbL (by rw [List.length_map,zaY];omega),Int.mul_zero]
def scl (rows:Jq) (bs:Ji):Jq:=(((List.zip rows bs)).filter λp=>decide (0<p.2)).map λp=>List.map (λ(y:Int)=>p.2*y) p.1
theorem zta {W:Nat} {s:Jq×Jq} {bs:Ji} {u:Vc} (h:Du W s) (hu:SpL (scl s.1 bs) u) {i:Nat} {t:Ji} {b:Int} (ht:s.2[i]?=some t) (hb:bs[i]?=some b):b ∣ dv t u:=by
 refine zsg (λa ⟨r,hr,e⟩=>?_) hu
 subst e
 obtain ⟨p,hp,rfl⟩:=List.mem_map.mp hr
 have hp:=(List.mem_filter.mp hp).1
 obtain ⟨j,hj⟩:=List.getElem?_of_mem hp
 obtain ⟨j1,j2⟩:=zdw hj
 rw [show vec (List.map (λ(y:Int)=>p.2*y) p.1)=λk=>p.2*vec p.1 k from funext λk=>zl8,zro,h.A _ _ _ _ ht j1]
 by_cases e:i=j
 ·subst e
  rw [hb] at j2
  cases j2
  exact Int.dvd_mul_right _ _
 ·rw [if_neg e,Int.mul_zero];exact Int.dvd_zero _
theorem znC:∀ (xs:Ji) (rows:Jq) (bs:Ji),xs.length=rows.length->bs.length=rows.length->(∀ (i:Nat) (x b:Int),xs[i]?=some x->bs[i]?=some b->0≤b∧b ∣ x)->SpL (scl rows bs) (comb xs (rows.map vec))
 | [],[],_,_,_,_=>Sp.zero
 | x :: xs,r :: rows,b :: bs,h1,h2,h=>by
  have ih:=znC xs rows bs (by simpa using h1) (by simpa using h2) λi x b hx hb=>h (i+1) x b (by simpa using hx) (by simpa using hb)
  obtain ⟨b0,c,hc⟩:=h 0 x b rfl rfl
  have up:SpL (scl (r :: rows) (b :: bs)) (comb xs (rows.map vec)):=by
   refine SpL.sub (λs hs=>SpL.mem ?_) ih
   unfold scl at hs ⊢
   obtain ⟨p,hp,rfl⟩:=List.mem_map.mp hs
   refine List.mem_map.mpr ⟨p,?_,rfl⟩
   obtain ⟨p1,p2⟩:=List.mem_filter.mp hp
   exact List.mem_filter.mpr ⟨List.mem_cons_of_mem _ p1,p2⟩
  by_cases q:b=0
  ·refine up.conv λi=>?_
   show comb xs (rows.map vec) i=x*vec r i+comb xs (rows.map vec) i
   rw [hc,q];simp
  ·have hm:List.map (λ(y:Int)=>b*y) r∈scl (r :: rows) (b :: bs):=by
    unfold scl
    refine List.mem_map.mpr ⟨(r,b),List.mem_filter.mpr ⟨List.mem_cons_self,decide_eq_true (show 0<b by omega)⟩,rfl⟩
   refine ((Sp.smul c (SpL.mem hm)).plus up).conv λi=>?_
   show c*vec (List.map (λ(y:Int)=>b*y) r) i+comb xs (rows.map vec) i=x*vec r i+comb xs (rows.map vec) i
   rw [zl8,hc,← Int.mul_assoc,Int.mul_comm c b]
theorem ztq {W:Nat} {s:Jq×Jq} {bs:Ji} {u:Vc} (h:Du W s) (hl:bs.length=W) (hb:∀ b∈bs,0≤b) (hu:∀ k,W≤k->u k=0) (hd:∀ (i:Nat) (t:Ji) (b:Int),s.2[i]?=some t->bs[i]?=some b->b ∣ dv t u):SpL (scl s.1 bs) u:=by
 refine (znC (s.2.map λt=>dv t u) s.1 bs (by rw [List.length_map,h.l1,h.l2]) (by rw [hl,h.l1]) λi x b hx hbi=>?_).conv λj=>h.B u hu j
 rw [List.getElem?_map] at hx
 cases q:s.2[i]? with
 | none=>rw [q] at hx;cases hx
 | some t =>
  rw [q] at hx
  have hx:dv t u=x:=Option.some.inj hx
  exact ⟨hb b (List.mem_of_getElem? hbi),hx ▸ hd i t b q hbi⟩
theorem zoS {rows:Jq} {o t:Nat} {ro rt y:Ji} {q:Int} (hot:o≠t) (ho:rows[o]?=some ro) (ht:rows[t]?=some rt) (hy:∀ k,vec y k=vec rt k+q*vec ro k) {u:Vc}:SpL (rows.set t y) u ↔ SpL rows u:=by
 constructor
 ·refine SpL.sub λs hs=>?_
  rcases List.mem_or_eq_of_mem_set hs with hs | rfl
  ·exact SpL.mem hs
  ·exact ((SpL.mem (List.mem_of_getElem? ht)).plus (Sp.smul q (SpL.mem (List.mem_of_getElem? ho)))).conv λk=>(hy k).symm
 ·refine SpL.sub λs hs=>?_
  have lt:=(List.getElem?_eq_some_iff.mp ht).1
  have ny:SpL (rows.set t y) (vec y):=SpL.mem (List.mem_of_getElem? (List.getElem?_set_self lt))
  have no:SpL (rows.set t y) (vec ro):=SpL.mem (List.mem_of_getElem? (by rw [List.getElem?_set_ne (Ne.symm hot)];exact ho))
  obtain ⟨j,hj⟩:=List.getElem?_of_mem hs
  by_cases e:j=t
  ·subst e
   rw [hj] at ht
   cases ht
   refine (ny.plus (Sp.smul (-q) no)).conv λk=>?_
   rw [hy k]
   grind
  ·exact SpL.mem (List.mem_of_getElem? (by rw [List.getElem?_set_ne (Ne.symm e)];exact hj))
theorem znS {a z:Jq} (hz:∀ s∈z,∀ k,vec s k=0) {u:Vc}:SpL (a++z) u ↔ SpL a u:=by
 constructor
 ·refine SpL.sub λs hs=>?_
  rcases List.mem_append.mp hs with hs | hs
  ·exact SpL.mem hs
  ·exact (Sp.zero:Sp _ _).conv λk=>(hz s hs k).symm
 ·exact SpL.sub λs hs=>SpL.mem (List.mem_append_left _ hs)
end Lat
namespace L2
open PySem PySem.Spec PyProof.Rows
structure T6 (α β γ δ ε ζ:Type) where
 a:α
 b:β
 c:γ
 d:δ
 e:ε
 f:ζ
section
variable {E:XS} {Γ:Ctx} {m:Bool} {K:W.Frag} {te:TE} {u:TS} {α β:Type}
end
end L2
namespace PySem
open Sem (wp)
namespace F
end F
abbrev zs1 (h:Heap) (T:Addr) (a b c:Value):Prop:=h.get? T=some { cls:=.type "tuple",data:=.seq #[a,b,c] }
structure Zip3 (h:Heap) (n:Nat) (l1 l2 l3:Addr) (k:Nat) (f0:Value):Prop where
 z:IsZip h (n+5) (n+3) (n+4) f0
 ti:zs1 h (n+3) (.ref n) (.ref (n+1)) (.ref (n+2))
 to:∃ a b c,zs1 h (n+4) a b c
 i1:h.IsListIter n l1 k
 i2:h.IsListIter (n+1) l2 k
 i3:h.IsListIter (n+2) l3 k
section
variable {prog:Program} {w:World} {A:Around} {E:Value->Shared->Prop} {s:Shared} {n k:Nat} {l1 l2 l3:Nat}
end
section
variable {prog:Program} {w:World} {A:Around} {E:Value->Shared->Prop} {s:Shared}
end
end PySem
namespace L2
open PySem PySem.Spec PyProof.Rows
section
variable {X:Cx}
end
section
variable {Γ:Ctx} {m:Bool} {K:W.Frag} {γ δ ε:Type}
end
theorem run_par {E:XS} {Γ:Ctx} {ta tb:TE} {u:TS} {o:Oc} {x y:Int} {i j:Nat} (h1:Ev Γ ta false (dI x)) (h2:Ev Γ tb false (dI y)) (k:Run E ((Γ.set i (.va false (dI x))).set j (.va false (dI y))) u o):Run E Γ (tSeq (tPar i j (tCons ta (tCons tb tNil))) u) o:=λF0 Hb F H σ own D a q =>
 h1 F0 Hb F H σ own _ a λv F1 H1 g1 q1=>h2 F0 Hb F1 H1 σ own _ (a.grow g1) λw F2 H2 g2 q2=>⟨v,w,rfl,k F0 Hb F2 H2 _ own D (((((a.grow g1)).grow g2).set i q1).set j q2) q⟩
end L2
namespace L2
open PySem PySem.Spec PyProof.Rows
structure T4 (α β γ δ:Type) where
 a:α
 b:β
 c:γ
 d:δ
 deriving Inhabited
def ztQ:Slot->Bool
 | .tl _=>false
 | _=>true
theorem At.shareB {F0 Hb F H:Hp} {σ:St} {own:Nat->Option Addr} {Γ:Ctx} (a:At F0 Hb F H σ own Γ) {i:Nat} {m:Bool} {C p dx:Addr} {fs:List (Str×Ds)} (e:Γ[i]?=some (.ob m C p dx fs)) (ht:Γ.all ztQ=true) :
  ∃ F' own',Grow F0 Hb F' H∧At F0 Hb F' H σ own' (Γ.set i (.va m (dO C fs))):=by
 obtain ⟨vs,e1,e2,hf,hb,hp,hq⟩:=a.sl i _ e
 have ne:dx≠p:=zjG hp.2 hp.1 (by intro z;cases z)
 have g:=(a.g.take hb.1 hp.1).take hb.2 hp.2
 have n3:upd F p (.ins C dx vs) dx=none:=by rw [zax ne];exact hf.2
 have fs':Same F (upd (upd F p (.ins C dx vs)) dx (.own p)):=(Same.new hf.1 _).trans (Same.new n3 _)
 refine ⟨upd (upd F p (.ins C dx vs)) dx (.own p),λj=>if j=i then none else own j,g,g,λj k q h1 h2=>?_,λj q h1=>?_,λj s es=>?_,by simp [a.len]⟩
 ·skip
  split at h1
  ·cases h1
  ·split at h2
   ·cases h2
   ·exact a.inj j k q h1 h2
 ·skip
  split at h1
  ·cases h1
  ·exact a.liv j q h1
 ·by_cases z:i=j
  ·subst z
   have hi:i<Γ.length:=(↑29).1
   rw [List.getElem?_set_self hi] at es
   cases es
   exact ⟨.ref p,e1,p,dx,vs,rfl,zer hb.1 (by rw [zax (Ne.symm ne)];exact zaG),zer hb.2 zaG,zb6 (λ_ b z=>⟨z.1,b.2.up (zbq fs') z.2⟩) hq⟩
  ·rw [List.getElem?_set_ne z] at es
   have z':¬ j=i:=Ne.symm z
   have:=a.sl j s es
   cases s with
   | no=>trivial
   | tl d =>
    have:=List.all_eq_true.mp ht _ (List.mem_of_getElem? es)
    cases this
   | va m d=>obtain ⟨x,h1,h2⟩:=this;exact ⟨x,h1,d.up (zbq fs') h2⟩
   | ow m ds =>
    obtain ⟨q,us,h1,h2,h3,h4,h5,h6⟩:=this
    have n1:q≠p:=λw=>by subst w;exact z (a.inj i j q e2 h2)
    have n2:q≠dx:=zjG h5 hp.2 (by intro z;cases z)
    exact ⟨q,us,h1,(if_neg z').trans h2,by rw [zax n2,zax n1];exact h3,h4,h5,zdM (ds:=[]) (zbq fs') h6⟩
   | ol q ds =>
    obtain ⟨us,h1,h2,h3,h4,h5,h6⟩:=this
    have n1:q≠p:=λw=>by subst w;exact z (a.inj i j q e2 h2)
    have n2:q≠dx:=zjG h5 hp.2 (by intro z;cases z)
    exact ⟨us,h1,(if_neg z').trans h2,by rw [zax n2,zax n1];exact h3,h4,h5,zdM (ds:=[]) fs' h6⟩
   | ob m C q dy gs =>
    obtain ⟨us,h1,h2,h3,h4,h5,h6⟩:=this
    have n1:q≠p:=λw=>by subst w;exact z (a.inj i j q e2 h2)
    have n2:dy≠p:=zjG h5.2 hp.1 (by intro z;cases z)
    have n3:q≠dx:=zjG h5.1 hp.2 (by intro z;cases z)
    have n4:dy≠dx:=λw=>by
     have:=h5.2
     rw [w,hp.2] at this
     cases this;exact n1 rfl
    exact ⟨us,h1,(if_neg z').trans h2,⟨by rw [zax n3,zax n1];exact h3.1,by rw [zax n4,zax n2];exact h3.2⟩,h4,h5,zb6 (λ_ b z=>⟨z.1,b.2.up (zbq fs') z.2⟩) h6⟩
section
variable {Γ:Ctx} {te:TE} {d:Ds} {i:Nat} {m:Bool}
theorem EvN.borrowB {C p dx:Addr} {fs:List (Str×Ds)} (e:Γ[i]?=some (.ob m C p dx fs)) (ht:Γ.all ztQ=true) (h:EvN (Γ.set i (.va m (dO C fs))) te d):EvN Γ te d:=λF0 Hb F H σ own Q a k=>by
 obtain ⟨F1,own1,_,a1⟩:=a.shareB e ht
 refine h F0 Hb F1 H σ own1 Q a1 λx F' H' g q=>?_
 have e:∀ b o,off F' H b=some o->H b=none∧F' b=some o:=λb o z=>zcm.mp z
 refine k x (λb=>match H b with | some _=>F b | none=>F' b) H' ⟨λb o z=>?_,λb o z=>?_,g.h,λb z1 z2=>?_⟩ (d.up (λb o z=>?_) q)
 ·show (match H b with | some _=>F b | none=>F' b)=some o
  rw [a.fh _ _ z];exact z
 ·have z:(match H b with | some _=>F b | none=>F' b)=some o:=z
  cases w:H b with
  | some o'=>rw [w] at z;exact g.h _ _ (a.fh _ _ z)
  | none=>rw [w] at z;exact g.fh _ _ z
 ·show (match H b with | some _=>F b | none=>F' b)=none
  cases w:H b with
  | some o'=>exact z2
  | none=>exact absurd w z1
 ·obtain ⟨h1,h2⟩:=e b o z
  refine zcm.mpr ⟨h1,?_⟩
  show (match H b with | some _=>F b | none=>F' b)=some o
  rw [h1];exact h2
end
theorem At.reset {F0 Hb F H:Hp} {σ:St} {own:Nat->Option Addr} {Γ:Ctx} (a:At F0 Hb F H σ own Γ) {i:Nat} {m m':Bool} {d d':Ds} (e:Γ[i]?=some (.va m d)) (h:∀ x,(σ[i]?).join=some x->d.pr (part m F Hb) x->d'.pr (part m' F Hb) x):At F0 Hb F H σ own (Γ.set i (.va m' d')):=by
 obtain ⟨x,e1,e2⟩:=a.sl i _ e
 have hi:i<σ.length:=by rw [a.len];exact (↑29).1
 have:=a.set i (h x e1 e2)
 rw [List.getElem?_eq_getElem hi] at e1
 have e1:σ[i]=some x:=e1
 rw [← e1,List.set_getElem_self] at this
 exact this
theorem At.looks {F0 Hb F H:Hp} {σ:St} {own:Nat->Option Addr} {Γ:Ctx} (a:At F0 Hb F H σ own Γ) {i:Nat} {m:Bool} {d:Ds} (e:Γ[i]?=some (.va m d)):∃ x,σ[i]?=some (some x)∧d.pr F x:=by
 obtain ⟨x,e1,e2⟩:=a.sl i _ e
 have hi:i<σ.length:=by rw [a.len];exact (↑29).1
 rw [List.getElem?_eq_getElem hi] at e1
 have e1:σ[i]=some x:=e1
 exact ⟨x,by rw [List.getElem?_eq_getElem hi,e1],d.up zbj e2⟩
section
variable {Γ:Ctx} {te:TE} {d d1 d2 d3:Ds} {i i1 i2 i3:Nat} {m m1 m2:Bool} {v v1 v2:V} {f g k:Str} {C:Addr}
theorem znc (e:Γ[i]?=some (.va m (dX v d))) {m':Bool}:Ev Γ (zjF i) m' (dV v):=λF0 Hb F H σ own Q a k =>
 (zaa e) F0 Hb F H σ own Q a λx F' H' g q=>k x F' H' g q.1
theorem zqt {H H1:Hp} {x:V} (s:Same H H1) (h:(dO C [(f,dV v1),(g,dV v2),(k,d3)]).pr H x) (h1:d1.pr H1 v1) (h2:d2.pr H1 v2):(dO C [(f,d1),(g,d2),(k,d3)]).pr H1 x:=by
 obtain ⟨p,dx,vs,q1,q2,q3,q4⟩:=h
 refine ⟨p,dx,vs,q1,s _ _ q2,s _ _ q3,?_⟩
 cases q4 with | cons r1 t=>cases t with | cons r2 t=>cases t with | cons r3 t =>
  cases t
  exact .cons ⟨r1.1,by rw [r1.2];exact h1⟩ (.cons ⟨r2.1,by rw [r2.2];exact h2⟩ (.cons ⟨r3.1,d3.up s r3.2⟩ .nil))
theorem EvN.borrowBX {p dx:Addr} (e:Γ[i]?=some (.ob m C p dx [(f,dV v1),(g,dV v2),(k,d3)])) (ht:Γ.all ztQ=true) (n1:i≠i1) (n2:i≠i2) (e1:Γ[i1]?=some (.va m1 (dX v1 d1))) (e2:Γ[i2]?=some (.va m2 (dX v2 d2))) (h:EvN (Γ.set i (.va false (dO C [(f,d1),(g,d2),(k,d3)]))) te d):EvN Γ te d :=
 EvN.borrowB e ht λF0 Hb F H σ own Q a kk=>by
  have hi:i<Γ.length:=(↑29).1
  obtain ⟨x1,_,q1⟩:=a.looks (i:=i1) (by rw [List.getElem?_set_ne n1];exact e1)
  obtain ⟨x2,_,q2⟩:=a.looks (i:=i2) (by rw [List.getElem?_set_ne n2];exact e2)
  have a1:=a.reset (i:=i) (m':=false) (d':=dO C [(f,d1),(g,d2),(k,d3)]) (List.getElem?_set_self hi) λx _ q=>zqt zbj q (by rw [← q1.1];exact q1.2) (by rw [← q2.1];exact q2.2)
  rw [List.set_set] at a1
  exact h F0 Hb F H σ own Q a1 kk
def zuT {ι:Type} (C:Addr) (f g k:Str) (a1 a2 a3:ι->Ds) (pre:ι->Prop) (d3:ι->Ds):Sp:=zrJ (ι:=V×V×ι) C (λy=>[dX y.1 (a1 y.2.2),dX y.2.1 (a2 y.2.2),a3 y.2.2]) (λy=>pre y.2.2) true (λy=>[(f,dV y.1),(g,dV y.2.1),(k,d3 y.2.2)])
variable {ι:Type} {a1 a2 a3 b3:ι->Ds} {pre:ι->Prop} {ds:List Ds} {tr:TA} {E:XK}
theorem zhV (x:ι) (h:EvA Γ tr false ds) (ha:ds=[a1 x,a2 x,a3 x]) (hp:pre x):Ev Γ (zpA C (zuT C f g k a1 a2 a3 pre b3) [] E tr) false (dO C [(f,a1 x),(g,a2 x),(k,b3 x)]):=λF0 Hb F H σ own Q a kk=>by
 subst ha
 refine h F0 Hb F H σ own _ a λvs F1 H1 g1 q1 p dx h1 h2 h3=>?_
 cases q1 with | cons r1 t=>cases t with | cons r2 t=>cases t with | cons r3 t =>
  cases t
  refine ⟨(_,_,x),p,dx,_,H1,F1,by rw [List.append_nil],h1,h2,h3,rfl,g1.fh,.cons ⟨rfl,r1⟩ (.cons ⟨rfl,r2⟩ (.cons r3 .nil)),hp,λus F' H' g n1 n2 e1 e2 e3=>⟨rfl,?_⟩⟩
  have g2:=g1.trans g
  obtain ⟨p0,_,pb⟩:=a.free g1 h1
  obtain ⟨d0,_,db⟩:=a.free g1 h2
  have g3:=(g2.take p0 e1).take d0 e2
  have n3:upd F' p (.ins C dx us) dx=none:=by rw [zax h3];exact n2
  have s2:Same F' (upd (upd F' p (.ins C dx us)) dx (.own p)):=(Same.new n1 _).trans (Same.new n3 _)
  refine kk _ _ _ g3 ⟨p,dx,us,rfl,by show upd _ _ _ p=_;rw [zax (Ne.symm h3)];exact zaG,zaG,?_⟩
  cases e3 with | cons z1 t=>cases t with | cons z2 t=>cases t with | cons z3 t =>
   cases t
   exact .cons ⟨z1.1,by rw [z1.2];exact (a1 x).up (g.f.trans s2) r1⟩ (.cons ⟨z2.1,by rw [z2.2];exact (a2 x).up (g.f.trans s2) r2⟩ (.cons ⟨z3.1,(b3 x).up (zbj.trans s2) z3.2⟩ .nil))
end
section
variable {E:XS} {Γ:Ctx} {m:Bool} {K:W.Frag} {tj:TE} {u:TS} {o:Oc} {i:Nat}
end
end L2
namespace Lat
open L2
def lsum:Ji->Int
 | []=>0
 | x :: xs=>x+lsum xs
section
variable {α β:Type}
theorem zjQ (f g:α->Int):∀ l:List α,lsum (l.map λa=>f a+g a)=lsum (l.map f)+lsum (l.map g)
 | []=>rfl
 | a :: l=>by
  simp only [List.map_cons,lsum]
  rw [zjQ f g l];omega
theorem zfl (c:Int) (f:α->Int):∀ l:List α,lsum (l.map λa=>c*f a)=c*lsum (l.map f)
 | []=>by simp [lsum]
 | a :: l=>by
  simp only [List.map_cons,lsum]
  rw [zfl c f l,Int.mul_add]
theorem zdI:∀ l:List α,lsum (l.map λ_=>(0:Int))=0
 | []=>rfl
 | a :: l=>by
  simp only [List.map_cons,lsum]
  rw [zdI l];omega
theorem zh9 (h:α->β->Int) (m:List β):∀ l:List α,lsum (l.map λa=>lsum (m.map λb=>h a b))=lsum (m.map λb=>lsum (l.map λa=>h a b))
 | []=>(zdI m).symm
 | a :: l=>by
  simp only [List.map_cons,lsum]
  rw [zh9 h m l,← zjQ]
theorem zjz {d:Int} {f:α->Int}:∀ {l:List α},(∀ a∈l,d ∣ f a)->d ∣ lsum (l.map f)
 | [],_=>⟨0,by simp [lsum]⟩
 | a :: l,h=>by
  simp only [List.map_cons,lsum]
  exact Int.dvd_add (h a List.mem_cons_self) (zjz λb hb=>h b (List.mem_cons_of_mem _ hb))
theorem zoo {B:Nat} {f:α->Int}:∀ {l:List α},(∀ a∈l,(f a).natAbs≤B)->(lsum (l.map f)).natAbs≤l.length*B
 | [],_=>by simp [lsum]
 | a :: l,h=>by
  simp only [List.map_cons,lsum,List.length_cons]
  have h1:=h a List.mem_cons_self
  have h2:=zoo (l:=l) λb hb=>h b (List.mem_cons_of_mem _ hb)
  rw [Nat.add_mul]
  omega
theorem zbm {f g:α->Int} {l:List α} (h:∀ a∈l,f a=g a):lsum (l.map f)=lsum (l.map g):=by rw [List.map_congr_left h]
theorem zhU {W:Nat} {F:Ji->α->Ji} {c:α->Nat->Int}:∀ (l:List α) (acc:Ji),acc.length=W->(∀ s a,a∈l->s.length=W->(F s a).length=W∧∀ i,vec (F s a) i=vec s i+c a i)->(l.foldl F acc).length=W∧∀ i,vec (l.foldl F acc) i=vec acc i+lsum (l.map λa=>c a i)
 | [],acc,h,_=>⟨h,λi=>by simp [lsum]⟩
 | a :: l,acc,h,k=>by
  obtain ⟨h1,h2⟩:=k acc a List.mem_cons_self h
  obtain ⟨h3,h4⟩:=zhU l (F acc a) h1 λs b hb=>k s b (List.mem_cons_of_mem _ hb)
  refine ⟨h3,λi=>?_⟩
  rw [List.foldl_cons,h4 i,h2 i]
  simp only [List.map_cons,lsum]
  omega
theorem zlo (t:Ji) (c:α->Int) (v:α->Vc):∀ l:List α,dv t (λi=>lsum (l.map λa=>c a*v a i))=lsum (l.map λa=>c a*dv t (v a))
 | []=>zkA t
 | a :: l=>by
  simp only [List.map_cons,lsum]
  exact (zjD λi=>Int.add_comm _ _).trans ((ziT t _ (v a) (c a)).trans (by rw [zlo t c v l];exact Int.add_comm _ _))
end
theorem dv_sum:∀ (t:Ji) (u:Vc),dv t u=lsum ((List.range t.length).map λw=>vec t w*u w)
 | [],_=>rfl
 | a :: t,u=>by
  rw [List.length_cons,List.range_succ_eq_map,List.map_cons,List.map_map]
  show a*u 0+dv t (λi=>u (i+1))=_
  rw [dv_sum t]
  rfl
def Phi (W:Nat) (ds im:Jq) (u:Vc):Vc:=λi=>lsum (((List.range W)).map λ(k:Nat)=>dv (ixD ds (k:Int)) u*vec (ixD im (k:Int)) i)
section
variable {W:Nat} {ds im Bs:Jq} {u v:Vc}
theorem ze2 {rows:Jq} {k:Nat} (h:k<rows.length):ixD rows (k:Int)∈rows:=zcp (by unfold InB;omega)
theorem zqn {rows:Jq} {k:Nat} {t:Ji} (h:rows[k]?=some t):k<rows.length∧ixD rows (k:Int)=t:=⟨((List.getElem?_eq_some_iff.mp h)).1,zbJ h⟩
theorem ztx (hl:ds.length=W) (hd:∀ t∈ds,t.length=W) (hB:∀ w,w<W->∀ i,vec (ixD Bs (w:Int)) i=lsum (((List.range W)).map λ(k:Nat)=>vec (ixD ds (k:Int)) w*vec (ixD im (k:Int)) i)) (i:Nat) :
  lsum (((List.range W)).map λ(w:Nat)=>u w*vec (ixD Bs (w:Int)) i)=Phi W ds im u i:=by
 unfold Phi
 have e:∀ k∈List.range W,dv (ixD ds (k:Int)) u*vec (ixD im (k:Int)) i=lsum (((List.range W)).map λ(w:Nat)=>u w*(vec (ixD ds (k:Int)) w*vec (ixD im (k:Int)) i)):=λk hk=>by
  rw [dv_sum,hd _ (ze2 (by rw [hl];exact List.mem_range.mp hk)),Int.mul_comm,← zfl]
  exact zbm λw _=>by grind
 rw [zbm e,← zh9]
 exact zbm λw hw=>by rw [hB w (List.mem_range.mp hw) i,← zfl]
theorem zqK {cs:Ji} {t:Ji} {b:Int} (h1:∀ k,k<W->ixD cs (k:Int) ∣ dv (ixD ds (k:Int)) u) (h2:∀ k,k<W->b ∣ ixD cs (k:Int)*dv t (vec (ixD im (k:Int)))):b ∣ dv t (Phi W ds im u):=by
 unfold Phi
 rw [zlo]
 refine zjz λk hk=>?_
 obtain ⟨q,hq⟩:=h1 k (List.mem_range.mp hk)
 rw [hq,Int.mul_comm (ixD cs (k:Int)) q,Int.mul_assoc]
 exact Int.dvd_trans (h2 k (List.mem_range.mp hk)) (Int.dvd_mul_left _ _)
theorem zow {α β:Type} [Inhabited α] [Inhabited β] {as:List α} {bs:List β} (h1:as.length=W) (h2:bs.length=W):List.zip as bs=((List.range W)).map λ(w:Nat)=>(ixD as (w:Int),ixD bs (w:Int)):=by
 refine List.ext_getElem (by rw [List.length_zip,List.length_map,List.length_range];omega) λk hk _=>?_
 rw [List.length_zip] at hk
 rw [List.getElem_zip,List.getElem_map,List.getElem_range,zbJ (List.getElem?_eq_getElem (show k<as.length by omega)),zbJ (List.getElem?_eq_getElem (show k<bs.length by omega))]
theorem zls {α:Type} {t:Ji} {l:List α} {c:α->Nat->Int} {n b:Nat} (h:∀ i,vec t i=lsum (l.map λa=>c a i)) (hl:l.length≤2^n) (hc:∀ a∈l,∀ i,(c a i).natAbs≤2^b):Bit (n+b) t:=Bit.of λi=>by
 rw [h i]
 refine Nat.le_trans (zoo λa ha=>hc a ha i) ?_
 rw [Nat.pow_add]
 exact Nat.mul_le_mul_right _ hl
theorem zjg {x y:Int} {a b:Nat} (h1:x.natAbs≤2^a) (h2:y.natAbs≤2^b):(x*y).natAbs≤2^(a+b):=by
 rw [Int.natAbs_mul,Nat.pow_add]
 exact Nat.mul_le_mul h1 h2
end
end Lat
namespace L2
open PySem PySem.Spec PyProof.Rows
end L2
namespace L2
open PySem PySem.Spec PyProof.Rows
def FA (K:W.Frag) (f:Addr) (sn n:Str) (st:Stmt):Prop:=∃ (oc kV dc pm cd ct:Value) (od an:Option Addr) (sl:Array (Option Value)),K.lookup f=some ⟨oc,od,.func (W.fnOf sn n (zaB st) (zaw st) (zaf st) .none kV dc pm an cd ct),sl⟩∧W.codeIn K cd n=true∧W.keepIn K (.ref f)=true
theorem FA.m {K:W.Frag} {f:Addr} {sn n:Str} {st:Stmt} {oc kV dc pm cd ct:Value} {od an:Option Addr} {sl:Array (Option Value)} (l:K.lookup f=some ⟨oc,od,.func (W.fnOf sn n (zaB st) (zaw st) (zaf st) .none kV dc pm an cd ct),sl⟩) (c:W.codeIn K cd n=true) (k:W.keepIn K (.ref f)=true):FA K f sn n st:=⟨_,_,_,_,_,_,_,_,_,l,c,k⟩
end L2
namespace Lat
def Cb (n s:Nat) (rows:Jq):Prop:=n≤9∧s≤200000∧rows.length≤31∧∀ i r,rows[i]?=some r->r.length=n∧Bit s r∧∀ t∈clm MG (rows.take (i+1)),Sd n s t
def znl (rows:Jq):Prop:=zvi rows∨∃ n s,Cb n s rows
section
variable {n s i:Nat} {rows ss more:Jq} {r x:Ji}
theorem Cb.mem (h:Cb n s rows) (hr:r∈rows):r.length=n∧Bit s r:=by
 obtain ⟨i,hi⟩:=List.getElem?_of_mem hr
 exact ⟨(h.2.2.2 i r hi).1,(h.2.2.2 i r hi).2.1⟩
theorem Cb.stairs (h:Cb n s rows):Stairs n rows (clm MG rows):=(zbQ λ_ hr=>(h.mem hr).1).1
theorem Cb.way (h:Cb n s rows) (hi:i≤rows.length):∀ t∈clm MG (rows.take i),Sd n s t:=by
 cases i with
 | zero=>intro t ht;rw [List.take_zero] at ht;exact absurd ht (by simp [clm])
 | succ i=>exact (h.2.2.2 i rows[i] ↑59).2.2
theorem Cb.sd (h:Cb n s rows):∀ t∈clm MG rows,Sd n s t:=by
 have:=h.way (i:=rows.length) ↥7
 rwa [List.take_length] at this
theorem Cb.len (h:Cb n s rows):((clm MG (rows.take i))).length≤n:=by
 have:=((zbQ (n:=n) (rows:=rows.take i) λr hr=>(h.mem (List.mem_of_mem_take hr)).1)).1
 have:=zhn this.ech (Nat.zero_le n)
 omega
theorem Cb.low (h:Cb n s rows) (hr:rows[i]?=some r) (e:ss=clm MG (rows.take i)):LowP r ss∧TinP ss r∧zqG (tin MG ss (low r ss)):=by
 subst e
 have hi:=((List.getElem?_eq_some_iff.mp hr)).1
 obtain ⟨r1,r2,t3⟩:=h.2.2.2 i r hr
 have s3:=h.way (i:=i) ↑0
 have s2:=h.len (i:=i)
 have t2:=h.len (i:=i+1)
 have s1:=((zbQ (n:=n) (rows:=rows.take i) λr hr=>(h.mem (List.mem_of_mem_take hr)).1)).1
 rw [zhP hr] at t3 t2
 obtain ⟨hn,hs,_,_⟩:=h
 generalize clm MG (rows.take i)=ss at *
 obtain ⟨k1,k2,k3,k4⟩:=zdf (l:=r) s1.ech r1
 have m1:ss.length*(s+1)≤9*200001:=Nat.mul_le_mul ↑0 ↑0
 have m2:(ss.length+2)*((ss.length+1)*(s+9000))≤11*(10*209000):=Nat.mul_le_mul ↑0 (Nat.mul_le_mul ↑0 ↑0)
 refine ⟨⟨n,s,s,by omega,r1,by omega,r2,s3,by omega⟩,⟨n,s,s,by omega,s1.ech,s3,r1,r2,by omega,by omega⟩,?_,λj x hx=>?_⟩
 ·rw [zji] at t2;omega
 ·have hxm:=List.mem_of_getElem? hx
  have g1:=tin_bit (K:=9) s1.ech s3 k1 k3 (zgz s3 r1 r2) ↑0 x hxm
  obtain ⟨e1,_⟩:=zgP MG s1.ech k1 (λi hi=>absurd hi (Nat.not_lt_zero i)) k3 (Nat.zero_le n)
  rw [zjE]
  refine ⟨n,_,s,by omega,(e1.mem x hxm).1,by rw [List.length_drop];omega,g1,λt ht=>t3 t (List.mem_of_mem_drop ht),?_⟩
  have m3:(List.drop (j+1) (stl (tin MG ss (Lat.low r ss)))).length*(s+1)≤9*200001:=Nat.mul_le_mul (by rw [List.length_drop];omega) ↑0
  have m4:ss.length*((9+1)*(s+9000))≤9*((9+1)*209000):=Nat.mul_le_mul ↑0 (Nat.mul_le_mul_left _ ↑0)
  omega
theorem znl.low (h:znl rows) (hr:rows[i]?=some r) (e:ss=clm MG (rows.take i)):LowP r ss∧TinP ss r∧zqG (tin MG ss (low r ss)):=by
 rcases h with ⟨n,b,R,p1,p2,p3⟩ | ⟨n,s,h⟩
 ·exact zq9 p1 p2 p3 hr e
 ·exact h.low hr e
theorem Cb.fit {b R:Nat} (F:Fit n b R) (hn:n≤9) (h1:sB b R≤s) (h2:s≤200000) (hl:rows.length≤R) (h:∀ r∈rows,r.length=n∧Bit b r):Cb n s rows:=by
 have eb:b≤sB b R:=by
  unfold sB eB
  exact Nat.le_trans (Nat.le_trans (Nat.le_trans ↑0 (Nat.le_mul_of_pos_right (b+7) (Nat.succ_pos R))) (Nat.le_add_right _ 7)) (Nat.le_mul_of_pos_right _ (Nat.succ_pos R))
 refine ⟨hn,h2,by have:=F.2.1;omega,λi r hr=>?_⟩
 obtain ⟨r1,r2⟩:=h r (List.mem_of_getElem? hr)
 refine ⟨r1,r2.mono ↑0,λt ht=>?_⟩
 obtain ⟨a1,a2,a3,a4,a5⟩:=(zmc F (rows:=rows.take (i+1)) (by rw [List.length_take];omega) λr hr=>h r (List.mem_of_mem_take hr)).2.2 t ht
 exact ⟨a1,a2,a3,a4,a5.mono h1⟩
theorem zly:∀ {ss:Jq} {lo i:Nat},Ech n lo ss->Ech n lo (ss.take i)
 | [],_,_,_=>by rw [List.take_nil];trivial
 | _ :: _,_,0,_=>trivial
 | _ :: _,_,_+1,h=>⟨h.1,h.2.1,h.2.2.1,h.2.2.2.1,zly h.2.2.2.2⟩
theorem zlV:∀ {ss:Jq} {i:Nat},Red ss->Red (ss.take i)
 | [],_,_=>by rw [List.take_nil];trivial
 | _ :: _,0,_=>trivial
 | _ :: _,_+1,h=>⟨λt ht=>h.1 t (List.mem_of_mem_take ht),zlV h.2⟩
theorem zpy (e:Ech n 0 ss) (r:Red ss):clm MG ss=ss :=
 (zbQ λt ht=>(e.mem t ht).1).1.one ⟨e,r,λ_ ht=>SpL.mem ht,λ_ ht=>SpL.mem ht⟩ (λ_ ht=>SpL.mem ht) λ_ ht=>SpL.mem ht
theorem Cb.self (hn:n≤9) (hs:s≤200000) (e:Ech n 0 ss) (r:Red ss) (h:∀ t∈ss,Sd n s t):Cb n s ss:=by
 have hl:=zhn e (Nat.zero_le n)
 refine ⟨hn,hs,by omega,λi x hx=>?_⟩
 have T:=h x (List.mem_of_getElem? hx)
 refine ⟨T.len,T.bit,λt ht=>?_⟩
 rw [zpy (zly e) (zlV r)] at ht
 exact h t (List.mem_of_mem_take ht)
theorem SpL.left {u:Vc} (h:SpL rows u):SpL (rows++more) u:=Sp.mono (λ_ ⟨t,ht,e⟩=>⟨t,List.mem_append_left _ ht,e⟩) h
abbrev ap0 (ss:Jq):Jq:=List.map (λ(r:Ji)=>r++[(0:Int)]) ss
def zln (n:Nat):Ji:=List.replicate n (0:Int)++[(1:Int)]
theorem zd5 {i:Nat}:vec (zln n) i=if i=n then 1 else 0:=by
 unfold zln
 rw [zdV,List.length_replicate]
 by_cases q:i<n
 ·rw [if_pos q,if_neg ↑0]
  unfold vec
  rw [List.getD_eq_getElem?_getD,List.getElem?_replicate]
  split<;>rfl
 ·rw [if_neg q]
  by_cases z:i=n
  ·rw [if_pos z,z,Nat.sub_self];rfl
  ·rw [if_neg z];exact zbL ↑62
theorem zfG:hd (zln n)=n:=zkw (by rw [zd5,if_pos rfl];decide) λi hi=>by rw [zd5,if_neg ↑0]
theorem zhd {t:Ji} (h:hd t<t.length):hd (t++[(0:Int)])=hd t:=zkw (by rw [zbM];exact zhv h) λi hi=>by rw [zbM];exact zbA hi
theorem znb:∀ {ss:Jq} {lo:Nat},Ech n lo ss->Ech (n+1) lo (ap0 ss)
 | [],_,_=>trivial
 | t :: ss,lo,⟨h1,h2,h3,h4,h5⟩=>by
  have e:=zhd (t:=t) ↑0
  exact ⟨by rw [List.length_append,h1];rfl,by rw [e];exact h2,by rw [e];omega,by rw [e,zbM];exact h4,by rw [e];exact znb h5⟩
theorem znR:∀ {ss:Jq} {lo:Nat},Ech n lo ss->Red ss->Red (ap0 ss)
 | [],_,_,_=>trivial
 | t :: ss,lo,⟨h1,h2,h3,h4,h5⟩,⟨r1,r2⟩=>⟨λy hy=>by
   obtain ⟨z,hz,rfl⟩:=List.mem_map.mp hy
   have:=(h5.mem z hz)
   rw [zhd ↑0,zbM,zbM]
   exact r1 z hz,znR h5 r2⟩
theorem zof:∀ {ss:Jq} {lo:Nat},lo≤n->Ech n lo ss->Ech (n+1) lo (ap0 ss++[zln n])
 | [],lo,hlo,_=>⟨by unfold zln;rw [List.length_append,List.length_replicate];rfl,by rw [zfG];exact hlo,by rw [zfG];omega,by rw [zfG,zd5,if_pos rfl];decide,trivial⟩
 | t :: ss,lo,_,⟨h1,h2,h3,h4,h5⟩=>by
  have e:=zhd (t:=t) ↑0
  exact ⟨by rw [List.length_append,h1];rfl,by rw [e];exact h2,by rw [e];omega,by rw [e,zbM];exact h4,by rw [e];exact zof ↑0 h5⟩
theorem znK:∀ {ss:Jq} {lo:Nat},Ech n lo ss->Red ss->Red (ap0 ss++[zln n])
 | [],_,_,_=>⟨λ_ h=>absurd h (by simp),trivial⟩
 | t :: ss,lo,⟨h1,h2,h3,h4,h5⟩,⟨r1,r2⟩=>⟨λy hy=>by
   rcases List.mem_append.mp hy with hy | hy
   ·obtain ⟨z,hz,rfl⟩:=List.mem_map.mp hy
    have:=(h5.mem z hz)
    rw [zhd ↑0,zbM,zbM]
    exact r1 z hz
   ·rw [List.mem_singleton.mp hy,zfG,zbM,zd5,if_pos rfl,zbL ↑0]
    decide,znK h5 r2⟩
theorem zh6 {u:Vc}:SpL (ap0 rows) u ↔ SpL rows u :=
 ⟨Sp.mono λa ⟨t,ht,e⟩=>by
  obtain ⟨z,hz,rfl⟩:=List.mem_map.mp ht
  exact ⟨z,hz,by rw [e,zbM]⟩,
  Sp.mono λa ⟨t,ht,e⟩=>⟨t++[(0:Int)],List.mem_map.mpr ⟨t,ht,rfl⟩,by rw [e,zbM]⟩⟩
theorem zrn (h:∀ r∈rows,r.length=n):clm MG (ap0 rows)=ap0 (clm MG rows):=by
 have S:=(zbQ h).1
 have h':∀ r∈ap0 rows,r.length=n+1:=λr hr=>by
  obtain ⟨z,hz,rfl⟩:=List.mem_map.mp hr
  rw [List.length_append,h z hz];rfl
 exact (zbQ h').1.one (rows':=ap0 rows) ⟨znb S.ech,znR S.ech S.red,λt ht=>by
  obtain ⟨z,hz,rfl⟩:=List.mem_map.mp ht
  rw [zbM];exact zh6.mpr (S.inn z hz),λt ht=>by
  obtain ⟨z,hz,rfl⟩:=List.mem_map.mp ht
  rw [zbM];exact zh6.mpr (S.out z hz)⟩ (λ_ hr=>SpL.mem hr) λ_ hr=>SpL.mem hr
theorem Sd.app0 {t:Ji} (T:Sd n s t):Sd (n+1) s (t++[(0:Int)]):=by
 have e:=zhd (t:=t) (by have:=T.len;have:=T.hd;omega)
 refine ⟨by rw [List.length_append,T.len];rfl,by rw [e];have:=T.hd;omega,by rw [e,zbM];exact T.pos,by rw [e,zbM];exact T.top,λy hy=>?_⟩
 rcases List.mem_append.mp hy with hy | hy
 ·exact T.bit y hy
 ·rw [List.mem_singleton.mp hy];exact Nat.zero_le _
theorem zoh (h:∀ r∈rows,r.length=n) (hx:x.length=n) (k:SpL rows (vec x)):clm MG (ziI rows x)=ap0 (clm MG rows)++[zln n]:=by
 have S:=(zbQ h).1
 have hu:SpL (ziI rows x) (vec (zln n)):=(zsB (d:=1) hx (Sp.conv (A:=λu=>∃ s∈rows,u=vec s) k λi=>by omega)).conv λi=>by rw [zd5]
 refine (zbQ (zon h hx)).1.one (rows':=ziI rows x) ⟨zof (Nat.zero_le n) S.ech,znK S.ech S.red,λt ht=>?_,λt ht=>?_⟩ (λ_ hr=>SpL.mem hr) λ_ hr=>SpL.mem hr
 ·rcases List.mem_append.mp ht with ht | ht
  ·obtain ⟨z,hz,rfl⟩:=List.mem_map.mp ht
   rw [zbM]
   exact SpL.left (zh6.mpr (S.inn z hz))
  ·rw [List.mem_singleton.mp ht];exact hu
 ·rcases List.mem_append.mp ht with ht | ht
  ·obtain ⟨z,hz,rfl⟩:=List.mem_map.mp ht
   rw [zbM]
   exact SpL.left (zh6.mpr (S.out z hz))
  ·rw [List.mem_singleton.mp ht]
   have a1:SpL (ap0 (clm MG rows)++[zln n]) (vec x):=SpL.left (zh6.mpr (SpL.sub S.out k))
   have a2:SpL (ap0 (clm MG rows)++[zln n]) (vec (zln n)):=SpL.mem (List.mem_append_right _ (List.mem_singleton.mpr rfl))
   refine (Sp.lin 1 (-1) a1 a2).conv λi=>?_
   rw [zhR hx,zd5]
   omega
theorem Cb.ask (h:Cb n s rows) (hn:n≤8) (hl:rows.length≤30) (hx:x.length=n) (hb:Bit s x) (k:SpL rows (vec x)):Cb (n+1) s (ziI rows x):=by
 have hr:∀ r∈rows,r.length=n:=λr hr=>(h.mem hr).1
 have L:(ap0 rows).length=rows.length:=List.length_map _
 refine ⟨by omega,h.2.1,by unfold ziI;rw [List.length_append,L,List.length_singleton];omega,λi y hy=>⟨zon hr hx y (List.mem_of_getElem? hy),zq6 (λr hr=>(h.mem hr).2) hb y (List.mem_of_getElem? hy),λt ht=>?_⟩⟩
 by_cases q:i<rows.length
 ·unfold ziI at ht
  rw [List.take_append_of_le_length (by rw [L];omega),← List.map_take,zrn λr h=>hr r (List.mem_of_mem_take h)] at ht
  obtain ⟨z,hz,rfl⟩:=List.mem_map.mp ht
  exact (h.way (i:=i+1) ↑0 z hz).app0
 ·rw [List.take_of_length_le (by unfold ziI;rw [List.length_append,L,List.length_singleton];omega),zoh hr hx k] at ht
  rcases List.mem_append.mp ht with ht | ht
  ·obtain ⟨z,hz,rfl⟩:=List.mem_map.mp ht
   exact (h.sd z hz).app0
  ·rw [List.mem_singleton.mp ht]
   refine ⟨by unfold zln;rw [List.length_append,List.length_replicate];rfl,by rw [zfG];omega,by rw [zfG,zd5,if_pos rfl];decide,by rw [zfG,zd5,if_pos rfl];exact Nat.one_le_two_pow,Bit.of λi=>?_⟩
   rw [zd5]
   split
   ·exact Nat.one_le_two_pow
   ·exact Nat.zero_le _
end
end Lat
namespace Lat
open L2
def Snd (B:Jq) (u:Vc):Vc:=λi=>lsum ((↑32).map λ(w:Nat)=>u w*vec (ixD B (w:Int)) i)
def zek (n:Nat) (B S:Jq):Jq:=mark B++List.map (λ(x:Ji)=>x++zch (n:Int) [(0:Int)]) S
section
variable {n m:Nat} {B S ss:Jq} {u v:Vc}
theorem zje (x:Int) (i:Nat):Snd B (λj=>u j+x*v j) i=Snd B u i+x*Snd B v i:=by
 unfold Snd
 rw [← zfl,← zjQ]
 exact zbm λa _=>by rw [Int.add_mul,Int.mul_assoc]
theorem zhQ (i:Nat):Snd B (λ_=>0) i=0:=by
 unfold Snd
 rw [show ((↑32).map λ(w:Nat)=>(0:Int)*vec (ixD B (w:Int)) i)=(↑32).map λ_=>(0:Int) from List.map_congr_left λa _=>Int.zero_mul _]
 exact zdI _
theorem zfP {f:Nat->Int} {k:Nat}:∀ {l:List Nat},l.Nodup->k∈l->lsum (l.map λw=>(if w=k then (1:Int) else 0)*f w)=f k
 | [],_,h=>absurd h (by simp)
 | a :: l,hn,h=>by
  obtain ⟨h1,h2⟩:=List.nodup_cons.mp hn
  show (if a=k then (1:Int) else 0)*f a+lsum (l.map λw=>(if w=k then (1:Int) else 0)*f w)=f k
  by_cases q:a=k
  ·subst q
   have z:(l.map λw=>(if w=a then (1:Int) else 0)*f w)=l.map λ_=>(0:Int):=List.map_congr_left λw hw=>by
    rw [if_neg (show ¬ w=a from λe=>h1 (by rw [← e];exact hw))];exact Int.zero_mul _
   rw [z,zdI,if_pos rfl];omega
  ·rw [if_neg q,zfP h2 ((List.mem_cons.mp h).resolve_left λe=>q e.symm)];omega
theorem zpr {k:Nat} (hk:k<B.length) (i:Nat):Snd B (λw=>if w=k then 1 else 0) i=vec (ixD B (k:Int)) i:=by
 unfold Snd
 exact zfP (f:=λw=>vec (ixD B (w:Int)) i) List.nodup_range (List.mem_range.mpr hk)
theorem zoa (hB:∀ r∈B,r.length=m) {i:Nat} (hi:m≤i):Snd B u i=0:=by
 unfold Snd
 rw [show ((↑32).map λ(w:Nat)=>u w*vec (ixD B (w:Int)) i)=(↑32).map λ_=>(0:Int) from List.map_congr_left λa ha=>by
  rw [zbL (by rw [hB _ (ze2 (List.mem_range.mp ha))];exact hi)];exact Int.mul_zero _]
 exact zdI _
theorem zjn {A:Vc->Prop} {g:Nat->Vc} {c:Nat->Int}:∀ {l:List Nat},(∀ w∈l,Sp A (g w))->Sp A (λi=>lsum (l.map λw=>c w*g w i))
 | [],_=>Sp.zero.conv λ_=>rfl
 | a :: l,h=>((((h a List.mem_cons_self)).smul (c a)).plus (zjn λw hw=>h w (List.mem_cons_of_mem _ hw))).conv λ_=>rfl
theorem zgy {x:Ji}:vec (x++zch (n:Int) [(0:Int)])=vec x:=by
 funext i
 rw [zdV,zeG]
 split
 ·rfl
 ·exact (zbL ↑0).symm
theorem zl5 (hn:B.length=n) (hB:∀ r∈B,r.length=m) (hS:∀ r∈S,r.length=m) (h:SpL (zek n B S) u):SpL S (λi=>(if i<m then u i else 0)-Snd B (λw=>u (m+w)) i):=by
 refine Sp.image (A:=λa=>∃ s∈zek n B S,a=vec s) (B:=λa=>∃ s∈S,a=vec s) (g:=λu i=>(if i<m then u i else 0)-Snd B (λw=>u (m+w)) i) (λi=>?_) (λu a x i=>?_) (λa ha=>?_) h
 ·show (if i<m then (0:Int) else 0)-Snd B (λ_=>0) i=0
  rw [zhQ];split<;>rfl
 ·show (if i<m then u i+x*a i else 0)-Snd B (λw=>u (m+w)+x*a (m+w)) i=_
  rw [zje x i]
  show _=(if i<m then u i else 0)-Snd B (λw=>u (m+w)) i+x*((if i<m then a i else 0)-Snd B (λw=>a (m+w)) i)
  rw [Int.mul_sub]
  split<;>omega
 ·obtain ⟨s,hs,rfl⟩:=ha
  rcases List.mem_append.mp hs with hs | hs
  ·obtain ⟨k,r,hr,rfl⟩:=zg2 hs
   obtain ⟨k1,k2⟩:=zqn hr
   have hl:=hB r (List.mem_of_getElem? hr)
   refine Sp.zero.conv λi=>?_
   have e:(λw=>vec (r++zf8 B.length (k:Int)) (m+w))=λw=>if w=k then 1 else 0:=funext λw=>by
    rw [zdV,hl,if_neg ↑0,Nat.add_sub_cancel_left,zjA k1]
   show (0:Int)=(if i<m then vec (r++zf8 B.length (k:Int)) i else 0)-Snd B (λw=>vec (r++zf8 B.length (k:Int)) (m+w)) i
   rw [e,zpr k1,k2]
   by_cases q:i<m
   ·rw [if_pos q,zdV,hl,if_pos q];omega
   ·rw [if_neg q,zbL (l:=r) ↑0];rfl
  ·obtain ⟨t,ht,rfl⟩:=List.mem_map.mp hs
   refine Sp.conv (A:=λa=>∃ s∈S,a=vec s) (SpL.mem ht) λi=>?_
   have e:(λw=>vec (t++zch (n:Int) [(0:Int)]) (m+w))=λ_=>0:=funext λw=>by
    rw [zgy];exact zbL (by rw [hS t ht];omega)
   show vec t i=(if i<m then vec (t++zch (n:Int) [(0:Int)]) i else 0)-Snd B (λw=>vec (t++zch (n:Int) [(0:Int)]) (m+w)) i
   rw [e,zhQ,zgy]
   by_cases q:i<m
   ·rw [if_pos q];omega
   ·rw [if_neg q,zbL (by rw [hS t ht];omega)];rfl
theorem zri (hn:B.length=n) (hB:∀ r∈B,r.length=m) (hS:∀ r∈S,r.length=m) (St:Stairs (m+n) (zek n B S) ss) :
  Ech n 0 (zgp m ss)∧Red (zgp m ss)∧(∀ t∈zgp m ss,SpL S (Snd B (vec t)))∧∀ x:Ji,x.length=n->SpL S (Snd B (vec x))->SpL (zgp m ss) (vec x):=by
 refine ⟨by have:=zh2 St.ech;exact this.mono (Nat.zero_le _),zh7 St.ech St.red,λt ht=>?_,λx hx h=>?_⟩
 ·obtain ⟨s,hs,h1,rfl⟩:=ziH ht
  refine ((zl5 hn hB hS (St.inn s hs)).smul (-1)).conv λi=>?_
  have e:(λw=>vec s (m+w))=vec (s.drop m):=funext λw=>zeb.symm
  show -1*((if i<m then vec s i else 0)-Snd B (λw=>vec s (m+w)) i)=Snd B (vec (s.drop m)) i
  rw [e]
  by_cases q:i<m
  ·rw [if_pos q,zbA ↑0];omega
  ·rw [if_neg q];omega
 ·have a1:SpL (zek n B S) (λi=>lsum ((↑32).map λw=>vec x w*vec (ixD B (w:Int)++zf8 B.length (w:Int)) i)):=zjn (g:=λw=>vec (ixD B (w:Int)++zf8 B.length (w:Int))) λw hw=>by
   have hw:=List.mem_range.mp hw
   refine SpL.mem (List.mem_append_left _ (zkM (List.getElem?_eq_getElem hw ▸ ?_)))
   rw [zbJ (List.getElem?_eq_getElem hw)]
  have a2:SpL (zek n B S) (Snd B (vec x)):=SpL.sub (λs hs=>by
   have:=SpL.mem (ss:=zek n B S) (List.mem_append_right _ (List.mem_map.mpr ⟨s,hs,rfl⟩))
   rwa [zgy] at this) h
  have a3:SpL (zek n B S) (λi=>if i<m then 0 else vec x (i-m)):=(Sp.lin 1 (-1) a1 a2).conv λi=>by
   have e:lsum ((↑32).map λw=>vec x w*vec (ixD B (w:Int)++zf8 B.length (w:Int)) i)=if i<m then Snd B (vec x) i else lsum ((↑32).map λw=>(if w=i-m then (1:Int) else 0)*vec x w):=by
    by_cases q:i<m
    ·rw [if_pos q]
     exact zbm λw hw=>by rw [zdV,hB _ (ze2 (List.mem_range.mp hw)),if_pos q]
    ·rw [if_neg q]
     refine zbm λw hw=>?_
     have hw:=List.mem_range.mp hw
     rw [zdV,hB _ (ze2 hw),if_neg q,zjA hw,Int.mul_comm]
     by_cases z:i-m=w
     ·rw [if_pos z,if_pos z.symm]
     ·rw [if_neg z,if_neg λk=>z k.symm]
   rw [e]
   by_cases q:i<m
   ·rw [if_pos q,if_pos q];omega
   ·rw [if_neg q,if_neg q,zoa hB ↑0]
    by_cases z:i-m<B.length
    ·rw [zfP (f:=vec x) List.nodup_range (List.mem_range.mpr z)];omega
    ·rw [zbL (l:=x) ↑0,show ((↑32).map λw=>(if w=i-m then (1:Int) else 0)*vec x w)=(↑32).map λ_=>(0:Int) from List.map_congr_left λw hw=>by
      rw [if_neg (by have:=List.mem_range.mp hw;omega)];exact Int.zero_mul _,zdI]
     rfl
  have a4:=zkT (n:=m) St.ech (SpL.sub St.out a3) λi hi=>if_pos hi
  have a5:=Sp.image (B:=λa=>∃ s∈zgp m ss,a=vec s) (g:=λu i=>u (m+i)) ↥3 (λ_ _ _ _=>rfl) (λa ⟨s,hs,e⟩=>by
   refine Sp.mem ⟨s.drop m,List.mem_map.mpr ⟨s,hs,rfl⟩,?_⟩
   rw [e];funext i;exact zeb.symm) a4
  refine Sp.conv a5 λi=>?_
  ·show (if m+i<m then 0 else vec x (m+i-m))=vec x i
   rw [if_neg ↑0,Nat.add_sub_cancel_left]
end
section
variable {n k s:Nat}
theorem zft {t u:Ji} {i:Nat} (h:i<t.length):vec (t++u) i=vec t i:=by rw [zdV,if_pos h]
theorem zkV {t u:Ji} (h:hd t<t.length):hd (t++u)=hd t:=zkw (by rw [zft h];exact zhv h) λi hi=>by rw [zft ↑0];exact zbA hi
theorem znX:∀ {is:Ji} {ss:Jq} {lo:Nat},Ech n lo ss->Ech (n+k) lo (List.map (λ(x:Int×Ji)=>x.2++zf8 k x.1) (List.zip is ss))
 | [],_,_,_=>by rw [List.zip_nil_left];trivial
 | _ :: _,[],_,_=>trivial
 | i :: is,t :: ss,lo,⟨h1,h2,h3,h4,h5⟩=>by
  have e:=zkV (t:=t) (u:=zf8 k i) ↑0
  exact ⟨by rw [List.length_append,h1,zhN],by show lo≤hd (t++zf8 k i);rw [e];exact h2,by show hd (t++zf8 k i)<_;rw [e];omega,by show 0<vec (t++zf8 k i) (hd (t++zf8 k i));rw [e,zft ↑0];exact h4,by show Ech _ (hd (t++zf8 k i)+1) _;rw [e];exact znX h5⟩
theorem zmQ:∀ {is:Ji} {ss:Jq} {lo:Nat},Ech n lo ss->Red ss->Red (List.map (λ(x:Int×Ji)=>x.2++zf8 k x.1) (List.zip is ss))
 | [],_,_,_,_=>by rw [List.zip_nil_left];trivial
 | _ :: _,[],_,_,_=>trivial
 | i :: is,t :: ss,lo,⟨h1,h2,h3,h4,h5⟩,⟨r1,r2⟩=>⟨λy hy=>by
   obtain ⟨p,hp,rfl⟩:=List.mem_map.mp hy
   have hm:=((List.of_mem_zip hp)).2
   have:=h5.mem _ hm
   show 0≤vec (t++zf8 k i) (hd (p.2++zf8 k p.1))∧vec (t++zf8 k i) (hd (p.2++zf8 k p.1))<vec (p.2++zf8 k p.1) (hd (p.2++zf8 k p.1))
   rw [zkV ↑0,zft ↑0,zft ↑0]
   exact r1 _ hm,zmQ h5 r2⟩
theorem Cb.mark {ss:Jq} (hn:n+ss.length≤9) (hs:s≤200000) (e:Ech n 0 ss) (r:Red ss) (h:∀ t∈ss,Sd n s t):Cb (n+ss.length) s (mark ss):=by
 refine Cb.self hn hs (znX (k:=ss.length) e) (zmQ e r) λy hy=>?_
 obtain ⟨i,t,ht,rfl⟩:=zg2 hy
 have T:=h t (List.mem_of_getElem? ht)
 have hl:=T.len
 have hh:=T.hd
 have e:=zkV (t:=t) (u:=zf8 ss.length (i:Int)) ↑0
 refine ⟨by rw [List.length_append,hl,zhN],by rw [e];omega,by rw [e,zft ↑0];exact T.pos,by rw [e,zft ↑0];exact T.top,λy hy=>?_⟩
 rcases List.mem_append.mp hy with hy | hy
 ·exact T.bit y hy
 ·exact zlM y hy
end
end Lat
namespace L2
open PySem PySem.Spec PyProof.Rows
theorem zg7 {X:Cx} {CX:CXT} {k:Nat} {C:Addr} {ps:List Str} {sp:Sp} {E:XK} {m:Str} {pos apos:Pos} {o:Expr} {ta:TE} {pl:Sem Bool} (he:PE X o ta) (c:Cls X.K C) (F:CalleeM X.prog X.w X.K X.mg X.base CX k C m ps sp) (hr:Room k X.A) (hx:zgj CX X E)
  (ht:eval (.Call (.Attribute o m apos) [] [] pos) X.env=(do
   let ov ← eval o X.env
   standAt apos.atName
   let (f,first) ← holding [ov] (getMethod ov m pl)
   callWith pos f first (backTo pos (starEach [] X.env)) (backToKw pos (keywordEach [] X.env))):=by rfl) :
  PE X (.Call (.Attribute o m apos) [] [] pos) (zox C m sp [] E ta tNil):=by
 obtain ⟨f,fd,G,hm,hb⟩:=F.ex
 exact zpu he c hm G hr hb .nil hx ht
end L2
namespace L2
open PySem PySem.Spec PyProof.Rows
theorem zko {α β:Type} {R:α->β->Prop}:∀ {xs:List α} {ys:List β},xs.length=ys.length->(∀ (i:Nat) (y:β),ys[i]?=some y->∃ x,xs[i]?=some x∧R x y)->Paired R xs ys
 | [],[],_,_=>.nil
 | x :: xs,y :: ys,h,k=>by
  obtain ⟨z,e,r⟩:=k 0 y rfl
  cases e
  exact .cons r (zko (by simpa using h) λi y hy=>k (i+1) y hy)
 | [],_ :: _,h,_=>by simp at h
 | _ :: _,[],h,_=>by simp at h
def tLR (ta:TA):TE:=λσ H Q=>ta σ H λvs H1=>∃ j:Int,vs=[.int j]∧0≤j∧j≤1000∧∀ l,H1 l=none->Q (.ref l) (upd H1 l (.lst ((za6 0 j.toNat).map V.int)))
theorem ziZ {X:Cx} {a:Expr} {ta:TA} {p q pos pos2:Pos} (hc:X.calm=true) (hl:Gl X "list") (ml:X.mg "list"=none) (hg:Gl X "range") (hm:X.mg "range"=none) (ha:PA X [a] ta) (hs:starEach [a] X.env=[(false,eval a X.env)]:=by rfl) (hs2:starEach [.Call (.Name "range" q) [a] [] pos2] X.env=[(false,eval (.Call (.Name "range" q) [a] [] pos2) X.env)]:=by rfl) :
  PE X (.Call (.Name "list" p) [.Call (.Name "range" q) [a] [] pos2] [] pos) (tLR ta):=by
 intro pins s σ H Q I h
 refine wpAny_Call_Name_kw (zhx I hl ml boot_list ?_)
 refine PyProof.Rows.callWith_type1 ?_ hs2 rfl
 rw [hs2]
 show wpAny _ _ (spliced [(false,eval _ X.env)]) _ _ s
 refine Calls.spliced_cons ?_
 refine Call_ (zhx I hg hm boot_range (PyProof.Rows.callWith_type1 (thn (ha pos2 pins s σ H _ I h) λus s1 ⟨vs,H1,I1,r1,q1⟩=>?_) hs rfl))
 obtain ⟨j,e,q1,q2,q⟩:=q1
 subst e
 cases r1 with
 | cons r rr =>
  cases rr
  obtain ⟨t,rfl⟩:=r
  refine call_range_1 (Calls.spliced_nil ?_)
  refine call_list_range (n:=j.toNat) (I1.ok.hd hc) (IsRange.new ..) (small_one ↑1 ↑1 ↑0 ↑0) (by rw [rangeSize_one];split<;>omega) ↑0 λh' tk acc c' kp e it=>?_
  obtain ⟨z1,z2⟩:=it
  have I2:=I1.kept (h':=s1.heap.push { cls:=.type "range",data:=.fields #[.int 0 s1.toks,.int j t,.int 1 (s1.toks+1)] }) (t':=s1.toks+1+1) λb o e=>Heap.get?_push_of_some _ e
  have vl:zct ((za6 0 j.toNat).map V.int) acc.toList:=by
   refine zko (by rw [List.length_map,zaY,Array.length_toList,z1]) λi v hv=>?_
   obtain ⟨tk,rfl⟩:=z2 i v (by rw [← Array.getElem?_toList];exact hv)
   have hi:i<j.toNat:=by
    have:=(List.getElem?_eq_some_iff.mp hv).1
    rw [Array.length_toList,z1] at this;exact this
   refine ⟨.int (0+(i:Int)),by unfold za6;rw [List.map_map,List.getElem?_map,List.getElem?_range hi];rfl,tk,?_⟩
   rw [Int.mul_one]
  exact ⟨.ref _,_,I2.laid (t':=tk) kp ↥7 (show zfv X.prog X.w _ h' _ (.lst _) from ⟨zan (by rw [List.length_map,zaY];omega),acc.toList,c',vl,by rw [Array.toArray_toList];exact e⟩),rfl,q _ (I2.hok.fresh ↥7)⟩
theorem zi4 {Γ:Ctx} {t:TE} {m:Bool} {n:Int} (h:Ev Γ t false (dI n)) (hn:0≤n∧n≤1000):EvO Γ (tLR (tCons t tNil)) m ((za6 0 n.toNat).map dI):=λF0 Hb F H σ own Q a k =>
 h F0 Hb F H σ own _ a λv F1 H1 g1 q1=>⟨n,by rw [show v=V.int n from q1],hn.1,hn.2,λl hl=>by
  obtain ⟨h1,h2,h3⟩:=a.free g1 hl
  exact k l _ F1 _ (g1.newH hl) h1 h2 zaG zjO⟩
theorem zo3 {Γ:Ctx} {te:TE} {α:Type} [Inhabited α] {f:α->Ds} {x:Option (List α)} (h:EvN Γ te (dOpt (λxs=>dL (xs.map f)) x)) (hs:x.isSome=true):EvW Γ te (gS x).length:=by
 cases x with
 | none=>cases hs
 | some v=>exact zlS h
end L2
set_option maxHeartbeats 4000000
set_option maxRecDepth 100000
set_option maxHeartbeats 4000000
namespace My
open PySem L2
def top (i:Nat):Stmt:=PySem.Challenge.pw_swapbook_k76_whole_what_is_lost_behind.main.body.getD i (.Pass ⟨0,0,0,0⟩)
abbrev zcq:Stmt:=top 14
abbrev zix:Stmt:=top 15
abbrev ziw:Stmt:=top 16
abbrev zgm:Stmt:=top 17
abbrev zeE:Stmt:=top 18
abbrev zbV:Stmt:=zfj (top 22) 0
abbrev ze9:Stmt:=top 23
abbrev zbx:Stmt:=top 24
abbrev zfa:Stmt:=top 26
abbrev zf3:Stmt:=top 27
abbrev zfd:Stmt:=top 28
abbrev ze7:Stmt:=top 29
abbrev zf7:Stmt:=top 30
abbrev zex:Stmt:=top 31
abbrev zfg:Stmt:=top 32
abbrev ze5:Stmt:=top 33
abbrev zfX:Stmt:=top 34
abbrev zfp:Stmt:=top 35
abbrev zf0:Stmt:=top 36
abbrev zgo:Stmt:=top 37
abbrev zfh:Stmt:=top 38
abbrev zey:Stmt:=top 43
abbrev zfE:Stmt:=top 46
abbrev zbp:Stmt:=top 48
abbrev zby:Stmt:=top 49
abbrev zbv:Stmt:=zfj (top 50) 0
abbrev zdg:Stmt:=zfj (top 50) 1
abbrev zcM:Stmt:=zfj (top 50) 2
abbrev zda:Stmt:=zfj (top 50) 3
abbrev zdy:Stmt:=zfj (top 50) 4
abbrev zc9:Stmt:=zfj (top 50) 5
abbrev zbZ:Stmt:=zfj (top 50) 6
abbrev zbR:Stmt:=zfj (top 52) 0
abbrev zd1:Stmt:=top 53
abbrev zja:Stmt:=top 55
abbrev zbl:Stmt:=top 57
abbrev zfW:Stmt:=top 58
abbrev zew:Stmt:=top 60
abbrev ze6:Stmt:=top 61
abbrev zdU:Stmt:=top 62
abbrev zcd:Stmt:=top 63
abbrev zc8:Stmt:=top 64
abbrev zbC:Stmt:=top 65
abbrev zeA:Stmt:=top 66
abbrev zdz:Stmt:=top 67
abbrev zcX:Stmt:=top 68
abbrev zbF:Stmt:=top 69
abbrev zes:Stmt:=top 70
abbrev zdS:Stmt:=top 71
abbrev zdO:Stmt:=top 72
abbrev zeu:Stmt:=top 73
abbrev zev:Stmt:=top 74
abbrev zdr:Stmt:=top 75
abbrev zgL:Stmt:=top 76
abbrev lI:Ji->Ds:=λxs=>dL (List.map dI xs)
structure Adr where
 no:Unit:=()
 Book:Addr
 Scale:Addr
 Line:Addr
 Rest:Addr
 Sender:Addr
 Stairs:Addr
structure BookD where
 many:Int
 swaps:Jq
 deriving Inhabited
def zaM (C:Addr) (b:BookD):Ds:=dO C [("many",dI b.many),("swaps",dL (List.map lI b.swaps))]
structure ScaleD where
 weights:Ji
 deriving Inhabited
structure LineD where
 weights:Ji
 deriving Inhabited
def ztV (C:Addr) (b:LineD):Ds:=dO C [("weights",dL (List.map dI b.weights))]
structure RestD where
 weights:Ji
 rest:Int
 deriving Inhabited
def ztK (C:Addr) (b:RestD):Ds:=dO C [("weights",dL (List.map dI b.weights)),("rest",dI b.rest)]
structure SenderD where
 first:BookD
 second:BookD
 baskets:Jq
 deriving Inhabited
def zaQ (A:Adr) (C:Addr) (b:SenderD):Ds:=dO C [("first",zaM A.Book b.first),("second",zaM A.Book b.second),("baskets",dL (List.map lI b.baskets))]
structure StairsD where
 steps:Jq
 heads:Ji
 roads:Jq
 deriving Inhabited
def zhb (C:Addr) (b:StairsD):Ds:=dO C [("steps",dL (List.map lI b.steps)),("heads",dL (List.map dI b.heads)),("roads",dL (List.map lI b.roads))]
instance:Inhabited (LineD ⊕ RestD):=⟨.inl default⟩
def dSc (A:Adr):LineD ⊕ RestD->Ds
 | .inl l=>ztV A.Line l
 | .inr r=>ztK A.Rest r
theorem ztR {A:Adr}:NN (dSc A):=λx H v h=>match x,h with
 | .inl l,h=>NN.obj (f:=λ(b:LineD)=>[("weights",dL (List.map dI b.weights))]) l H v h
 | .inr r,h=>NN.obj (f:=λ(b:RestD)=>[("weights",dL (List.map dI b.weights)),("rest",dI b.rest)]) r H v h
structure Txt (K:W.Frag) (mg:Str->Option Value) (A:Adr):Prop where
 any:mg "any"=none
 enumerate:mg "enumerate"=none
 int:mg "int"=none
 len:mg "len"=none
 list:mg "list"=none
 max:mg "max"=none
 range:mg "range"=none
 reversed:mg "reversed"=none
 sum:mg "sum"=none
 zip:mg "zip"=none
 Book:mg "Book"=some (.ref A.Book)
 Book_cl:Cls K A.Book
 Book_many:NoAttr K A.Book "many"
 Book_swaps:NoAttr K A.Book "swaps"
 Scale:mg "Scale"=some (.ref A.Scale)
 Scale_cl:Cls K A.Scale
 Scale_weights:NoAttr K A.Scale "weights"
 Line:mg "Line"=some (.ref A.Line)
 Line_cl:Cls K A.Line
 Line_weights:NoAttr K A.Line "weights"
 Rest:mg "Rest"=some (.ref A.Rest)
 Rest_cl:Cls K A.Rest
 Rest_weights:NoAttr K A.Rest "weights"
 Rest_rest:NoAttr K A.Rest "rest"
 Sender:mg "Sender"=some (.ref A.Sender)
 Sender_cl:Cls K A.Sender
 Sender_first:NoAttr K A.Sender "first"
 Sender_second:NoAttr K A.Sender "second"
 Sender_baskets:NoAttr K A.Sender "baskets"
 Stairs:mg "Stairs"=some (.ref A.Stairs)
 Stairs_cl:Cls K A.Stairs
 Stairs_steps:NoAttr K A.Stairs "steps"
 Stairs_heads:NoAttr K A.Stairs "heads"
 Stairs_roads:NoAttr K A.Stairs "roads"
 g_MOST_WARES:∃ t,mg "MOST_WARES"=some (.int 8 t)
 g_MOST_SWAPS:∃ t,mg "MOST_SWAPS"=some (.int 12 t)
section
variable {P:Program} {w:World} {K:W.Frag} {mg:Str->Option Value} {base:Heap} {f:Addr} {fd:FuncData} {A:Adr}
def zfL (P0:Ji) (P1:Ji):Unit:=()
def zbO (P0:Ji) (P1:Ji):Prop:=P0.length=P1.length
def zcE (K:W.Frag) (A:Adr):Sp:=Spv (ι:=Ji×Ji) ↑99 (λx=>zbO x.1 x.2) (λx=> ↥[dN])
theorem zhK:FnScope ⇑4 ⇑4 (zaf zcq):=↑4
theorem zhD (F:Fun K "refuse_unlike" "refuse_unlike" zcq f fd) (T:Txt K mg A) :FnOk P w K mg base ⇑1 1 f fd ⇑4 (zcE K A):=by
 refine F.okV zhK ↥3 ↑6
 obtain ⟨P0,P1⟩:=x
 have hu:=hr.units
 replace hp:zbO P0 P1:=hp
 unfold zbO at hp
 refine ⟨_,(zac (zcD (zaI zhk ↑88 ↑70 (zaW _)) (zac zde zah) zah) zah),.inr ⟨_,([⇑[dQ K ↑16],⇑[dQ K ↑7]]:L2.Ctx),rfl,?_⟩⟩
 show L2.Run _ ([⇑[dQ K ↑16],⇑[dQ K ↑7]]:L2.Ctx) _ _
 exact (zbD (EvT.conv (zaA (zfz (x:=↑19) (y:=((P1.length:Nat):Int)) (zbb (f:=dI) (xs:=P0) ↑2) (zbb (f:=dI) (xs:=P1) ⇑2))) ↑116) (zay (zau (Wk.refl _))))
def ze3 (P0:Ji) (P1:Ji):Ji :=
 (List.map (λ(x2:(Int×Int))=>(x2.1+x2.2)) (List.zip P0 P1))
def zfs (P0:Ji) (P1:Ji):Prop:=P0.length=P1.length∧P0.length≤1000
def zjd (K:W.Frag) (A:Adr):Sp:=Spv (ι:=Ji×Ji) ↑99 (λx=>zfs x.1 x.2) (λx=>.ow true (List.map dI (ze3 x.1 x.2)))
theorem zrw:FnScope ⇑4 ⇑4 (zaf zix):=↑4
theorem zqB (F:Fun K "plus" "plus" zix f fd) (T:Txt K mg A) (yai:Callee P w K mg base ⇑1 1 "refuse_unlike" ⇑4 (zcE K A)):FnOk P w K mg base ⇑1 2 f fd ⇑4 (zjd K A):=by
 refine F.okV zrw ↥3 ↑6
 obtain ⟨P0,P1⟩:=x
 have hu:=hr.units
 replace hp:zfs P0 P1:=hp
 unfold zfs at hp
 refine ⟨_,(zac (zci (zaF yai ↥1 rfl zav ↑[pv 0,pv 1])) (zac (zaO (zcf rfl (.of (osc:=(zaf zix)) (N:=⇑4) (own:=["a","b"]) (fvn:=[]) (fv:=[]) rfl rfl ↥5) (zd9 (K:=K) rfl rfl T.zip ↑[pv 0,pv 1]) (λ_ _ _ _ _=>⟨↑115,zbc,(zaD zcH (pv 0) (pv 1))⟩))) zah)),.inl ?_⟩
 show L2.Run _ ([⇑[dQ K ↑16],⇑[dQ K ↑7]]:L2.Ctx) _ ((λr=>Oc.rl true (List.map dI r)) (ze3 P0 P1))
 unfold ze3
 exact (zd4 (m:=true) ↑126 (zf1 (zjm (EvO.conv (zbS (g:=(λ(x2:(Int×Int))=>dI (x2.1+x2.2))) (zgk (m:=false) dI dI (xs:=P0) (ys:=P1) ↑2 ⇑2) ↥(zan (by rw [List.length_zip];omega)) ↑5 (λi3 x2 hx4=>have qhx4:=zdw hx4;(za0 (x:=x2.1) (y:=x2.2) ↥9 ⇑7))) ↑8))))
def zfx (P0:Ji) (P1:Ji):Ji :=
 (List.map (λ(x5:(Int×Int))=>(x5.1-x5.2)) (List.zip P0 P1))
def zfu (P0:Ji) (P1:Ji):Prop:=P0.length=P1.length∧P0.length≤1000
def zjr (K:W.Frag) (A:Adr):Sp:=Spv (ι:=Ji×Ji) ↑99 (λx=>zfu x.1 x.2) (λx=>.ow true (List.map dI (zfx x.1 x.2)))
theorem zrC:FnScope ⇑4 ⇑4 (zaf ziw):=↑4
theorem zqz (F:Fun K "less" "less" ziw f fd) (T:Txt K mg A) (yai:Callee P w K mg base ⇑1 1 "refuse_unlike" ⇑4 (zcE K A)):FnOk P w K mg base ⇑1 2 f fd ⇑4 (zjr K A):=by
 refine F.okV zrC ↥3 ↑6
 obtain ⟨P0,P1⟩:=x
 have hu:=hr.units
 replace hp:zfu P0 P1:=hp
 unfold zfu at hp
 refine ⟨_,(zac (zci (zaF yai ↥1 rfl zav ↑[pv 0,pv 1])) (zac (zaO (zcf rfl (.of (osc:=(zaf ziw)) (N:=⇑4) (own:=["a","b"]) (fvn:=[]) (fv:=[]) rfl rfl ↥5) (zd9 (K:=K) rfl rfl T.zip ↑[pv 0,pv 1]) (λ_ _ _ _ _=>⟨↑115,zbc,(zaD zfy (pv 0) (pv 1))⟩))) zah)),.inl ?_⟩
 show L2.Run _ ([⇑[dQ K ↑16],⇑[dQ K ↑7]]:L2.Ctx) _ ((λr=>Oc.rl true (List.map dI r)) (zfx P0 P1))
 unfold zfx
 exact (zd4 (m:=true) ↑126 (zf1 (zjm (EvO.conv (zbS (g:=(λ(x5:(Int×Int))=>dI (x5.1-x5.2))) (zgk (m:=false) dI dI (xs:=P0) (ys:=P1) ↑2 ⇑2) ↥(zan (by rw [List.length_zip];omega)) ↑5 (λi6 x5 hx7=>have qhx7:=zdw hx7;(za0 (x:=x5.1) (y:=x5.2) ↥9 ⇑7))) ↑8))))
def zaq (P0:Ji) (P1:Int):Ji :=
 (List.map (λ(x8:Int)=>(x8*P1)) P0)
def zb0 (P0:Ji) (P1:Int):Prop:=P0.length≤1000∧∀ x∈P0,zeI x P1
def zeM (K:W.Frag) (A:Adr):Sp:=Spv (ι:=Ji×Int) (λx=>[dQ K (List.map dI x.1),dI x.2]) (λx=>zb0 x.1 x.2) (λx=>.ow true (List.map dI (zaq x.1 x.2)))
theorem zoR:FnScope ["some","many"] ["some","many"] (zaf zgm):=↑4
theorem zo0 (F:Fun K "times" "times" zgm f fd) (T:Txt K mg A) :FnOk P w K mg base ⇑1 1 f fd ["some","many"] (zeM K A):=by
 refine F.okV zoR ↥3 ↑6
 obtain ⟨P0,P1⟩:=x
 have hu:=hr.units
 replace hp:zb0 P0 P1:=hp
 unfold zb0 at hp
 refine ⟨_,(zac (zaO (zcf rfl (.of (osc:=(zaf zgm)) (N:=["some","many"]) (own:=["number"]) (fvn:=["many"]) (fv:=[1]) rfl rfl ↥5) (zaZ (K:=K) rfl (pv 0)) (λ_ _ _ _ _=>⟨(zao (i:=0) (show (["number","many"]:List Str).Nodup by decide +kernel) rfl ⇑0 ↥6),zbc,(zaD zbK (pv 0) (pv 1))⟩))) zah),.inl ?_⟩
 show L2.Run _ ([⇑[dQ K ↑16],⇑[dI P1]]:L2.Ctx) _ ((λr=>Oc.rl true (List.map dI r)) (zaq P0 P1))
 unfold zaq
 exact (zf1 (zjm (EvO.conv (zbS (g:=(λ(x8:Int)=>dI (x8*P1))) (zbG (m:=false) dI (xs:=P0) ↑2) ↥(zan ↑0) ↑5 (λi9 x8 hx10=>have v10:=List.mem_of_getElem? hx10;(zaT (x:=x8) (y:=P1) ↥9 ⇑7 ↥(hp.2 _ (List.mem_of_getElem? ↥0))))) ↑8)))
theorem zl4 {α:Type} {xs:List α} {i:Nat} {p:Int×α} (h:(zfB xs)[i]?=some p):p.2∈xs:=List.mem_of_getElem? (zdG h).2.2
def zcY (P0:Ji) (P1:Ji):Int :=
 ((List.map (λ(x11:(Int×Int))=>(x11.1*x11.2)) (List.zip P0 P1))).sum
def zeB (P0:Ji) (P1:Ji):Prop:=P0.length=P1.length∧P0.length≤1000∧∀ p∈List.zip P0 P1,zeI p.1 p.2
def zhg (K:W.Frag) (A:Adr):Sp:=Spv (ι:=Ji×Ji) ↑99 (λx=>zeB x.1 x.2) (λx=>↥[dI (zcY x.1 x.2)])
theorem zmh:FnScope ⇑4 ⇑4 (zaf zeE):=↑4
theorem zmD (F:Fun K "weighed" "weighed" zeE f fd) (T:Txt K mg A) (yai:Callee P w K mg base ⇑1 1 "refuse_unlike" ⇑4 (zcE K A)):FnOk P w K mg base ⇑1 2 f fd ⇑4 (zhg K A):=by
 refine F.okV zmh ↥3 ↑6
 obtain ⟨P0,P1⟩:=x
 have hu:=hr.units
 replace hp:zeB P0 P1:=hp
 unfold zeB at hp
 refine ⟨_,(zac (zci (zaF yai ↥1 rfl zav ↑[pv 0,pv 1])) (zac (zaO (zaK (zmL (K:=K) rfl rfl) rfl T.sum PyProof.Rows.boot_sum ↑[(zcf rfl (.of (osc:=(zaf zeE)) (N:=⇑4) (own:=["a","b"]) (fvn:=[]) (fv:=[]) rfl rfl ↥5) (zd9 (K:=K) rfl rfl T.zip ↑[pv 0,pv 1]) (λ_ _ _ _ _=>⟨↑115,zbc,(zaD zbK (pv 0) (pv 1))⟩))])) zah)),.inl ?_⟩
 show L2.Run _ ([⇑[dQ K ↑16],⇑[dQ K ↑7]]:L2.Ctx) _ (↑20 (zcY P0 P1))
 unfold zcY
 exact (zd4 (m:=true) ↑126 (zal (zaE (zs0 (xs:=(List.map (λ(x11:(Int×Int))=>(x11.1*x11.2)) (List.zip P0 P1))) (Ev.weak (K:=K) (EvO.ev (EvO.conv (zbS (g:=(λ(x11:(Int×Int))=>dI (x11.1*x11.2))) (zgk (m:=false) dI dI (xs:=P0) (ys:=P1) ↑2 ⇑2) ↥(zan (by rw [List.length_zip];omega)) ↑5 (λi12 x11 hx13=>have v13:=zdw hx13;(zaT (x:=x11.1) (y:=x11.2) ↥9 ⇑7 ↥(hp.2.2 _ (List.mem_of_getElem? ↥0))))) ↑8)))))))
theorem zmw (w t:Ji):zcY w t=Lat.dv w (Lat.vec t):=Lat.zpX w t
def zak (P0:Ji):Int :=
 (zmO (zc2 (λ(s14:Unit) (x15:(Int×Int))=>(((bif (!decide (x15.2=(0:Int))) then (Sum.inr x15.1) else (Sum.inl ()))):(Unit)⊕Int)) () (zfB P0)) (λ(r20:Unit)=>↑19) (λb=>b))
def za8 (P0:Ji):Prop:=True
def zcK (K:W.Frag) (A:Adr):Sp:=Spv (ι:=Ji) (λx=>[dQ K (List.map dI x)]) (λx=>za8 x) (λx=>↥[dI (zak x)])
theorem zg4:FnScope ["row","place","number"] ["row"] (zaf zfa):=↑4
theorem zmB (F:Fun K "head_of" "head_of" zfa f fd) (T:Txt K mg A) :FnOk P w K mg base ⇑1 1 f fd ["row"] (zcK K A):=by
 refine F.okV zg4 ↥3 ↑46
 have hu:=hr.units
 replace hp:za8 P0:=hp
 unfold za8 at hp
 refine ⟨_,(zac (zcS PassesOwn.never rfl (zhc rfl rfl T.enumerate ↑[pv 0]) (zb3 (K:=K) (n:=2) rfl rfl (zaH (zao (i:=1) zg4.nd rfl ⇑0 ⇑0) (zaH (zao (i:=2) zg4.nd rfl ⇑0 ⇑0) zcA))) (zac (zcD (zaI zhk (pv 2) zaj (zaW _)) (zac (zaO (pv 1)) zah) zah) zah)) (zac (zaO ↑88) zah)),.inl ?_⟩
 show L2.Run _ ([⇑[dQ K ↑16],.no,.no]:L2.Ctx) _ (↑20 (zak P0))
 unfold zak
 exact (zhW (s0:=()) (λ(s14:Unit)=>([⇑[dQ K ↑16],.no,.no]:L2.Ctx)) ↑20 (λb=>b) (λ(s14:Unit) (x15:(Int×Int))=>(((bif (!decide (x15.2=(0:Int))) then (Sum.inr x15.1) else (Sum.inl ()))):(Unit)⊕Int)) (λ_ _=>True) (λb=> .inl ⟨_,_,rfl⟩) (zg8 (m:=false) dI (xs:=P0) ↑2) (.eq (.eq (.eq .nil))) trivial (λi16 x15 s14 hx17 hI18=>have v17:=zdG hx17;⟨(λ_ _=>trivial),(zbo (b:=(!decide (x15.2=(0:Int)))) (zhE (λ(s14:Unit)=>([⇑[dQ K ↑16],.no,.no]:L2.Ctx)) ↑20) (zaA (zfz (x:=x15.2) (y:=(0:Int)) ↑25 zaL)) (λh19=>(zaJ (zal (zaE ⇑7)))) (λh19=>(zay (zau (.eq (.no (.no .nil)))))))⟩) (λr20 hr20 hI=>(zal (zaE (zbb (f:=dI) (xs:=P0) ↑2)))))
theorem zcN (r:Ji):zak r=(Lat.hd r:Int):=Lat.zut r
def zdL (P0:Int) (P1:Int):(T3 Int Int Int) :=
 (Let (whl (λ(s21:Int×Int×Int×Int)=>(!decide (s21.2.1=(0:Int)))) ↑140 (P1.toNat) (P0,P1,(1:Int),(0:Int))) (λ(r29:Int×Int×Int×Int)=>(T3.mk r29.1 r29.2.2.1 ((r29.1-(r29.2.2.1*P0))/P1))))
def zgb (P0:Int) (P1:Int):Prop:=Lat.zkS P0 P1
def ziC (K:W.Frag) (A:Adr):Sp:=Spv (ι:=Int×Int) (λx=>[dI x.1,dI x.2]) (λx=>zgb x.1 x.2) (λx=>↥[dT [dI ((zdL x.1 x.2).a),dI ((zdL x.1 x.2).b),dI ((zdL x.1 x.2).c)]])
theorem zcF:FnScope ["one","other","great","small","taken","later","part","left"] ⇑4 (zaf zf3):=↑4
theorem zol (F:Fun K "common" "common" zf3 f fd) (T:Txt K mg A) :FnOk P w K mg base ⇑1 1 f fd ⇑4 (ziC K A):=by
 refine F.okV zcF ↥3 ↑6
 obtain ⟨P0,P1⟩:=x
 have hu:=hr.units
 replace hp:zgb P0 P1:=hp
 unfold zgb at hp
 refine ⟨_,(zac (zat (i:=2) zcF.nd rfl ⇑0 (pv 0)) (zac (zat (i:=3) zcF.nd rfl ⇑0 (pv 1)) (zac (zat (i:=4) zcF.nd rfl ⇑0 zaj) (zac (zat (i:=5) zcF.nd rfl ⇑0 zaj) (zac (zlJ PassesOwn.never (zaI zhk (pv 3) zaj (zaW _)) (zac (zat (i:=6) zcF.nd rfl ⇑0 (zaD zcx (pv 2) (pv 3))) (zac (zat (i:=7) zcF.nd rfl ⇑0 (zaD zfy (pv 2) (zaD zbK (pv 6) (pv 3)))) (zac (zat (i:=2) zcF.nd rfl ⇑0 (pv 3)) (zac (zat (i:=3) zcF.nd rfl ⇑0 (pv 7)) (zac (zat (i:=7) zcF.nd rfl ⇑0 (zaD zfy (pv 4) (zaD zbK (pv 6) (pv 5)))) (zac (zat (i:=4) zcF.nd rfl ⇑0 (pv 5)) (zac (zat (i:=5) zcF.nd rfl ⇑0 (pv 7)) zah)))))))) (zac (zaO (zhw ↑[pv 2,pv 4,zaD zcx (zaD zfy (pv 2) (zaD zbK (pv 4) (pv 0))) (pv 1)])) zah)))))),.inl ?_⟩
 show L2.Run _ ([⇑[dI P0],⇑[dI P1],.no,.no,.no,.no,.no,.no]:L2.Ctx) _ ((λ(r:(T3 Int Int Int))=>Oc.rt true (dT [dI r.a,dI r.b,dI r.c])) (zdL P0 P1))
 unfold zdL
 exact (zcO (m:=true) ↥9 (zcO (m:=true) ⇑7 (zcO (m:=true) zaL (zcO (m:=true) zaL (zks (s0:=(P0,P1,(1:Int),(0:Int))) ↑78 (λ(r:(T3 Int Int Int))=>Oc.rt true (dT [dI r.a,dI r.b,dI r.c])) (λ(s21:Int×Int×Int×Int)=>(!decide (s21.2.1=(0:Int)))) ↑140 (λ(s21:Int×Int×Int×Int)=>Lat.GI P0 P1 s21) (λ(s21:Int×Int×Int×Int)=>(s21.2.1).toNat) (P1.toNat) (.eq (.eq ↑17)) ↥(Lat.GI.start hp.1 hp.2.1) ↥(Nat.le_refl _) (λs21 hI22=>⟨(zaA (zfz (x:=s21.2.1) (y:=(0:Int)) ↑48 zaL)),λhc23=>⟨↥(Lat.GI.step ↥0 ↥0),(zar (m:=true) (x:=(s21.1/s21.2.1)) dI (λz=>Oc.nx (↑78 z)) (zaT (x:=s21.1) (y:=s21.2.1) ↑42 ↑48 ↥(Lat.GI.div ↥0 hp ↥0)) (λv24 hv24=>(zar (m:=true) (x:=(s21.1-(v24*s21.2.1))) dI (λz=>Oc.nx (↑78 z)) (za0 (x:=s21.1) (y:=(v24*s21.2.1)) ↑42 (zaT (x:=v24) (y:=s21.2.1) ↑55 ↑48 ↥(Lat.GI.mul1 ↥0 hp ↥0 ↥0))) (λv25 hv25=>(zar (m:=true) (x:=s21.2.1) dI (λz=>Oc.nx (↑78 z)) ↑48 (λv26 hv26=>(zcO (m:=true) (Ev.any (m:=true) (zaa (i:=7) rfl)) (zar (m:=true) (x:=(s21.2.2.1-(v24*s21.2.2.2))) dI (λz=>Oc.nx (↑78 z)) (za0 (x:=s21.2.2.1) (y:=(v24*s21.2.2.2)) ↑49 (zaT (x:=v24) (y:=s21.2.2.2) ↑55 ↑10 ↥(Lat.GI.mul2 ↥0 hp ↥0 ↥0))) (λv27 hv27=>(zar (m:=true) (x:=s21.2.2.2) dI (λz=>Oc.nx (↑78 z)) ↑10 (λv28 hv28=>(zcO (m:=true) (Ev.any (m:=true) (zaa (i:=7) rfl)) (zau (.eq (.eq (.eq (.eq (.eq (.eq (.no (.no .nil)))))))))))))))))))))⟩⟩) (λr29 hr29 hI hc=>(zal (zaE (zhy (zab ↑42 (zab ↑49 (zab (zaT (x:=(r29.1-(r29.2.2.1*P0))) (y:=P1) (za0 (x:=r29.1) (y:=(r29.2.2.1*P0)) ↑42 (zaT (x:=r29.2.2.1) (y:=P0) ↑49 ↥9 ↥(Lat.GI.mul3 ↥0 hp))) ⇑7 ↥(Lat.zkS.div hp)) zag))) (by show 3≤sizeLine;decide))))))))))
theorem zn8 (a b:Int):zdL a b=Lat.cmn a b:=rfl
def zbT (P0:Ji):Ji :=
 (bif (decide ((ixD P0 (zak P0))<(0:Int))) then (zaq P0 ⇑5) else P0)
def zds (P0:Ji):Prop:=P0.length≤1000∧Lat.hd P0<P0.length
def zhj (K:W.Frag) (A:Adr):Sp:=Spv (ι:=Ji) (λx=>[dL (List.map dI x)]) (λx=>zds x) (λx=>⇑[dL (List.map dI (zbT x))])
theorem zmg:FnScope ["row"] ["row"] (zaf zfd):=↑4
theorem zmC (F:Fun K "upright" "upright" zfd f fd) (T:Txt K mg A) (yab:Callee P w K mg base ⇑1 1 "head_of" ["row"] (zcK K A)) (yah:Callee P w K mg base ⇑1 1 "times" ["some","many"] (zeM K A)):FnOk P w K mg base ⇑1 2 f fd ["row"] (zhj K A):=by
 refine F.okV zmg ↥3 ↑46
 have hu:=hr.units
 replace hp:zds P0:=hp
 unfold zds at hp
 refine ⟨_,(zac (zaO (zpc (zaI zj7 (za1 ⇑6 (pv 0) (zaF yab ↥1 rfl zav ↑[pv 0]) ↑3) zaj (zaW _)) (zaF yah ↥1 rfl zav ↑[pv 0,zm7 zjW zaj]) (pv 0))) zah),.inl ?_⟩
 show L2.Run _ ([⇑[dL ↑16]]:L2.Ctx) _ ((λ(r:Ji)=>Oc.rt false (dL (List.map dI r))) (zbT P0))
 unfold zbT
 exact (zal (zaE (zuw lI (b:=(decide ((ixD P0 (zak P0))<(0:Int)))) (x:=(zaq P0 ⇑5)) (y:=P0) (zaA (za0 (x:=(ixD P0 (zak P0))) (y:=(0:Int)) (Ev.any (m:=false) (zbg (f:=dI) (xs:=P0) ↑26 (Ev.any (m:=true) (zam (x:=P0) (zab ↑26 zag) rfl (by show za8 P0;exact trivial) rfl)) (by have:=hp.2;rw [zcN];unfold InB;omega))) zaL)) (λhb=>(EvO.ev (EvO.anyI (m:=true) (zcT (x:=(P0,⇑5)) (zab ↑26 (zab (zmX (x:=(1:Int)) zaL) zag)) rfl (by show zb0 P0 ⇑5;exact ⟨hp.1,λ_ _=>.inr (.inl ↑5)⟩) rfl)))) (λhb=>↑2))))
theorem ziS (l:Ji):zbT l=Lat.upr l:=by unfold zbT;rw [zcN,Lat.zcP];rfl
theorem zl2 (s x:Ji):Let (zak x) (λ(h:Int)=>Let ((ixD s h)/(ixD x h)) (λ(q:Int)=>Let (bif (!decide (q=(0:Int))) then (zfx s (zaq x q)) else s) (λ(y:Ji)=>y)))=Lat.zlc s x:=by
 unfold Let
 dsimp only
 rw [zcN,Lat.zcP,Lat.zcP];rfl
section
variable {n s a b i:Nat} {l t:Ji} {h q:Int} {steps:Jq}
theorem zt4 (T:Lat.Sd n s t) (e:h=(Lat.hd t:Int)) (hl:l.length=n∧Lat.Bit b l):InB l.length h:=Lat.zlB T e hl.1
theorem zlW (T:Lat.Sd n s t) (e:h=(Lat.hd t:Int)):InB t.length h:=Lat.zlB T e T.len
theorem ztk (p1:n≤1000) (p6:a+steps.length*(s+1)+s≤50000000) (hx:steps[i]?=some t) (T:∀ t∈steps,Lat.Sd n s t) (hl:l.length=n∧Lat.Bit (a+i*(s+1)) l) (e:h=(Lat.hd t:Int)) (eq:q=ixD l h/ixD t h):zb0 t q:=by
 have T1:=T t (List.mem_of_getElem? hx)
 exact ⟨by rw [T1.len];exact p1,Lat.zqm T1 e hl.2 eq (Lat.zry p6 ((List.getElem?_eq_some_iff.mp hx)).1)⟩
theorem zrj (p1:n≤1000) (T:Lat.Sd n s t) (hl:l.length=n∧Lat.Bit b l):zfu l (zaq t q):=⟨by rw [hl.1,show (zaq t q).length=t.length from Lat.zbr,T.len],by omega⟩
theorem zuk {sh:T3 Int Int Int} (e:h=(Lat.hd t:Int)) (T:Lat.Sd n s t) (h0:0<Lat.vec l (Lat.hd t)) (h1:Lat.vec l (Lat.hd t)<Lat.vec t (Lat.hd t)) (hs:sh=zdL (ixD t h) (ixD l h)):0<sh.a∧sh.a.natAbs≤2^8981∧sh.b.natAbs≤2^8980∧sh.c.natAbs≤2^17962:=by
 subst hs
 exact Lat.zp3 (Lat.zoE T e h0 h1)
theorem zqX {x y:Int} (p1:n≤1000) (h1:t.length=n) (h2:l.length=n):zfs (zaq t x) (zaq l y):=⟨by rw [show (zaq t x).length=t.length from Lat.zbr,show (zaq l y).length=l.length from Lat.zbr,h1,h2],by rw [show (zaq t x).length=t.length from Lat.zbr,h1];exact p1⟩
theorem zo9 {x y:Int} (p1:n≤1000) (h1:t.length=n) (h2:l.length=n):zfu (zaq l x) (zaq t y):=⟨by rw [show (zaq t y).length=t.length from Lat.zbr,show (zaq l x).length=l.length from Lat.zbr,h1,h2],by rw [show (zaq l x).length=l.length from Lat.zbr,h2];exact p1⟩
theorem zto (e:h=(Lat.hd t:Int)) (T:Lat.Sd n s t):(ixD t h).natAbs≤2^8980:=by subst e;rw [Lat.zcP];exact T.top
theorem zrE (e:h=(Lat.hd t:Int)) (T:Lat.Sd n s t) (h0:0<Lat.vec l (Lat.hd t)) (h1:Lat.vec l (Lat.hd t)<Lat.vec t (Lat.hd t)):(ixD l h).natAbs≤2^8980:=by subst e;rw [Lat.zcP];have:=T.top;omega
end
def m_lowered (P0:Ji) (P1:Jq):Ji :=
 (Let (List.foldl ↑143 P0 P1) (λ(r39:Ji)=>r39))
def zcw (P0:Ji) (P1:Jq):Prop:=Lat.LowP P0 P1
def zez (K:W.Frag) (A:Adr):Sp:=Spv (ι:=Ji×Jq) (λx=>[dQ K (List.map dI x.1),dQ K (List.map lI x.2)]) (λx=>zcw x.1 x.2) (λx=>↥[dL (List.map dI (m_lowered x.1 x.2))])
theorem zet:FnScope ["row","steps","left","step","head","many"] ["row","steps"] (zaf ze7):=↑4
theorem zmq (F:Fun K "lowered" "lowered" ze7 f fd) (T:Txt K mg A) (yab:Callee P w K mg base ⇑1 1 "head_of" ["row"] (zcK K A)) (ybm:Callee P w K mg base ⇑1 2 "less" ⇑4 (zjr K A)) (yah:Callee P w K mg base ⇑1 1 "times" ["some","many"] (zeM K A)):FnOk P w K mg base ⇑1 3 f fd ["row","steps"] (zez K A):=by
 refine F.okV zet ↥3 ↑6
 obtain ⟨P0,P1⟩:=x
 have hu:=hr.units
 replace hp:zcw P0 P1:=hp
 unfold zcw at hp
 obtain ⟨N0,A0,S0,p1,p2,p3,p4,p5,p6⟩:=hp
 refine ⟨_,(zac (zat (i:=2) zet.nd rfl ⇑0 ↑66) (zac (zcS PassesOwn.never rfl (zaZ (K:=K) rfl (pv 1)) (zao (i:=3) zet.nd rfl ⇑0 ⇑0) (zac (zat (i:=4) zet.nd rfl ⇑0 (zaF yab ↥1 rfl zav ↑[pv 3])) (zac (zat (i:=5) zet.nd rfl ⇑0 (zaD zcx (za1 ⇑6 (pv 2) (pv 4) ↑3) (za1 ⇑6 (pv 3) (pv 4) ↑3))) (zac (zcD (zaI zhk (pv 5) zaj (zaW _)) (zac (zat (i:=2) zet.nd rfl ⇑0 (zaF ybm ↥1 rfl zav ↑[pv 2,zaF yah ↥1 rfl zav ↑[pv 3,pv 5]])) zah) zah) zah)))) (zac (zaO (pv 2)) zah))),.inl ?_⟩
 show L2.Run _ ([⇑[dQ K ↑16],⇑[dQ K (List.map lI P1)],.no,.no,.no,.no]:L2.Ctx) _ (↑58 (m_lowered P0 P1))
 unfold m_lowered
 exact (zcO (m:=true) (EvO.ev (EvO.anyI (m:=false) (zgD ↑2))) (zb2 (s0:=P0) ↑103 ↑58 ↑143 (λ(i:Nat) (s30:Ji)=>s30.length=N0∧Lat.Bit (A0+i*(S0+1)) s30) (zbG (m:=false) lI (xs:=P1) ⇑2) ↑17 ↥(⟨p2,by simpa using p4⟩) (λi32 x31 s30 hx33 hI34=>have v33:=List.mem_of_getElem? hx33;⟨↥(Lat.zrq (p5 _ ↥0) ↥0 (zl2 _ _)),(zar (m:=true) (x:=(zak x31)) dI (λz=>Oc.nx (↑103 z)) (Ev.any (m:=true) (zam (x:=x31) (zab ↑35 zag) rfl (by show za8 x31;exact trivial) rfl)) (λhv35 hhead35=>have hH:=(hhead35).trans (zcN _);(zar (m:=true) (x:=((ixD s30 hv35)/(ixD x31 hv35))) dI (λz=>Oc.nx (↑103 z)) (zaT (x:=(ixD s30 hv35)) (y:=(ixD x31 hv35)) (Ev.any (m:=true) (zbg (f:=dI) (xs:=s30) ↑11 ↑49 ↥(zt4 (p5 _ ↥0) hH ↥0))) (Ev.any (m:=false) (zbg (f:=dI) (xs:=x31) ↑35 ↑49 ↥(zlW (p5 _ ↥0) hH))) ↥(Lat.zqT (p5 _ ↥0) hH)) (λv36 hv36=>(zd0 (b:=(!decide (v36=(0:Int)))) (λbb=>([⇑[dQ K ↑16],⇑[dQ K (List.map lI P1)],↥[dL (List.map dI (bif bb then (zfx s30 (zaq x31 v36)) else s30))],⇑[dL (List.map dI x31)],↥[dI hv35],↥[dI v36]]:L2.Ctx)) (zaA (zfz (x:=v36) (y:=(0:Int)) ↑10 zaL)) (λh37=>(zcO (m:=true) (EvO.ev (EvO.anyI (m:=true) (zcT (x:=(s30,(zaq x31 v36))) (zab (Ev.old ↑11) (zab (Ev.weak (K:=K) (EvO.ev (EvO.anyI (m:=true) (zcT (x:=(x31,v36)) (zab ↑35 (zab ↑10 zag)) rfl (by show zb0 x31 v36;exact ztk p1 p6 ↥0 p5 ↥0 hH ↥0) rfl)))) zag)) rfl (by show zfu s30 (zaq x31 v36);exact zrj p1 (p5 _ ↥0) ↥0) rfl))) (zau ↑17))) (λh37=>(zau ↑17)) (zel (x:=(bif (!decide (v36=(0:Int))) then (zfx s30 (zaq x31 v36)) else s30)) (λv38=>([⇑[dQ K ↑16],⇑[dQ K (List.map lI P1)],↥[dL (List.map dI v38)],⇑[dL (List.map dI x31)],↥[dI hv35],↥[dI v36]]:L2.Ctx)) (λz=>Oc.nx (↑103 z)) (λv38 hv38=>(zau (.eq ↑75)))))))))⟩) (λr39 hr39 hI=>(zal (zaE ↑18)))))
theorem zdA (l:Ji) (ss:Jq):m_lowered l ss=Lat.low l ss:=by
 unfold m_lowered
 show List.foldl _ l ss=List.foldl Lat.zlc l ss
 congr 1
 funext s x
 exact zl2 s x
def zbE (P0:Ji) (P1:Ji):(Ji×Ji) :=
 (Let (zak P0) (λ(hv40:Int)=>(Let (zdL (ixD P0 hv40) (ixD P1 hv40)) (λ(v41:(T3 Int Int Int))=>(Let (ze3 (zaq P0 v41.b) (zaq P1 v41.c)) (λ(v42:Ji)=>(Let (zfx (zaq P1 ((ixD P0 hv40)/v41.a)) (zaq P0 ((ixD P1 hv40)/v41.a))) (λ(v43:Ji)=>(v42,v43)))))))))
def zga (P0:Ji) (P1:Ji):Prop:=Lat.MrgP P0 P1
def zil (K:W.Frag) (A:Adr):Sp:=Spv (ι:=Ji×Ji) ↑99 (λx=>zga x.1 x.2) (λx=>↥[dT [dL (List.map dI ((zbE x.1 x.2).1)),dL (List.map dI ((zbE x.1 x.2).2))]])
theorem zfS:FnScope ["step","row","head","shared","first","second"] ["step","row"] (zaf zf7):=↑4
theorem zn2 (F:Fun K "merged" "merged" zf7 f fd) (T:Txt K mg A) (ycb:Callee P w K mg base ⇑1 1 "common" ⇑4 (ziC K A)) (yab:Callee P w K mg base ⇑1 1 "head_of" ["row"] (zcK K A)) (ybm:Callee P w K mg base ⇑1 2 "less" ⇑4 (zjr K A)) (ybn:Callee P w K mg base ⇑1 2 "plus" ⇑4 (zjd K A)) (yah:Callee P w K mg base ⇑1 1 "times" ["some","many"] (zeM K A)):FnOk P w K mg base ⇑1 3 f fd ["step","row"] (zil K A):=by
 refine F.okV zfS ↥3 ↑6
 obtain ⟨P0,P1⟩:=x
 have hu:=hr.units
 replace hp:zga P0 P1:=hp
 unfold zga at hp
 obtain ⟨N0,A0,S0,p1,p2,p3,p4,p5,p6,p7⟩:=hp
 refine ⟨_,(zac (zat (i:=2) zfS.nd rfl ⇑0 (zaF yab ↥1 rfl zav ↑[pv 0])) (zac (zat (i:=3) zfS.nd rfl ⇑0 (zaF ycb ↥1 rfl zav ↑[(za1 ⇑6 (pv 0) (pv 2) ↑3),(za1 ⇑6 (pv 1) (pv 2) ↑3)])) (zac (zat (i:=4) zfS.nd rfl ⇑0 (zaF ybn ↥1 rfl zav ↑[(zaF yah ↥1 rfl zav ↑[pv 0,(za1 ↑12 (pv 3) zaj ↑3)]),(zaF yah ↥1 rfl zav ↑[pv 1,(za1 ↑12 (pv 3) zaj ↑3)])])) (zac (zat (i:=5) zfS.nd rfl ⇑0 (zaF ybm ↥1 rfl zav ↑[(zaF yah ↥1 rfl zav ↑[pv 1,(zaD zcx (za1 ⇑6 (pv 0) (pv 2) ↑3) (za1 ↑12 (pv 3) zaj ↑3))]),(zaF yah ↥1 rfl zav ↑[pv 0,(zaD zcx (za1 ⇑6 (pv 1) (pv 2) ↑3) (za1 ↑12 (pv 3) zaj ↑3))])])) (zac (zaO (zhw ↑[pv 4,pv 5])) zah))))),.inl ?_⟩
 show L2.Run _ ([⇑[dQ K ↑16],⇑[dQ K ↑7],.no,.no,.no,.no]:L2.Ctx) _ (↑98 (zbE P0 P1))
 unfold zbE
 exact (zar (m:=true) (x:=(zak P0)) dI ↑98 (Ev.any (m:=true) (zam (x:=P0) (zab ↑2 zag) rfl (by show za8 P0;exact trivial) rfl)) (λhv40 hhead40=>have hH:=(hhead40).trans (zcN _);(zar (m:=true) (x:=(zdL (ixD P0 hv40) (ixD P1 hv40))) (λ(p:(T3 Int Int Int))=>dT [dI p.a,dI p.b,dI p.c]) ↑98 (zam (x:=((ixD P0 hv40),(ixD P1 hv40))) (zab (Ev.any (m:=false) (zbg (f:=dI) (xs:=P0) ↑2 ↑42 ↥(zlW p2 hH))) (zab (Ev.any (m:=false) (zbg (f:=dI) (xs:=P1) ⇑2 ↑42 ↥(Lat.zlB p2 hH p3))) zag)) rfl (by show zgb (ixD P0 hv40) (ixD P1 hv40);exact Lat.zoE p2 hH p5 p6) rfl) (λv41 hv41=>have hC:=zuk hH p2 p5 p6 hv41;(zar (m:=true) (x:=(ze3 (zaq P0 v41.b) (zaq P1 v41.c))) lI ↑98 (EvO.ev (EvO.anyI (m:=true) (zcT (x:=((zaq P0 v41.b),(zaq P1 v41.c))) (zab (Ev.weak (K:=K) (EvO.ev (EvO.anyI (m:=true) (zcT (x:=(P0,v41.b)) (zab ↑2 (zab (Ev.any (m:=true) (zcs ⇑9 zaL rfl)) zag)) rfl (by show zb0 P0 v41.b;exact ⟨by rw [p2.len];exact p1,Lat.zjq p2.bit hC.2.2.1 ↑0 ↑1⟩) rfl)))) (zab (Ev.weak (K:=K) (EvO.ev (EvO.anyI (m:=true) (zcT (x:=(P1,v41.c)) (zab ⇑2 (zab (Ev.any (m:=true) (zcs ⇑9 zaL rfl)) zag)) rfl (by show zb0 P1 v41.c;exact ⟨by rw [p3];exact p1,Lat.zjq p4 hC.2.2.2 ↑0 ↑1⟩) rfl)))) zag)) rfl (by show zfs (zaq P0 v41.b) (zaq P1 v41.c);exact zqX p1 p2.len p3) rfl))) (λv42 hv42=>(zar (m:=true) (x:=(zfx (zaq P1 ((ixD P0 hv40)/v41.a)) (zaq P0 ((ixD P1 hv40)/v41.a)))) lI ↑98 (EvO.ev (EvO.anyI (m:=true) (zcT (x:=((zaq P1 ((ixD P0 hv40)/v41.a)),(zaq P0 ((ixD P1 hv40)/v41.a)))) (zab (Ev.weak (K:=K) (EvO.ev (EvO.anyI (m:=true) (zcT (x:=(P1,((ixD P0 hv40)/v41.a))) (zab ⇑2 (zab (zaT (x:=(ixD P0 hv40)) (y:=v41.a) (Ev.any (m:=false) (zbg (f:=dI) (xs:=P0) ↑2 ↑42 ↥(zlW p2 hH))) (Ev.any (m:=true) (zcs ⇑9 zaL rfl)) ↥(Lat.zfi.of hC.1 hC.2.1 ↑1)) zag)) rfl (by show zb0 P1 ((ixD P0 hv40)/v41.a);exact ⟨by rw [p3];exact p1,Lat.zjq p4 (Lat.zht hC.1 (zto hH p2)) ↑0 ↑1⟩) rfl)))) (zab (Ev.weak (K:=K) (EvO.ev (EvO.anyI (m:=true) (zcT (x:=(P0,((ixD P1 hv40)/v41.a))) (zab ↑2 (zab (zaT (x:=(ixD P1 hv40)) (y:=v41.a) (Ev.any (m:=false) (zbg (f:=dI) (xs:=P1) ⇑2 ↑42 ↥(Lat.zlB p2 hH p3))) (Ev.any (m:=true) (zcs ⇑9 zaL rfl)) ↥(Lat.zfi.of hC.1 hC.2.1 ↑1)) zag)) rfl (by show zb0 P0 ((ixD P1 hv40)/v41.a);exact ⟨by rw [p2.len];exact p1,Lat.zjq p2.bit (Lat.zht hC.1 (zrE hH p2 p5 p6)) ↑0 ↑1⟩) rfl)))) zag)) rfl (by show zfu (zaq P1 ((ixD P0 hv40)/v41.a)) (zaq P0 ((ixD P1 hv40)/v41.a));exact zo9 p1 p2.len p3) rfl))) (λv43 hv43=>(zal (zaE (zhy (zab ↑14 (zab ↑23 zag)) (by show 2≤sizeLine;decide))))))))))))
theorem zh4 (s l:Ji):zbE s l=Lat.mrg s l:=by
 unfold zbE Let
 dsimp only
 rw [zcN,Lat.zcP,Lat.zcP,zn8];rfl
section
variable {n s a i:Nat} {l row:Ji} {steps:Jq} {st:Lat.TS2} {x:Int×Ji}
theorem zrM (p1:n≤1000) (p2:Lat.Ech n 0 steps) (p3:∀ t∈steps,Lat.Sd n s t) (p4:row.length=n) (p5:Lat.Bit a row) (p6:steps.length≤100) (p7:a+(steps.length+2)*↑37+s≤40000000):Lat.LowP row steps:=by
 refine ⟨n,a,s,p1,p4,by omega,p5,p3,?_⟩
 have e2:steps.length*(s+1)≤(steps.length+1)*(s+9000):=Nat.mul_le_mul ↑0 ↑0
 rw [Nat.add_mul steps.length 2] at p7
 omega
theorem zpP (p1:n≤1000) (I:Lat.TI steps n a s i st) (T:Lat.Sd n s x.2) (h:decide (zak st.2<zak x.2)=true):zds st.2:=by
 rw [zcN,zcN] at h
 simp only [decide_eq_true_eq] at h
 have:=T.hd;have:=I.len
 exact ↑33
theorem zp9 (p1:n≤1000) (I:Lat.TI steps n a s i st) (h:decide (zak st.2<((st.2.length:Nat):Int))=true):zds st.2:=by
 rw [zcN] at h
 simp only [decide_eq_true_eq] at h
 have:=I.len
 exact ↑33
theorem zsn (h:decide (zak st.2=zak x.2)=true):Lat.hd st.2=Lat.hd x.2:=by
 rw [zcN,zcN] at h
 simp only [decide_eq_true_eq] at h
 omega
theorem zsY (I:Lat.TI steps n a s i st) (hx:i<steps.length∧x.1=(i:Int)∧steps[i]?=some x.2) (p6:steps.length≤100):st.1.length<PySem.sizeLine:=Nat.lt_of_le_of_lt (show _≤1000 by have:=I.g;omega) ↑1
theorem zst (I:Lat.TI steps n a s (zfB steps).length st) (p6:steps.length≤100):st.1.length<PySem.sizeLine:=Nat.lt_of_le_of_lt (show _≤1000 by have:=I.g;rw [zh0] at this;omega) ↑1
theorem zrD {y:Ji} (I:Lat.TI steps n a s i st) (hx:i<steps.length∧x.1=(i:Int)∧steps[i]?=some x.2) (p6:steps.length≤100):st.1.length+[y].length≤PySem.sizeLine:=by
 apply zan
 have:=I.g
 simp;omega
theorem zqP {lo hi:Option Int}:(zcQ steps lo hi).length≤steps.length:=by
 unfold zcQ;rw [List.length_take,List.length_drop];omega
theorem zqj {y:Ji} {lo hi:Option Int} (I:Lat.TI steps n a s i st) (hx:i<steps.length∧x.1=(i:Int)∧steps[i]?=some x.2) (p6:steps.length≤100):(st.1++[y]).length+(zcQ steps lo hi).length≤PySem.sizeLine:=by
 apply zan
 have:=I.g
 have:=zqP (steps:=steps) (lo:=lo) (hi:=hi)
 simp;omega
end
def m_taken_in (P0:Jq) (P1:Ji):Jq :=
 (Let (m_lowered P1 P0) (λ(v44:Ji)=>(zmO (zc2 ↑136 ([],v44) (zfB P0)) (λ(r63:Jq×Ji)=>(Let (bif (decide ((zak r63.2)<((r63.2.length:Nat):Int))) then (r63.1++[(zbT r63.2)]) else r63.1) (λ(v65:Jq)=>v65))) (λb=>b))))
def zeN (P0:Jq) (P1:Ji):Prop:=Lat.TinP P0 P1
def zgA (K:W.Frag) (A:Adr):Sp:=Spv (ι:=Jq×Ji) (λx=>[dQ K (List.map lI x.1),dQ K (List.map dI x.2)]) (λx=>zeN x.1 x.2) (λx=>⇑[dL (List.map lI (m_taken_in x.1 x.2))])
theorem zdu:FnScope ["steps","row","loose","grown","place","step","pair"] ["steps","row"] (zaf zex):=↑4
theorem zkK (F:Fun K "taken_in" "taken_in" zex f fd) (T:Txt K mg A) (yab:Callee P w K mg base ⇑1 1 "head_of" ["row"] (zcK K A)) (yal:Callee P w K mg base ⇑1 3 "lowered" ["row","steps"] (zez K A)) (ycc:Callee P w K mg base ⇑1 3 "merged" ["step","row"] (zil K A)) (ybc:Callee P w K mg base ⇑1 2 "upright" ["row"] (zhj K A)):FnOk P w K mg base ⇑1 4 f fd ["steps","row"] (zgA K A):=by
 refine F.okV zdu ↥3 ↑6
 obtain ⟨P0,P1⟩:=x
 have hu:=hr.units
 replace hp:zeN P0 P1:=hp
 unfold zeN at hp
 obtain ⟨N0,A0,S0,p1,p2,p3,p4,p5,p6,p7⟩:=hp
 refine ⟨_,(zac (zat (i:=2) zdu.nd rfl ⇑0 (zaF yal ↥1 rfl zav ↑[pv 1,pv 0])) (zac (zat (i:=3) zdu.nd rfl ⇑0 (zb8 zeC)) (zac (zcS PassesOwn.never rfl (zhc rfl rfl T.enumerate ↑[pv 0]) (zb3 (K:=K) (n:=2) rfl rfl (zaH (zao (i:=4) zdu.nd rfl ⇑0 ⇑0) (zaH (zao (i:=5) zdu.nd rfl ⇑0 ⇑0) zcA))) (zac (zcD (zaI zj7 (zaF yab ↥1 rfl zav ↑[pv 2]) (zaF yab ↥1 rfl zav ↑[pv 5]) (zaW _)) (zac (zaO (zaD zeK (zaD zeK (pv 3) (zb8 ↑[zaF ybc ↥1 rfl zav ↑[pv 2]])) (zdc (zcr (K:=K) rfl) (pv 0) (zdh (pv 4)) ze1))) zah) zah) (zac (zcD (zaI zhF (zaF yab ↥1 rfl zav ↑[pv 2]) (zaF yab ↥1 rfl zav ↑[pv 5]) (zaW _)) (zac (zat (i:=6) zdu.nd rfl ⇑0 (zaF ycc ↥1 rfl zav ↑[pv 5,pv 2])) (zac (zci (zb1 (K:=K) rfl (pv 3) ↑[(za1 ↑12 (pv 6) zaj ↑3)])) (zac (zat (i:=2) zdu.nd rfl ⇑0 (zaF yal ↥1 rfl zav ↑[(za1 ↑12 (pv 6) zaj ↑3),(zdc (zcr (K:=K) rfl) (pv 0) (zdh (zaD zcH (pv 4) zaj)) ze1)])) zah))) (zac (zci (zb1 (K:=K) rfl (pv 3) ↑[pv 5])) zah)) zah))) (zac (zcD (zaI zj7 (zaF yab ↥1 rfl zav ↑[pv 2]) ↑71 (zaW _)) (zac (zci (zb1 (K:=K) rfl (pv 3) ↑[zaF ybc ↥1 rfl zav ↑[pv 2]])) zah) zah) (zac (zaO (pv 3)) zah))))),.inl ?_⟩
 show L2.Run _ ([⇑[dQ K ⇑8],⇑[dQ K ↑7],.no,.no,.no,.no,.no]:L2.Ctx) _ (↑72 (m_taken_in P0 P1))
 unfold m_taken_in
 exact (zar (m:=true) (x:=(m_lowered P1 P0)) lI ↑72 (zam (x:=(P1,P0)) (zab ⇑2 (zab ↑2 zag)) rfl (by show zcw P1 P0;exact zrM p1 p2 p3 p4 p5 p6 p7) rfl) (λv44 hv44=>have hL:=(hv44).trans (zdA _ _);(zeL (m:=true) (ds:=List.map lI []) (zdH (m:=true) zag) (zhW (s0:=([],v44)) ↑104 ↑72 (λb=>b) ↑136 (λ(i:Nat) (s54:Jq×Ji)=>Lat.TI P0 N0 A0 S0 i s54) (λb=> .inl ⟨_,_,rfl⟩) (zg8 (m:=false) lI (xs:=P0) ↑2) (.eq (.eq (.eq (.oldL (.eq (.eq (.eq .nil))))))) (by rw [hL];exact Lat.TI.start p2 p3 p4 p5) (λi56 x55 s54 hx57 hI58=>have v57:=zdG hx57;⟨(by intro z hz;simp only [zcN,ziS,zh4,zdA] at hz;exact Lat.TI.step ↥0 p2 p3 ↥0 hz),(zbo (b:=(decide ((zak s54.2)<(zak x55.2)))) (zhE ↑104 ↑72) (zaA (za0 (x:=(zak s54.2)) (y:=(zak x55.2)) (Ev.any (m:=true) (zam (x:=s54.2) (zab (Ev.old ↑11) zag) rfl (by show za8 s54.2;exact trivial) rfl)) (Ev.any (m:=true) (zam (x:=x55.2) (zab (Ev.weak (K:=K) ↑23) zag) rfl (by show za8 x55.2;exact trivial) rfl)))) (λh59=>(zaJ (zco (i:=3) rfl (zal (zaE (EvO.ev (zdC (f:=lI) (xs:=(s54.1++[(zbT s54.2)])) (ys:=(zcQ P0 (some x55.1) none)) (EvO.ev (zdC (f:=lI) (xs:=s54.1) (ys:=[(zbT s54.2)]) ⇑9 (EvO.ev (zdl (zab (zam (x:=s54.2) (zab (Ev.old ↑18) zag) rfl (by show zds s54.2;first | exact zpP p1 ↥0 (p3 _ (Lat.TI.mem ↥0).1) ↥0 | exact zp9 p1 ↥0 ↥0) rfl) zag) (by show 1≤sizeLine;decide))) ↥(zrD ↥0 ↥0 p6))) (EvO.ev (zdZ (f:=lI) (xs:=P0) ↑2 (zck (Ev.any (m:=false) ↑14)) zd7)) ↥(zqj ↥0 ↥0 p6)))))))) (λh59=>(zay (zd0 (b:=(decide ((zak s54.2)=(zak x55.2)))) (λbb=>([⇑[dQ K ⇑8],⇑[dQ K ↑7],↥[dL (List.map dI (bif bb then (m_lowered ((zbE x55.2 s54.2).2) (zcQ P0 (some (x55.1+(1:Int))) none)) else s54.2))],.ow false (List.map lI (bif bb then (s54.1++[((zbE x55.2 s54.2)).1]) else (s54.1++[x55.2]))),⇑[dI x55.1],⇑[dL (List.map dI x55.2)],.no]:L2.Ctx)) (zaA (zfw (x:=(zak s54.2)) (y:=(zak x55.2)) (Ev.any (m:=true) (zam (x:=s54.2) (zab (Ev.old ↑11) zag) rfl (by show za8 s54.2;exact trivial) rfl)) (Ev.any (m:=true) (zam (x:=x55.2) (zab (Ev.weak (K:=K) ↑23) zag) rfl (by show za8 x55.2;exact trivial) rfl)))) (λh60=>(zcO (m:=true) (zam (x:=(x55.2,s54.2)) (zab (Ev.weak (K:=K) ↑23) (zab (Ev.old ↑11) zag)) rfl (by show zga x55.2 s54.2;exact Lat.TI.mrg ↥0 p1 p3 ↥0 (zsn ↥0) p7) rfl) (zcv (f:=lI) (xs:=s54.1) (x:=((zbE x55.2 s54.2)).1) rfl (Ev.old (zcs (zaa (i:=6) rfl) zaL rfl)) ↥(zsY ↥0 ↥0 p6) (zcO (m:=true) (zam (x:=(((zbE x55.2 s54.2)).2,(zcQ P0 (some (x55.1+(1:Int))) none))) (zab (Ev.old (Ev.weak (K:=K) (zcs (zaa (i:=6) rfl) zaL rfl))) (zab (Ev.weak (K:=K) (EvO.ev (zdZ (f:=lI) (xs:=P0) ↑2 (zck (za0 (x:=x55.1) (y:=(1:Int)) (Ev.any (m:=false) ↑14) zaL)) zd7))) zag)) rfl (by show zcw (((zbE x55.2 s54.2)).2) (zcQ P0 (some (x55.1+(1:Int))) none);unfold zcw;rw [zh4];exact Lat.TI.low ↥0 p1 p6 p3 ↥0 (zsn ↥0) p7) rfl) (zau (.eq (.eq (.eq (.eq (.eq (.eq (.no .nil)))))))))))) (λh60=>(zcv (f:=lI) (xs:=s54.1) (x:=x55.2) rfl ↑23 ↥(zsY ↥0 ↥0 p6) (zau (.eq ↑17)))) (zel (x:=(bif (decide ((zak s54.2)=(zak x55.2))) then (s54.1++[((zbE x55.2 s54.2)).1]) else (s54.1++[x55.2]))) (λv61=>([⇑[dQ K ⇑8],⇑[dQ K ↑7],↥[dL (List.map dI (bif (decide ((zak s54.2)=(zak x55.2))) then (m_lowered ((zbE x55.2 s54.2).2) (zcQ P0 (some (x55.1+(1:Int))) none)) else s54.2))],.ow false (List.map lI v61),⇑[dI x55.1],⇑[dL (List.map dI x55.2)],.no]:L2.Ctx)) (zhE ↑104 ↑72) (λv61 hv61=>(zel (x:=(bif (decide ((zak s54.2)=(zak x55.2))) then (m_lowered ((zbE x55.2 s54.2).2) (zcQ P0 (some (x55.1+(1:Int))) none)) else s54.2)) (λv62=>([⇑[dQ K ⇑8],⇑[dQ K ↑7],↥[dL (List.map dI v62)],.ow false (List.map lI v61),⇑[dI x55.1],⇑[dL (List.map dI x55.2)],.no]:L2.Ctx)) (zhE ↑104 ↑72) (λv62 hv62=>(zau (.eq (.eq (.eq (.eq (.no (.no (.eq .nil))))))))))))))))⟩) (λr63 hr63 hI=>(zd0 (b:=(decide ((zak r63.2)<((r63.2.length:Nat):Int)))) (λbb=>([⇑[dQ K ⇑8],⇑[dQ K ↑7],↥[dL (List.map dI r63.2)],.ow false (List.map lI (bif bb then (r63.1++[(zbT r63.2)]) else r63.1)),.no,.no,.no]:L2.Ctx)) (zaA (za0 (x:=(zak r63.2)) (y:=((r63.2.length:Nat):Int)) (Ev.any (m:=true) (zam (x:=r63.2) (zab (Ev.old ↑11) zag) rfl (by show za8 r63.2;exact trivial) rfl)) (zbb (f:=dI) (xs:=r63.2) (Ev.old ↑11)))) (λh64=>(zcv (f:=lI) (xs:=r63.1) (x:=(zbT r63.2)) rfl (zam (x:=r63.2) (zab (Ev.old ↑18) zag) rfl (by show zds r63.2;first | exact zpP p1 ↥0 (p3 _ (Lat.TI.mem ↥0).1) ↥0 | exact zp9 p1 ↥0 ↥0) rfl) ↥(zst ↥0 p6) (zau (.eq ↑17)))) (λh64=>(zau (.eq ↑17))) (zel (x:=(bif (decide ((zak r63.2)<((r63.2.length:Nat):Int))) then (r63.1++[(zbT r63.2)]) else r63.1)) (λv65=>([⇑[dQ K ⇑8],⇑[dQ K ↑7],↥[dL (List.map dI r63.2)],.ow false (List.map lI v65),.no,.no,.no]:L2.Ctx)) ↑72 (λv65 hv65=>(zco (i:=3) rfl (zal (zaE ⇑9)))))))))))
theorem zjI (ss:Jq) (l:Ji):m_taken_in ss l=Lat.tin Lat.MG ss (Lat.low l ss):=by
 unfold m_taken_in
 simp only [zcN,ziS,zh4,zdA]
 exact Lat.zvx ss _
theorem zrk (x:Ji) (fl:Jq):Let ([(m_lowered x fl)]++fl) (λ(y:Jq)=>y)=[Lat.low x fl]++fl:=by unfold Let;rw [zdA]
theorem zsp {steps fl:Jq} {i:Nat} {x y:Ji} (h:Lat.zqG steps) (hx:steps.reverse[i]?=some x) (e:fl=Lat.stl (steps.drop (steps.length-i))):[y].length+fl.length≤PySem.sizeLine:=by
 obtain ⟨j,h1,_⟩:=Lat.zk0 hx
 have:=Lat.zsc h ↑0 e
 apply zan
 simp;omega
def zc0 (P0:Jq):Jq :=
 (Let (List.foldl (λ(s66:Jq) (x67:Ji)=>(Let ([(m_lowered x67 s66)]++s66) (λ(v71:Jq)=>v71))) [] (List.reverse P0)) (λ(r72:Jq)=>r72))
def zeH (P0:Jq):Prop:=Lat.zqG P0
def zhp (K:W.Frag) (A:Adr):Sp:=Spv (ι:=Jq) (λx=>[dQ K (List.map lI x)]) (λx=>zeH x) (λx=>↥[dL (List.map lI (zc0 x))])
theorem zf9:FnScope ["steps","flat","step"] ["steps"] (zaf zfg):=↑4
theorem zmn (F:Fun K "settled" "settled" zfg f fd) (T:Txt K mg A) (yal:Callee P w K mg base ⇑1 3 "lowered" ["row","steps"] (zez K A)):FnOk P w K mg base ⇑1 4 f fd ["steps"] (zhp K A):=by
 refine F.okV zf9 ↥3 ↑46
 have hu:=hr.units
 replace hp:zeH P0:=hp
 unfold zeH at hp
 refine ⟨_,(zac (zat (i:=1) zf9.nd rfl ⇑0 (zb8 zeC)) (zac (zcS PassesOwn.never rfl (zp6 rfl rfl T.reversed ↑[pv 0]) (zao (i:=2) zf9.nd rfl ⇑0 ⇑0) (zac (zat (i:=1) zf9.nd rfl ⇑0 (zaD zeK (zb8 ↑[zaF yal ↥1 rfl zav ↑[pv 2,pv 1]]) (pv 1))) zah)) (zac (zaO (pv 1)) zah))),.inl ?_⟩
 show L2.Run _ ([⇑[dQ K ⇑8],.no,.no]:L2.Ctx) _ (↑36 (zc0 P0))
 unfold zc0
 exact (zcO (m:=true) (EvO.ev (zdH (m:=true) zag)) (zb2 (s0:=[]) (λ(s66:Jq)=>([⇑[dQ K ⇑8],↥[dL (List.map lI s66)],.no]:L2.Ctx)) ↑36 (λ(s66:Jq) (x67:Ji)=>(Let ([(m_lowered x67 s66)]++s66) (λ(v71:Jq)=>v71))) (λ(i:Nat) (s66:Jq)=>s66=Lat.stl (P0.drop (P0.length-i))) (zqf (m:=false) lI (xs:=P0) ↑2) (.eq (.eq (.eq .nil))) (by simp [Lat.stl]) (λi68 x67 s66 hx69 hI70=>have v69:=List.mem_of_getElem? hx69;⟨↥(Lat.zqC ↥0 ↥0 (zrk _ _)),(zar (m:=true) (x:=([(m_lowered x67 s66)]++s66)) ↑40 (λz=>Oc.nx ((λ(s66:Jq)=>([⇑[dQ K ⇑8],↥[dL (List.map lI s66)],.no]:L2.Ctx)) z)) (EvO.ev (zdC (f:=lI) (xs:=[(m_lowered x67 s66)]) (ys:=s66) (EvO.ev (zdl (zab (zam (x:=(x67,s66)) (zab ↑11 (zab (Ev.old (Ev.weak (K:=K) ⇑2)) zag)) rfl (by show zcw x67 s66;exact Lat.zqo hp ↥0 ↥0) rfl) zag) (by show 1≤sizeLine;decide))) ⇑2 ↥(zsp hp ↥0 ↥0))) (λv71 hv71=>(zau (.eq (.eq (.no .nil))))))⟩) (λr72 hr72 hI=>(zal (zaE ⇑2)))))
theorem ziY (ss:Jq):zc0 ss=Lat.stl ss:=by
 unfold zc0
 simp only [zdA]
 exact Lat.zu3 ss
theorem zqY {rows ss:Jq} {r:Ji} {i:Nat} (hr:rows[i]?=some r) (e:ss=Lat.clm Lat.MG (rows.take i)):Let (zc0 (m_taken_in ss r)) (λ(y:Jq)=>y)=Lat.clm Lat.MG (rows.take (i+1)):=by
 unfold Let
 rw [ziY,zjI,Lat.zhP hr,e]
def zbu (P0:Jq):Jq :=
 (Let (List.foldl (λ(s73:Jq) (x74:Ji)=>(Let (zc0 (m_taken_in s73 x74)) (λ(v78:Jq)=>v78))) [] P0) (λ(r79:Jq)=>r79))
def zdX (P0:Jq):Prop:=Lat.znl P0
def ze4 (K:W.Frag) (A:Adr):Sp:=Spv (ι:=Jq) (λx=>[dQ K (List.map lI x)]) (λx=>zdX x) (λx=>↥[dL (List.map lI (zbu x))])
theorem zfY:FnScope ["rows","steps","row"] ["rows"] (zaf ze5):=↑4
theorem zmx (F:Fun K "climbed" "climbed" ze5 f fd) (T:Txt K mg A) (ybM:Callee P w K mg base ⇑1 4 "settled" ["steps"] (zhp K A)) (ybp:Callee P w K mg base ⇑1 4 "taken_in" ["steps","row"] (zgA K A)):FnOk P w K mg base ⇑1 5 f fd ["rows"] (ze4 K A):=by
 refine F.okV zfY ↥3 ↑46
 have hu:=hr.units
 replace hp:zdX P0:=hp
 unfold zdX at hp
 refine ⟨_,(zac (zat (i:=1) zfY.nd rfl ⇑0 (zb8 zeC)) (zac (zcS PassesOwn.never rfl (zaZ (K:=K) rfl (pv 0)) (zao (i:=2) zfY.nd rfl ⇑0 ⇑0) (zac (zat (i:=1) zfY.nd rfl ⇑0 (zaF ybM ↥1 rfl zav ↑[zaF ybp ↥1 rfl zav ↑[pv 1,pv 2]])) zah)) (zac (zaO (pv 1)) zah))),.inl ?_⟩
 show L2.Run _ ([⇑[dQ K ⇑8],.no,.no]:L2.Ctx) _ (↑36 (zbu P0))
 unfold zbu
 exact (zcO (m:=true) (EvO.ev (zdH (m:=true) zag)) (zb2 (s0:=[]) (λ(s73:Jq)=>([⇑[dQ K ⇑8],↥[dL (List.map lI s73)],.no]:L2.Ctx)) ↑36 (λ(s73:Jq) (x74:Ji)=>(Let (zc0 (m_taken_in s73 x74)) (λ(v78:Jq)=>v78))) (λ(i:Nat) (s73:Jq)=>s73=Lat.clm Lat.MG (P0.take i)) (zbG (m:=false) lI (xs:=P0) ↑2) (.eq (.eq (.eq .nil))) (by rfl) (λi75 x74 s73 hx76 hI77=>have v76:=List.mem_of_getElem? hx76;⟨↥(zqY ↥0 ↥0),(zar (m:=true) (x:=(zc0 (m_taken_in s73 x74))) ↑40 (λz=>Oc.nx ((λ(s73:Jq)=>([⇑[dQ K ⇑8],↥[dL (List.map lI s73)],.no]:L2.Ctx)) z)) (zam (x:=(m_taken_in s73 x74)) (zab (Ev.weak (K:=K) (zam (x:=(s73,x74)) (zab (Ev.old (Ev.weak (K:=K) ⇑2)) (zab ↑11 zag)) rfl (by show zeN s73 x74;exact (Lat.znl.low hp ↥0 ↥0).2.1) rfl)) zag) rfl (by show zeH (m_taken_in s73 x74);unfold zeH;rw [zjI];exact (Lat.znl.low hp ↥0 ↥0).2.2) rfl) (λv78 hv78=>(zau (.eq (.eq (.no .nil))))))⟩) (λr79 hr79 hI=>(zal (zaE ⇑2)))))
theorem zhl (rows:Jq):zbu rows=Lat.clm Lat.MG rows:=by
 unfold zbu Lat.clm
 simp only [ziY,zjI]
 rfl
theorem zos {s:Jq} {i:Nat} {y:Ji} (h:s.length≤i):(s++[y]).length≤i+1:=by simp;omega
theorem zuG {rows:Jq} {i:Nat} {p:Int×Ji} {c:Ji} (q:i<rows.length∧p.1=(i:Int)∧rows[i]?=some p.2) (e:c=zch ((rows.length:Nat):Int) [(0:Int)]):InB c.length p.1:=by
 rw [e,Lat.zcg];unfold InB;omega
theorem zrm {rows:Jq}:List.foldl (λ(s:Jq) (x:Int×Ji)=>Let (zc7 (zch ((rows.length:Nat):Int) [(0:Int)]) x.1 (1:Int)) (λ(c:Ji)=>s++[x.2++c])) [] (zfB rows)=Lat.mark rows:=by
 show List.foldl (λ(s:Jq) (x:Int×Ji)=>s++[x.2++Lat.zf8 rows.length x.1]) [] (zfB rows)=_
 rw [Lat.zg0]
 rfl
theorem zlH {l:Ji} {n:Nat}:zcQ l none (some (n:Int))=l.take n:=by
 unfold zcQ
 rw [HT.sIx_nat,HT.sIx_none]
 show (l.drop 0).take (min n l.length-0)=_
 rw [List.drop_zero,Nat.sub_zero]
 by_cases h:n≤l.length
 ·rw [Nat.min_eq_left h]
 ·rw [Nat.min_eq_right ↑0,List.take_of_length_le ↑0,List.take_of_length_le ↑0]
def MkQ (rows:Jq):Prop:=rows.length≤31∧∀ r∈rows,r.length≤900
def TrQ (rows:Jq):Prop:=MkQ rows∧Lat.znl (Lat.mark rows)
theorem zuA {i:Nat} {rows:Jq} {p:Int×Ji} {c c0:Ji} {y:Int} (h:MkQ rows) (q:i<rows.length∧p.1=(i:Int)∧rows[i]?=some p.2) (e0:c0=zch ((rows.length:Nat):Int) [(0:Int)]) (e:c=zc7 c0 p.1 y):p.2.length+c.length≤PySem.sizeLine:=by
 have h1:=h.2 _ (List.mem_of_getElem? q.2.2)
 have h2:=h.1
 rw [e,zeR,e0,Lat.zcg]
 exact zan ↑0
theorem zue {i:Nat} {rows s:Jq} {p:Int×Ji} (p1:MkQ rows) (h:s.length≤i) (q:i<rows.length∧p.1=(i:Int)∧rows[i]?=some p.2):s.length<PySem.sizeLine:=Nat.lt_of_le_of_lt (show _≤1000 by have:=p1.1;omega) ↑1
theorem ztv {rows ms:Jq} (h:Lat.znl (Lat.mark rows)) (e:ms=List.foldl (λ(s:Jq) (x:Int×Ji)=>Let (zc7 (zch ((rows.length:Nat):Int) [(0:Int)]) x.1 (1:Int)) (λ(c:Ji)=>s++[x.2++c])) [] (zfB rows)):Lat.znl ms:=by
 rw [e,zrm];exact h
theorem zq1 {rows:Jq} (h:Lat.znl rows):((Lat.clm Lat.MG rows)).length≤31:=by
 rcases h with ⟨n,b,R,p1,p2,p3⟩ | ⟨n,s,h⟩
 ·have:=Lat.zqJ (i:=rows.length) p1 p2 p3
  rwa [List.take_length] at this
 ·have:=h.len (i:=rows.length)
  rw [List.take_length] at this
  have:=h.1
  omega
def PdP (rows:Jq) (m:Int):Prop:=(0≤m∧m≤8)∧(∀ r∈rows,r.length≤8)∧rows.length≤1000
theorem zvy {rows:Jq} {m:Int} {r:Ji} (h:PdP rows m) (hr:r∈rows):r.length+(zch m [(0:Int)]).length≤PySem.sizeLine:=by
 obtain ⟨k,rfl⟩:∃ k:Nat,m=(k:Int):=⟨m.toNat,by have:=h.1;omega⟩
 have:=h.1;have:=h.2.1 r hr
 rw [Lat.zcg];exact zan ↑0
def zuB (ss:Jq) (x:Ji) (m:Int):Prop:=0≤m∧m≤24∧x.length≤24∧Lat.LowP (zaq x ⇑5++zch m [(0:Int)]) ss
theorem zrF {ss:Jq} {x:Ji} {m:Int} (h:zuB ss x m):(zaq x ⇑5).length+(zch m [(0:Int)]).length≤PySem.sizeLine:=by
 obtain ⟨h1,h2,h3,h4⟩:=h
 obtain ⟨k,rfl⟩:∃ k:Nat,m=(k:Int):=⟨m.toNat,by omega⟩
 exact zan (by rw [Lat.zcg,show (zaq x ⇑5).length=x.length from Lat.zbr];omega)
def zcB (P0:Jq):Jq :=
 (Let (List.foldl (λ(s80:Jq) (x81:(Int×Ji))=>(Let (zch ↑19 [(0:Int)]) (λ(v85:Ji)=>(Let (zc7 v85 x81.1 (1:Int)) (λ(v86:Ji)=>(s80++[(x81.2++v86)])))))) [] (zfB P0)) (λ(r87:Jq)=>r87))
def zfb (P0:Jq):Prop:=MkQ P0
def zgN (K:W.Frag) (A:Adr):Sp:=Spv (ι:=Jq) (λx=>[dQ K (List.map lI x)]) (λx=>zfb x) (λx=>↥[dL (List.map lI (zcB x))])
theorem zfR:FnScope ["rows","longer","place","row","counts"] ["rows"] (zaf zfX):=↑4
theorem zn1 (F:Fun K "marked" "marked" zfX f fd) (T:Txt K mg A) :FnOk P w K mg base ⇑1 1 f fd ["rows"] (zgN K A):=by
 refine F.okV zfR ↥3 ↑46
 have hu:=hr.units
 replace hp:zfb P0:=hp
 unfold zfb at hp
 refine ⟨_,(zac (zat (i:=1) zfR.nd rfl ⇑0 (zb8 zeC)) (zac (zcS PassesOwn.never rfl (zhc rfl rfl T.enumerate ↑[pv 0]) (zb3 (K:=K) (n:=2) rfl rfl (zaH (zao (i:=2) zfR.nd rfl ⇑0 ⇑0) (zaH (zao (i:=3) zfR.nd rfl ⇑0 ⇑0) zcA))) (zac (zat (i:=4) zfR.nd rfl ⇑0 (zaD zgT (zb8 ↑[zaj]) ↑88)) (zac (zgS zaj (zi8 (pv 4) (pv 2) zf5)) (zac (zci (zb1 (K:=K) rfl (pv 1) ↑[zaD zeK (pv 3) (pv 4)])) zah)))) (zac (zaO (pv 1)) zah))),.inl ?_⟩
 show L2.Run _ ([⇑[dQ K ⇑8],.no,.no,.no,.no]:L2.Ctx) _ (↑36 (zcB P0))
 unfold zcB
 exact (zeL (m:=true) (ds:=List.map lI []) (zdH (m:=true) zag) (zb2 (s0:=[]) (λ(s80:Jq)=>([⇑[dQ K ⇑8],.ow true (List.map lI s80),.no,.no,.no]:L2.Ctx)) ↑36 (λ(s80:Jq) (x81:(Int×Ji))=>(Let (zch ↑19 [(0:Int)]) (λ(v85:Ji)=>(Let (zc7 v85 x81.1 (1:Int)) (λ(v86:Ji)=>(s80++[(x81.2++v86)])))))) (λ(i:Nat) (s80:Jq)=>s80.length≤i) (zg8 (m:=false) lI (xs:=P0) ↑2) (.eq (.eq (.eq (.eq (.eq .nil))))) ↥(Nat.le_refl 0) (λi82 x81 s80 hx83 hI84=>have v83:=zdG hx83;⟨↥(zos ↥0),(zf4 (m:=true) (x:=(zch ↑19 [(0:Int)])) (λz=>List.map dI z) (λz=>Oc.nx ((λ(s80:Jq)=>([⇑[dQ K ⇑8],.ow true (List.map lI s80),.no,.no,.no]:L2.Ctx)) z)) (zfo (f:=dI) (xs:=[(0:Int)]) (n:=↑19) ↑50 (zbb (f:=lI) (xs:=P0) ↑2) (by have z:=hp.1;constructor<;>omega) (by show 1*_≤PySem.sizeLine;apply zan;have z:=hp.1;omega)) (λv85 hv85=>(zjb (f:=dI) (xs:=v85) (x:=(1:Int)) (j:=x81.1) (λz=>Oc.nx ((λ(s80:Jq)=>([⇑[dQ K ⇑8],.ow true (List.map lI s80),.no,.no,.no]:L2.Ctx)) z)) rfl zaL ↑25 ↥(zuG ↥0 ↥0) (λv86 hv86=>(zco (i:=4) rfl (zcv (f:=lI) (xs:=s80) (x:=(x81.2++v86)) rfl (EvO.ev (EvO.anyI (m:=false) (zdC (f:=dI) (xs:=x81.2) (ys:=v86) ⇑9 (Ev.old ↑14) ↥(zuA hp ↥0 ↥0 ↥0)))) ↥(zue hp ↥0 ↥0) (zau ↑75)))))))⟩) (λr87 hr87 hI=>(zco (i:=1) rfl (zal (zaE ⇑2))))))
def zdo (P0:Jq) (P1:Int):Jq :=
 (List.map (λ(x88:Ji)=>(x88++(zch P1 [(0:Int)]))) P0)
def zgc (P0:Jq) (P1:Int):Prop:=PdP P0 P1
def zic (K:W.Frag) (A:Adr):Sp:=Spv (ι:=Jq×Int) (λx=>[dQ K (List.map lI x.1),dI x.2]) (λx=>zgc x.1 x.2) (λx=>↥[dL (List.map lI (zdo x.1 x.2))])
theorem znh:FnScope ["rows","many"] ["rows","many"] (zaf zfp):=↑4
theorem znD (F:Fun K "padded" "padded" zfp f fd) (T:Txt K mg A) :FnOk P w K mg base ⇑1 1 f fd ["rows","many"] (zic K A):=by
 refine F.okV znh ↥3 ↑6
 obtain ⟨P0,P1⟩:=x
 have hu:=hr.units
 replace hp:zgc P0 P1:=hp
 unfold zgc at hp
 refine ⟨_,(zac (zaO (zcf rfl (.of (osc:=(zaf zfp)) (N:=["rows","many"]) (own:=["row"]) (fvn:=["many"]) (fv:=[1]) rfl rfl ↥5) (zaZ (K:=K) rfl (pv 0)) (λ_ _ _ _ _=>⟨(zao (i:=0) (show (["row","many"]:List Str).Nodup by decide +kernel) rfl ⇑0 ↥6),zbc,(zaD zeK (pv 0) (zaD zgT (zb8 ↑[zaj]) (pv 1)))⟩))) zah),.inl ?_⟩
 show L2.Run _ ([⇑[dQ K ⇑8],⇑[dI P1]]:L2.Ctx) _ (↑36 (zdo P0 P1))
 unfold zdo
 exact (zal (zaE (EvO.ev (EvO.conv (zbS (g:=(λ(x88:Ji)=>dL (List.map dI (x88++(zch P1 [(0:Int)]))))) (zbG (m:=false) lI (xs:=P0) ↑2) ↥(zan (by have z:=hp.2.2;omega)) ↑5 (λi89 x88 hx90=>have v90:=List.mem_of_getElem? hx90;(EvO.ev (EvO.anyI (m:=false) (zdC (f:=dI) (xs:=x88) (ys:=(zch P1 [(0:Int)])) ↑2 (EvO.ev (zfo (f:=dI) (xs:=[(0:Int)]) (n:=P1) ↑50 ⇑7 (by have z:=hp.1;constructor<;>omega) (by have z:=hp.1;exact zan ↑62))) ↥(zvy hp ↥0)))))) ↑8))))
def zdd (P0:Jq):Jq :=
 (zbu (zcB P0))
def zgd (P0:Jq):Prop:=TrQ P0
def zis (K:W.Frag) (A:Adr):Sp:=Spv (ι:=Jq) (λx=>[dQ K (List.map lI x)]) (λx=>zgd x) (λx=>↥[dL (List.map lI (zdd x))])
theorem znk:FnScope ["rows"] ["rows"] (zaf zf0):=↑4
theorem znP (F:Fun K "traced" "traced" zf0 f fd) (T:Txt K mg A) (yar:Callee P w K mg base ⇑1 5 "climbed" ["rows"] (ze4 K A)) (yaS:Callee P w K mg base ⇑1 1 "marked" ["rows"] (zgN K A)):FnOk P w K mg base ⇑1 6 f fd ["rows"] (zis K A):=by
 refine F.okV znk ↥3 ↑46
 have hu:=hr.units
 replace hp:zgd P0:=hp
 unfold zgd at hp
 refine ⟨_,(zac (zaO (zaF yar ↥1 rfl zav ↑[zaF yaS ↥1 rfl zav ↑[pv 0]])) zah),.inl ?_⟩
 show L2.Run _ ([⇑[dQ K ⇑8]]:L2.Ctx) _ (↑36 (zdd P0))
 unfold zdd
 exact (zal (zaE (zam (x:=(zcB P0)) (zab (Ev.old (Ev.weak (K:=K) (zam (x:=P0) (zab ↑2 zag) rfl (by show zfb P0;exact hp.1) rfl))) zag) rfl (by show zdX (zcB P0);exact ztv hp.2 rfl) rfl)))
theorem zkx (rows:Jq):zdd rows=Lat.clm Lat.MG (Lat.mark rows):=by
 unfold zdd
 rw [zhl]
 exact congrArg _ zrm
theorem zlG {rows:Jq} (h:TrQ rows):(zdd rows).length≤31:=by rw [zkx];exact zq1 h.2
theorem zrZ {rows:Jq} (h:TrQ rows):(zdd rows).length≤PySem.sizeLine:=zan (by have:=zlG h;omega)
theorem zpa {rows ys:Jq} {c:Ji->Bool} (h:TrQ rows) (e:ys=List.map (λ(x:Ji)=>x) (List.filter c (zdd rows))):ys.length≤31:=by
 rw [e,List.length_map]
 exact Nat.le_trans (List.length_filter_le _ _) (zlG h)
def zej (P0:Jq) (P1:Int):Jq :=
 (List.map (λ(x91:Ji)=>(zcQ x91 (some P1) none)) (List.filter (λ(x91:Ji)=>(decide (P1≤(zak x91)))) P0))
def zgZ (P0:Jq) (P1:Int):Prop:=P0.length≤1000
def zjp (K:W.Frag) (A:Adr):Sp:=Spv (ι:=Jq×Int) (λx=>[dQ K (List.map lI x.1),dI x.2]) (λx=>zgZ x.1 x.2) (λx=>↥[dL (List.map lI (zej x.1 x.2))])
theorem zo5:FnScope ["steps","many"] ["steps","many"] (zaf zgo):=↑4
theorem zpz (F:Fun K "tails" "tails" zgo f fd) (T:Txt K mg A) (yab:Callee P w K mg base ⇑1 1 "head_of" ["row"] (zcK K A)):FnOk P w K mg base ⇑1 2 f fd ["steps","many"] (zjp K A):=by
 refine F.okV zo5 ↥3 ↑6
 obtain ⟨P0,P1⟩:=x
 have hu:=hr.units
 replace hp:zgZ P0 P1:=hp
 unfold zgZ at hp
 refine ⟨_,(zac (zaO (zcf rfl (.of (osc:=(zaf zgo)) (N:=["steps","many"]) (own:=["step"]) (fvn:=["many"]) (fv:=[1]) rfl rfl ↥5) (zaZ (K:=K) rfl (pv 0)) (λ_ _ _ _ _=>⟨(zao (i:=0) (show (["step","many"]:List Str).Nodup by decide +kernel) rfl ⇑0 ↥6),(zkQ (zaI ztT (zaF yab ↥1 rfl zav ↑[pv 0]) (pv 1) (zaW _))),(zdc (zcr (K:=K) rfl) (pv 0) (zdh (pv 1)) ze1)⟩))) zah),.inl ?_⟩
 show L2.Run _ ([⇑[dQ K ⇑8],⇑[dI P1]]:L2.Ctx) _ (↑36 (zej P0 P1))
 unfold zej
 exact (zal (zaE (EvO.ev (EvO.conv (zjR (c:=λ(x91:Ji)=>(decide (P1≤(zak x91)))) (g:=(λ(x91:Ji)=>dL (List.map dI (zcQ x91 (some P1) none)))) (zbG (m:=false) lI (xs:=P0) ↑2) ↥(zan ↑0) ↑5 (λi92 x91 hx93=>have v93:=List.mem_of_getElem? hx93;(zaA (za0 (x:=(zak x91)) (y:=P1) (Ev.any (m:=true) (zam (x:=x91) (zab ↑26 zag) rfl (by show za8 x91;exact trivial) rfl)) ⇑7))) (λi92 x91 hx93 hc=>have v93:=List.mem_of_getElem? hx93;(EvO.ev (EvO.anyI (m:=false) (zdZ (f:=dI) (xs:=x91) ↑26 (zck ⇑7) zd7))))) ↑8))))
theorem zlx {ss:Jq} {n:Nat}:zej ss (n:Int)=Lat.zgp n ss:=by
 unfold zej Lat.zgp
 simp only [zcN,Lat.zeV]
 have e:(λ(x:Ji)=>decide ((n:Int)≤(Lat.hd x:Int)))=λ(x:Ji)=>decide (n≤Lat.hd x):=funext λx=>by simp
 rw [e]
def zei (P0:Jq) (P1:Ji) (P2:Int):(Option Ji) :=
 (Let (m_lowered ((zaq P1 ⇑5)++(zch P2 [(0:Int)])) P0) (λ(v94:Ji)=>(bif (((zcQ v94 none (some ((P1.length:Nat):Int)))).any (· != 0)) then none else (some (zcQ v94 (some ((P1.length:Nat):Int)) none)))))
def zfr (P0:Jq) (P1:Ji) (P2:Int):Prop:=zuB P0 P1 P2
def zg6 (K:W.Frag) (A:Adr):Sp:=Spv (ι:=Jq×Ji×Int) (λx=>[dQ K (List.map lI x.1),dQ K (List.map dI x.2.1),dI x.2.2]) (λx=>zfr x.1 x.2.1 x.2.2) (λx=>↥[dOpt lI (zei x.1 x.2.1 x.2.2)])
theorem zi3:FnScope ["steps","basket","many","left"] ["steps","basket","many"] (zaf zfh):=↑4
theorem zmy (F:Fun K "counted" "counted" zfh f fd) (T:Txt K mg A) (yal:Callee P w K mg base ⇑1 3 "lowered" ["row","steps"] (zez K A)) (yah:Callee P w K mg base ⇑1 1 "times" ["some","many"] (zeM K A)):FnOk P w K mg base ⇑1 4 f fd ["steps","basket","many"] (zg6 K A):=by
 refine F.okV zi3 ↥3 ↑6
 obtain ⟨P0,P1,P2⟩:=x
 have hu:=hr.units
 replace hp:zfr P0 P1 P2:=hp
 unfold zfr at hp
 refine ⟨_,(zac (zat (i:=3) zi3.nd rfl ⇑0 (zaF yal ↥1 rfl zav ↑[zaD zeK (zaF yah ↥1 rfl zav ↑[pv 1,zm7 zjW zaj]) (zaD zgT (zb8 ↑[zaj]) (pv 2)),pv 0])) (zac (zcD (znt (zaK (zn7 (K:=K) rfl rfl) rfl T.any PyProof.Rows.boot_any ↑[(zdc (zcr (K:=K) rfl) (pv 3) ze1 (zdh ↑70))])) (zac (zaO zfQ) zah) zah) (zac (zaO (zdc (zcr (K:=K) rfl) (pv 3) (zdh ↑70) ze1)) zah))),.inl ?_⟩
 show L2.Run _ ([⇑[dQ K ⇑8],⇑[dQ K ↑7],⇑[dI P2],.no]:L2.Ctx) _ ((λ(r:(Option Ji))=>Oc.rt true (dOpt lI r)) (zei P0 P1 P2))
 unfold zei
 exact (zar (m:=true) (x:=(m_lowered ((zaq P1 ⇑5)++(zch P2 [(0:Int)])) P0)) lI (λ(r:(Option Ji))=>Oc.rt true (dOpt lI r)) (zam (x:=(((zaq P1 ⇑5)++(zch P2 [(0:Int)])),P0)) (zab (Ev.weak (K:=K) (EvO.ev (zdC (f:=dI) (xs:=(zaq P1 ⇑5)) (ys:=(zch P2 [(0:Int)])) (EvO.ev (EvO.anyI (m:=true) (zcT (x:=(P1,⇑5)) (zab ⇑2 (zab (zmX (x:=(1:Int)) zaL) zag)) rfl (by show zb0 P1 ⇑5;exact ⟨by have z:=hp.2.2.1;omega,λ_ _=>.inr (.inl ↑5)⟩) rfl))) (EvO.ev (zfo (f:=dI) (xs:=[(0:Int)]) (n:=P2) ↑50 ↑25 (by have z:=hp.1;have z2:=hp.2.1;constructor<;>omega) (by show 1*_≤PySem.sizeLine;apply zan;have z:=hp.1;have z2:=hp.2.1;omega))) ↥(zrF hp)))) (zab ↑2 zag)) rfl (by show zcw ((zaq P1 ⇑5)++(zch P2 [(0:Int)])) P0;exact hp.2.2.2) rfl) (λv94 hv94=>(zbo (b:=(((zcQ v94 none (some ((P1.length:Nat):Int)))).any (· != 0))) (λ(r:(Option Ji))=>Oc.rt true (dOpt lI r)) (zkG (ztf (xs:=(zcQ v94 none (some ((P1.length:Nat):Int)))) (Ev.weak (K:=K) (EvO.ev (EvO.anyI (m:=true) (zdZ (f:=dI) (xs:=v94) ↑35 zd7 (zck (zbb (f:=dI) (xs:=P1) ⇑2)))))))) (λh95=>(zaJ (zal (zaE zaL)))) (λh95=>(zay (zal (zaE (EvO.ev (EvO.anyI (m:=true) (zdZ (f:=dI) (xs:=v94) ↑35 (zck (zbb (f:=dI) (xs:=P1) ⇑2)) zd7))))))))))
def zfJ (P0:Int) (P1:Jq):BookD:=⟨P0,(List.map (λ(x96:Ji)=>x96) P1)⟩
def za7 (P0:Int) (P1:Jq):Prop:=P1.length≤1000
def zdn (K:W.Frag) (A:Adr):Sp:=zrJ (ι:=Int×Jq) A.Book (λx=>[dI x.1,dQ K (List.map lI x.2)]) (λx=>za7 x.1 x.2) true (λx=>[("many",dI ((zfJ x.1 x.2).many)),("swaps",dL (List.map lI ((zfJ x.1 x.2).swaps)))])
theorem zhI:FnScope ["self","many","swaps"] ["self","many","swaps"] (zaf zbV):=↑4
theorem zhJ (F:Fun K "__init__" "Book.__init__" zbV f fd) (T:Txt K mg A) :FnOk P w K mg base ⇑1 1 f fd ["self","many","swaps"] (zdn K A):=by
 refine F.okI zhI ↥3 ↑6
 obtain ⟨P0,P1⟩:=x
 have hu:=hr.units
 replace hp:za7 P0 P1:=hp
 unfold za7 at hp
 refine ⟨_,(zac (zhz (pv 0) (pv 1) rfl) (zac (zhz (pv 0) (zcf rfl (.of (osc:=(zaf zbV)) (N:=["self","many","swaps"]) (own:=["swap"]) (fvn:=[]) (fv:=[]) rfl rfl ↥5) (zaZ (K:=K) rfl (pv 2)) (λ_ _ _ _ _=>⟨(zao (i:=0) (show (["swap"]:List Str).Nodup by decide+kernel) rfl ⇑0 ↥6),zbc,↑66⟩)) rfl) zah)),λp dx=>⟨([.ob true A.Book p dx [("many",dI P0),("swaps",dL (List.map lI (List.map (λ(x96:Ji)=>x96) P1)))],⇑[dI P0],⇑[dQ K (List.map lI P1)]]:L2.Ctx),?_,rfl⟩⟩
 show L2.Run _ ([.ob true A.Book p dx [],⇑[dI P0],⇑[dQ K (List.map lI P1)]]:L2.Ctx) _ _
 exact (zeJ (i:=0) rfl ⇑7 T.Book_cl T.Book_many [] rfl ↥5 ↑1 (zeJ (i:=0) rfl (EvO.ev (EvO.conv (zbS (g:=(λ(x96:Ji)=>dL (List.map dI x96))) (zbG (m:=false) lI (xs:=P1) ↑18) ↥(zan ↑0) ↑5 (λi97 x96 hx98=>have v98:=List.mem_of_getElem? hx98;(EvO.ev (EvO.anyI (m:=false) (zgD ↑26))))) ↑8)) T.Book_cl T.Book_swaps ["many"] rfl ↥5 ↑1 (zau (Wk.refl _))))
def zec (P0:Int) (P1:Jq):BookD :=
 (Let (List.foldl (λ(s101:Unit) (x102:(Int×Ji))=>()) () (zfB P1)) (λ(r107:Unit)=>(zfJ P0 P1)))
def zeD (P0:Int) (P1:Jq):Prop:=1≤P0∧P0≤8∧P1.length≤12∧∀ s∈P1,(s.length:Int)=P0
def zhh (K:W.Frag) (A:Adr):Sp:=Spv (ι:=Int×Jq) (λx=>[dI x.1,dQ K (List.map lI x.2)]) (λx=>zeD x.1 x.2) (λx=>↥[zaM A.Book (zec x.1 x.2)])
theorem zhq:FnScope ["many","swaps","place","swap"] ["many","swaps"] (zaf ze9):=↑4
theorem zmt (F:Fun K "book_of" "book_of" ze9 f fd) (T:Txt K mg A)  {yaZ:Addr} {yaH:FuncData} (yaI:Mk K A.Book yaZ) (yaj:FnOk P w K mg base ⇑1 1 yaZ yaH ["self","many","swaps"] (zdn K A)) (yak:zfA K yaH ["self","many","swaps"] []):FnOk P w K mg base ⇑1 3 f fd ["many","swaps"] (zhh K A):=by
 refine F.okV zhq ↥3 ↑6
 obtain ⟨P0,P1⟩:=x
 have hu:=hr.units
 replace hp:zeD P0 P1:=hp
 unfold zeD at hp
 obtain ⟨ya6,yc6⟩:=T.g_MOST_SWAPS
 obtain ⟨ya7,yc7⟩:=T.g_MOST_WARES
 refine ⟨_,(zac (zcD (PW.pt (zou (zaI zj7 (pv 0) zaj (zaW _)) (zkh (zaI zli (pv 0) (znz (v:=.int 8) rfl yc7 ⟨_,rfl⟩) (zaW _))))) (zac zde zah) zah) (zac (zcD (zaI zli ↑70 (znz (v:=.int 12) rfl yc6 ⟨_,rfl⟩) (zaW _)) (zac zde zah) zah) (zac (zcS PassesOwn.never rfl (zhc rfl rfl T.enumerate ↑[pv 1]) (zb3 (K:=K) (n:=2) rfl rfl (zaH (zao (i:=2) zhq.nd rfl ⇑0 ⇑0) (zaH (zao (i:=3) zhq.nd rfl ⇑0 ⇑0) zcA))) (zac (zcD (zaI zhk (zaK ↑30 rfl T.len PySem.boot_len ↑[pv 3]) (pv 0) (zaW _)) (zac zde zah) zah) zah)) (zac (zaO (zfI yaI yaj ↥1 rfl T.Book yak .nil zav ↑[pv 0,pv 1])) zah)))),.inl ?_⟩
 show L2.Run _ ([⇑[dI P0],⇑[dQ K (List.map lI P1)],.no,.no]:L2.Ctx) _ ((λ(r:BookD)=>Oc.rt true (zaM A.Book r)) (zec P0 P1))
 unfold zec
 exact (zbD (EvT.conv (zj3 (b:=(decide (P0<(1:Int)))) (zaA (za0 (x:=P0) (y:=(1:Int)) ↥9 zaL)) (λhb=>(zaA (za0 (x:=P0) (y:=8) ↥9 zaL)))) (by simp only [Bool.or_eq_false_iff,decide_eq_false_iff_not];omega)) (zay (zbD (EvT.conv (zaA (za0 (x:=((P1.length:Nat):Int)) (y:=12) (zbb (f:=lI) (xs:=P1) ⇑2) zaL)) ↑116) (zay (zb2 (s0:=()) (λ(s101:Unit)=>([⇑[dI P0],⇑[dQ K (List.map lI P1)],.no,.no]:L2.Ctx)) (λ(r:BookD)=>Oc.rt true (zaM A.Book r)) (λ(s101:Unit) (x102:(Int×Ji))=>()) (λ_ _=>True) (zg8 (m:=false) lI (xs:=P1) ⇑2) (.eq (.eq (.eq (.eq .nil)))) trivial (λi103 x102 s101 hx104 hI105=>have v104:=zdG hx104;⟨trivial,(zbD (EvT.conv (zaA (zfz (x:=((x102.2.length:Nat):Int)) (y:=P0) (zbb (f:=dI) (xs:=x102.2) ↑35) ↥9)) (by have:=hp.2.2.2 _ (zl4 ↥0);simp only [Bool.not_eq_false',decide_eq_true_eq];exact this)) (zay (zau (.eq (.eq (.no (.no .nil)))))))⟩) (λr107 hr107 hI=>(zal (zaE (zlj (i:=(P0,P1)) (zab ↥9 (zab ⇑2 zag)) rfl (by show za7 P0 P1;unfold za7;omega))))))))))
theorem zsf {w:Int} {sw:Jq}:zec w sw=⟨w,sw⟩:=by
 unfold zec zfJ Let
 simp
theorem zcl (sw:Jq):List.map (λ(x:Ji)=>x) sw=sw:=by simp
theorem zrg {a b:Int} (h:a=b):(!decide (a=b))=false:=by rw [decide_eq_true h];rfl
def zeF (P0:BookD) (P1:Ji):Unit:=()
def za4 (P0:BookD) (P1:Ji):Prop:=(P1.length:Int)=P0.many
def zbn (K:W.Frag) (A:Adr):Sp:=Spv (ι:=BookD×Ji) (λx=>[zaM A.Book x.1,dQ K (List.map dI x.2)]) (λx=>za4 x.1 x.2) (λx=> ↥[dN])
theorem zgf:FnScope ["book","basket"] ["book","basket"] (zaf zbx):=↑4
theorem zgg (F:Fun K "refuse_bad_basket" "refuse_bad_basket" zbx f fd) (T:Txt K mg A) :FnOk P w K mg base ⇑1 1 f fd ["book","basket"] (zbn K A):=by
 refine F.okV zgf ↥3 ↑6
 obtain ⟨P0,P1⟩:=x
 have hu:=hr.units
 replace hp:za4 P0 P1:=hp
 unfold za4 at hp
 refine ⟨_,(zac (zcD (zaI zhk ↑70 ↑9 (zaW _)) (zac zde zah) zah) zah),.inr ⟨_,([⇑[zaM A.Book P0],⇑[dQ K ↑7]]:L2.Ctx),rfl,?_⟩⟩
 show L2.Run _ ([⇑[zaM A.Book P0],⇑[dQ K ↑7]]:L2.Ctx) _ _
 exact (zbD (EvT.conv (zaA (zfz (x:=((P1.length:Nat):Int)) (y:=P0.many) (zbb (f:=dI) (xs:=P1) ⇑2) ↑67)) ↑116) (zay (zau (Wk.refl _))))
def LvP (ss:Jq) (l:Int):Prop:=∃ n s:Nat,l=(n:Int)+1∧n≤900∧ss.length≤100∧(∀ t∈ss,Lat.Sd (n+1) s t)∧1+(ss.length+1)*(s+9000)≤50000000
theorem zvv {n:Nat} {l:Int} {ss:Jq} {w:Ji} (p1:l=(n:Int)+1) (e:w=zch (l-(1:Int)) [(0:Int)]++[(1:Int)]):Lat.lvI (n+1) ss 0 w:=by
 have:w=Lat.lv (n+1) []:=by rw [e,p1];rfl
 rw [this];exact Lat.zux
theorem zqS (s x:Ji):Let (zak x) (λ(head:Int)=>Let (zcY s x) (λ(weight:Int)=>Let (zaq s (ixD x head)) (λ(numbers:Ji)=>Let (zc7 numbers head (-weight)) (λ(y:Ji)=>y))))=Lat.lv1 s x:=by
 unfold Let
 dsimp only
 rw [zcN,Lat.zcP,zmw]
 rfl
theorem zvK {n i:Nat} {ss:Jq} {s x:Ji} (hx:ss.reverse[i]?=some x) (I:Lat.lvI n ss i s):Lat.lvI n ss (i+1) (Let (zak x) (λ(head:Int)=>Let (zcY s x) (λ(weight:Int)=>Let (zaq s (ixD x head)) (λ(numbers:Ji)=>Let (zc7 numbers head (-weight)) (λ(y:Ji)=>y))))):=by
 rw [zqS];exact Lat.zud hx I
theorem ztI {n:Nat} {l:Int} (p1:l=(n:Int)+1) (p2:n≤900):([(0:Int)]).length*(l-(1:Int)).toNat≤PySem.sizeLine:=zan ↑62
theorem zt1 {n:Nat} {l:Int} (p1:l=(n:Int)+1) (p2:n≤900):(zch (l-(1:Int)) [(0:Int)]).length+[(1:Int)].length≤PySem.sizeLine:=zan (by rw [p1,show (n:Int)+1-1=(n:Int) by omega,Lat.zcg,List.length_singleton];omega)
theorem zkD {n s i:Nat} {ss:Jq} {w x:Ji} (p2:n≤900) (p4:∀ t∈ss,Lat.Sd (n+1) s t) (I:Lat.lvI (n+1) ss i w):w.length=n+1∧Lat.Bit (1+ss.length*(s+9000)) w:=by
 unfold Lat.lvI at I
 obtain ⟨h1,h2⟩:=Lat.zp2 (ss:=ss.drop (ss.length-i)) (λt ht=>p4 t (List.mem_of_mem_drop ht)) p2
 rw [← I] at h1 h2
 refine ⟨h1,h2.mono ?_⟩
 have:=Nat.mul_le_mul_right (s+9000) (show (ss.drop (ss.length-i)).length≤ss.length by rw [List.length_drop];omega)
 omega
theorem zo4 {ss:Jq} {x:Ji} {i:Nat} (hx:ss.reverse[i]?=some x):x∈ss:=List.mem_reverse.mp (List.mem_of_getElem? hx)
theorem zuj {n s i:Nat} {ss:Jq} {w x:Ji} (p2:n≤900) (p3:ss.length≤100) (p4:∀ t∈ss,Lat.Sd (n+1) s t) (p5:1+(ss.length+1)*(s+9000)≤50000000) (hx:ss.reverse[i]?=some x) (I:Lat.lvI (n+1) ss i w):zeB w x:=by
 obtain ⟨h1,h2⟩:=zkD (x:=x) p2 p4 I
 have T:=p4 x (zo4 hx)
 rw [Nat.succ_mul] at p5
 refine ⟨by rw [h1,T.len],by omega,λp hp=>?_⟩
 have hm:=List.of_mem_zip (a:=p.1) (b:=p.2) hp
 exact Lat.zeI.of (h2 _ hm.1) (T.bit _ hm.2) ↑0 ↑0
theorem zuu {n s i:Nat} {ss:Jq} {w x:Ji} {h:Int} (p2:n≤900) (p3:ss.length≤100) (p4:∀ t∈ss,Lat.Sd (n+1) s t) (p5:1+(ss.length+1)*(s+9000)≤50000000) (hx:ss.reverse[i]?=some x) (I:Lat.lvI (n+1) ss i w) (hH:h=(Lat.hd x:Int)):zb0 w (ixD x h):=by
 obtain ⟨h1,h2⟩:=zkD (x:=x) p2 p4 I
 have T:=p4 x (zo4 hx)
 rw [Nat.succ_mul] at p5
 subst hH
 rw [Lat.zcP]
 exact ⟨by omega,λy hy=>Lat.zeI.of (h2 _ hy) T.top ↑0 ↑1⟩
theorem ztU {n s i:Nat} {ss:Jq} {w x:Ji} {h c:Int} (p2:n≤900) (p4:∀ t∈ss,Lat.Sd (n+1) s t) (hx:ss.reverse[i]?=some x) (I:Lat.lvI (n+1) ss i w) (hH:h=(Lat.hd x:Int)) {y:Ji} (e:y=zaq w c):InB y.length h:=by
 obtain ⟨h1,h2⟩:=zkD (x:=x) p2 p4 I
 have T:=(p4 x (zo4 hx)).hd
 rw [e,show (zaq w c).length=w.length from Lat.zbr,h1]
 unfold InB;omega
def zdW (P0:Jq) (P1:Int):Ji :=
 (Let ((zch (P1-(1:Int)) [(0:Int)])++[(1:Int)]) (λ(v109:Ji)=>(Let (List.foldl ↑144 v109 (List.reverse P0)) (λ(r119:Ji)=>r119))))
def zeX (P0:Jq) (P1:Int):Prop:=LvP P0 P1
def zgl (K:W.Frag) (A:Adr):Sp:=Spv (ι:=Jq×Int) (λx=>[dQ K (List.map lI x.1),dI x.2]) (λx=>zeX x.1 x.2) (λx=>↥[dL (List.map dI (zdW x.1 x.2))])
theorem zdP:FnScope ["steps","length","numbers","step","head","weight"] ["steps","length"] (zaf zey):=↑4
theorem zkH (F:Fun K "levelled" "levelled" zey f fd) (T:Txt K mg A) (yab:Callee P w K mg base ⇑1 1 "head_of" ["row"] (zcK K A)) (yah:Callee P w K mg base ⇑1 1 "times" ["some","many"] (zeM K A)) (ybN:Callee P w K mg base ⇑1 2 "weighed" ⇑4 (zhg K A)):FnOk P w K mg base ⇑1 3 f fd ["steps","length"] (zgl K A):=by
 refine F.okV zdP ↥3 ↑6
 obtain ⟨P0,P1⟩:=x
 have hu:=hr.units
 replace hp:zeX P0 P1:=hp
 unfold zeX at hp
 obtain ⟨N0,S0,p1,p2,p3,p4,p5⟩:=hp
 refine ⟨_,(zac (zat (i:=2) zdP.nd rfl ⇑0 (zaD zeK (zaD zgT (zb8 ↑[zaj]) (zaD zfy (pv 1) zaj)) (zb8 ↑[zaj]))) (zac (zcS PassesOwn.never rfl (zp6 rfl rfl T.reversed ↑[pv 0]) (zao (i:=3) zdP.nd rfl ⇑0 ⇑0) (zac (zat (i:=4) zdP.nd rfl ⇑0 (zaF yab ↥1 rfl zav ↑[pv 3])) (zac (zat (i:=5) zdP.nd rfl ⇑0 (zaF ybN ↥1 rfl zav ↑[pv 2,pv 3])) (zac (zat (i:=2) zdP.nd rfl ⇑0 (zaF yah ↥1 rfl zav ↑[pv 2,(za1 ⇑6 (pv 3) (pv 4) ↑3)])) (zac (zgS (zm7 zjW (pv 5)) (zi8 (pv 2) (pv 4) zf5)) zah))))) (zac (zaO (pv 2)) zah))),.inl ?_⟩
 show L2.Run _ ([⇑[dQ K ⇑8],⇑[dI P1],.no,.no,.no,.no]:L2.Ctx) _ (↑58 (zdW P0 P1))
 unfold zdW
 exact (zf4 (m:=true) (x:=((zch (P1-(1:Int)) [(0:Int)])++[(1:Int)])) (λz=>List.map dI z) ↑58 (zdC (f:=dI) (xs:=(zch (P1-(1:Int)) [(0:Int)])) (ys:=[(1:Int)]) (EvO.ev (zfo (f:=dI) (xs:=[(0:Int)]) (n:=(P1-(1:Int))) ↑50 (za0 (x:=P1) (y:=(1:Int)) ⇑7 zaL) (by constructor<;>omega) ↥(ztI p1 p2))) ↑50 ↥(zt1 p1 p2)) (λv109 hv109=>have h0_numbers109:=hv109;(zb2 (s0:=v109) ↑96 ↑58 ↑144 (λ(i:Nat) (s110:Ji)=>Lat.lvI (N0+1) P0 i s110) (zqf (m:=false) lI (xs:=P0) ↑2) ↑17 ↥(zvv p1 ↥0) (λi112 x111 s110 hx113 hI114=>have v113:=List.mem_of_getElem? hx113;⟨↥(zvK ↥0 ↥0),(zar (m:=true) (x:=(zak x111)) dI (λz=>Oc.nx (↑96 z)) (Ev.any (m:=true) (zam (x:=x111) (zab ↑35 zag) rfl (by show za8 x111;exact trivial) rfl)) (λhv115 hhead115=>have hH:=(hhead115).trans (zcN _);(zco (i:=2) rfl (zar (m:=true) (x:=(zcY s110 x111)) dI (λz=>Oc.nx (↑96 z)) (Ev.any (m:=true) (zam (x:=(s110,x111)) (zab (Ev.old ↑11) (zab ↑35 zag)) rfl (by show zeB s110 x111;exact zuj p2 p3 p4 p5 ↥0 ↥0) rfl)) (λv116 hv116=>(zf4 (m:=true) (x:=(zaq s110 (ixD x111 hv115))) (λz=>List.map dI z) (λz=>Oc.nx (↑96 z)) (EvO.anyI (m:=true) (zcT (x:=(s110,(ixD x111 hv115))) (zab (Ev.old ↑11) (zab (Ev.any (m:=false) (zbg (f:=dI) (xs:=x111) ↑35 ↑49 ↥(zlW (p4 _ (zo4 ↥0)) hH))) zag)) rfl (by show zb0 s110 (ixD x111 hv115);exact zuu p2 p3 p4 p5 ↥0 ↥0 hH) rfl)) (λv117 hv117=>have h0_numbers117:=hv117;(zjb (f:=dI) (xs:=v117) (x:=(-v116)) (j:=hv115) (λz=>Oc.nx (↑96 z)) rfl (zmX (x:=v116) ↑10) ↑49 ↥(ztU p2 p4 ↥0 ↥0 hH ↥0) (λv118 hv118=>(zau (.eq ↑75)))))))))))⟩) (λr119 hr119 hI=>(zco (i:=2) rfl (zal (zaE ↑18)))))))
theorem zra {α:Type} [Inhabited α] {xs:List α} {t:α}:ixD (xs++[t]) ⇑5=t:=by
 unfold ixD atI ixN
 rw [if_neg ↑1,if_pos (by rw [List.length_append,List.length_singleton];omega)]
 have:(⇑5+(((xs++[t]).length:Nat):Int)).toNat=xs.length:=by rw [List.length_append,List.length_singleton];omega
 first
  | (show ((xs++[t])[_]?).getD _=t;rw [this];simp)
  | (simp [this])
def SnS (b:BookD) (x:Ji):Prop:=∃ n s:Nat,b.many=(n:Int)∧1≤n∧n≤8∧x.length=n∧b.swaps.length≤30∧Lat.Cb n s b.swaps∧Lat.Bit s x∧Lat.SpL b.swaps (Lat.vec x)
def snR (b:BookD) (x:Ji):Jq:=Lat.clm Lat.MG (Lat.ziI b.swaps x)
def snS (n:Nat) (b:BookD) (x:Ji):Jq:=List.filter (λ(t:Ji)=>decide (Lat.hd t<n)) (snR b x)
section
variable {b:BookD} {x w short:Ji} {rows ss:Jq} {num:Ji} {c:Int}
theorem zsu (hR:rows=zbu (Lat.ziI b.swaps x)):rows=snR b x:=hR.trans (zhl _)
theorem zu2 {n:Nat} (hn:b.many=(n:Int)) (hR:rows=snR b x) (hS:ss=List.map (λ(t:Ji)=>t) ↑100):ss=snS n b x:=by
 rw [hS,List.map_id',hR,hn]
 unfold snS
 congr 1
 funext t
 rw [zcN]
 simp
theorem zl1 (h:SnS b x):∃ n s:Nat,b.many=(n:Int)∧1≤n∧n≤8∧x.length=n∧s≤200000∧snR b x=Lat.ap0 (Lat.clm Lat.MG b.swaps)++[Lat.zln n]∧snS n b x=Lat.ap0 (Lat.clm Lat.MG b.swaps)∧((Lat.clm Lat.MG b.swaps)).length≤n∧(∀ t∈Lat.clm Lat.MG b.swaps,Lat.Sd n s t):=by
 obtain ⟨n,s,h1,h2,h3,h4,h5,h6,h7,h8⟩:=h
 have hl:∀ r∈b.swaps,r.length=n:=λr hr=>(h6.mem hr).1
 have eR:snR b x=Lat.ap0 (Lat.clm Lat.MG b.swaps)++[Lat.zln n]:=Lat.zoh hl h4 h8
 have eS:snS n b x=Lat.ap0 (Lat.clm Lat.MG b.swaps):=by
  unfold snS
  rw [eR,List.filter_append,List.filter_eq_self.mpr,List.filter_eq_nil_iff.mpr,List.append_nil]
  ·intro t ht
   rw [List.mem_singleton.mp ht,Lat.zfG];simp
  ·intro t ht
   obtain ⟨z,hz,rfl⟩:=List.mem_map.mp ht
   have T:=h6.sd z hz
   rw [Lat.zhd (by have:=T.len;have:=T.hd;omega)]
   simpa using T.hd
 exact ⟨n,s,h1,h2,h3,h4,h6.2.1,eR,eS,by have:=h6.len (i:=b.swaps.length);rwa [List.take_length] at this,h6.sd⟩
theorem zl0 (h:SnS b x):b.swaps.length≤PySem.sizeLine∧(∀ s∈b.swaps,s.length+([(0:Int)]).length≤PySem.sizeLine)∧x.length+[⇑5].length≤PySem.sizeLine∧(List.map (λ(r:Ji)=>r++[(0:Int)]) b.swaps).length+[x++[⇑5]].length≤PySem.sizeLine:=by
 obtain ⟨n,s,h1,h2,h3,h4,h5,h6,h7,h8⟩:=h
 exact ⟨zan ↑0,λs hs=>zan (by rw [(h6.mem hs).1,List.length_singleton];omega),zan ↑62,zan (by rw [List.length_map,List.length_singleton];omega)⟩
theorem zrV (h:SnS b x):Lat.znl (Lat.ziI b.swaps x):=by
 obtain ⟨n,s,h1,h2,h3,h4,h5,h6,h7,h8⟩:=h
 exact .inr ⟨n+1,s,h6.ask h3 h5 h4 h7 h8⟩
theorem zuF (h:SnS b x) (hR:rows=zbu (Lat.ziI b.swaps x)):rows.length≤PySem.sizeLine:=by
 obtain ⟨n,s,h1,h2,h3,h4,h5,h6,h7,h8,h9⟩:=zl1 h
 rw [zsu hR,h6,List.length_append,List.length_map,List.length_singleton]
 exact zan ↑0
theorem zuC (h:SnS b x) (hR:rows=zbu (Lat.ziI b.swaps x)) (hS:ss=List.map (λ(t:Ji)=>t) ↑100):LvP ss (b.many+(1:Int)):=by
 obtain ⟨n,s,h1,h2,h3,h4,h5,h6,h7,h8,h9⟩:=zl1 h
 rw [zu2 h1 (zsu hR) hS,h7]
 have:=Nat.mul_le_mul (show (Lat.ap0 (Lat.clm Lat.MG b.swaps)).length+1≤9 by rw [List.length_map];omega) (show s+9000≤209000 by omega)
 exact ⟨n,s,by omega,by omega,by rw [List.length_map];omega,λt ht=>by
  obtain ⟨z,hz,rfl⟩:=List.mem_map.mp ht
  exact (h9 z hz).app0,by omega⟩
theorem zrY (h:SnS b x) (hR:rows=zbu (Lat.ziI b.swaps x)) (hS:ss=List.map (λ(t:Ji)=>t) ↑100):rows.length=ss.length+1:=by
 obtain ⟨n,s,h1,h2,h3,h4,h5,h6,h7,h8,h9⟩:=zl1 h
 rw [zu2 h1 (zsu hR) hS,zsu hR,h6,h7,List.length_append,List.length_singleton]
theorem zvN (h:SnS b x) (hR:rows=zbu (Lat.ziI b.swaps x)) (hS:ss=List.map (λ(t:Ji)=>t) ↑100):decide (((ss.length:Nat):Int)=((rows.length:Nat):Int))=false:=decide_eq_false (by have:=zrY h hR hS;omega)
theorem zpK (h:SnS b x) (hR:rows=zbu (Lat.ziI b.swaps x)):ixD (ixD rows ⇑5) b.many=1∧(ixD rows ⇑5).length=b.many.toNat+1:=by
 obtain ⟨n,s,h1,h2,h3,h4,h5,h6,h7,h8,h9⟩:=zl1 h
 rw [zsu hR,h6,zra,h1,Lat.zcP,Lat.zd5,if_pos rfl]
 exact ⟨rfl,by unfold Lat.zln;rw [List.length_append,List.length_replicate];rfl⟩
theorem zsO (h:SnS b x) (hR:rows=zbu (Lat.ziI b.swaps x)) (hS:ss=List.map (λ(t:Ji)=>t) ↑100):InB rows.length ⇑5∧InB (ixD rows ⇑5).length b.many:=by
 have z:=zrY h hR hS
 have y:=(zpK h hR).2
 obtain ⟨n,s,h1,_⟩:=h
 unfold InB
 omega
end
def m_shown (P0:BookD) (P1:Ji):(Int×(Option (LineD⊕RestD))) :=
 (Let (zbu ↑108) (λ(v123:Jq)=>(Let (List.map (λ(x124:Ji)=>x124) (List.filter (λ(x124:Ji)=>(decide ((zak x124)<P0.many))) v123)) (λ(v127:Jq)=>(Let (zdW v127 (P0.many+(1:Int))) (λ(v128:Ji)=>(Let (zcQ v128 none (some P0.many)) (λ(v129:Ji)=>(Let (ixD (ixD v123 ⇑5) P0.many) (λ(v131:Int)=>((1:Int),none)))))))))))
def zff (P0:BookD) (P1:Ji):Prop:=SnS P0 P1
def zgJ (K:W.Frag) (A:Adr):Sp:=Spv (ι:=BookD×Ji) (λx=>[zaM A.Book x.1,dL (List.map dI x.2)]) (λx=>zff x.1 x.2) (λx=>↥[dT [dI ((m_shown x.1 x.2).1),dOpt (dSc A) ((m_shown x.1 x.2).2)]])
theorem zfV:FnScope ["book","basket","rows","steps","numbers","weights","many","short"] ["book","basket"] (zaf zfE):=↑4
theorem zo2 (F:Fun K "shown" "shown" zfE f fd) (T:Txt K mg A) (yar:Callee P w K mg base ⇑1 5 "climbed" ["rows"] (ze4 K A)) (yab:Callee P w K mg base ⇑1 1 "head_of" ["row"] (zcK K A)) (ybq:Callee P w K mg base ⇑1 3 "levelled" ["steps","length"] (zgl K A)):FnOk P w K mg base ⇑1 6 f fd ["book","basket"] (zgJ K A):=by
 refine F.okV zfV ↥3 ↑6
 obtain ⟨P0,P1⟩:=x
 have hu:=hr.units
 replace hp:zff P0 P1:=hp
 unfold zff at hp
 refine ⟨_,(zac (zat (i:=2) zfV.nd rfl ⇑0 (zaF yar ↥1 rfl zav ↑[(zaD zeK (zcf rfl (.of (osc:=(zaf zfE)) (N:=["book","basket","rows","steps","numbers","weights","many","short"]) (own:=["swap"]) (fvn:=[]) (fv:=[]) rfl rfl ↥5) (zaZ (K:=K) rfl ↑9) (λ_ _ _ _ _=>⟨(zao (i:=0) (show (["swap"]:List Str).Nodup by decide+kernel) rfl ⇑0 ↥6),zbc,(zaD zeK (pv 0) (zb8 ↑[zaj]))⟩)) (zb8 ↑[zaD zeK (pv 1) (zb8 ↑[zm7 zjW zaj])]))])) (zac (zdB (i:=3) rfl zfV.nd rfl rfl (.of (osc:=(zaf zfE)) (N:=["book","basket","rows","steps","numbers","weights","many","short"]) (own:=["row"]) (fvn:=["book"]) (fv:=[0]) rfl rfl ↥5) (zaZ (K:=K) rfl (pv 2)) (λ_ _ _ _ _=>⟨↑107,(zkQ (zaI zj7 (zaF yab ↥1 rfl zav ↑[pv 0]) ↑28 (zaW _))),(pv 0)⟩)) (zac (zat (i:=4) zfV.nd rfl ⇑0 (zaF ybq ↥1 rfl zav ↑[pv 3,(zaD zcH ↑9 zaj)])) (zac (zat (i:=5) zfV.nd rfl ⇑0 (zdc (zcr (K:=K) rfl) (pv 4) ze1 (zdh ↑9))) (zac (zcD (zaI zhF (zaK ↑30 rfl T.len PySem.boot_len ↑[pv 3]) ↑71 (zaW _)) (zac zde zah) zah) (zac (zat (i:=6) zfV.nd rfl ⇑0 (za1 ⇑6 (za1 ⇑6 (pv 2) (zm7 zjW zaj) ↑3) ↑9 ↑3)) (zac (zcD (zaI zhF (pv 6) zaj (zaW _)) (zac (zaO (zhw ↑[zaj,zfQ])) zah) zah) (zac zde (zac zde zah))))))))),.inl ?_⟩
 show L2.Run _ ([⇑[zaM A.Book P0],⇑[dL ↑7],.no,.no,.no,.no,.no,.no]:L2.Ctx) _ (↑81 (m_shown P0 P1))
 unfold m_shown
 exact (zar (m:=true) (x:=(zbu ↑108)) ↑40 ↑81 (zam (x:=↑108) (zab (Ev.weak (K:=K) (EvO.ev (zdC (f:=lI) (xs:=(List.map (λ(x120:Ji)=>(x120++[(0:Int)])) P0.swaps)) (ys:=[(P1++[⇑5])]) (EvO.ev (EvO.conv (zbS (g:=(λ(x120:Ji)=>dL (List.map dI (x120++[(0:Int)])))) (zbG (m:=false) lI (xs:=P0.swaps) (Ev.weak (K:=K) (zaU ↑2 T.Book_cl T.Book_swaps rfl))) ↥((zl0 hp).1) ↑5 (λi121 x120 hx122=>have v122:=List.mem_of_getElem? hx122;(EvO.ev (EvO.anyI (m:=false) (zdC (f:=dI) (xs:=x120) (ys:=[(0:Int)]) ↑2 ↑50 ↥((zl0 hp).2.1 _ ↥0)))))) ↑8)) (EvO.ev (zdl (zab (EvO.ev (EvO.anyI (m:=false) (zdC (f:=dI) (xs:=P1) (ys:=[⇑5]) ⇑2 (EvO.ev (zdl (zab (zmX (x:=(1:Int)) zaL) zag) (by show 1≤sizeLine;decide))) ↥((zl0 hp).2.2.1)))) zag) (by show 1≤sizeLine;decide))) ↥((zl0 hp).2.2.2)))) zag) rfl (by show zdX ↑108;exact zrV hp) rfl) (λv123 hv123=>have hR:=hv123;(zar (m:=true) (x:=(List.map (λ(x124:Ji)=>x124) (List.filter (λ(x124:Ji)=>(decide ((zak x124)<P0.many))) v123))) ↑40 ↑81 (EvO.ev (EvO.conv (zjR (c:=λ(x124:Ji)=>(decide ((zak x124)<P0.many))) (g:=(λ(x124:Ji)=>dL (List.map dI x124))) (zbG (m:=true) lI (xs:=v123) ↑11) ↥(zuF hp hR) ↑5 (λi125 x124 hx126=>have v126:=List.mem_of_getElem? hx126;(zaA (za0 (x:=(zak x124)) (y:=P0.many) (Ev.any (m:=true) (zam (x:=x124) (zab (Ev.old ↑26) zag) rfl (by show za8 x124;exact trivial) rfl)) ↑51))) (λi125 x124 hx126 hc=>have v126:=List.mem_of_getElem? hx126;↑2)) ↑8)) (λv127 hv127=>have hS:=hv127;(zar (m:=true) (x:=(zdW v127 (P0.many+(1:Int)))) lI ↑81 (zam (x:=(v127,(P0.many+(1:Int)))) (zab (Ev.old ↑35) (zab (za0 (x:=P0.many) (y:=(1:Int)) ↑67 zaL) zag)) rfl (by show zeX v127 (P0.many+(1:Int));exact zuC hp hR hS) rfl) (λv128 hv128=>(zar (m:=true) (x:=(zcQ v128 none (some P0.many))) lI ↑81 (EvO.ev (EvO.anyI (m:=true) (zdZ (f:=dI) (xs:=v128) (Ev.weak (K:=K) ↑14) zd7 (zck ↑67)))) (λv129 hv129=>(zbD (EvT.conv (zaA (zfw (x:=((v127.length:Nat):Int)) (y:=((v123.length:Nat):Int)) (zbb (f:=lI) (xs:=v127) (Ev.old ↑35)) (zbb (f:=lI) (xs:=v123) (Ev.old ↑11)))) ↥(zvN hp hR hS)) (zay (zar (m:=true) (x:=(ixD (ixD v123 ⇑5) P0.many)) dI ↑81 (Ev.any (m:=true) (zbg (f:=dI) (xs:=(ixD v123 ⇑5)) (Ev.weak (K:=K) (zbg (f:=lI) (xs:=v123) ↑11 (zmX (x:=(1:Int)) zaL) ↥((zsO hp hR hS).1))) ↑67 ↥((zsO hp hR hS).2))) (λv131 hv131=>have hM:=hv131;(zlp (EvT.conv (zaA (zfw (x:=v131) (y:=(1:Int)) ↑55 zaL)) ↥(decide_eq_true (hM.trans (zpK hp hR).1))) (zaJ (zal (zaE (zhy (zab zaL (zab zaL zag)) (by show 2≤sizeLine;decide))))))))))))))))))
theorem zn6 {b:BookD} {x:Ji} (h:SnS b x):m_shown b x=(1,none):=rfl
def zem (P0:BookD) (P1:BookD) (P2:Jq):Unit:=()
def zbt (P0:BookD) (P1:BookD) (P2:Jq):Prop:=(P2.length:Int)=P0.many∧∀ r∈P2,(r.length:Int)=P1.many
def zc3 (K:W.Frag) (A:Adr):Sp:=Spv (ι:=BookD×BookD×Jq) (λx=>[zaM A.Book x.1,zaM A.Book x.2.1,dQ K (List.map lI x.2.2)]) (λx=>zbt x.1 x.2.1 x.2.2) (λx=> ↥[dN])
theorem zeg:FnScope ["first","second","baskets","basket"] ["first","second","baskets"] (zaf zbp):=↑4
theorem zfN (F:Fun K "refuse_bad_baskets" "refuse_bad_baskets" zbp f fd) (T:Txt K mg A) :FnOk P w K mg base ⇑1 1 f fd ["first","second","baskets"] (zc3 K A):=by
 refine F.okV zeg ↥3 ↑6
 obtain ⟨P0,P1,P2⟩:=x
 have hu:=hr.units
 replace hp:zbt P0 P1 P2:=hp
 unfold zbt at hp
 refine ⟨_,(zac (zcD (zaI zhk ↑71 ↑9 (zaW _)) (zac zde zah) zah) (zac (zcS PassesOwn.never rfl (zaZ (K:=K) rfl (pv 2)) (zao (i:=3) zeg.nd rfl ⇑0 ⇑0) (zac (zcD (zaI zhk (zaK ↑30 rfl T.len PySem.boot_len ↑[pv 3]) ↑28 (zaW _)) (zac zde zah) zah) zah)) zah)),.inr ⟨_,([⇑[zaM A.Book P0],⇑[zaM A.Book P1],⇑[dQ K (List.map lI P2)],.no]:L2.Ctx),rfl,?_⟩⟩
 show L2.Run _ ([⇑[zaM A.Book P0],⇑[zaM A.Book P1],⇑[dQ K (List.map lI P2)],.no]:L2.Ctx) _ _
 exact (zbD (EvT.conv (zaA (zfz (x:=((P2.length:Nat):Int)) (y:=P0.many) (zbb (f:=lI) (xs:=P2) ↑18) ↑67)) ↥(zrg hp.1)) (zay (zkr (s0:=()) (λ(s134:Unit)=>([⇑[zaM A.Book P0],⇑[zaM A.Book P1],⇑[dQ K (List.map lI P2)],.no]:L2.Ctx)) (λ(s134:Unit) (x135:Ji)=>()) (λ_ _=>True) (zbG (m:=false) lI (xs:=P2) ↑18) (.eq (.eq (.eq (.eq .nil)))) trivial (λi136 x135 s134 hx137 hI138=>have v137:=List.mem_of_getElem? hx137;⟨trivial,(zbD (EvT.conv (zaA (zfz (x:=((x135.length:Nat):Int)) (y:=P1.many) (zbb (f:=dI) (xs:=x135) ↑35) ↑51)) ↥(zrg (hp.2 _ (List.mem_of_getElem? ↥0)))) (zay (zau (.eq (.eq (.eq (.no .nil)))))))⟩) (zau (Wk.refl _)))))
def SeX (S:SenderD) (x:Ji):Prop:=∃ W2:Nat,S.second.many=(W2:Int)∧W2≤8∧(∀ r∈S.baskets,r.length=W2)∧∀ p∈List.zip S.baskets x,∀ y∈p.1,zeI y p.2
def SeP (S:SenderD) (x:Ji):Prop:=(x.length:Int)=S.first.many∧SeX S x
section
variable {S:SenderD} {x s r:Ji} {i:Nat} {p:Ji×Int}
theorem zvh (h:SeX S x):-(2^63)≤S.second.many∧S.second.many<2^63:=by obtain ⟨W,h1,h2,_⟩:=h;omega
theorem ztZ (h:SeX S x):([(0:Int)]).length*S.second.many.toNat≤PySem.sizeLine:=by obtain ⟨W,h1,h2,_⟩:=h;exact zan ↑62
theorem zvg (h:SeX S x) (hx:((List.zip S.baskets x))[i]?=some p):zb0 p.1 p.2:=by
 obtain ⟨W,h1,h2,h3,h4⟩:=h
 exact ⟨by rw [h3 _ (List.mem_of_getElem? (zdw hx).1)];omega,h4 _ (List.mem_of_getElem? hx)⟩
theorem zqa (h:SeX S x) (hx:((List.zip S.baskets x))[i]?=some p) (hs:(s.length:Int)=S.second.many):s.length=((zaq p.1 p.2)).length∧s.length≤1000:=by
 obtain ⟨W,h1,h2,h3,h4⟩:=h
 have e:((zaq p.1 p.2)).length=p.1.length:=Lat.zbr
 rw [e,h3 _ (List.mem_of_getElem? (zdw hx).1)]
 omega
theorem zvM (h:SeX S x) (hx:((List.zip S.baskets x))[i]?=some p) (hs:(s.length:Int)=S.second.many):zfs s (zaq p.1 p.2):=zqa h hx hs
theorem zvo (h:SeX S x) (hR:r=zch S.second.many [(0:Int)]):(r.length:Int)=S.second.many:=by
 obtain ⟨W,h1,h2,h3,h4⟩:=h
 rw [hR,h1,Lat.zcg]
theorem zvW (h:SeX S x) (hx:((List.zip S.baskets x))[i]?=some p) (hs:(s.length:Int)=S.second.many):((Let (ze3 s (zaq p.1 p.2)) (λ(y:Ji)=>y)).length:Int)=S.second.many:=by
 have e:(ze3 s (zaq p.1 p.2)).length=s.length:=Lat.zju (zqa h hx hs).1
 unfold Let
 rw [e];exact hs
end
def m_refuse_other_book (P0:BookD) (P1:BookD):Unit:=()
def zca (P0:BookD) (P1:BookD):Prop:=P0.many=P1.many∧P0.swaps=P1.swaps
def zdi (K:W.Frag) (A:Adr):Sp:=Spv (ι:=BookD×BookD) (λx=>[zaM A.Book x.1,zaM A.Book x.2]) (λx=>zca x.1 x.2) (λx=> ↥[dN])
theorem zge:FnScope ⇑4 ⇑4 (zaf zby):=↑4
theorem zgh (F:Fun K "refuse_other_book" "refuse_other_book" zby f fd) (T:Txt K mg A) :FnOk P w K mg base ⇑1 1 f fd ⇑4 (zdi K A):=by
 refine F.okV zge ↥3 ↑6
 obtain ⟨P0,P1⟩:=x
 have hu:=hr.units
 replace hp:zca P0 P1:=hp
 unfold zca at hp
 refine ⟨_,(zac (zcD (PW.pt (zou (zaI zhk ↑9 ↑28 (zaW _)) (zkh (zaI (zlb (K:=K) rfl hu) ↑9 ↑28 (zaW _))))) (zac zde zah) zah) zah),.inr ⟨_,([⇑[zaM A.Book P0],⇑[zaM A.Book P1]]:L2.Ctx),rfl,?_⟩⟩
 show L2.Run _ ([⇑[zaM A.Book P0],⇑[zaM A.Book P1]]:L2.Ctx) _ _
 exact (zbD (EvT.conv (zj3 (b:=(!decide (P0.many=P1.many))) (zaA (zfz (x:=P0.many) (y:=P1.many) ↑67 ↑51)) (λhb=>(zaA (zi7 (n:=1) (neg:=true) (xs:=P0.swaps) (ys:=P1.swaps) (EqD.list EqD.int) (Ev.weak (K:=K) (zaU ↑2 T.Book_cl T.Book_swaps rfl)) (Ev.weak (K:=K) (zaU ⇑2 T.Book_cl T.Book_swaps rfl)))))) (by simp [hp.1,hp.2])) (zay (zau (Wk.refl _))))
def zad (P0:SenderD) (P1:Ji):Ji :=
 (Let (zch P0.second.many [(0:Int)]) (λ(v142:Ji)=>(Let (List.foldl (λ(s143:Ji) (x144:(Ji×Int))=>(Let (ze3 s143 (zaq x144.1 x144.2)) (λ(v148:Ji)=>v148))) v142 (List.zip P0.baskets P1)) (λ(r149:Ji)=>r149))))
def zbh (P0:SenderD) (P1:Ji):Prop:=SeP P0 P1
def zcI (K:W.Frag) (A:Adr):Sp:=Spv (ι:=SenderD×Ji) (λx=>[zaQ A A.Sender x.1,dQ K (List.map dI x.2)]) (λx=>zbh x.1 x.2) (λx=>↥[dL (List.map dI (zad x.1 x.2))])
theorem zdk:FnScope ["self","basket","reached","image","many"] ["self","basket"] (zaf zdg):=↑4
theorem ziM (F:Fun K "sent" "Sender.sent" zdg f fd) (T:Txt K mg A) (ybn:Callee P w K mg base ⇑1 2 "plus" ⇑4 (zjd K A)) (yac:Callee P w K mg base ⇑1 1 "refuse_bad_basket" ["book","basket"] (zbn K A)) (yah:Callee P w K mg base ⇑1 1 "times" ["some","many"] (zeM K A)):FnOk P w K mg base ⇑1 3 f fd ["self","basket"] (zcI K A):=by
 refine F.okV zdk ↥3 ↑6
 obtain ⟨P0,P1⟩:=x
 have hu:=hr.units
 replace hp:zbh P0 P1:=hp
 unfold zbh at hp
 refine ⟨_,(zac (zci (zaF yac ↥1 rfl zav ↑[↑9,pv 1])) (zac (zat (i:=2) zdk.nd rfl ⇑0 (zaD zgT (zb8 ↑[zaj]) (zas (K:=K) rfl ↑9 rfl))) (zac (zcS PassesOwn.never rfl (zd9 (K:=K) rfl rfl T.zip ↑[↑9,pv 1]) (zb3 (K:=K) (n:=2) rfl rfl (zaH (zao (i:=3) zdk.nd rfl ⇑0 ⇑0) (zaH (zao (i:=4) zdk.nd rfl ⇑0 ⇑0) zcA))) (zac (zat (i:=2) zdk.nd rfl ⇑0 (zaF ybn ↥1 rfl zav ↑[pv 2,zaF yah ↥1 rfl zav ↑[pv 3,pv 4]])) zah)) (zac (zaO (pv 2)) zah)))),.inl ?_⟩
 show L2.Run _ ([⇑[zaQ A A.Sender P0],⇑[dQ K ↑7],.no,.no,.no]:L2.Ctx) _ (↑58 (zad P0 P1))
 unfold zad
 exact (zd4 (m:=true) (Ev.any (m:=true) (zam (x:=(P0.first,P1)) (zab (zaU ↑2 T.Sender_cl T.Sender_first rfl) (zab ⇑2 zag)) rfl (by show za4 P0.first P1;exact hp.1) rfl)) (zar (m:=true) (x:=(zch P0.second.many [(0:Int)])) lI ↑58 (EvO.ev (zfo (f:=dI) (xs:=[(0:Int)]) (n:=P0.second.many) ↑50 (Ev.any (m:=false) (zaU ↑60 T.Book_cl T.Book_many rfl)) ↥(zvh hp.2) ↥(ztZ hp.2))) (λv142 hv142=>have hR:=hv142;(zb2 (s0:=v142) (λ(s143:Ji)=>([⇑[zaQ A A.Sender P0],⇑[dQ K ↑7],↥[dL (List.map dI s143)],.no,.no]:L2.Ctx)) ↑58 (λ(s143:Ji) (x144:(Ji×Int))=>(Let (ze3 s143 (zaq x144.1 x144.2)) (λ(v148:Ji)=>v148))) (λ(i:Nat) (s143:Ji)=>(s143.length:Int)=P0.second.many) (zgk (m:=false) lI dI (xs:=P0.baskets) (ys:=P1) (Ev.weak (K:=K) (zaU ↑2 T.Sender_cl T.Sender_baskets rfl)) ⇑2) (.eq (.eq (.eq (.eq (.eq .nil))))) ↥(zvo hp.2 hR) (λi145 x144 s143 hx146 hI147=>have v146:=zdw hx146;⟨↥(zvW hp.2 ↥0 ↥0),(zar (m:=true) (x:=(ze3 s143 (zaq x144.1 x144.2))) lI (λz=>Oc.nx ((λ(s143:Ji)=>([⇑[zaQ A A.Sender P0],⇑[dQ K ↑7],↥[dL (List.map dI s143)],.no,.no]:L2.Ctx)) z)) (EvO.ev (EvO.anyI (m:=true) (zcT (x:=(s143,(zaq x144.1 x144.2))) (zab (Ev.old ↑11) (zab (Ev.weak (K:=K) (EvO.ev (EvO.anyI (m:=true) (zcT (x:=(x144.1,x144.2)) (zab ↑35 (zab (Ev.any (m:=false) ↑14) zag)) rfl (by show zb0 x144.1 x144.2;exact zvg hp.2 ↥0) rfl)))) zag)) rfl (by show zfs s143 (zaq x144.1 x144.2);exact zvM hp.2 ↥0 ↥0) rfl))) (λv148 hv148=>have hR:=hv148;(zau (.eq (.eq (.eq (.no (.no .nil))))))))⟩) (λr149 hr149 hI=>(zal (zaE ↑18)))))))
theorem zfM {S:SenderD} {x:Ji} {W1 W2:Nat} (h:S.second.many=(W2:Int)) (hb:∀ r∈S.baskets,r.length=W2) (hl:S.baskets.length=W1) (hx:x.length=W1):(zad S x).length=W2∧∀ i,Lat.vec (zad S x) i=Lat.lsum ((List.range W1).map λ(w:Nat)=>Lat.vec x w*Lat.vec (ixD S.baskets (w:Int)) i):=by
 have k:=Lat.zhU (W:=W2) (F:=λ(s:Ji) (p:Ji×Int)=>ze3 s (zaq p.1 p.2)) (c:=λp i=>Lat.vec p.1 i*p.2) (List.zip S.baskets x) (zch S.second.many [(0:Int)]) (by rw [h,Lat.zcg]) λs p hp hs=>by
  have hq:=hb _ ((List.of_mem_zip hp)).1
  have e:((zaq p.1 p.2)).length=p.1.length:=Lat.zbr
  have e1:s.length=((zaq p.1 p.2)).length:=by omega
  exact ⟨(Lat.zju (s:=zaq p.1 p.2) e1).trans hs,λi=>(Lat.zjx e1).trans (by rw [show Lat.vec (zaq p.1 p.2) i=Lat.vec p.1 i*p.2 from Lat.zdR])⟩
 refine ⟨k.1,λi=>(k.2 i).trans ?_⟩
 rw [h,Lat.zeG,Int.zero_add,Lat.zow hl hx,List.map_map]
 exact Lat.zbm λw _=>by
  show Lat.vec (ixD S.baskets (w:Int)) i*ixD x (w:Int)=_
  rw [Lat.zcP,Int.mul_comm]
def SiP (a b:BookD) (bs:Jq):Prop:=zbt a b bs∧bs.length≤1000∧∀ s∈a.swaps,SeP ⟨a,b,bs⟩ s∧SnS b (zad ⟨a,b,bs⟩ s)∧Lat.SpL b.swaps (Lat.vec (zad ⟨a,b,bs⟩ s))
section
variable {a b:BookD} {bs:Jq} {i:Nat} {p:Int×Ji}
theorem zvA (h:SiP a b bs):bs.length≤PySem.sizeLine:=zan (by have:=h.2.1;omega)
theorem zu8 (q:i<a.swaps.length∧p.1=(i:Int)∧a.swaps[i]?=some p.2):p.2∈a.swaps:=List.mem_of_getElem? q.2.2
theorem zvm (h:SiP a b bs) (q:i<a.swaps.length∧p.1=(i:Int)∧a.swaps[i]?=some p.2):SeP ⟨a,b,List.map (λ(x:Ji)=>x) bs⟩ p.2:=by rw [zcl];exact (h.2.2 _ (zu8 q)).1
theorem zvI (h:SiP a b bs) (q:i<a.swaps.length∧p.1=(i:Int)∧a.swaps[i]?=some p.2):SnS b (zad ⟨a,b,List.map (λ(x:Ji)=>x) bs⟩ p.2):=by rw [zcl];exact (h.2.2 _ (zu8 q)).2.1
theorem zvf {c:Option (LineD ⊕ RestD)} (h:SiP a b bs) (q:i<a.swaps.length∧p.1=(i:Int)∧a.swaps[i]?=some p.2) (hC:c=(m_shown b (zad ⟨a,b,List.map (λ(x:Ji)=>x) bs⟩ p.2)).2):c.isSome=false:=by
 rw [hC];rfl
end
def m_Sender (P0:BookD) (P1:BookD) (P2:Jq):SenderD:=⟨P0,P1,(List.map (λ(x150:Ji)=>x150) P2)⟩
def zbf (P0:BookD) (P1:BookD) (P2:Jq):Prop:=SiP P0 P1 P2
def zcR (K:W.Frag) (A:Adr):Sp:=zuT (ι:=BookD×BookD×Jq) A.Sender "first" "second" "baskets" (λx=>zaM A.Book x.1) (λx=>zaM A.Book x.2.1) (λx=>dQ K (List.map lI x.2.2)) (λx=>zbf x.1 x.2.1 x.2.2) (λx=>dL (List.map lI ((m_Sender x.1 x.2.1 x.2.2).baskets)))
theorem zcU:FnScope ["self","first","second","baskets","place","swap","scale"] ["self","first","second","baskets"] (zaf zbv):=↑4
theorem zgU (F:Fun K "__init__" "Sender.__init__" zbv f fd) (T:Txt K mg A) (yae:CalleeM P w K mg base ⇑1 3 A.Sender "sent" ["self","basket"] (zcI K A)) (yau:Callee P w K mg base ⇑1 1 "refuse_bad_baskets" ["first","second","baskets"] (zc3 K A)) (yaB:Callee P w K mg base ⇑1 6 "shown" ["book","basket"] (zgJ K A)):FnOk P w K mg base ⇑1 7 f fd ["self","first","second","baskets"] (zcR K A):=by
 refine F.okI (ι:=V×V×BookD×BookD×Jq) zcU ↥3 ↑6
 obtain ⟨v1,v2,P0,P1,P2⟩:=x
 have hu:=hr.units
 replace hp:zbf P0 P1 P2:=hp
 unfold zbf at hp
 refine ⟨_,(zac (zci (zaF yau ↥1 rfl zav ↑[pv 1,pv 2,pv 3])) (zac (zhz (pv 0) (pv 1) rfl) (zac (zhz (pv 0) (pv 2) rfl) (zac (zhz (pv 0) (zcf rfl (.of (osc:=(zaf zbv)) (N:=["self","first","second","baskets","place","swap","scale"]) (own:=["basket"]) (fvn:=[]) (fv:=[]) rfl rfl ↥5) (zaZ (K:=K) rfl (pv 3)) (λ_ _ _ _ _=>⟨(zao (i:=0) (show (["basket"]:List Str).Nodup by decide +kernel) rfl ⇑0 ↥6),zbc,↑66⟩)) rfl) (zac (zcS PassesOwn.never rfl (zhc rfl rfl T.enumerate ↑[↑28]) (zb3 (K:=K) (n:=2) rfl rfl (zaH (zao (i:=4) zcU.nd rfl ⇑0 ⇑0) (zaH (zao (i:=5) zcU.nd rfl ⇑0 ⇑0) zcA))) (zac (zat (i:=6) zcU.nd rfl ⇑0 (za1 ↑12 (zaF yaB ↥1 rfl zav ↑[pv 2,zfC (pv 0) T.Sender_cl yae ↥1 zav ↑[pv 5]]) zaj ↑3)) (zac (zcD (zaI zgB (pv 6) zfQ (zaW _)) (zac zde zah) zah) zah))) zah))))),λp dx=>⟨↑114,?_,rfl⟩⟩
 show L2.Run _ ([.ob true A.Sender p dx [],⇑[dX (v1) (zaM A.Book P0)],⇑[dX (v2) (zaM A.Book P1)],⇑[dQ K (List.map lI P2)],.no,.no,.no]:L2.Ctx) _ _
 exact (zd4 (m:=true) (Ev.any (m:=true) (zam (x:=(P0,P1,P2)) (zab (zjs (i:=1) rfl) (zab (zjs (i:=2) rfl) (zab ⇑9 zag))) rfl (by show zbt P0 P1 P2;exact hp.1) rfl)) (zeJ (i:=0) rfl (znc (i:=1) rfl) T.Sender_cl T.Sender_first [] rfl ↥5 ↑1 (zeJ (i:=0) rfl (znc (i:=2) rfl) T.Sender_cl T.Sender_second ["first"] rfl ↥5 ↑1 (zeJ (i:=0) rfl (EvO.ev (EvO.conv (zbS (g:=(λ(x150:Ji)=>dL (List.map dI x150))) (zbG (m:=false) lI (xs:=P2) ⇑9) ↥(zvA hp) ↑5 (λi151 x150 hx152=>have v152:=List.mem_of_getElem? hx152;(EvO.ev (EvO.anyI (m:=false) (zgD ↑26))))) ↑8)) T.Sender_cl T.Sender_baskets ["first","second"] rfl ↥5 ↑1 (zkr (s0:=()) (λ(s153:Unit)=>↑114) (λ(s153:Unit) (x154:(Int×Ji))=>(Let ((m_shown P1 (zad ↑84 x154.2)).2) (λ(v158:(Option (LineD⊕RestD)))=>()))) (λ_ _=>True) (zg8 (m:=false) lI (xs:=P0.swaps) (Ev.weak (K:=K) (zaU (zjs (i:=1) rfl) T.Book_cl T.Book_swaps rfl))) (.eq ↑17) trivial (λi155 x154 s153 hx156 hI157=>have v156:=zdG hx156;⟨trivial,(zar (m:=true) (x:=(m_shown P1 (zad ↑84 x154.2)).2) (kk:=λ(v158:(Option (LineD⊕RestD)))=>()) (dOpt (dSc A)) (λz=>Oc.nx ((λ(s153:Unit)=>↑114) z)) (EvN.ev (EvN.borrowBX (i:=0) (i1:=1) (i2:=2) rfl rfl ↑1 ↑1 rfl rfl (zlP (zcs (zam (x:=(P1,(zad ↑84 x154.2))) (zab (zjs (i:=2) rfl) (zab (Ev.old (zc4 (x:=(↑84,x154.2)) ↑2 (zab (Ev.weak (K:=K) ↑23) zag) rfl (by show zbh ↑84 x154.2;exact zvm hp ↥0) rfl rfl)) zag)) rfl (by show zff P1 (zad ↑84 x154.2);exact zvI hp ↥0) rfl) zaL rfl)))) (λv158 hv158=>have hC:=hv158;(zbD (EvT.conv (zaA (zcZ (x:=v158) (f:=(dSc A)) (Ev.old (zaa (i:=6) rfl)) zaL ztR)) ↥(zvf hp ↥0 hC)) (zay (zau (.eq (.eq ↑75)))))))⟩) (zau (Wk.refl _)))))))
def ClP (f:SenderD):Prop:=MkQ f.baskets∧PdP f.second.swaps f.first.many∧(zcB f.baskets).length+(zdo f.second.swaps f.first.many).length≤PySem.sizeLine∧Lat.znl (zcB f.baskets++zdo f.second.swaps f.first.many)
def zaP (P0:SenderD):Jq :=
 (zbu ((zcB P0.baskets)++(zdo P0.second.swaps P0.first.many)))
def zcG (P0:SenderD):Prop:=ClP P0
def zdK (K:W.Frag) (A:Adr):Sp:=Spv (ι:=SenderD) (λx=>[zaQ A A.Sender x]) (λx=>zcG x) (λx=>↥[dL (List.map lI (zaP x))])
theorem ziy:FnScope ["self"] ["self"] (zaf zcM):=↑4
theorem zh1 (F:Fun K "climb" "Sender.climb" zcM f fd) (T:Txt K mg A) (yar:Callee P w K mg base ⇑1 5 "climbed" ["rows"] (ze4 K A)) (yaS:Callee P w K mg base ⇑1 1 "marked" ["rows"] (zgN K A)) (ycd:Callee P w K mg base ⇑1 1 "padded" ["rows","many"] (zic K A)):FnOk P w K mg base ⇑1 6 f fd ["self"] (zdK K A):=by
 refine F.okV ziy ↥3 ↑46
 have hu:=hr.units
 replace hp:zcG P0:=hp
 unfold zcG at hp
 refine ⟨_,(zac (zaO (zaF yar ↥1 rfl zav ↑[(zaD zeK (zaF yaS ↥1 rfl zav ↑[↑9]) (zaF ycd ↥1 rfl zav ↑[(zas (K:=K) rfl ↑9 rfl),(zas (K:=K) rfl ↑9 rfl)]))])) zah),.inl ?_⟩
 show L2.Run _ ([⇑[zaQ A A.Sender P0]]:L2.Ctx) _ (↑36 (zaP P0))
 unfold zaP
 exact (zal (zaE (zam (x:=((zcB P0.baskets)++(zdo P0.second.swaps P0.first.many))) (zab (Ev.old (Ev.weak (K:=K) (EvO.ev (zdC (f:=lI) (xs:=(zcB P0.baskets)) (ys:=(zdo P0.second.swaps P0.first.many)) (zam (x:=P0.baskets) (zab (Ev.weak (K:=K) (zaU ↑2 T.Sender_cl T.Sender_baskets rfl)) zag) rfl (by show zfb P0.baskets;exact hp.1) rfl) (zam (x:=(P0.second.swaps,P0.first.many)) (zab (Ev.weak (K:=K) (zaU ↑60 T.Book_cl T.Book_swaps rfl)) (zab ↑130 zag)) rfl (by show zgc P0.second.swaps P0.first.many;exact hp.2.1) rfl) ↥(hp.2.2.1))))) zag) rfl (by show zdX ((zcB P0.baskets)++(zdo P0.second.swaps P0.first.many));exact hp.2.2.2) rfl)))
def BaP (f:SenderD) (x:Ji):Prop:=(x.length:Int)=f.second.many∧ClP f∧zuB (zaP f) x f.first.many
def BrP (f:SenderD) (x:Ji):Prop:=(x.length:Int)=f.second.many∧f.second.swaps.length+f.baskets.length≤PySem.sizeLine∧za7 f.second.many (f.second.swaps++f.baskets)∧SnS ⟨f.second.many,f.second.swaps++f.baskets⟩ x
theorem zvV {f:SenderD} {x:Ji} {w:BookD} (h:BrP f x) (e:w=zfJ f.second.many (f.second.swaps++f.baskets)):SnS w x:=by
 rw [e];unfold zfJ;rw [zcl];exact h.2.2.2
def LoP (f:SenderD):Prop:=ClP f∧(zaP f).length≤1000∧za7 f.first.many (zej (zaP f) f.second.many)
def BhP (g f:SenderD):Prop:=(f.second.many=g.first.many∧f.second.swaps=g.first.swaps)∧(∀ r∈f.baskets,SeP g r)∧f.baskets.length≤PySem.sizeLine∧SiP f.first g.second (List.map (λ(r:Ji)=>zad g r) f.baskets)
def WiQ (a b:BookD):Prop:=a.many=b.many∧∀ s∈a.swaps,SnS b s
theorem zvt {a b:BookD} {i:Nat} {p:Int×Ji} (h:WiQ a b) (q:i<a.swaps.length∧p.1=(i:Int)∧a.swaps[i]?=some p.2):SnS b p.2:=h.2 _ (List.mem_of_getElem? q.2.2)
def zaN (P0:SenderD) (P1:Ji):(Option Ji) :=
 (zei (zaP P0 ) P1 P0.first.many)
def zcW (P0:SenderD) (P1:Ji):Prop:=BaP P0 P1
def zd8 (K:W.Frag) (A:Adr):Sp:=Spv (ι:=SenderD×Ji) (λx=>[zaQ A A.Sender x.1,dQ K (List.map dI x.2)]) (λx=>zcW x.1 x.2) (λx=>↥[dOpt lI (zaN x.1 x.2)])
theorem ziP:FnScope ["self","basket"] ["self","basket"] (zaf zda):=↑4
theorem ziQ (F:Fun K "back" "Sender.back" zda f fd) (T:Txt K mg A) (yap:CalleeM P w K mg base ⇑1 6 A.Sender "climb" ["self"] (zdK K A)) (ybO:Callee P w K mg base ⇑1 4 "counted" ["steps","basket","many"] (zg6 K A)) (yac:Callee P w K mg base ⇑1 1 "refuse_bad_basket" ["book","basket"] (zbn K A)):FnOk P w K mg base ⇑1 7 f fd ["self","basket"] (zd8 K A):=by
 refine F.okV ziP ↥3 ↑6
 obtain ⟨P0,P1⟩:=x
 have hu:=hr.units
 replace hp:zcW P0 P1:=hp
 unfold zcW at hp
 refine ⟨_,(zac (zci (zaF yac ↥1 rfl zav ↑[↑9,pv 1])) (zac (zaO (zaF ybO ↥1 rfl zav ↑[zg7 (pv 0) T.Sender_cl yap ↥1 zav,pv 1,(zas (K:=K) rfl ↑9 rfl)])) zah)),.inl ?_⟩
 show L2.Run _ ([⇑[zaQ A A.Sender P0],⇑[dQ K ↑7]]:L2.Ctx) _ ((λ(r:(Option Ji))=>Oc.rt true (dOpt lI r)) (zaN P0 P1))
 unfold zaN
 exact (zd4 (m:=true) (Ev.any (m:=true) (zam (x:=(P0.second,P1)) (zab ↑60 (zab ⇑2 zag)) rfl (by show za4 P0.second P1;exact hp.1) rfl)) (zal (zaE (zam (x:=((zaP P0 ),P1,P0.first.many)) (zab (Ev.old (Ev.weak (K:=K) (zc4 (x:=(P0)) ↑2 zag rfl (by show zcG P0;exact hp.2.1) rfl rfl))) (zab ⇑2 (zab ↑130 zag))) rfl (by show zfr (zaP P0 ) P1 P0.first.many;exact hp.2.2) rfl))))
def zcb (P0:SenderD) (P1:Ji):(Option (LineD⊕RestD)) :=
 (Let (zfJ P0.second.many (P0.second.swaps++P0.baskets)) (λ(v161:BookD)=>(m_shown v161 P1).2))
def zd3 (P0:SenderD) (P1:Ji):Prop:=BrP P0 P1
def zfq (K:W.Frag) (A:Adr):Sp:=Spv (ι:=SenderD×Ji) (λx=>[zaQ A A.Sender x.1,dL (List.map dI x.2)]) (λx=>zd3 x.1 x.2) (λx=>↥[dOpt (dSc A) (zcb x.1 x.2)])
theorem zgR:FnScope ["self","basket","wide"] ["self","basket"] (zaf zdy):=↑4
theorem zjj (F:Fun K "bar" "Sender.bar" zdy f fd) (T:Txt K mg A) (yac:Callee P w K mg base ⇑1 1 "refuse_bad_basket" ["book","basket"] (zbn K A)) (yaB:Callee P w K mg base ⇑1 6 "shown" ["book","basket"] (zgJ K A)) {yaZ:Addr} {yaH:FuncData} (yaI:Mk K A.Book yaZ) (yaj:FnOk P w K mg base ⇑1 1 yaZ yaH ["self","many","swaps"] (zdn K A)) (yak:zfA K yaH ["self","many","swaps"] []):FnOk P w K mg base ⇑1 7 f fd ["self","basket"] (zfq K A):=by
 refine F.okV zgR ↥3 ↑6
 obtain ⟨P0,P1⟩:=x
 have hu:=hr.units
 replace hp:zd3 P0 P1:=hp
 unfold zd3 at hp
 refine ⟨_,(zac (zci (zaF yac ↥1 rfl zav ↑[↑9,pv 1])) (zac (zat (i:=2) zgR.nd rfl ⇑0 (zfI yaI yaj ↥1 rfl T.Book yak .nil zav ↑[(zas (K:=K) rfl ↑9 rfl),(zaD zeK (zas (K:=K) rfl ↑9 rfl) ↑9)])) (zac (zaO (za1 ↑12 (zaF yaB ↥1 rfl zav ↑[pv 2,pv 1]) zaj ↑3)) zah))),.inl ?_⟩
 show L2.Run _ ([⇑[zaQ A A.Sender P0],⇑[dL ↑7],.no]:L2.Ctx) _ ((λ(r:(Option (LineD⊕RestD)))=>Oc.rt true (dOpt (dSc A) r)) (zcb P0 P1))
 unfold zcb
 exact (zd4 (m:=true) (Ev.any (m:=true) (zam (x:=(P0.second,P1)) (zab ↑60 (zab (Ev.weak (K:=K) ⇑2) zag)) rfl (by show za4 P0.second P1;exact hp.1) rfl)) (zar (m:=true) (x:=(zfJ P0.second.many (P0.second.swaps++P0.baskets))) (zaM A.Book) (λ(r:(Option (LineD⊕RestD)))=>Oc.rt true (dOpt (dSc A) r)) (zlj (i:=(P0.second.many,(P0.second.swaps++P0.baskets))) (zab (Ev.any (m:=false) (zaU ↑60 T.Book_cl T.Book_many rfl)) (zab (Ev.weak (K:=K) (EvO.ev (zdC (f:=lI) (xs:=P0.second.swaps) (ys:=P0.baskets) (zaU ↑60 T.Book_cl T.Book_swaps rfl) (zaU ↑2 T.Sender_cl T.Sender_baskets rfl) ↥(hp.2.1)))) zag)) rfl (by show za7 P0.second.many (P0.second.swaps++P0.baskets);exact hp.2.2.1)) (λv161 hv161=>have hW:=hv161;(zal (zaE (zcs (zam (x:=(v161,P1)) (zab (Ev.old ↑18) (zab ⇑2 zag)) rfl (by show zff v161 P1;exact zvV hp hW) rfl) zaL rfl))))))
def zai (P0:SenderD):BookD :=
 (zfJ P0.first.many (zej (zaP P0) P0.second.many))
def zbW (P0:SenderD):Prop:=LoP P0
def zd2 (K:W.Frag) (A:Adr):Sp:=Spv (ι:=SenderD) (λx=>[zaQ A A.Sender x]) (λx=>zbW x) (λx=>↥[zaM A.Book (zai x)])
theorem ziN:FnScope ["self"] ["self"] (zaf zc9):=↑4
theorem ziK (F:Fun K "lost" "Sender.lost" zc9 f fd) (T:Txt K mg A) (yap:CalleeM P w K mg base ⇑1 6 A.Sender "climb" ["self"] (zdK K A)) (ycx:Callee P w K mg base ⇑1 2 "tails" ["steps","many"] (zjp K A)) {yaZ:Addr} {yaH:FuncData} (yaI:Mk K A.Book yaZ) (yaj:FnOk P w K mg base ⇑1 1 yaZ yaH ["self","many","swaps"] (zdn K A)) (yak:zfA K yaH ["self","many","swaps"] []):FnOk P w K mg base ⇑1 7 f fd ["self"] (zd2 K A):=by
 refine F.okV ziN ↥3 ↑46
 have hu:=hr.units
 replace hp:zbW P0:=hp
 unfold zbW at hp
 refine ⟨_,(zac (zaO (zfI yaI yaj ↥1 rfl T.Book yak .nil zav ↑[(zas (K:=K) rfl ↑9 rfl),(zaF ycx ↥1 rfl zav ↑[zg7 (pv 0) T.Sender_cl yap ↥1 zav,(zas (K:=K) rfl ↑9 rfl)])])) zah),.inl ?_⟩
 show L2.Run _ ([⇑[zaQ A A.Sender P0]]:L2.Ctx) _ ((λ(r:BookD)=>Oc.rt true (zaM A.Book r)) (zai P0))
 unfold zai
 exact (zal (zaE (zlj (i:=(P0.first.many,(zej (zaP P0) P0.second.many))) (zab ↑130 (zab (Ev.old (Ev.weak (K:=K) (zam (x:=((zaP P0 ),P0.second.many)) (zab (Ev.old (Ev.weak (K:=K) (zc4 (x:=(P0)) ↑2 zag rfl (by show zcG P0;exact hp.1) rfl rfl))) (zab (Ev.any (m:=false) (zaU ↑60 T.Book_cl T.Book_many rfl)) zag)) rfl (by show zgZ (zaP P0 ) P0.second.many;exact hp.2.1) rfl))) zag)) rfl (by show za7 P0.first.many (zej (zaP P0) P0.second.many);exact hp.2.2))))
def zaV (P0:SenderD) (P1:SenderD):SenderD :=
 (m_Sender P1.first P0.second (List.map (λ(x162:Ji)=>(zad P0 x162)) P1.baskets))
def zcn (P0:SenderD) (P1:SenderD):Prop:=BhP P0 P1
def zdp (K:W.Frag) (A:Adr):Sp:=Spv (ι:=SenderD×SenderD) (λx=>[zaQ A A.Sender x.1,zaQ A A.Sender x.2]) (λx=>zcn x.1 x.2) (λx=>⇑[zaQ A A.Sender (zaV x.1 x.2)])
theorem zhH:FnScope ["self","other"] ["self","other"] (zaf zbZ):=↑4
theorem zhL (F:Fun K "behind" "Sender.behind" zbZ f fd) (T:Txt K mg A) (yae:CalleeM P w K mg base ⇑1 3 A.Sender "sent" ["self","basket"] (zcI K A)) (yay:Callee P w K mg base ⇑1 1 "refuse_other_book" ⇑4 (zdi K A)) {yaz:Addr} {yat:FuncData} (yas:Mk K A.Sender yaz) (yaf:FnOk P w K mg base ⇑1 7 yaz yat ["self","first","second","baskets"] (zcR K A)) (yag:zfA K yat ["self","first","second","baskets"] []):FnOk P w K mg base ⇑1 9 f fd ["self","other"] (zdp K A):=by
 refine F.okV zhH ↥3 ↑6
 obtain ⟨P0,P1⟩:=x
 have hu:=hr.units
 replace hp:zcn P0 P1:=hp
 unfold zcn at hp
 refine ⟨_,(zac (zci (zaF yay ↥1 rfl zav ↑[↑28,↑9])) (zac (zaO (zfI yas yaf ↥1 rfl T.Sender yag .nil zav ↑[↑28,↑9,(zcf rfl (.of (osc:=(zaf zbZ)) (N:=["self","other"]) (own:=["basket"]) (fvn:=["self"]) (fv:=[0]) rfl rfl ↥5) (zaZ (K:=K) rfl ↑28) (λ_ _ _ _ _=>⟨(zao (i:=0) (show (["basket","self"]:List Str).Nodup by decide +kernel) rfl ⇑0 ↥6),zbc,(zfC (pv 1) T.Sender_cl yae ↥1 zav ↑[pv 0])⟩))])) zah)),.inl ?_⟩
 show L2.Run _ ([⇑[zaQ A A.Sender P0],⇑[zaQ A A.Sender P1]]:L2.Ctx) _ ((λ(r:SenderD)=>Oc.rt false (zaQ A A.Sender r)) (zaV P0 P1))
 unfold zaV
 exact (zd4 (m:=true) (Ev.any (m:=true) (zam (x:=(P1.second,P0.first)) (zab (zaU ⇑2 T.Sender_cl T.Sender_second rfl) (zab (zaU ↑2 T.Sender_cl T.Sender_first rfl) zag)) rfl (by show zca P1.second P0.first;exact hp.1) rfl)) (zal (zaE (zhV (x:=(P1.first,P0.second,(List.map (λ(x162:Ji)=>(zad P0 x162)) P1.baskets))) (zab (zaU ⇑2 T.Sender_cl T.Sender_first rfl) (zab ↑60 (zab (Ev.old (Ev.weak (K:=K) (EvO.ev (EvO.conv (zbS (g:=(λ(x162:Ji)=>dL (List.map dI (zad P0 x162)))) (zbG (m:=false) lI (xs:=P1.baskets) (Ev.weak (K:=K) (zaU ⇑2 T.Sender_cl T.Sender_baskets rfl))) ↥(hp.2.2.1) ↑5 (λi163 x162 hx164=>have v164:=List.mem_of_getElem? hx164;(zc4 (x:=(P0,x162)) ⇑2 (zab ↑26 zag) rfl (by show zbh P0 x162;exact hp.2.1 _ ↥0) rfl rfl))) ↑8)))) zag))) rfl (by show zbf P1.first P0.second (List.map (λ(x162:Ji)=>(zad P0 x162)) P1.baskets);exact hp.2.2.2)))))
def zgH (P0:Jq) (P1:Ji) (P2:Jq):StairsD:=⟨P0,P1,P2⟩
def zcC (P0:Jq) (P1:Ji) (P2:Jq):Prop:=True
def zeQ (K:W.Frag) (A:Adr):Sp:=zrJ (ι:=Jq×Ji×Jq) A.Stairs (λx=>[dL (List.map lI x.1),dL (List.map dI x.2.1),dL (List.map lI x.2.2)]) (λx=>zcC x.1 x.2.1 x.2.2) false (λx=>[("steps",dL (List.map lI (((zgH x.1 x.2.1 x.2.2)).steps))),("heads",dL (List.map dI (((zgH x.1 x.2.1 x.2.2)).heads))),("roads",dL (List.map lI (((zgH x.1 x.2.1 x.2.2)).roads)))])
theorem zgX:FnScope ["self","steps","heads","roads"] ["self","steps","heads","roads"] (zaf zbR):=↑4
theorem zgY (F:Fun K "__init__" "Stairs.__init__" zbR f fd) (T:Txt K mg A) :FnOk P w K mg base ⇑1 1 f fd ["self","steps","heads","roads"] (zeQ K A):=by
 refine F.okI zgX ↥3 ↑6
 obtain ⟨P0,P1,P2⟩:=x
 have hu:=hr.units
 replace hp:zcC P0 P1 P2:=hp
 unfold zcC at hp
 refine ⟨_,(zac (zhz (pv 0) (pv 1) rfl) (zac (zhz (pv 0) (pv 2) rfl) (zac (zhz (pv 0) (pv 3) rfl) zah))),λp dx=>⟨([.ob false A.Stairs p dx [("steps",dL ⇑8),("heads",dL ↑7),("roads",dL (List.map lI P2))],⇑[dL ⇑8],⇑[dL ↑7],⇑[dL (List.map lI P2)]]:L2.Ctx),?_,rfl⟩⟩
 show L2.Run _ ([.ob false A.Stairs p dx [],⇑[dL ⇑8],⇑[dL ↑7],⇑[dL (List.map lI P2)]]:L2.Ctx) _ _
 exact (zeJ (i:=0) rfl ⇑2 T.Stairs_cl T.Stairs_steps [] rfl ↥5 ↑1 (zeJ (i:=0) rfl ↑18 T.Stairs_cl T.Stairs_heads ["steps"] rfl ↥5 ↑1 (zeJ (i:=0) rfl ⇑9 T.Stairs_cl T.Stairs_roads ["steps","heads"] rfl ↥5 ↑1 (zau (Wk.refl _)))))
def zdJ (P0:BookD):StairsD :=
 (Let (List.map (λ(x165:Ji)=>x165) (List.filter (λ(x165:Ji)=>(decide ((zak x165)<P0.many))) (zdd P0.swaps))) (λ(v168:Jq)=>(Let (List.map (λ(x169:Ji)=>(zcQ x169 none (some P0.many))) v168) (λ(v172:Jq)=>(Let (List.map (λ(x173:Ji)=>(zak x173)) v168) (λ(hv176:Ji)=>(Let (List.map (λ(x177:Ji)=>(zcQ x177 (some P0.many) none)) v168) (λ(v180:Jq)=>(zgH v172 hv176 v180)))))))))
def zfc (P0:BookD):Prop:=TrQ P0.swaps∧0≤P0.many∧P0.many≤100
def zhZ (K:W.Frag) (A:Adr):Sp:=Spv (ι:=BookD) (λx=>[zaM A.Book x]) (λx=>zfc x) (λx=>↥[zhb A.Stairs (zdJ x)])
theorem zfF:FnScope ["book","rows","steps","heads","roads"] ["book"] (zaf zd1):=↑4
theorem znA (F:Fun K "stairs" "stairs" zd1 f fd) (T:Txt K mg A) (yab:Callee P w K mg base ⇑1 1 "head_of" ["row"] (zcK K A)) (yce:Callee P w K mg base ⇑1 6 "traced" ["rows"] (zis K A)) {yc8:Addr} {ycR:FuncData} (ycf:Mk K A.Stairs yc8) (yaD:FnOk P w K mg base ⇑1 1 yc8 ycR ["self","steps","heads","roads"] (zeQ K A)) (yaE:zfA K ycR ["self","steps","heads","roads"] []):FnOk P w K mg base ⇑1 7 f fd ["book"] (zhZ K A):=by
 refine F.okV zfF ↥3 ↑46
 have hu:=hr.units
 replace hp:zfc P0:=hp
 unfold zfc at hp
 refine ⟨_,(zac (zdB (i:=1) rfl zfF.nd rfl rfl ↑122 (zaZ (K:=K) rfl (zaF yce ↥1 rfl zav ↑[↑9])) (λ_ _ _ _ _=>⟨↑107,(zkQ (zaI zj7 (zaF yab ↥1 rfl zav ↑[pv 0]) ↑28 (zaW _))),(pv 0)⟩)) (zac (zdB (i:=2) rfl zfF.nd rfl rfl ↑122 (zaZ (K:=K) rfl (pv 1)) (λ_ _ _ _ _=>⟨↑107,zbc,(zdc (zcr (K:=K) rfl) (pv 0) ze1 (zdh ↑28))⟩)) (zac (zdB (i:=3) rfl zfF.nd rfl rfl (.of (osc:=(zaf zd1)) (N:=["book","rows","steps","heads","roads"]) (own:=["row"]) (fvn:=[]) (fv:=[]) rfl rfl ↥5) (zaZ (K:=K) rfl (pv 1)) (λ_ _ _ _ _=>⟨(zao (i:=0) (show (["row"]:List Str).Nodup by decide +kernel) rfl ⇑0 ↥6),zbc,(zaF yab ↥1 rfl zav ↑[pv 0])⟩)) (zac (zdB (i:=4) rfl zfF.nd rfl rfl ↑122 (zaZ (K:=K) rfl (pv 1)) (λ_ _ _ _ _=>⟨↑107,zbc,(zdc (zcr (K:=K) rfl) (pv 0) (zdh ↑28) ze1)⟩)) (zac (zaO (zfI ycf yaD ↥1 rfl T.Stairs yaE .nil zav ↑[pv 2,pv 3,pv 4])) zah))))),.inl ?_⟩
 show L2.Run _ ([⇑[zaM A.Book P0],.no,.no,.no,.no]:L2.Ctx) _ ((λ(r:StairsD)=>Oc.rt true (zhb A.Stairs r)) (zdJ P0))
 unfold zdJ
 exact (zar (m:=true) (x:=(List.map (λ(x165:Ji)=>x165) (List.filter (λ(x165:Ji)=>(decide ((zak x165)<P0.many))) (zdd P0.swaps)))) ↑40 (λ(r:StairsD)=>Oc.rt true (zhb A.Stairs r)) (EvO.ev (EvO.conv (zjR (c:=λ(x165:Ji)=>(decide ((zak x165)<P0.many))) (g:=(λ(x165:Ji)=>dL (List.map dI x165))) (zbG (m:=true) lI (xs:=(zdd P0.swaps)) (Ev.weak (K:=K) (zam (x:=P0.swaps) (zab (Ev.weak (K:=K) (zaU ↑2 T.Book_cl T.Book_swaps rfl)) zag) rfl (by show zgd P0.swaps;exact hp.1) rfl))) ↥(zrZ hp.1) ↑5 (λi166 x165 hx167=>have v167:=List.mem_of_getElem? hx167;(zaA (za0 (x:=(zak x165)) (y:=P0.many) (Ev.any (m:=true) (zam (x:=x165) (zab (Ev.old ↑26) zag) rfl (by show za8 x165;exact trivial) rfl)) ↑51))) (λi166 x165 hx167 hc=>have v167:=List.mem_of_getElem? hx167;↑2)) ↑8)) (λv168 hv168=>have hR:=zpa hp.1 hv168;(zar (m:=true) (x:=(List.map (λ(x169:Ji)=>(zcQ x169 none (some P0.many))) v168)) ↑40 (λ(r:StairsD)=>Oc.rt true (zhb A.Stairs r)) (EvO.ev (EvO.conv (zbS (g:=(λ(x169:Ji)=>dL (List.map dI (zcQ x169 none (some P0.many))))) (zbG (m:=true) lI (xs:=v168) (Ev.weak (K:=K) ⇑2)) ↥(zan ↑0) ↑5 (λi170 x169 hx171=>have v171:=List.mem_of_getElem? hx171;(EvO.ev (EvO.anyI (m:=true) (zdZ (f:=dI) (xs:=x169) ↑26 zd7 (zck ↑51)))))) ↑8)) (λv172 hv172=>(zar (m:=true) (x:=(List.map (λ(x173:Ji)=>(zak x173)) v168)) lI (λ(r:StairsD)=>Oc.rt true (zhb A.Stairs r)) (EvO.ev (EvO.conv (zbS (g:=(λ(x173:Ji)=>dI (zak x173))) (zbG (m:=true) lI (xs:=v168) (Ev.weak (K:=K) ⇑2)) ↥(zan ↑0) ↑5 (λi174 x173 hx175=>have v175:=List.mem_of_getElem? hx175;(Ev.any (m:=true) (zam (x:=x173) (zab (Ev.old ↑26) zag) rfl (by show za8 x173;exact trivial) rfl)))) ↑8)) (λhv176 hheads176=>(zar (m:=true) (x:=(List.map (λ(x177:Ji)=>(zcQ x177 (some P0.many) none)) v168)) ↑40 (λ(r:StairsD)=>Oc.rt true (zhb A.Stairs r)) (EvO.ev (EvO.conv (zbS (g:=(λ(x177:Ji)=>dL (List.map dI (zcQ x177 (some P0.many) none)))) (zbG (m:=true) lI (xs:=v168) (Ev.weak (K:=K) ⇑2)) ↥(zan ↑0) ↑5 (λi178 x177 hx179=>have v179:=List.mem_of_getElem? hx179;(EvO.ev (EvO.anyI (m:=true) (zdZ (f:=dI) (xs:=x177) ↑26 (zck ↑51) zd7))))) ↑8)) (λv180 hv180=>(zal (zaE (zpg (i:=(v172,hv176,v180)) (zab ↑18 (zab ⇑9 (zab ↑14 zag))) rfl (by show zcC v172 hv176 v180;exact trivial))))))))))))
def zpW (n:Nat) (sw:Jq):Jq:=List.filter (λ(x:Ji)=>decide (Lat.hd x<n)) (Lat.clm Lat.MG (Lat.mark sw))
theorem ziq {b:BookD} {n:Nat} (hn:b.many=(n:Int)):zdJ b=⟨Lat.zml n (Lat.clm Lat.MG (Lat.mark b.swaps)),List.map (λ(x:Ji)=>(Lat.hd x:Int)) (zpW n b.swaps),List.map (λ(x:Ji)=>x.drop n) (zpW n b.swaps)⟩:=by
 unfold zdJ zgH Let
 simp only [zkx,zcN,hn,zlH,Lat.zeV]
 have e:(λ(x:Ji)=>decide ((Lat.hd x:Int)<(n:Int)))=λ(x:Ji)=>decide (Lat.hd x<n):=funext λx=>by simp
 rw [e,List.map_id']
 rfl
def zbX (P0:BookD) (P1:Ji):Ji :=
 (m_lowered P1 ((zdJ P0).steps))
def zb7 (P0:BookD) (P1:Ji):Prop:=(P1.length:Int)=P0.many∧zfc P0∧Lat.LowP P1 (zdJ P0).steps
def zjw (K:W.Frag) (A:Adr):Sp:=Spv (ι:=BookD×Ji) (λx=>[zaM A.Book x.1,dQ K (List.map dI x.2)]) (λx=>zb7 x.1 x.2) (λx=>↥[dL (List.map dI (zbX x.1 x.2))])
theorem zqR:FnScope ["book","basket"] ["book","basket"] (zaf zja):=↑4
theorem zqE (F:Fun K "home" "home" zja f fd) (T:Txt K mg A) (yal:Callee P w K mg base ⇑1 3 "lowered" ["row","steps"] (zez K A)) (yac:Callee P w K mg base ⇑1 1 "refuse_bad_basket" ["book","basket"] (zbn K A)) (ycg:Callee P w K mg base ⇑1 7 "stairs" ["book"] (zhZ K A)):FnOk P w K mg base ⇑1 8 f fd ["book","basket"] (zjw K A):=by
 refine F.okV zqR ↥3 ↑6
 obtain ⟨P0,P1⟩:=x
 have hu:=hr.units
 replace hp:zb7 P0 P1:=hp
 unfold zb7 at hp
 refine ⟨_,(zac (zci (zaF yac ↥1 rfl zav ↑[pv 0,pv 1])) (zac (zaO (zaF yal ↥1 rfl zav ↑[pv 1,(zas (K:=K) rfl (zaF ycg ↥1 rfl zav ↑[pv 0]) rfl)])) zah)),.inl ?_⟩
 show L2.Run _ ([⇑[zaM A.Book P0],⇑[dQ K ↑7]]:L2.Ctx) _ (↑58 (zbX P0 P1))
 unfold zbX
 exact (zd4 (m:=true) (Ev.any (m:=true) (zam (x:=(P0,P1)) (zab ↑2 (zab ⇑2 zag)) rfl (by show za4 P0 P1;exact hp.1) rfl)) (zal (zaE (zam (x:=(P1,(zdJ P0).steps)) (zab ⇑2 (zab (Ev.old (Ev.weak (K:=K) (zaU (zam (x:=P0) (zab ↑2 zag) rfl (by show zfc P0;exact hp.2.1) rfl) T.Stairs_cl T.Stairs_steps rfl))) zag)) rfl (by show zcw P1 ((zdJ P0).steps);exact hp.2.2) rfl))))
theorem zqi {b:BookD} {n:Nat} (hn:b.many=(n:Int)) (x:Ji):zbX b x=Lat.low x (Lat.zml n (Lat.clm Lat.MG (Lat.mark b.swaps))):=by
 unfold zbX
 rw [zdA,ziq hn]
def zen (P0:BookD) (P1:BookD):Unit:=()
def zb4 (P0:BookD) (P1:BookD):Prop:=P0.many=P1.many
def zc6 (K:W.Frag) (A:Adr):Sp:=Spv (ι:=BookD×BookD) (λx=>[zaM A.Book x.1,zaM A.Book x.2]) (λx=>zb4 x.1 x.2) (λx=> ↥[dN])
theorem zfK:FnScope ⇑4 ⇑4 (zaf zbl):=↑4
theorem zfD (F:Fun K "refuse_other_wares" "refuse_other_wares" zbl f fd) (T:Txt K mg A) :FnOk P w K mg base ⇑1 1 f fd ⇑4 (zc6 K A):=by
 refine F.okV zfK ↥3 ↑6
 obtain ⟨P0,P1⟩:=x
 have hu:=hr.units
 replace hp:zb4 P0 P1:=hp
 unfold zb4 at hp
 refine ⟨_,(zac (zcD (zaI zhk ↑9 ↑28 (zaW _)) (zac zde zah) zah) zah),.inr ⟨_,([⇑[zaM A.Book P0],⇑[zaM A.Book P1]]:L2.Ctx),rfl,?_⟩⟩
 show L2.Run _ ([⇑[zaM A.Book P0],⇑[zaM A.Book P1]]:L2.Ctx) _ _
 exact (zbD (EvT.conv (zaA (zfz (x:=P0.many) (y:=P1.many) ↑67 ↑51)) ↥(zrg hp)) (zay (zau (Wk.refl _))))
def zbe (P0:BookD) (P1:BookD):(Option (Int×(LineD ⊕ RestD))) :=
 (zmO (zc2 ↑142 () (zfB P0.swaps)) (λ(r189:Unit)=>none) (λb=>b))
def zdT (P0:BookD) (P1:BookD):Prop:=WiQ P0 P1
def zgM (K:W.Frag) (A:Adr):Sp:=Spv (ι:=BookD×BookD) (λx=>[zaM A.Book x.1,zaM A.Book x.2]) (λx=>zdT x.1 x.2) (λx=>↥[dOpt ↑82 (zbe x.1 x.2)])
theorem zg1:FnScope ["one","other","place","swap","scale"] ⇑4 (zaf zfW):=↑4
theorem zmT (F:Fun K "within" "within" zfW f fd) (T:Txt K mg A) (yav:Callee P w K mg base ⇑1 1 "refuse_other_wares" ⇑4 (zc6 K A)) (yaB:Callee P w K mg base ⇑1 6 "shown" ["book","basket"] (zgJ K A)):FnOk P w K mg base ⇑1 7 f fd ⇑4 (zgM K A):=by
 refine F.okV zg1 ↥3 ↑6
 obtain ⟨P0,P1⟩:=x
 have hu:=hr.units
 replace hp:zdT P0 P1:=hp
 unfold zdT at hp
 refine ⟨_,(zac (zci (zaF yav ↥1 rfl zav ↑[pv 0,pv 1])) (zac (zcS PassesOwn.never rfl (zhc rfl rfl T.enumerate ↑[↑9]) (zb3 (K:=K) (n:=2) rfl rfl (zaH (zao (i:=2) zg1.nd rfl ⇑0 ⇑0) (zaH (zao (i:=3) zg1.nd rfl ⇑0 ⇑0) zcA))) (zac (zat (i:=4) zg1.nd rfl ⇑0 (za1 ↑12 (zaF yaB ↥1 rfl zav ↑[pv 1,pv 3]) zaj ↑3)) (zac (zcD (zaI zgB (pv 4) zfQ (zaW _)) (zac (zaO (zhw ↑[pv 2,pv 4])) zah) zah) zah))) (zac (zaO zfQ) zah))),.inl ?_⟩
 show L2.Run _ ([⇑[zaM A.Book P0],⇑[zaM A.Book P1],.no,.no,.no]:L2.Ctx) _ (↑111 (zbe P0 P1))
 unfold zbe
 exact (zd4 (m:=true) (Ev.any (m:=true) (zam (x:=(P0,P1)) (zab ↑2 (zab ⇑2 zag)) rfl (by show zb4 P0 P1;exact hp.1) rfl)) (zhW (s0:=()) (λ(s182:Unit)=>([⇑[zaM A.Book P0],⇑[zaM A.Book P1],.no,.no,.no]:L2.Ctx)) ↑111 (λb=>b) ↑142 (λ_ _=>True) (λb=> .inl ⟨_,_,rfl⟩) (zg8 (m:=false) lI (xs:=P0.swaps) (Ev.weak (K:=K) (zaU ↑2 T.Book_cl T.Book_swaps rfl))) (.eq (.eq (.eq (.eq (.eq .nil))))) trivial (λi184 x183 s182 hx185 hI186=>have v185:=zdG hx185;⟨(λ_ _=>trivial),(zar (m:=true) (x:=(m_shown P1 x183.2).2) (dOpt (dSc A)) (zhE (λ(s182:Unit)=>([⇑[zaM A.Book P0],⇑[zaM A.Book P1],.no,.no,.no]:L2.Ctx)) ↑111) (zcs (zam (x:=(P1,x183.2)) (zab ⇑2 (zab ⇑9 zag)) rfl (by show zff P1 x183.2;exact zvt hp ↥0) rfl) zaL rfl) (λv187 hv187=>(zbo (b:=v187.isSome) (zhE (λ(s182:Unit)=>([⇑[zaM A.Book P0],⇑[zaM A.Book P1],.no,.no,.no]:L2.Ctx)) ↑111) (zaA (zcZ (x:=v187) (f:=(dSc A)) (Ev.old ↑14) zaL ztR)) (λh188=>(zaJ (zal (zaE (zhy (zab ↑25 (zab (ev_some (f:=(dSc A)) (x:=v187) ↑14 ↥(↥0)) zag)) (by show 2≤sizeLine;decide)))))) (λh188=>(zay (zau ↑75))))))⟩) (λr189 hr189 hI=>(zal (zaE zaL)))))
def zdQ (P0:Ji) (P1:Int):Int :=
 (bif (decide (P1<↑19)) then ((ixD P0 P1)%↑24) else (0:Int))
def zee (P0:Ji) (P1:Int):Prop:=0≤P1
def zgv (K:W.Frag) (A:Adr):Sp:=Spv (ι:=Ji×Int) (λx=>[dQ K (List.map dI x.1),dI x.2]) (λx=>zee x.1 x.2) (λx=>↥[dI (zdQ x.1 x.2)])
theorem zlg:FnScope ["_law_script","_law_k"] ["_law_script","_law_k"] (zaf zew):=↑4
theorem zkz (F:Fun K "_law_cell" "_law_cell" zew f fd) (T:Txt K mg A) :FnOk P w K mg base ⇑1 1 f fd ["_law_script","_law_k"] (zgv K A):=by
 refine F.okV zlg ↥3 ↑6
 obtain ⟨P0,P1⟩:=x
 have hu:=hr.units
 replace hp:zee P0 P1:=hp
 unfold zee at hp
 refine ⟨_,(zac (zcD (zaI zj7 (pv 1) ↑88 (zaW _)) (zac (zaO (zaD zed (za1 ⇑6 (pv 0) (pv 1) ↑3) zaj)) zah) zah) (zac (zaO zaj) zah)),.inl ?_⟩
 show L2.Run _ ([⇑[dQ K ↑16],⇑[dI P1]]:L2.Ctx) _ (↑20 (zdQ P0 P1))
 unfold zdQ
 exact (zbo (b:=(decide (P1<↑19))) ↑20 (zaA (za0 (x:=P1) (y:=↑19) ⇑7 (zbb (f:=dI) (xs:=P0) ↑2))) (λh190=>(zaJ (zal (zaE (zaT (x:=(ixD P0 P1)) (y:=↑24) (Ev.any (m:=false) (zbg (f:=dI) (xs:=P0) ↑2 ⇑7 (by unfold InB;constructor<;>((try simp only [decide_eq_true_eq,decide_eq_false_iff_not,Bool.not_eq_true',Bool.not_eq_false',Bool.and_eq_true,Bool.or_eq_false_iff,Bool.or_eq_true,Bool.and_eq_false_iff,Bool.cond_eq_ite] at *)<;>omega)))) zaL ↑1))))) (λh190=>(zay (zal (zaE zaL)))))
theorem zre {s:Ji} {i:Nat} {y:Int} (h:s.length≤i):(s++[y]).length≤i+1:=by simp;omega
theorem zs9 {s:Ji} {i n:Nat} {x lo:Int} (h:s.length≤i) (hx:i<n∧x=lo+(i:Int)) (hn:n≤400):s.length<PySem.sizeLine:=Nat.lt_of_le_of_lt (show _≤10000 by omega) ↑1
def zbd (P0:Ji) (P1:Int):Int :=
 (bif (decide (P1<↑19)) then (ixD P0 P1) else (0:Int))
def zcj (P0:Ji) (P1:Int):Prop:=0≤P1
def zhf (K:W.Frag) (A:Adr):Sp:=Spv (ι:=Ji×Int) (λx=>[dQ K (List.map dI x.1),dI x.2]) (λx=>zcj x.1 x.2) (λx=>↥[dI (zbd x.1 x.2)])
theorem zmF:FnScope ["_law_script","_law_k"] ["_law_script","_law_k"] (zaf ze6):=↑4
theorem zmm (F:Fun K "_law_raw" "_law_raw" ze6 f fd) (T:Txt K mg A) :FnOk P w K mg base ⇑1 1 f fd ["_law_script","_law_k"] (zhf K A):=by
 refine F.okV zmF ↥3 ↑6
 obtain ⟨P0,P1⟩:=x
 have hu:=hr.units
 replace hp:zcj P0 P1:=hp
 unfold zcj at hp
 refine ⟨_,(zac (zcD (zaI zj7 (pv 1) ↑88 (zaW _)) (zac (zaO (za1 ⇑6 (pv 0) (pv 1) ↑3)) zah) zah) (zac (zaO zaj) zah)),.inl ?_⟩
 show L2.Run _ ([⇑[dQ K ↑16],⇑[dI P1]]:L2.Ctx) _ (↑20 (zbd P0 P1))
 unfold zbd
 exact (zbo (b:=(decide (P1<↑19))) ↑20 (zaA (za0 (x:=P1) (y:=↑19) ⇑7 (zbb (f:=dI) (xs:=P0) ↑2))) (λh191=>(zaJ (zal (zaE (Ev.any (m:=false) (zbg (f:=dI) (xs:=P0) ↑2 ⇑7 (by unfold InB;simp only [decide_eq_true_eq] at *;omega))))))) (λh191=>(zay (zal (zaE zaL)))))
def zae (P0:Int) (P1:Int) (P2:Int):Int :=
 (Let (P0/↑24) (λ(v192:Int)=>(bif (decide ((v192%(2:Int))=(1:Int))) then (Let (v192/(2:Int)) (λ(v194:Int)=>(Let (List.foldl (λ(s195:Int) (x196:Int)=>(Let (s195/(60:Int)) (λ(v200:Int)=>v200))) v194 (za6 0 P1.toNat)) (λ(r201:Int)=>((r201%(60:Int))%P2))))) else (Let (((((P0%↑24)*(48271:Int))+(((69621:Int)*P1)*P1))+((7:Int)*P1))%(2147483629:Int)) (λ(v202:Int)=>(Let ((v202*v202)%(2147483587:Int)) (λ(v203:Int)=>(((v203*(v203+(48271:Int)))%(2147483563:Int))%P2))))))))
def zaS (P0:Int) (P1:Int) (P2:Int):Prop:=0≤P1∧P1≤1000∧0<P2
def zcu (K:W.Frag) (A:Adr):Sp:=Spv (ι:=Int×Int×Int) (λx=>[dI x.1,dI x.2.1,dI x.2.2]) (λx=>zaS x.1 x.2.1 x.2.2) (λx=>↥[dI (zae x.1 x.2.1 x.2.2)])
theorem zc1:FnScope ["_law_cell_here","_law_k","_law_many","_law_free","_law_step","_law_number"] ↑56 (zaf zdU):=↑4
theorem zkm (F:Fun K "_law_thing" "_law_thing" zdU f fd) (T:Txt K mg A) :FnOk P w K mg base ⇑1 1 f fd ↑56 (zcu K A):=by
 refine F.okV zc1 ↥3 ↑6
 obtain ⟨P0,P1,P2⟩:=x
 have hu:=hr.units
 replace hp:zaS P0 P1 P2:=hp
 unfold zaS at hp
 refine ⟨_,(zac (zat (i:=3) zc1.nd rfl ⇑0 (zaD zcx (pv 0) zaj)) (zac (zcD (zaI zhF (zaD zed (pv 3) zaj) zaj (zaW _)) (zac (zat (i:=3) zc1.nd rfl ⇑0 (zaD zcx (pv 3) zaj)) (zac (zcS PassesOwn.never rfl (zbY rfl T.range ↑[pv 1]) (zao (i:=4) zc1.nd rfl ⇑0 ⇑0) (zac (zat (i:=3) zc1.nd rfl ⇑0 (zaD zcx (pv 3) zaj)) zah)) (zac (zaO (zaD zed (zaD zed (pv 3) zaj) (pv 2))) zah))) zah) (zac (zat (i:=5) zc1.nd rfl ⇑0 (zaD zed (zaD zcH (zaD zcH (zaD zbK (zaD zed (pv 0) zaj) zaj) (zaD zbK (zaD zbK zaj (pv 1)) (pv 1))) (zaD zbK zaj (pv 1))) zaj)) (zac (zat (i:=5) zc1.nd rfl ⇑0 (zaD zed (zaD zbK (pv 5) (pv 5)) zaj)) (zac (zaO (zaD zed (zaD zed (zaD zbK (pv 5) (zaD zcH (pv 5) zaj)) zaj) (pv 2))) zah))))),.inl ?_⟩
 show L2.Run _ ([⇑[dI P0],⇑[dI P1],⇑[dI P2],.no,.no,.no]:L2.Ctx) _ (↑20 (zae P0 P1 P2))
 unfold zae
 exact (zar (m:=true) (x:=(P0/↑24)) dI ↑20 (zaT (x:=P0) (y:=↑24) ↥9 zaL ↥(↑5)) (λv192 hv192=>(zbo (b:=(decide ((v192%(2:Int))=(1:Int)))) ↑20 (zaA (zfw (x:=(v192%(2:Int))) (y:=(1:Int)) (zaT (x:=v192) (y:=(2:Int)) ↑48 zaL ↑1) zaL)) (λh193=>(zaJ (zar (m:=true) (x:=(v192/(2:Int))) dI ↑20 (zaT (x:=v192) (y:=(2:Int)) ↑48 zaL ↥(↑5)) (λv194 hv194=>(zaJ (zb2 (s0:=v194) (λ(s195:Int)=>([⇑[dI P0],⇑[dI P1],⇑[dI P2],↥[dI s195],.no,.no]:L2.Ctx)) ↑20 (λ(s195:Int) (x196:Int)=>(Let (s195/(60:Int)) (λ(v200:Int)=>v200))) (λ_ _=>True) (zdv (m:=true) (n:=P1) ⇑7 (by refine ⟨?_,?_⟩<;>omega)) ↑17 trivial (λi197 x196 s195 hx198 hI199=>have v198:=zbs hx198;⟨trivial,(zar (m:=true) (x:=(s195/(60:Int))) dI (λz=>Oc.nx ((λ(s195:Int)=>([⇑[dI P0],⇑[dI P1],⇑[dI P2],↥[dI s195],.no,.no]:L2.Ctx)) z)) (zaT (x:=s195) (y:=(60:Int)) ↑48 zaL ↥(↑5)) (λv200 hv200=>(zau (.eq (.eq (.eq (.eq (.no (.eq .nil)))))))))⟩) (λr201 hr201 hI=>(zaJ (zal (zaE (zaT (x:=(r201%(60:Int))) (y:=P2) (zaT (x:=r201) (y:=(60:Int)) ↑48 zaL ↑1) ↑25 ↥(hp.2.2)))))))))))) (λh193=>(zay (zar (m:=true) (x:=(((((P0%↑24)*(48271:Int))+(((69621:Int)*P1)*P1))+((7:Int)*P1))%(2147483629:Int))) dI ↑20 (zaT (x:=((((P0%↑24)*(48271:Int))+(((69621:Int)*P1)*P1))+((7:Int)*P1))) (y:=(2147483629:Int)) (za0 (x:=(((P0%↑24)*(48271:Int))+(((69621:Int)*P1)*P1))) (y:=((7:Int)*P1)) (za0 (x:=((P0%↑24)*(48271:Int))) (y:=(((69621:Int)*P1)*P1)) (zaT (x:=(P0%↑24)) (y:=(48271:Int)) (zaT (x:=P0) (y:=↑24) ↥9 zaL ↑1) zaL ↥(.inl ↑33)) (zaT (x:=((69621:Int)*P1)) (y:=P1) (zaT (x:=(69621:Int)) (y:=P1) zaL ⇑7 ↥(.inl ↑33)) ⇑7 ↥(.inl ↑33))) (zaT (x:=(7:Int)) (y:=P1) zaL ⇑7 ↥(.inl ↑33))) zaL ↑1) (λv202 hv202=>have hNnumber202:=hv202;(zar (m:=true) (x:=((v202*v202)%(2147483587:Int))) dI ↑20 (zaT (x:=(v202*v202)) (y:=(2147483587:Int)) (zaT (x:=v202) (y:=v202) ↑10 ↑10 ↥(.inl ↑33)) zaL ↑1) (λv203 hv203=>have hNnumber203:=hv203;(zal (zaE (zaT (x:=((v203*(v203+(48271:Int)))%(2147483563:Int))) (y:=P2) (zaT (x:=(v203*(v203+(48271:Int)))) (y:=(2147483563:Int)) (zaT (x:=v203) (y:=(v203+(48271:Int))) ↑10 (za0 (x:=v203) (y:=(48271:Int)) ↑10 zaL) ↥(.inl ↑33)) zaL ↑1) ↑25 ↥(hp.2.2)))))))))))))
theorem zdq {c k m:Int} (hm:0<m):0≤zae c k m∧zae c k m<m:=by
 unfold zae Let
 dsimp only
 have key:∀ b:Bool,∀ x y:Int,0≤(bif b then x%m else y%m)∧(bif b then x%m else y%m)<m:=λb x y=>by
  cases b
  ·exact ⟨Int.emod_nonneg y ↑0,Int.emod_lt_of_pos y hm⟩
  ·exact ⟨Int.emod_nonneg x ↑0,Int.emod_lt_of_pos x hm⟩
 exact key _ _ _
def Sq (w:Nat) (n:Nat) (rows:Jq):Prop:=rows.length=n∧∀ r∈rows,r.length=w
def FrI (w:Nat) (s:Jq×Jq):Prop:=Sq w w s.1∧Sq w w s.2
theorem zm6 {w n:Nat} {rows:Jq} {i:Int} {y:Ji} (h:Sq w n rows) (hy:y.length=w):Sq w n (zc7 rows i y):=⟨by rw [zeR];exact h.1,λr hr=>by
 rcases Lat.zgF hr with rfl | hr
 ·exact hy
 ·exact h.2 r hr⟩
theorem zmV {w n:Nat} {b:Bool} {rows ys:Jq} (h:Sq w n rows) (k:Sq w n ys):Sq w n (bif b then ys else rows):=by cases b<;>assumption
theorem zhX {w n:Nat} {rows:Jq} {x:Int} (h:Sq w n rows) (h0:0≤x) (h1:x<(n:Int)):InB rows.length x:=by rw [h.1];unfold InB;omega
theorem zno {w n:Nat} {rows:Jq} {x:Int} (h:Sq w n rows) (h0:0≤x) (h1:x<(n:Int)):(ixD rows x).length=w:=h.2 _ (zcp (zhX h h0 h1))
theorem zr0 {α:Type} {w n:Nat} {xs:List α} {f:α->Ji} (h:xs.length=n) (k:∀ x,(f x).length=w):Sq w n (List.map f xs):=⟨by rw [List.length_map];exact h,λr hr=>by obtain ⟨x,_,rfl⟩:=List.mem_map.mp hr;exact k x⟩
theorem zj1 {w n m:Nat} {rows ys:Jq} {x y:Int} {f:Int×Int->Int} (h:Sq w n rows) (k:Sq w m ys) (h0:0≤x∧x<(n:Int)) (h1:0≤y∧y<(m:Int)):(List.map f (List.zip (ixD rows x) (ixD ys y))).length=w:=by
 rw [List.length_map,List.length_zip,zno h h0.1 h0.2,zno k h1.1 h1.2];omega
theorem zoD {w n m:Nat} {rows ys:Jq} {x y:Int} (h:Sq w n rows) (h0:0≤x∧x<(n:Int)) (hw:w≤1000):(List.zip (ixD rows x) (ixD ys y)).length≤PySem.sizeLine:=zan (by rw [List.length_zip,zno h h0.1 h0.2];omega)
theorem zqg {W:Nat} {s:Jq×Jq} {x y:Int} (h:FrI W s) (hx:0≤x∧x<(W:Int)) (hw:W≤8):(List.zip (ixD s.1 x) (ixD s.1 y)).length≤PySem.sizeLine:=zoD (ys:=s.1) (m:=0) h.1 hx ↑0
theorem zqs {W:Nat} {s:Jq×Jq} {x y:Int} (h:FrI W s) (hx:0≤x∧x<(W:Int)) (hw:W≤8):(List.zip (ixD s.2 x) (ixD s.2 y)).length≤PySem.sizeLine:=zoD (ys:=s.2) (m:=0) h.2 hx ↑0
theorem zpI {w:Int} {W:Nat} {a b:Jq} (hw:w=(W:Int)) (ha:a=List.map ↑65 (za6 0 w.toNat)) (hb:b=List.map (λ(x:Ji)=>x) a):FrI W (a,b):=by
 have h1:Sq W W a:=by
  subst ha
  exact zr0 (by rw [zaY];omega) λx=>by rw [List.length_map,zaY];omega
 exact ⟨h1,by subst hb;rw [List.map_id'];exact h1⟩
theorem zql {W:Nat} {s:Jq×Jq} {b:Bool} {x y q:Int} (h:FrI W s) (hx:0≤x∧x<(W:Int)) (hy:0≤y∧y<(W:Int)):FrI W (bif b then (zc7 s.1 y (List.map (λ(z:Int×Int)=>(z.1+(q*z.2))) (List.zip (ixD s.1 y) (ixD s.1 x)))) else s.1,bif b then (zc7 s.2 x (List.map (λ(z:Int×Int)=>(z.1-(q*z.2))) (List.zip (ixD s.2 x) (ixD s.2 y)))) else s.2) :=
 ⟨zmV h.1 (zm6 h.1 (zj1 h.1 h.1 hy hx)),zmV h.2 (zm6 h.2 (zj1 h.2 h.2 hx hy))⟩
theorem zeW {c k w x:Int} {W:Nat} (hw:w=(W:Int)) (h1:1≤w) (e:x=zae c k w):0≤x∧x<(W:Int):=by
 subst e;have:=zdq (c:=c) (k:=k) (m:=w) ↑0;omega
theorem zlQ {c k x:Int} (e:x=zae c k (5:Int)-(2:Int)):-2≤x∧x≤2:=by
 subst e;have:=zdq (c:=c) (k:=k) (m:=5) ↑1;omega
theorem zqy {c k x:Int} (e:x=zae c k (7:Int)):InB 7 x:=by
 subst e;have:=zdq (c:=c) (k:=k) (m:=7) ↑1;unfold InB;omega
def zbU (P0:Int) (P1:Ji):(Jq×Jq) :=
 (Let (List.map (λ(x204:Int)=>(List.map (λ(x207:Int)=>(if (decide (x207=x204)) then 1 else 0)) (za6 0 P0.toNat))) (za6 0 P0.toNat)) (λ(v210:Jq)=>(Let (List.map (λ(x211:Ji)=>x211) v210) (λ(v214:Jq)=>(Let (List.foldl ↑134 (v210,v214) P1) (λ(r232:Jq×Jq)=>(r232.1,r232.2)))))))
def zep (P0:Int) (P1:Ji):Prop:=1≤P0∧P0≤8
def zfT (K:W.Frag) (A:Adr):Sp:=Spv (ι:=Int×Ji) (λx=>[dI x.1,dQ K (List.map dI x.2)]) (λx=>zep x.1 x.2) (λx=>↥[dT [dL (List.map lI ((zbU x.1 x.2).1)),dL (List.map lI ((zbU x.1 x.2).2))]])
theorem zcV:FnScope ↑97 ["_law_wide","_law_cells"] (zaf zcd):=↑4
theorem zki (F:Fun K "_law_frame" "_law_frame" zcd f fd) (T:Txt K mg A) (yaa:Callee P w K mg base ⇑1 1 "_law_thing" ↑56 (zcu K A)):FnOk P w K mg base ⇑1 2 f fd ["_law_wide","_law_cells"] (zfT K A):=by
 refine F.okV zcV ↥3 ↑6
 obtain ⟨P0,P1⟩:=x
 have hu:=hr.units
 replace hp:zep P0 P1:=hp
 unfold zep at hp
 obtain ⟨W,hW⟩:∃ W:Nat,P0=(W:Int):=⟨P0.toNat,by omega⟩
 refine ⟨_,(zac (zdB (i:=2) rfl zcV.nd rfl rfl (.of (osc:=(zaf zcd)) (N:=↑97) (own:=["_law_k"]) (fvn:=["_law_wide"]) (fv:=[0]) rfl rfl ↥5) (zbY rfl T.range ↑[pv 0]) (λ_ _ _ _ _=>⟨(zao (i:=0) (show (["_law_k","_law_wide"]:List Str).Nodup by decide +kernel) rfl ↥6 ⇑0),zbc,(zcf rfl (.of (osc:=({ kind:=.function,names:=[(".0",.local),("_law_k",.cell),("range",.globalImplicit),("_law_wide",.cell)],isGenerator:=false,isCoroutine:=false }:Scope)) (N:=["_law_k","_law_wide"]) (own:=["_law_j"]) (fvn:=["_law_k"]) (fv:=[0]) rfl rfl ↥5) (zbY rfl T.range ↑[pv 1]) (λ_ _ _ _ _=>⟨(zao (i:=0) (show (["_law_j","_law_k"]:List Str).Nodup by decide+kernel) rfl ⇑0 ↥6),zbc,(zdm ziA rfl T.int ↥5 ↑[zg9 zhF (pv 0) (pv 1) (zaW _)])⟩))⟩)) (zac (zdB (i:=3) rfl zcV.nd rfl rfl (.of (osc:=(zaf zcd)) (N:=↑97) (own:=["_law_row"]) (fvn:=[]) (fv:=[]) rfl rfl ↥5) (zaZ (K:=K) rfl (pv 2)) (λ_ _ _ _ _=>⟨(zao (i:=0) (show (["_law_row"]:List Str).Nodup by decide +kernel) rfl ⇑0 ↥6),zbc,↑66⟩)) (zac (zcS PassesOwn.never rfl (zaZ (K:=K) rfl (pv 1)) (zao (i:=4) zcV.nd rfl ⇑0 ⇑0) (zac (zat (i:=5) zcV.nd rfl ⇑0 (zaF yaa ↥1 rfl zav ↑[pv 4,zaj,pv 0])) (zac (zat (i:=6) zcV.nd rfl ⇑0 (zaF yaa ↥1 rfl zav ↑[pv 4,zaj,pv 0])) (zac (zat (i:=7) zcV.nd rfl ↥6 (zaD zfy (zaF yaa ↥1 rfl zav ↑[pv 4,zaj,zaj]) zaj)) (zac (zcD (zaI zhk (pv 5) (pv 6) (zaW _)) (zac (zgS (zcf rfl (.of (osc:=(zaf zcd)) (N:=↑97) (own:=["_law_a","_law_b"]) (fvn:=["_law_many"]) (fv:=[7]) rfl rfl ↥5) (zd9 (K:=K) rfl rfl T.zip ↑[(za1 ⇑6 (pv 2) (pv 6) ↑3),(za1 ⇑6 (pv 2) (pv 5) ↑3)]) ↑118) (zi8 (pv 2) (pv 6) zf5)) (zac (zgS (zcf rfl (.of (osc:=(zaf zcd)) (N:=↑97) (own:=["_law_a","_law_b"]) (fvn:=["_law_many"]) (fv:=[7]) rfl rfl ↥5) (zd9 (K:=K) rfl rfl T.zip ↑[(za1 ⇑6 (pv 3) (pv 5) ↑3),(za1 ⇑6 (pv 3) (pv 6) ↑3)]) (λ_ _ _ _ _=>⟨(zb3 (K:=K) (n:=2) rfl rfl (zaH (zao (i:=0) ↑101 rfl ⇑0 ↥6) (zaH (zao (i:=1) ↑101 rfl ⇑0 ↥6) zcA))),zbc,(zaD zfy (pv 0) (zaD zbK (pv 2) (pv 1)))⟩)) (zi8 (pv 3) (pv 5) zf5)) zah)) zah) zah))))) (zac (zaO (zhw ↑[pv 2,pv 3])) zah)))),.inl ?_⟩
 show L2.Run _ ([⇑[dI P0],⇑[dQ K ↑7],.no,.no,.no,.no,.no,.no]:L2.Ctx) _ (↑53 (zbU P0 P1))
 unfold zbU
 exact (zf4 (m:=true) (x:=(List.map (λ(x204:Int)=>(List.map (λ(x207:Int)=>(if (decide (x207=x204)) then 1 else 0)) (za6 0 P0.toNat))) (za6 0 P0.toNat))) (λz=>List.map lI z) ↑53 (EvO.conv (zbS (g:=(λ(x204:Int)=>dL (List.map dI (List.map (λ(x207:Int)=>(if (decide (x207=x204)) then 1 else 0)) (za6 0 P0.toNat))))) (zdv (m:=true) (n:=P0) ↥9 (by refine ⟨?_,?_⟩<;>omega)) ↥(zan (by rw [zaY];omega)) ↑5 (λi205 x204 hx206=>have v206:=zbs hx206;(EvO.ev (EvO.conv (zbS (g:=(λ(x207:Int)=>dI (if (decide (x207=x204)) then 1 else 0))) (zdv (m:=true) (n:=P0) ⇑7 (by refine ⟨?_,?_⟩<;>omega)) ↥(zan (by rw [zaY];omega)) ↑5 (λi208 x207 hx209=>have v209:=zbs hx209;(zk2 (b:=(decide (x207=x204))) (zab (zfw (x:=x207) (y:=x204) (Ev.any (m:=true) ↑2) (Ev.any (m:=true) ⇑2)) zag)))) ↑8)))) ↑8) (λv210 hv210=>have hA:=hv210;(zf4 (m:=true) (x:=(List.map (λ(x211:Ji)=>x211) v210)) (λz=>List.map lI z) ↑53 (zpN.evo (zpN.borrowO (i:=2) rfl (zrB (EvO.conv (zbS (g:=(λ(x211:Ji)=>dL (List.map dI x211))) (zbG (m:=false) lI (xs:=v210) ↑11) ↥(zan (by rw [hA,List.length_map,zaY];omega)) ↑5 (λi212 x211 hx213=>have v213:=List.mem_of_getElem? hx213;(EvO.ev (EvO.anyI (m:=false) (zgD ↑26))))) ↑8)))) (λv214 hv214=>have hF:=zpI hW hA hv214;(zb2 (s0:=(v210,v214)) ↑77 ↑53 ↑134 (λ(i:Nat) (s215:Jq×Jq)=>FrI W s215) (zbG (m:=false) dI (xs:=P1) ⇑2) (.eq (.eq ↑17)) ↥(hF) (λi217 x216 s215 hx218 hI219=>have v218:=List.mem_of_getElem? hx218;⟨↥(zql ↥0 (zeW hW hp.1 rfl) (zeW hW hp.1 rfl)),(zar (m:=true) (x:=(zae x216 (1:Int) P0)) dI (λz=>Oc.nx (↑77 z)) (Ev.any (m:=true) (zam (x:=(x216,(1:Int),P0)) (zab (Ev.any (m:=false) ↑14) (zab zaL (zab ↥9 zag))) rfl (by show zaS x216 (1:Int) P0;refine ⟨by omega,by omega,by omega⟩) rfl)) (λv220 hv220=>have hO:=zeW hW hp.1 hv220;(zar (m:=true) (x:=(zae x216 (2:Int) P0)) dI (λz=>Oc.nx (↑77 z)) (Ev.any (m:=true) (zam (x:=(x216,(2:Int),P0)) (zab (Ev.any (m:=false) ↑14) (zab zaL (zab ↥9 zag))) rfl (by show zaS x216 (2:Int) P0;refine ⟨by omega,by omega,by omega⟩) rfl)) (λv221 hv221=>have hT:=zeW hW hp.1 hv221;(zar (m:=true) (x:=((zae x216 (3:Int) (5:Int))-(2:Int))) dI (λz=>Oc.nx (↑77 z)) (za0 (x:=(zae x216 (3:Int) (5:Int))) (y:=(2:Int)) (Ev.any (m:=true) (zam (x:=(x216,(3:Int),(5:Int))) (zab (Ev.any (m:=false) ↑14) (zab zaL (zab zaL zag))) rfl (by show zaS x216 (3:Int) (5:Int);refine ⟨by omega,by omega,by omega⟩) rfl)) zaL) (λv222 hv222=>have hM:=zlQ hv222;(zd0 (b:=(!decide (v220=v221))) (λbb=>([⇑[dI P0],⇑[dQ K ↑7],.ow true (List.map lI (bif bb then (zc7 s215.1 v221 ↑124) else s215.1)),.ow true (List.map lI (bif bb then (zc7 s215.2 v220 ↑105) else s215.2)),⇑[dI x216],↥[dI v220],↥[dI v221],↥[dI v222]]:L2.Ctx)) (zaA (zfz (x:=v220) (y:=v221) ↑10 ↑55)) (λh223=>(zf2 (f:=lI) (xs:=s215.1) (x:=↑124) rfl (EvO.ev (EvO.conv (zbS (g:=(λ(x224:(Int×Int))=>dI (x224.1+(v222*x224.2)))) (zgk (m:=true) dI dI (xs:=(ixD s215.1 v221)) (ys:=(ixD s215.1 v220)) (Ev.weak (K:=K) (zcc (f:=lI) (xs:=s215.1) rfl ↑55 ↥(zhX (↥0:FrI W _).1 hT.1 hT.2))) (Ev.weak (K:=K) (zcc (f:=lI) (xs:=s215.1) rfl ↑10 ↥(zhX (↥0:FrI W _).1 hO.1 hO.2)))) ↥(zqg ↥0 hT ↑0) ↑5 (λi225 x224 hx226=>have v226:=zdw hx226;(za0 (x:=x224.1) (y:=(v222*x224.2)) (Ev.any (m:=true) ↑2) (zaT (x:=v222) (y:=x224.2) ↑42 (Ev.any (m:=true) ⇑2) ↥(.inl ↑33))))) ↑8)) ↑55 ↥(zhX (↥0:FrI W _).1 hT.1 hT.2) (zf2 (f:=lI) (xs:=s215.2) (x:=↑105) rfl (EvO.ev (EvO.conv (zbS (g:=(λ(x227:(Int×Int))=>dI (x227.1-(v222*x227.2)))) (zgk (m:=true) dI dI (xs:=(ixD s215.2 v220)) (ys:=(ixD s215.2 v221)) (Ev.weak (K:=K) (zcc (f:=lI) (xs:=s215.2) rfl ↑10 ↥(zhX (↥0:FrI W _).2 hO.1 hO.2))) (Ev.weak (K:=K) (zcc (f:=lI) (xs:=s215.2) rfl ↑55 ↥(zhX (↥0:FrI W _).2 hT.1 hT.2)))) ↥(zqs ↥0 hO ↑0) ↑5 (λi228 x227 hx229=>have v229:=zdw hx229;(za0 (x:=x227.1) (y:=(v222*x227.2)) (Ev.any (m:=true) ↑2) (zaT (x:=v222) (y:=x227.2) ↑42 (Ev.any (m:=true) ⇑2) ↥(.inl ↑33))))) ↑8)) ↑10 ↥(zhX (↥0:FrI W _).2 hO.1 hO.2) (zau (.eq (.eq ↑17)))))) (λh223=>(zau (.eq (.eq ↑17)))) (zel (x:=(bif (!decide (v220=v221)) then (zc7 s215.1 v221 ↑124) else s215.1)) (λv230=>([⇑[dI P0],⇑[dQ K ↑7],.ow true (List.map lI v230),.ow true (List.map lI (bif (!decide (v220=v221)) then (zc7 s215.2 v220 ↑105) else s215.2)),⇑[dI x216],↥[dI v220],↥[dI v221],↥[dI v222]]:L2.Ctx)) (λz=>Oc.nx (↑77 z)) (λv230 hv230=>have hR1:=hv230;(zel (x:=(bif (!decide (v220=v221)) then (zc7 s215.2 v220 ↑105) else s215.2)) (λv231=>([⇑[dI P0],⇑[dQ K ↑7],.ow true (List.map lI v230),.ow true (List.map lI v231),⇑[dI x216],↥[dI v220],↥[dI v221],↥[dI v222]]:L2.Ctx)) (λz=>Oc.nx (↑77 z)) (λv231 hv231=>(zau (.eq (.eq (.eq (.eq (.no (.no (.no (.no .nil))))))))))))))))))))⟩) (λr232 hr232 hI=>(zco (i:=2) rfl (zco (i:=3) rfl (zal (zaE (zhy (zab ↑18 (zab ⇑9 zag)) (by show 2≤sizeLine;decide))))))))))))
def za2 (P0:Int) (P1:Int) (P2:Int):Ji :=
 (Let (List.foldl ↑137 [] (za6 0 P0.toNat)) (λ(r242:Ji)=>r242))
def zdF (P0:Int) (P1:Int) (P2:Int):Prop:=0≤P0∧P0≤8∧0≤P2∧P2≤100
def zeZ (K:W.Frag) (A:Adr):Sp:=Spv (ι:=Int×Int×Int) (λx=>[dI x.1,dI x.2.1,dI x.2.2]) (λx=>zdF x.1 x.2.1 x.2.2) (λx=>.ow true (List.map dI (za2 x.1 x.2.1 x.2.2)))
theorem zcL:FnScope ["_law_wide","_law_cell_here","_law_far","_law_found","_law_k","_law_way","_law_number"] ["_law_wide","_law_cell_here","_law_far"] (zaf zc8):=↑4
theorem ziL (F:Fun K "_law_bottoms" "_law_bottoms" zc8 f fd) (T:Txt K mg A) (yaa:Callee P w K mg base ⇑1 1 "_law_thing" ↑56 (zcu K A)):FnOk P w K mg base ⇑1 2 f fd ["_law_wide","_law_cell_here","_law_far"] (zeZ K A):=by
 refine F.okV zcL ↥3 ↑6
 obtain ⟨P0,P1,P2⟩:=x
 have hu:=hr.units
 replace hp:zdF P0 P1 P2:=hp
 unfold zdF at hp
 refine ⟨_,(zac (zat (i:=3) zcL.nd rfl ⇑0 (zb8 zeC)) (zac (zcS PassesOwn.never rfl (zbY rfl T.range ↑[pv 0]) (zao (i:=4) zcL.nd rfl ⇑0 ⇑0) (zac (zat (i:=5) zcL.nd rfl ⇑0 (zaF yaa ↥1 rfl zav ↑[pv 1,zaD zcH (pv 2) (pv 4),zaj])) (zac (zat (i:=6) zcL.nd rfl ⇑0 (za1 ⇑6 (zb8 (zb5 zaj ↑[zaj,zaj,zaj,zaj,zaj,zaj])) (pv 5) ↑3)) (zac (zcD (PW.pt (znL (zaI zhF (pv 5) zaj (zaW _)) (zlf (zaI zhF (zaD zed (pv 1) zaj) zaj (zaW _))))) (zac (zat (i:=6) zcL.nd rfl ⇑0 (zaD zcH zaj (zaF yaa ↥1 rfl zav ↑[pv 1,zaD zcH (zaD zcH (pv 2) zaj) (pv 4),zaD ztt zaj zaj]))) zah) zah) (zac (zci (zb1 (K:=K) rfl (pv 3) ↑[pv 6])) zah))))) (zac (zaO (pv 3)) zah))),.inl ?_⟩
 show L2.Run _ ([⇑[dI P0],⇑[dI P1],⇑[dI P2],.no,.no,.no,.no]:L2.Ctx) _ ((λr=>Oc.rl true (List.map dI r)) (za2 P0 P1 P2))
 unfold za2
 exact (zeL (m:=true) (ds:=List.map dI []) (zdH (m:=true) zag) (zb2 (s0:=[]) ↑106 (λr=>Oc.rl true (List.map dI r)) ↑137 (λ(i:Nat) (s233:Ji)=>s233.length≤i) (zdv (m:=true) (n:=P0) ↥9 (by refine ⟨?_,?_⟩<;>omega)) (.eq ↑17) ↥(Nat.le_refl 0) (λi235 x234 s233 hx236 hI237=>have v236:=zbs hx236;⟨↥(zre ↥0),(zar (m:=true) (x:=(zae P1 (P2+x234) (7:Int))) dI (λz=>Oc.nx (↑106 z)) (Ev.any (m:=true) (zam (x:=(P1,(P2+x234),(7:Int))) (zab ⇑7 (zab (za0 (x:=P2) (y:=x234) ↑25 ↑49) (zab zaL zag))) rfl (by show zaS P1 (P2+x234) (7:Int);refine ⟨by omega,by omega,by first|decide|omega⟩) rfl)) (λv238 hv238=>have hY:=zqy hv238;(zar (m:=true) (x:=(ixD [(0:Int),(1:Int),(2:Int),(3:Int),(6:Int),(0:Int),(4:Int)] v238)) dI (λz=>Oc.nx (↑106 z)) (zbg (f:=dI) (xs:=[(0:Int),(1:Int),(2:Int),(3:Int),(6:Int),(0:Int),(4:Int)]) (Ev.weak (K:=K) (EvO.ev (zdl (zab zaL (zab zaL (zab zaL (zab zaL (zab zaL (zab zaL (zab zaL zag))))))) (by show 7≤sizeLine;decide)))) ↑10 ↥(hY)) (λv239 hv239=>(zd0 (b:=((decide (v238=(6:Int))) && (decide ((P1%(2:Int))=(1:Int))))) (λbb=>([⇑[dI P0],⇑[dI P1],⇑[dI P2],.ow true (List.map dI s233),↥[dI x234],↥[dI v238],↥[dI (bif bb then ((2:Int)+(zae P1 ((P2+(20:Int))+x234) ((10:Int) ^ (9:Int).toNat))) else v239)]]:L2.Ctx)) (zk5 (b:=(decide (v238=(6:Int)))) (zaA (zfw (x:=v238) (y:=(6:Int)) ↑10 zaL)) (λhb=>(zaA (zfw (x:=(P1%(2:Int))) (y:=(1:Int)) (zaT (x:=P1) (y:=(2:Int)) ⇑7 zaL ↑1) zaL)))) (λh240=>(zcO (m:=true) (za0 (x:=(2:Int)) (y:=(zae P1 ((P2+(20:Int))+x234) ((10:Int) ^ (9:Int).toNat))) zaL (Ev.any (m:=true) (zam (x:=(P1,((P2+(20:Int))+x234),((10:Int)^(9:Int).toNat))) (zab ⇑7 (zab (za0 (x:=(P2+(20:Int))) (y:=x234) (za0 (x:=P2) (y:=(20:Int)) ↑25 zaL) ↑49) (zab (zaT (x:=(10:Int)) (y:=(9:Int)) zaL zaL ↥(⟨by decide,by decide,by decide⟩)) zag))) rfl (by show zaS P1 ((P2+(20:Int))+x234) ((10:Int)^(9:Int).toNat);refine ⟨by omega,by omega,by first|decide|omega⟩) rfl))) (zau (.eq ↑17)))) (λh240=>(zau (.eq ↑17))) (zel (x:=(bif ((decide (v238=(6:Int))) && (decide ((P1%(2:Int))=(1:Int)))) then ((2:Int)+(zae P1 ((P2+(20:Int))+x234) ((10:Int) ^ (9:Int).toNat))) else v239)) (λv241=>([⇑[dI P0],⇑[dI P1],⇑[dI P2],.ow true (List.map dI s233),↥[dI x234],↥[dI v238],↥[dI v241]]:L2.Ctx)) (λz=>Oc.nx (↑106 z)) (λv241 hv241=>(zcv (f:=dI) (xs:=s233) (x:=v241) rfl ↑55 ↥(zs9 ↥0 ↥0 ↑0) (zau (.eq (.eq ↑75)))))))))))⟩) (λr242 hr242 hI=>(zf1 (zmI (i:=3) rfl)))))
theorem zpT {w c f:Int} (hw:0≤w):(za2 w c f).length=w.toNat∧∀ b∈za2 w c f,0≤b∧b≤1000000001:=by
 unfold za2 Let
 dsimp only
 rw [Lat.zg0,List.nil_append]
 refine ⟨by rw [List.length_map,zaY],λb hb=>?_⟩
 obtain ⟨x,_,rfl⟩:=List.mem_map.mp hb
 have h7:=zdq (c:=c) (k:=f+x) (m:=7) ↑1
 generalize zae c (f+x) 7=y at *
 have e10:(10:Int)^(9:Int).toNat=1000000000:=by decide +kernel
 rw [e10]
 have h9:=zdq (c:=c) (k:=f+20+x) (m:=1000000000) ↑1
 have key:0≤ixD [(0:Int),(1:Int),(2:Int),(3:Int),(6:Int),(0:Int),(4:Int)] y∧ixD [(0:Int),(1:Int),(2:Int),(3:Int),(6:Int),(0:Int),(4:Int)] y≤6:=by
  have hm:=zcp (xs:=[(0:Int),(1:Int),(2:Int),(3:Int),(6:Int),(0:Int),(4:Int)]) (i:=y) (by show InB 7 y;unfold InB;omega)
  generalize ixD [(0:Int),(1:Int),(2:Int),(3:Int),(6:Int),(0:Int),(4:Int)] y=z at *
  simp at hm
  omega
 cases (decide (y=(6:Int))&&decide (c%(2:Int)=(1:Int)))
 ·rw [cond_false];omega
 ·rw [cond_true];omega
theorem zs5 {s:Jq} {i w:Nat} {b:Bool} {y:Ji} (h:s.length≤i∧∀ r∈s,r.length=w) (hy:y.length=w):(bif b then (s++[y]) else s).length≤i+1∧∀ r∈(bif b then (s++[y]) else s),r.length=w:=by
 cases b
 ·exact ⟨by show s.length≤_;omega,h.2⟩
 ·refine ⟨by show (s++[y]).length≤_;rw [List.length_append,List.length_singleton];omega,λr hr=>?_⟩
  rcases List.mem_append.mp hr with hr | hr
  ·exact h.2 r hr
  ·rw [List.mem_singleton.mp hr];exact hy
def StP (rows:Jq) (bs:Ji) (idle:Int):Prop:=∃ W:Nat,1≤W∧W≤8∧Sq W W rows∧bs.length=W∧(∀ b∈bs,0≤b∧b≤1000000001)∧0≤idle∧idle≤3
theorem zvU {s rows:Jq} {bs:Ji} {W:Nat} (hI:s.length≤((List.zip rows bs)).length∧∀ r∈s,r.length=W) (hq:Sq W W rows) (w8:W≤8):s.length≤8∧∀ r∈s,r.length=W:=by
 refine ⟨?_,hI.2⟩
 have:=hI.1
 rw [List.length_zip] at this
 have:=hq.1
 omega
theorem zsW {w:Nat} {rows a ys:Jq} {k idle:Int} (hw:rows.length=w) (h0:0≤idle) (h:a.length≤8∧∀ r∈a,r.length=w) (hk:k=((a.length:Nat):Int)) (e:ys=a++List.map (λ(_:Int)=>zch ((rows.length:Nat):Int) [(0:Int)]) (za6 0 idle.toNat)):Sq w (k+idle).toNat ys:=by
 subst e
 refine ⟨by rw [List.length_append,List.length_map,zaY];omega,λr hr=>?_⟩
 rcases List.mem_append.mp hr with hr | hr
 ·exact h.2 r hr
 ·obtain ⟨x,_,rfl⟩:=List.mem_map.mp hr
  rw [Lat.zcg];exact hw
theorem zqq {k idle:Int} {ts:Jq} (e:ts=List.map (λ(x:Int)=>List.map (λ(y:Int)=>(if (decide (y=(k+x))) then (1:Int) else 0)) (za6 0 (k+idle).toNat)) (za6 0 idle.toNat)):∀ t∈ts,t.length=(k+idle).toNat:=λt ht=>by
 subst e
 obtain ⟨x,_,rfl⟩:=List.mem_map.mp ht
 rw [List.length_map,zaY]
def StI (w n:Nat) (s:Jq×Jq):Prop:=Sq w n s.1∧∀ t∈s.2,t.length=n
theorem zhB {n:Nat} {w:Nat} {s:Jq} {c k x:Int} (h:Sq w n s) (e:x=zae c k (max (1:Int) ((s.length:Nat):Int))):0≤x∧(x<(n:Int)∨x=0):=by
 subst e;have:=zdq (c:=c) (k:=k) (m:=max (1:Int) ((s.length:Nat):Int)) ↑0;rw [h.1] at this ⊢;omega
theorem zg3 {n:Nat} {x y:Int} (hx:0≤x∧(x<(n:Int)∨x=0)) (hy:0≤y∧(y<(n:Int)∨y=0)) (h:(!decide (x=y))=true):(0≤x∧x<(n:Int))∧0≤y∧y<(n:Int):=by
 have:x≠y:=by simpa using h
 omega
theorem zqD {n:Nat} {ns:Ji} {x:Int} (h:ns.length=n) (hx:0≤x∧x<(n:Int)):InB ns.length x:=by unfold InB;omega
theorem zqk {w n:Nat} {s:Jq×Jq} {x y q:Int} (h:StI w n s) (hx:0≤x∧(x<(n:Int)∨x=0)) (hy:0≤y∧(y<(n:Int)∨y=0)) :
  StI w n (bif (!decide (x=y)) then (zc7 s.1 y (List.map (λ(z:Int×Int)=>(z.1+(q*z.2))) (List.zip (ixD s.1 y) (ixD s.1 x)))) else s.1,bif (!decide (x=y)) then (List.map (λ(ns:Ji)=>zc7 ns x (ixD ns x-(q*ixD ns y))) s.2) else s.2):=by
 by_cases e:x=y
 ·rw [decide_eq_true e];exact h
 ·rw [decide_eq_false e]
  have hl:=zg3 hx hy (by simp [e])
  refine ⟨zm6 h.1 (zj1 h.1 h.1 hl.2 hl.1),λt ht=>?_⟩
  obtain ⟨z,hz,rfl⟩:=List.mem_map.mp ht
  rw [zeR];exact h.2 z hz
theorem zuh {w n:Nat} {s:Jq} {x y:Int} (h:Sq w n s) (hx:0≤x∧x<(n:Int)) (hw:w≤8):(List.zip (ixD s x) (ixD s y)).length≤PySem.sizeLine:=zoD (ys:=s) (m:=0) h hx ↑0
theorem zrQ {W:Nat} {rows:Jq} {r:Ji} (h:Sq W W rows) (hm:r∈rows) (hw:W≤8):r.length≤PySem.sizeLine:=zan (by have:=h.2 r hm;omega)
theorem ztL {W:Nat} {rows:Jq} {bs:Ji} {i:Nat} {p:Ji×Int} (h:Sq W W rows) (hx:rows[i]?=some p.1∧bs[i]?=some p.2):i<W:=by have:=(List.getElem?_eq_some_iff.mp hx.1).1;rw [h.1] at this;exact this
def zaR (P0:Jq) (P1:Ji) (P2:Int) (P3:Ji):(Jq×Jq) :=
 (Let (List.foldl (λ(s243:Jq) (x244:(Ji×Int))=>(Let ↑123 (λ(v252:Jq)=>v252))) [] (List.zip P0 P1)) (λ(r253:Jq)=>(Let ((r253.length:Nat):Int) (λ(v254:Int)=>(Let (r253++(List.map (λ(x255:Int)=>(zch ↑19 [(0:Int)])) (za6 0 P2.toNat))) (λ(v258:Jq)=>(Let (List.map (λ(x259:Int)=>↑128) (za6 0 P2.toNat)) (λ(v265:Jq)=>(Let (List.foldl ↑133 (v258,v265) P3) (λ(r281:Jq×Jq)=>(r281.1,r281.2)))))))))))
def zdD (P0:Jq) (P1:Ji) (P2:Int) (P3:Ji):Prop:=StP P0 P1 P2
def ze0 (K:W.Frag) (A:Adr):Sp:=Spv (ι:=Jq×Ji×Int×Ji) (λx=>[dQ K (List.map lI x.1),dQ K (List.map dI x.2.1),dI x.2.2.1,dQ K (List.map dI x.2.2.2)]) (λx=>zdD x.1 x.2.1 x.2.2.1 x.2.2.2) (λx=>↥[dT [dL (List.map lI ((zaR x.1 x.2.1 x.2.2.1 x.2.2.2).1)),dL (List.map lI ((zaR x.1 x.2.1 x.2.2.1 x.2.2.2).2))]])
theorem za5:FnScope ↑92 ["_law_rows","_law_bottoms_here","_law_idle","_law_cells"] (zaf zbC):=↑4
theorem ziJ (F:Fun K "_law_stirred" "_law_stirred" zbC f fd) (T:Txt K mg A) (yaa:Callee P w K mg base ⇑1 1 "_law_thing" ↑56 (zcu K A)):FnOk P w K mg base ⇑1 2 f fd ["_law_rows","_law_bottoms_here","_law_idle","_law_cells"] (ze0 K A):=by
 refine F.okV za5 ↥3 ↑6
 obtain ⟨P0,P1,P2,P3⟩:=x
 have hu:=hr.units
 replace hp:zdD P0 P1 P2 P3:=hp
 unfold zdD at hp
 obtain ⟨W,w1,w8,hq,hb,hbb,hi0,hi3⟩:=hp
 refine ⟨_,(zac (zat (i:=4) za5.nd rfl ⇑0 (zb8 zeC)) (zac (zcS PassesOwn.never rfl (zd9 (K:=K) rfl rfl T.zip ↑[pv 0,pv 1]) (zb3 (K:=K) (n:=2) rfl rfl (zaH (zao (i:=5) za5.nd rfl ⇑0 ⇑0) (zaH (zao (i:=6) za5.nd rfl ↥6 ⇑0) zcA))) (zac (zcD (zaI zli (pv 6) zaj (zaW _)) (zac (zci (zb1 (K:=K) rfl (pv 4) ↑[(zcf rfl (.of (osc:=(zaf zbC)) (N:=↑92) (own:=["_law_entry"]) (fvn:=["_law_number"]) (fv:=[6]) rfl rfl ↥5) (zaZ (K:=K) rfl (pv 5)) (λ_ _ _ _ _=>⟨(zao (i:=0) (show (["_law_entry","_law_number"]:List Str).Nodup by decide+kernel) rfl ⇑0 ↥6),zbc,(zaD zbK (pv 1) (pv 0))⟩))])) zah) zah) zah)) (zac (zat (i:=7) za5.nd rfl ↥6 (zaK ↑30 rfl T.len PySem.boot_len ↑[pv 4])) (zac (zat (i:=4) za5.nd rfl ⇑0 (zaD zeK (pv 4) (zcf rfl (.of (osc:=(zaf zbC)) (N:=↑92) (own:=["_law_k"]) (fvn:=["_law_rows"]) (fv:=[0]) rfl rfl ↥5) (zbY rfl T.range ↑[pv 2]) (λ_ _ _ _ _=>⟨(zao (i:=0) (show (["_law_k","_law_rows"]:List Str).Nodup by decide +kernel) rfl ⇑0 ↥6),zbc,(zaD zgT (zb8 ↑[zaj]) ↑70)⟩)))) (zac (zdB (i:=8) rfl za5.nd rfl rfl (.of (osc:=(zaf zbC)) (N:=↑92) (own:=["_law_k"]) (fvn:=["_law_kept","_law_idle"]) (fv:=[7,2]) rfl rfl ↥5) (zbY rfl T.range ↑[pv 2]) (λ_ _ _ _ _=>⟨(zao (i:=0) (show (["_law_k","_law_kept","_law_idle"]:List Str).Nodup by decide +kernel) rfl ↥6 ⇑0),zbc,(zcf rfl (.of (osc:=({ kind:=.function,names:=[(".0",.local),("_law_k",.cell),("range",.globalImplicit),("_law_idle",.cell),("_law_kept",.cell)],isGenerator:=false,isCoroutine:=false }:Scope)) (N:=["_law_k","_law_kept","_law_idle"]) (own:=["_law_j"]) (fvn:=["_law_kept","_law_k"]) (fv:=[1,0]) rfl rfl ↥5) (zbY rfl T.range ↑[zaD zcH (pv 1) (pv 2)]) (λ_ _ _ _ _=>⟨(zao (i:=0) (show (["_law_j","_law_kept","_law_k"]:List Str).Nodup by decide +kernel) rfl ⇑0 ↥6),zbc,(zdm ziA rfl T.int ↥5 ↑[zg9 zhF (pv 0) (zaD zcH (pv 1) (pv 2)) (zaW _)])⟩))⟩)) (zac (zcS PassesOwn.never rfl (zaZ (K:=K) rfl (pv 3)) (zao (i:=9) za5.nd rfl ⇑0 ⇑0) (zac (zat (i:=10) za5.nd rfl ⇑0 (zaF yaa ↥1 rfl zav ↑[pv 9,zaj,(zaK (zkj rfl) rfl T.max PyProof.Rows.boot_max ↑[zaj,(zaK ↑30 rfl T.len PySem.boot_len ↑[pv 4])])])) (zac (zat (i:=11) za5.nd rfl ⇑0 (zaF yaa ↥1 rfl zav ↑[pv 9,zaj,(zaK (zkj rfl) rfl T.max PyProof.Rows.boot_max ↑[zaj,(zaK ↑30 rfl T.len PySem.boot_len ↑[pv 4])])])) (zac (zat (i:=12) za5.nd rfl ↥6 (zaD zfy (zaF yaa ↥1 rfl zav ↑[pv 9,zaj,zaj]) zaj)) (zac (zcD (zaI zhk (pv 10) (pv 11) (zaW _)) (zac (zgS (zcf rfl (.of (osc:=(zaf zbC)) (N:=↑92) (own:=["_law_a","_law_b"]) (fvn:=["_law_many"]) (fv:=[12]) rfl rfl ↥5) (zd9 (K:=K) rfl rfl T.zip ↑[(za1 ⇑6 (pv 4) (pv 11) ↑3),(za1 ⇑6 (pv 4) (pv 10) ↑3)]) ↑118) (zi8 (pv 4) (pv 11) zf5)) (zac (zcS PassesOwn.never rfl (zaZ (K:=K) rfl (pv 8)) (zao (i:=13) za5.nd rfl ⇑0 ⇑0) (zac (zgS (zaD zfy (za1 ⇑6 (pv 13) (pv 10) ↑3) (zaD zbK (pv 12) (za1 ⇑6 (pv 13) (pv 11) ↑3))) (zi8 (pv 13) (pv 10) zf5)) zah)) zah)) zah) zah))))) (zac (zaO (zhw ↑[pv 4,pv 8])) zah))))))),.inl ?_⟩
 show L2.Run _ ([⇑[dQ K ⇑8],⇑[dQ K ↑7],⇑[dI P2],⇑[dQ K (List.map dI P3)],.no,.no,.no,.no,.no,.no,.no,.no,.no,.no]:L2.Ctx) _ (↑53 (zaR P0 P1 P2 P3))
 unfold zaR
 exact (zeL (m:=true) (ds:=List.map lI []) (zdH (m:=true) zag) (zb2 (s0:=[]) (λ(s243:Jq)=>([⇑[dQ K ⇑8],⇑[dQ K ↑7],⇑[dI P2],⇑[dQ K (List.map dI P3)],.ow true (List.map lI s243),.no,.no,.no,.no,.no,.no,.no,.no,.no]:L2.Ctx)) ↑53 (λ(s243:Jq) (x244:(Ji×Int))=>(Let ↑123 (λ(v252:Jq)=>v252))) (λ(i:Nat) (s243:Jq)=>s243.length≤i∧∀ r∈s243,r.length=W) (zgk (m:=false) lI dI (xs:=P0) (ys:=P1) ↑2 ⇑2) (.eq (.eq (.eq (.eq ↑31)))) ↥(⟨Nat.le_refl 0,λr hr=>by simp at hr⟩) (λi245 x244 s243 hx246 hI247=>have v246:=zdw hx246;⟨↥(zs5 ↥0 (by rw [List.length_map];exact hq.2 _ (List.mem_of_getElem? (↥0:_∧_).1))),(zd0 (b:=(decide ((0:Int)<x244.2))) (λbb=>([⇑[dQ K ⇑8],⇑[dQ K ↑7],⇑[dI P2],⇑[dQ K (List.map dI P3)],.ow true (List.map lI (bif bb then (s243++[(List.map (λ(x249:Int)=>(x244.2*x249)) x244.1)]) else s243)),⇑[dL (List.map dI x244.1)],⇑[dI x244.2],.no,.no,.no,.no,.no,.no,.no]:L2.Ctx)) (zaA (za0 (x:=x244.2) (y:=(0:Int)) (Ev.any (m:=false) (zaa (i:=6) rfl)) zaL)) (λh248=>(zcv (f:=lI) (xs:=s243) (x:=(List.map (λ(x249:Int)=>(x244.2*x249)) x244.1)) rfl (EvO.ev (EvO.conv (zbS (g:=(λ(x249:Int)=>dI (x244.2*x249))) (zbG (m:=false) dI (xs:=x244.1) (Ev.weak (K:=K) ↑23)) ↥(zrQ hq (List.mem_of_getElem? (↥0:_∧_).1) w8) ↑5 (λi250 x249 hx251=>have v251:=List.mem_of_getElem? hx251;(zaT (x:=x244.2) (y:=x249) ⇑7 ↥9 (by have z:=hbb _ (List.mem_of_getElem? (↥0:_∧_).2);exact .inl ↑33)))) ↑8)) (by have z:=ztL hq ↥0;exact Nat.lt_of_le_of_lt (show _≤1000 by omega) ↑1) (zau (.eq (.eq (.eq (.eq ↑31))))))) (λh248=>(zau (.eq (.eq (.eq (.eq ↑31)))))) (zel (x:=↑123) (λv252=>([⇑[dQ K ⇑8],⇑[dQ K ↑7],⇑[dI P2],⇑[dQ K (List.map dI P3)],.ow true (List.map lI v252),⇑[dL (List.map dI x244.1)],⇑[dI x244.2],.no,.no,.no,.no,.no,.no,.no]:L2.Ctx)) (λz=>Oc.nx ((λ(s243:Jq)=>([⇑[dQ K ⇑8],⇑[dQ K ↑7],⇑[dI P2],⇑[dQ K (List.map dI P3)],.ow true (List.map lI s243),.no,.no,.no,.no,.no,.no,.no,.no,.no]:L2.Ctx)) z)) (λv252 hv252=>(zau (.eq (.eq (.eq (.eq (.eq (.no (.no (.eq ↑17))))))))))))⟩) (λr253 hr253 hI=>(zar (m:=true) (x:=((r253.length:Nat):Int)) dI ↑53 (zho (f:=lI) (xs:=r253) rfl) (λv254 hv254=>have hL:=zvU hI hq w8;have hK:=hv254;(zco (i:=4) rfl (zf4 (m:=true) (x:=(r253++(List.map (λ(x255:Int)=>(zch ↑19 [(0:Int)])) (za6 0 P2.toNat)))) (λz=>List.map lI z) ↑53 (zdC (f:=lI) (xs:=r253) (ys:=(List.map (λ(x255:Int)=>(zch ↑19 [(0:Int)])) (za6 0 P2.toNat))) ↑14 (EvO.ev (EvO.conv (zbS (g:=(λ(x255:Int)=>dL (List.map dI (zch ↑19 [(0:Int)])))) (zdv (m:=true) (n:=P2) ↑25 (by refine ⟨?_,?_⟩<;>omega)) ↥(zan (by rw [zaY];omega)) ↑5 (λi256 x255 hx257=>have v257:=zbs hx257;(EvO.ev (zfo (f:=dI) (xs:=[(0:Int)]) (n:=↑19) ↑50 (zbb (f:=lI) (xs:=P0) ⇑2) (by have z:=hq.1;constructor<;>omega) (by show 1*_≤PySem.sizeLine;have z:=hq.1;exact zan ↑0))))) ↑8)) ↥(zan (by rw [List.length_map,zaY];omega))) (λv258 hv258=>have hS:=zsW hq.1 hi0 hL hK hv258;(zoT (x:=(List.map (λ(x259:Int)=>↑128) (za6 0 P2.toNat))) dRI ↑53 (zlP (zpv (ns:=λ(x259:Int)=>↑128) (zdv (m:=true) (n:=P2) ↑25 (by refine ⟨?_,?_⟩<;>omega)) ↥(zan (by rw [zaY];omega)) ↑5 (λi260 x259 hx261=>have v261:=zbs hx261;(EvO.conv (zbS (g:=(λ(x262:Int)=>dI (if (decide (x262=(v254+x259))) then 1 else 0))) (zdv (m:=true) (n:=(v254+P2)) (za0 (x:=v254) (y:=P2) ⇑7 ↑25) (by refine ⟨?_,?_⟩<;>omega)) ↥(zan (by rw [zaY];omega)) ↑5 (λi263 x262 hx264=>have v264:=zbs hx264;(zk2 (b:=(decide (x262=(v254+x259)))) (zab (zfw (x:=x262) (y:=(v254+x259)) (Ev.any (m:=true) ↑2) (za0 (x:=v254) (y:=x259) ⇑7 ↑42)) zag)))) ↑8)))) (λv265 hv265=>have hTr:=zqq hv265;(zb2 (s0:=(v258,v265)) ↑76 ↑53 ↑133 (λ(i:Nat) (s266:Jq×Jq)=>StI W (v254+P2).toNat s266) (zbG (m:=false) dI (xs:=P3) ⇑9) (.eq (.eq (.eq (.eq ↑31)))) ↥(⟨hS,hTr⟩) (λi268 x267 s266 hx269 hI270=>have v269:=List.mem_of_getElem? hx269;⟨↥(zqk ↥0 (zhB ((↥0:StI W _ _)).1 rfl) (zhB ((↥0:StI W _ _)).1 rfl)),(zar (m:=true) (x:=(zae x267 (4:Int) (max (1:Int) ((s266.1.length:Nat):Int)))) dI (λz=>Oc.nx (↑76 z)) (Ev.any (m:=true) (zam (x:=(x267,(4:Int),(max (1:Int) ((s266.1.length:Nat):Int)))) (zab (Ev.any (m:=false) (zaa (i:=9) rfl)) (zab zaL (zab (zpQ (x:=(1:Int)) (y:=((s266.1.length:Nat):Int)) (zab zaL (zab (zho (f:=lI) (xs:=s266.1) rfl) zag))) zag))) rfl (by show zaS x267 (4:Int) (max (1:Int) ((s266.1.length:Nat):Int));refine ⟨by decide,by decide,by omega⟩) rfl)) (λv271 hv271=>have hO:=zhB ((↥0:StI W _ _)).1 hv271;(zar (m:=true) (x:=(zae x267 (5:Int) (max (1:Int) ((s266.1.length:Nat):Int)))) dI (λz=>Oc.nx (↑76 z)) (Ev.any (m:=true) (zam (x:=(x267,(5:Int),(max (1:Int) ((s266.1.length:Nat):Int)))) (zab (Ev.any (m:=false) (zaa (i:=9) rfl)) (zab zaL (zab (zpQ (x:=(1:Int)) (y:=((s266.1.length:Nat):Int)) (zab zaL (zab (zho (f:=lI) (xs:=s266.1) rfl) zag))) zag))) rfl (by show zaS x267 (5:Int) (max (1:Int) ((s266.1.length:Nat):Int));refine ⟨by decide,by decide,by omega⟩) rfl)) (λv272 hv272=>have hT:=zhB ((↥0:StI W _ _)).1 hv272;(zar (m:=true) (x:=((zae x267 (6:Int) (5:Int))-(2:Int))) dI (λz=>Oc.nx (↑76 z)) (za0 (x:=(zae x267 (6:Int) (5:Int))) (y:=(2:Int)) (Ev.any (m:=true) (zam (x:=(x267,(6:Int),(5:Int))) (zab (Ev.any (m:=false) (zaa (i:=9) rfl)) (zab zaL (zab zaL zag))) rfl (by show zaS x267 (6:Int) (5:Int);refine ⟨by decide,by decide,by omega⟩) rfl)) zaL) (λv273 hv273=>have hM:=zlQ hv273;(zd0 (b:=(!decide (v271=v272))) (λbb=>([⇑[dQ K ⇑8],⇑[dQ K ↑7],⇑[dI P2],⇑[dQ K (List.map dI P3)],.ow true (List.map lI (bif bb then (zc7 s266.1 v272 ↑125) else s266.1)),.no,.no,↥[dI v254],.tl (dRI (bif bb then ↑131 else s266.2)),⇑[dI x267],↥[dI v271],↥[dI v272],↥[dI v273],.no]:L2.Ctx)) (zaA (zfz (x:=v271) (y:=v272) (Ev.any (m:=true) (zaa (i:=10) rfl)) (Ev.any (m:=true) (zaa (i:=11) rfl)))) (λh274=>(zf2 (f:=lI) (xs:=s266.1) (x:=↑125) rfl (EvO.ev (EvO.conv (zbS (g:=(λ(x275:(Int×Int))=>dI (x275.1+(v273*x275.2)))) (zgk (m:=true) dI dI (xs:=(ixD s266.1 v272)) (ys:=(ixD s266.1 v271)) (Ev.weak (K:=K) (zcc (f:=lI) (xs:=s266.1) rfl (Ev.any (m:=true) (zaa (i:=11) rfl)) ↥(zhX ((↥0:StI W _ _)).1 ((zg3 hO hT ↥0)).2.1 ((zg3 hO hT ↥0)).2.2))) (Ev.weak (K:=K) (zcc (f:=lI) (xs:=s266.1) rfl (Ev.any (m:=true) (zaa (i:=10) rfl)) ↥(zhX ((↥0:StI W _ _)).1 ((zg3 hO hT ↥0)).1.1 ((zg3 hO hT ↥0)).1.2)))) ↥(zuh ((↥0:StI W _ _)).1 ((zg3 hO hT ↥0)).2 w8) ↑5 (λi276 x275 hx277=>have v277:=zdw hx277;(za0 (x:=x275.1) (y:=(v273*x275.2)) (Ev.any (m:=true) ↑2) (zaT (x:=v273) (y:=x275.2) ↑42 (Ev.any (m:=true) ⇑2) ↥(.inl ↑33))))) ↑8)) (Ev.any (m:=true) (zaa (i:=11) rfl)) ↥(zhX ((↥0:StI W _ _)).1 ((zg3 hO hT ↥0)).2.1 ((zg3 hO hT ↥0)).2.2) (zk3 (nss:=s266.2) (i:=8) (j:=13) (v:=λ(ns278:Ji)=>((ixD ns278 v271)-(v273*(ixD ns278 v272)))) (k:=v271) (P:=λ(ns278:Ji)=>ns278.length=(v254+P2).toNat) rfl rfl rfl ↥(((↥0:StI W _ _)).2) (λns278 hns=>↥(zqD hns ((zg3 hO hT ↥0)).1)) (λns278 hns=>Ev.borrow (m:=false) rfl (za0 (x:=(ixD ns278 v271)) (y:=(v273*(ixD ns278 v272))) (Ev.any (m:=true) (zbg (f:=dI) (xs:=ns278) (Ev.weak (K:=K) (zaa (i:=13) rfl)) (Ev.any (m:=true) (zaa (i:=10) rfl)) ↥(zqD hns ((zg3 hO hT ↥0)).1))) (zaT (x:=v273) (y:=(ixD ns278 v272)) (Ev.any (m:=true) (zaa (i:=12) rfl)) (Ev.any (m:=true) (zbg (f:=dI) (xs:=ns278) (Ev.weak (K:=K) (zaa (i:=13) rfl)) (Ev.any (m:=true) (zaa (i:=11) rfl)) ↥(zqD hns ((zg3 hO hT ↥0)).2))) ↥(.inl ↑33)))) (λns278 hns=>Ev.borrow (m:=false) rfl (Ev.any (m:=true) (zaa (i:=10) rfl))) (zau (.eq (.eq (.eq (.eq ↑31)))))))) (λh274=>(zau (.eq (.eq (.eq (.eq ↑31)))))) (zel (x:=(bif (!decide (v271=v272)) then (zc7 s266.1 v272 ↑125) else s266.1)) (λv279=>([⇑[dQ K ⇑8],⇑[dQ K ↑7],⇑[dI P2],⇑[dQ K (List.map dI P3)],.ow true (List.map lI v279),.no,.no,↥[dI v254],.tl (dRI (bif (!decide (v271=v272)) then ↑131 else s266.2)),⇑[dI x267],↥[dI v271],↥[dI v272],↥[dI v273],.no]:L2.Ctx)) (λz=>Oc.nx (↑76 z)) (λv279 hv279=>(zel (x:=(bif (!decide (v271=v272)) then ↑131 else s266.2)) (λv280=>([⇑[dQ K ⇑8],⇑[dQ K ↑7],⇑[dI P2],⇑[dQ K (List.map dI P3)],.ow true (List.map lI v279),.no,.no,↥[dI v254],.tl (dRI v280),⇑[dI x267],↥[dI v271],↥[dI v272],↥[dI v273],.no]:L2.Ctx)) (λz=>Oc.nx (↑76 z)) (λv280 hv280=>(zau (.eq (.eq (.eq (.eq (.eq (.eq (.eq (.eq (.eq (.no (.no (.no (.no (.eq .nil))))))))))))))))))))))))))⟩) (λr281 hr281 hI=>(zmp rfl (zco (i:=4) rfl (zal (zaE (zhy (zab ↑14 (zab (zt2 (zaa (i:=8) rfl)) zag)) (by show 2≤sizeLine;decide))))))))))))))))))
theorem zoj {b:Nat} {l t:Ji} {q:Int} (h:Lat.Bit b l) (k:Lat.Bit b t) (hq:-2≤q∧q≤2):Lat.Bit (b+2) (List.map (λ(x:Int×Int)=>x.1+(q*x.2)) (List.zip l t))∧Lat.Bit (b+2) (List.map (λ(x:Int×Int)=>x.1-(q*x.2)) (List.zip l t)):=by
 have a4:(2:Nat)^(b+2)=4*2^b:=by rw [Nat.pow_add];omega
 have key:∀ x:Int×Int,x∈List.zip l t->x.1.natAbs≤2^b∧(q*x.2).natAbs≤2*2^b:=λx hx=>by
  obtain ⟨h1,h2⟩:=List.of_mem_zip (a:=x.1) (b:=x.2) hx
  exact ⟨h _ h1,by rw [Int.natAbs_mul];exact Nat.mul_le_mul ↑0 (k _ h2)⟩
 refine ⟨λy hy=>?_,λy hy=>?_⟩ <;>
 ·obtain ⟨x,hx,rfl⟩:=List.mem_map.mp hy
  have:=key x hx
  rw [a4]
  omega
def FrJ (W b:Nat) (s:Jq×Jq):Prop:=(s.1.length=W∧Lat.RB W b s.1)∧s.2.length=W∧Lat.RB W b s.2
theorem zpU {W b:Nat} {rows:Jq} {i:Int} {y:Ji} (h:rows.length=W∧Lat.RB W b rows) (hy:y.length=W∧Lat.Bit (b+2) y):(zc7 rows i y).length=W∧Lat.RB W (b+2) (zc7 rows i y):=by
 refine ⟨by rw [zeR];exact h.1,λr hr=>?_⟩
 rcases Lat.zgF hr with rfl | hr
 ·exact hy
 ·exact ⟨(h.2 r hr).1,((h.2 r hr).2).mono ↑0⟩
theorem zti {W b:Nat} {rows:Jq} (h:rows.length=W∧Lat.RB W b rows):rows.length=W∧Lat.RB W (b+2) rows:=⟨h.1,λr hr=>⟨(h.2 r hr).1,((h.2 r hr).2).mono ↑0⟩⟩
theorem zmj {W b n:Nat} {rows:Jq} (h:rows.length=n∧Lat.RB W b rows):Sq W n rows:=⟨h.1,λr hr=>(h.2 r hr).1⟩
def frF (w:Int):Jq×Jq->Int->Jq×Jq:=λs x=>Let (zae x (1:Int) w) (λ(one:Int)=>Let (zae x (2:Int) w) (λ(two:Int)=>Let ((zae x (3:Int) (5:Int))-(2:Int)) (λ(many:Int)=>Let (bif (!decide (one=two)) then (zc7 s.1 two (List.map (λ(x35:(Int×Int))=>(x35.1+(many*x35.2))) (List.zip (ixD s.1 two) (ixD s.1 one)))) else s.1) (λ(rows41:Jq)=>Let (bif (!decide (one=two)) then (zc7 s.2 one (List.map (λ(x38:(Int×Int))=>(x38.1-(many*x38.2))) (List.zip (ixD s.2 one) (ixD s.2 two)))) else s.2) (λ(duals42:Jq)=>(rows41,duals42))))))
theorem zni {w:Int} {W:Nat} (hw:w=(W:Int)) (h1:1≤w):∀ (cs:Ji) (b:Nat) (s:Jq×Jq),FrJ W b s->FrJ W (b+2*cs.length) (List.foldl (frF w) s cs)
 | [],b,s,h=>h
 | c :: cs,b,s,h=>by
  rw [List.foldl_cons,List.length_cons,show b+2*(cs.length+1)=b+2+2*cs.length by omega]
  refine zni hw h1 cs (b+2) _ ?_
  have hO:=zeW (c:=c) (k:=1) hw h1 rfl
  have hT:=zeW (c:=c) (k:=2) hw h1 rfl
  have hM:=zlQ (c:=c) (k:=3) rfl
  unfold frF Let
  dsimp only
  generalize zae c 1 w=one at *
  generalize zae c 2 w=two at *
  generalize zae c 3 5-2=many at *
  have q1:=zmj h.1
  have q2:=zmj h.2
  have m:∀ {rows:Jq} {x:Int},rows.length=W∧Lat.RB W b rows->0≤x∧x<(W:Int)->Lat.Bit b (ixD rows x):=λh hx=>(h.2 _ (zcp (zhX (zmj h) hx.1 hx.2))).2
  cases (!decide (one=two))
  ·exact ⟨zti h.1,zti h.2⟩
  ·exact ⟨zpU h.1 ⟨zj1 q1 q1 hT hO,(zoj (m h.1 hT) (m h.1 hO) hM).1⟩,zpU h.2 ⟨zj1 q2 q2 hO hT,(zoj (m h.2 hO) (m h.2 hT) hM).2⟩⟩
theorem zma {w:Int} {W:Nat} {cs:Ji} (hw:w=(W:Int)) (h1:1≤w):FrJ W (2*cs.length) (zbU w cs):=by
 have h:=zni hw h1 cs 0 (List.map ↑65 (za6 0 w.toNat),List.map (λ(x:Ji)=>x) (List.map ↑65 (za6 0 w.toNat))) (by
  have h0:∀ x:Int,Lat.Bit 0 (List.map (λ(y:Int)=>(if (decide (y=x)) then (1:Int) else 0)) (za6 0 w.toNat)):=λx y hy=>by
   obtain ⟨z,_,rfl⟩:=List.mem_map.mp hy
   cases decide (z=x)<;>decide
  have hA:((List.map ↑65 (za6 0 w.toNat)).length=W)∧Lat.RB W 0 (List.map ↑65 (za6 0 w.toNat)):=by
   refine ⟨by rw [List.length_map,zaY];omega,λr hr=>?_⟩
   obtain ⟨x,_,rfl⟩:=List.mem_map.mp hr
   exact ⟨by rw [List.length_map,zaY];omega,h0 x⟩
  exact ⟨hA,by rw [List.map_id'];exact hA⟩)
 rw [Nat.zero_add] at h
 exact h
def zuY (n:Nat) (swaps trips:Jq):Prop:=∀ t∈trips,∀ j,j<n->Lat.comb t (swaps.map Lat.vec) j=0
def StJ (n k b c:Nat) (s:Jq×Jq):Prop:=(s.1.length=k∧Lat.RB n b s.1)∧(∀ t∈s.2,t.length=k∧Lat.Bit c t)∧zuY n s.1 s.2
theorem zpB {rows:Jq} {k:Nat} {y:Ji}:(rows.set k y).map Lat.vec=(rows.map Lat.vec).set k (Lat.vec y):=List.map_set
theorem zii {α:Type} {xs:List α} {k:Nat} {x:α} (h:k<xs.length):zc7 xs (k:Int) x=xs.set k x:=by
 unfold zc7 ixN
 rw [if_pos ↑0,if_pos ↑0]
 show xs.set (k:Int).toNat x=_
 rw [Int.toNat_natCast]
def stF:Jq×Jq->Int->Jq×Jq:=λs x=>Let (zae x (4:Int) ↑54) (λ(one:Int)=>Let (zae x (5:Int) ↑54) (λ(two:Int)=>Let ((zae x (6:Int) (5:Int))-(2:Int)) (λ(many:Int) =>
 Let (bif (!decide (one=two)) then (zc7 s.1 two (List.map (λ(z:(Int×Int))=>(z.1+(many*z.2))) (List.zip (ixD s.1 two) (ixD s.1 one)))) else s.1) (λ(swaps:Jq) =>
 Let (bif (!decide (one=two)) then (List.map (λ(ns:Ji)=>zc7 ns one ((ixD ns one)-(many*(ixD ns two)))) s.2) else s.2) (λ(trips:Jq)=>(swaps,trips))))))
theorem zkE {n k:Nat}:∀ (cs:Ji) (b c:Nat) (s:Jq×Jq),StJ n k b c s->StJ n k (b+2*cs.length) (c+2*cs.length) (List.foldl stF s cs)
 | [],b,c,s,h=>h
 | x :: cs,b,c,s,h=>by
  rw [List.foldl_cons,List.length_cons,show b+2*(cs.length+1)=b+2+2*cs.length by omega,show c+2*(cs.length+1)=c+2+2*cs.length by omega]
  refine zkE cs (b+2) (c+2) _ ?_
  obtain ⟨h1,h2,h3⟩:=h
  have hq:=zmj h1
  have hO:=zhB (c:=x) (k:=4) hq rfl
  have hT:=zhB (c:=x) (k:=5) hq rfl
  have hM:=zlQ (c:=x) (k:=6) rfl
  unfold stF Let
  dsimp only
  generalize zae x 4 ↑54=one at *
  generalize zae x 5 ↑54=two at *
  generalize zae x 6 5-2=many at *
  by_cases e:one=two
  ·rw [decide_eq_true e]
   exact ⟨⟨h1.1,λr hr=>⟨(h1.2 r hr).1,((h1.2 r hr).2).mono ↑0⟩⟩,λt ht=>⟨(h2 t ht).1,((h2 t ht).2).mono ↑0⟩,h3⟩
  ·rw [decide_eq_false e]
   have hl:=zg3 hO hT (by simp [e])
   obtain ⟨o,rfl⟩:∃ o:Nat,one=(o:Int):=⟨one.toNat,by omega⟩
   obtain ⟨w,rfl⟩:∃ w:Nat,two=(w:Int):=⟨two.toNat,by omega⟩
   have how:o≠w:=λz=>e (by rw [z])
   have ho:o<s.1.length:=by rw [h1.1];omega
   have hw:w<s.1.length:=by rw [h1.1];omega
   have ge:∀ {i:Nat} (hi:i<s.1.length),ixD s.1 (i:Int)=s.1[i]:=λhi=>zbJ (List.getElem?_eq_getElem hi)
   show StJ n k (b+2) (c+2) (zc7 s.1 (w:Int) _,List.map _ s.2)
   rw [ge ho,ge hw,zii hw]
   have ro:=h1.2 _ (List.getElem_mem ho)
   have rw':=h1.2 _ (List.getElem_mem hw)
   refine ⟨⟨by rw [List.length_set];exact h1.1,λr hr=>?_⟩,λt ht=>?_,λt ht j hj=>?_⟩
   ·rcases List.mem_or_eq_of_mem_set hr with h' | rfl
    ·exact ⟨(h1.2 r h').1,((h1.2 r h').2).mono ↑0⟩
    ·exact ⟨by rw [List.length_map,List.length_zip,ro.1,rw'.1];omega,(zoj rw'.2 ro.2 hM).1⟩
   ·obtain ⟨ns,hns,rfl⟩:=List.mem_map.mp ht
    have hn:=h2 ns hns
    refine ⟨by rw [zeR];exact hn.1,λy hy=>?_⟩
    have a4:(2:Nat)^(c+2)=4*2^c:=by rw [Nat.pow_add];omega
    rcases Lat.zgF hy with rfl | hy
    ·have b1:=hn.2 _ (zcp (xs:=ns) (i:=(o:Int)) (by unfold InB;omega))
     have b2:=hn.2 _ (zcp (xs:=ns) (i:=(w:Int)) (by unfold InB;omega))
     have b3:(many*ixD ns (w:Int)).natAbs≤2*2^c:=by rw [Int.natAbs_mul];exact Nat.mul_le_mul ↑0 b2
     rw [a4];omega
    ·have:=hn.2 y hy
     rw [a4];omega
   ·obtain ⟨ns,hns,rfl⟩:=List.mem_map.mp ht
    have hn:=h2 ns hns
    have no:o<ns.length:=by omega
    have nw:w<ns.length:=by omega
    have e1:ixD ns (o:Int)=ns[o]:=zbJ (List.getElem?_eq_getElem no)
    have e2:ixD ns (w:Int)=ns[w]:=zbJ (List.getElem?_eq_getElem nw)
    rw [zii no,e1,e2,zpB]
    rw [Lat.zkn (t1:=ns[o]) (t2:=ns[w]) (a1:=Lat.vec s.1[o]) (a2:=Lat.vec s.1[w]) how (List.getElem?_eq_getElem no) (List.getElem?_eq_getElem nw) (by rw [List.getElem?_map,List.getElem?_eq_getElem ho];rfl) (by rw [List.getElem?_map,List.getElem?_eq_getElem hw];rfl) (Lat.zgE (by rw [ro.1,rw'.1]))]
    exact h3 ns hns j hj
theorem znT {W b:Nat}:∀ (l:List (Ji×Int)) (acc:Jq),(∀ p∈l,p.1.length=W∧Lat.Bit b p.1∧0≤p.2∧p.2≤1000000001)->Lat.RB W (b+30) acc->(List.foldl ↑94 acc l).length≤acc.length+l.length∧Lat.RB W (b+30) (List.foldl ↑94 acc l)
 | [],acc,_,h=>⟨Nat.le_refl _,h⟩
 | p :: l,acc,hl,h=>by
  have hp:=hl p List.mem_cons_self
  rw [List.foldl_cons]
  have hn:((bif (decide ((0:Int)<p.2)) then (acc++[List.map (λ(y:Int)=>(p.2*y)) p.1]) else acc)).length≤acc.length+1∧Lat.RB W (b+30) (bif (decide ((0:Int)<p.2)) then (acc++[List.map (λ(y:Int)=>(p.2*y)) p.1]) else acc):=by
   cases decide ((0:Int)<p.2)
   ·exact ⟨Nat.le_succ _,h⟩
   ·refine ⟨by rw [cond_true,List.length_append,List.length_singleton];exact Nat.le_refl _,λr hr=>?_⟩
    rcases List.mem_append.mp hr with hr | hr
    ·exact h r hr
    ·rw [List.mem_singleton.mp hr]
     refine ⟨by rw [List.length_map];exact hp.1,λy hy=>?_⟩
     obtain ⟨z,hz,rfl⟩:=List.mem_map.mp hy
     rw [Int.natAbs_mul,Nat.pow_add,Nat.mul_comm]
     exact Nat.mul_le_mul (hp.2.1 z hz) (Nat.le_trans (show p.2.natAbs≤1000000001 by omega) ↑1)
  have:=znT l _ (λq hq=>hl q (List.mem_cons_of_mem _ hq)) hn.2
  refine ⟨Nat.le_trans this.1 ?_,this.2⟩
  rw [List.length_cons]
  have:=hn.1
  omega
theorem zsw {W k:Nat} {a:Jq} {idle:Int} (h0:0≤idle) {w:Int}:zuY W (a++List.map (λ(_:Int)=>zch w [(0:Int)]) (za6 0 idle.toNat)) (List.map ↑121 (za6 0 idle.toNat)):=λt ht j _=>by
 obtain ⟨x,hx,rfl⟩:=List.mem_map.mp ht
 have hx0:=(zjB.mp hx).1
 refine Lat.zh3 λi y v h1 h2=>?_
 rw [List.getElem?_map] at h1 h2
 cases q:(za6 0 (((a.length:Nat):Int)+idle).toNat)[i]? with
 | none=>rw [q] at h1;cases h1
 | some z =>
  rw [q] at h1
  obtain ⟨g1,g2⟩:=zbs q
  have h1:(if (decide (z=(((a.length:Nat):Int)+x))) then (1:Int) else 0)=y:=Option.some.inj h1
  by_cases e:i<a.length
  ·rw [decide_eq_false ↑0] at h1
   rw [← h1];simp
  ·rw [List.getElem?_append_right ↑0,List.getElem?_map] at h2
   cases q2:((za6 0 idle.toNat))[i-a.length]? with
   | none=>rw [q2] at h2;cases h2
   | some z2 =>
    rw [q2] at h2
    have h2:Lat.vec (zch w [(0:Int)])=v:=Option.some.inj h2
    rw [← h2]
    have:Lat.vec (zch w [(0:Int)]) j=0:=by
     by_cases hw:0≤w
     ·obtain ⟨n,rfl⟩:∃ n:Nat,w=(n:Int):=⟨w.toNat,by omega⟩
      exact Lat.zeG
     ·unfold zch
      rw [show w.toNat=0 by omega]
      simp [Lat.vec]
    rw [this];simp
theorem ziU {W b:Nat} {rows:Jq} {bs cs:Ji} {idle:Int} (hr:rows.length=W∧Lat.RB W b rows) (hw:W≤8) (hb:∀ x∈bs,0≤x∧x≤1000000001) (hi:0≤idle∧idle≤3) :
  ∃ k,k≤11∧StJ W k (b+30+2*cs.length) (2*cs.length) (zaR rows bs idle cs):=by
 have h0:=znT (W:=W) (b:=b) (List.zip rows bs) [] (λp hp=>by
  have:=List.of_mem_zip (a:=p.1) (b:=p.2) hp
  exact ⟨(hr.2 _ this.1).1,(hr.2 _ this.1).2,hb _ this.2⟩) (λr hr=>by simp at hr)
 rw [List.length_zip,List.length_nil,Nat.zero_add] at h0
 unfold zaR
 generalize ha:(List.foldl ↑94 [] (List.zip rows bs))=a at h0
 show ∃ k,k≤11∧StJ W k _ _ (List.foldl stF (a++List.map (λ(_:Int)=>zch ((rows.length:Nat):Int) [(0:Int)]) (za6 0 idle.toNat),List.map ↑121 (za6 0 idle.toNat)) cs)
 have hl:=hr.1
 refine ⟨a.length+idle.toNat,by have:=h0.1;omega,?_⟩
 have:=zkE (n:=W) (k:=a.length+idle.toNat) cs (b+30) 0 (a++List.map (λ(_:Int)=>zch ((rows.length:Nat):Int) [(0:Int)]) (za6 0 idle.toNat),List.map ↑121 (za6 0 idle.toNat)) ⟨⟨by rw [List.length_append,List.length_map,zaY],λr hr'=>?_⟩,λt ht=>?_,zsw (k:=0) (a:=a) (w:=((rows.length:Nat):Int)) hi.1⟩
 ·rw [Nat.zero_add] at this
  exact this
 ·rcases List.mem_append.mp hr' with hr' | hr'
  ·exact h0.2 r hr'
  ·obtain ⟨x,_,rfl⟩:=List.mem_map.mp hr'
   refine ⟨by rw [Lat.zcg];exact hl,λy hy=>?_⟩
   obtain ⟨j,_,rfl⟩:=Lat.zjT hy
   rw [Lat.zeG];exact Nat.zero_le _
 ·obtain ⟨x,_,rfl⟩:=List.mem_map.mp ht
  refine ⟨by rw [List.length_map,zaY];omega,λy hy=>?_⟩
  obtain ⟨z,_,rfl⟩:=List.mem_map.mp hy
  cases decide (z=(((a.length:Nat):Int)+x))<;>decide
theorem zoY:∀ (cs:Ji) (s:Jq×Jq),((List.foldl stF s cs)).2.length=s.2.length
 | [],_=>rfl
 | c :: cs,s=>by
  rw [List.foldl_cons,zoY cs]
  unfold stF Let
  dsimp only
  cases (!decide (zae c (4:Int) ↑54=zae c (5:Int) ↑54))
  ·rfl
  ·rw [cond_true,List.length_map]
abbrev Sd4:=T4 Jq Jq Ji Jq
theorem zup {w x k i:Int} {cs o:Ji} {f:Jq×Jq} (hW:1≤w∧w≤8) (hF:f=zbU w cs) (hO:o=za2 w x k) (hI:0≤i∧i≤3):StP f.1 o i:=by
 obtain ⟨W,hWW⟩:∃ W:Nat,w=(W:Int):=⟨w.toNat,by omega⟩
 have h:=zma (cs:=cs) hWW hW.1
 rw [← hF] at h
 have b:=zpT (w:=w) (c:=x) (f:=k) ↑0
 rw [← hO] at b
 exact ⟨W,by omega,by omega,zmj h.1,by omega,b.2,hI.1,hI.2⟩
theorem zmR {w:Int} {W:Nat} (hw:w=(W:Int)) (h1:1≤w):∀ (cs:Ji) (s:Jq×Jq),Lat.Du W s->Lat.Du W (List.foldl (frF w) s cs)
 | [],s,h=>h
 | c :: cs,s,h=>by
  rw [List.foldl_cons]
  refine zmR hw h1 cs _ ?_
  have hO:=zeW (c:=c) (k:=1) hw h1 rfl
  have hT:=zeW (c:=c) (k:=2) hw h1 rfl
  unfold frF Let
  dsimp only
  generalize zae c 1 w=one at *
  generalize zae c 2 w=two at *
  generalize zae c 3 5-2=many at *
  by_cases e:one=two
  ·rw [decide_eq_true e];exact h
  ·rw [decide_eq_false e]
   obtain ⟨o,rfl⟩:∃ o:Nat,one=(o:Int):=⟨one.toNat,by omega⟩
   obtain ⟨t,rfl⟩:∃ t:Nat,two=(t:Int):=⟨two.toNat,by omega⟩
   have ho1:o<s.1.length:=by rw [h.l1];omega
   have ht1:t<s.1.length:=by rw [h.l1];omega
   have ho2:o<s.2.length:=by rw [h.l2];omega
   have ht2:t<s.2.length:=by rw [h.l2];omega
   have g1:=List.getElem?_eq_getElem ho1;have g2:=List.getElem?_eq_getElem ht1
   have g3:=List.getElem?_eq_getElem ho2;have g4:=List.getElem?_eq_getElem ht2
   show Lat.Du W (zc7 s.1 (t:Int) _,zc7 s.2 (o:Int) _)
   rw [zbJ g1,zbJ g2,zbJ g3,zbJ g4,zii ht1,zii ho2]
   exact h.step many (λz=>e (by rw [z])) g1 g2 g3 g4
theorem zpk {w:Int} {W:Nat} {cs:Ji} (hw:w=(W:Int)) (h1:1≤w):Lat.Du W (zbU w cs):=by
 have h:=zmR hw h1 cs (List.map ↑65 (za6 0 w.toNat),List.map (λ(x:Ji)=>x) (List.map ↑65 (za6 0 w.toNat))) (by
  rw [List.map_id']
  exact Lat.Du.start (by rw [hw,Int.toNat_natCast]))
 exact h
theorem zom:∀ (cs:Ji) (s:Jq×Jq),((List.foldl stF s cs)).1.length=s.1.length
 | [],_=>rfl
 | c :: cs,s=>by
  rw [List.foldl_cons,zom cs]
  unfold stF Let
  dsimp only
  cases (!decide (zae c (4:Int) ↑54=zae c (5:Int) ↑54))
  ·rfl
  ·rw [cond_true,zeR]
theorem zsl {n k:Nat} {u:Lat.Vc}:∀ (cs:Ji) (b c:Nat) (s:Jq×Jq),StJ n k b c s->(Lat.SpL ((List.foldl stF s cs)).1 u ↔ Lat.SpL s.1 u)
 | [],_,_,_,_=>Iff.rfl
 | x :: cs,b,c,s,h=>by
  have h':=zkE [x] b c s h
  rw [List.foldl_cons]
  refine (zsl cs _ _ _ h').trans ?_
  obtain ⟨h1,h2,h3⟩:=h
  have hq:=zmj h1
  have hO:=zhB (c:=x) (k:=4) hq rfl
  have hT:=zhB (c:=x) (k:=5) hq rfl
  show Lat.SpL (stF s x).1 u ↔ _
  unfold stF Let
  dsimp only
  generalize zae x 4 ↑54=one at *
  generalize zae x 5 ↑54=two at *
  generalize zae x 6 5-2=many at *
  by_cases e:one=two
  ·rw [decide_eq_true e];exact Iff.rfl
  ·rw [decide_eq_false e]
   have hl:=zg3 hO hT (by simp [e])
   obtain ⟨o,rfl⟩:∃ o:Nat,one=(o:Int):=⟨one.toNat,by omega⟩
   obtain ⟨t,rfl⟩:∃ t:Nat,two=(t:Int):=⟨two.toNat,by omega⟩
   have ho:o<s.1.length:=by rw [h1.1];omega
   have ht:t<s.1.length:=by rw [h1.1];omega
   have g1:=List.getElem?_eq_getElem ho;have g2:=List.getElem?_eq_getElem ht
   show Lat.SpL (zc7 s.1 (t:Int) _) u ↔ _
   rw [zbJ g1,zbJ g2,zii ht]
   exact Lat.zoS (λz=>e (by rw [z])) g1 g2 λk=>Lat.zgE (by rw [(h1.2 _ (List.mem_of_getElem? g1)).1,(h1.2 _ (List.mem_of_getElem? g2)).1])
theorem zmd:∀ (l:List (Ji×Int)) (acc:Jq),List.foldl ↑94 acc l=acc++(l.filter λp=>decide (0<p.2)).map λp=>List.map (λ(y:Int)=>p.2*y) p.1
 | [],acc=>by simp
 | p :: l,acc=>by
  rw [List.foldl_cons,zmd l]
  show (bif (decide ((0:Int)<p.2)) then (acc++[List.map (λ(y:Int)=>(p.2*y)) p.1]) else acc)++_=_
  by_cases q:(0:Int)<p.2
  ·rw [decide_eq_true q,List.filter_cons_of_pos ↥(decide_eq_true q),List.map_cons];simp
  ·rw [decide_eq_false q,List.filter_cons_of_neg (by simpa using q)];rfl
theorem zi5 {W b:Nat} {rows:Jq} {bs cs:Ji} {idle:Int} {u:Lat.Vc} (hr:rows.length=W∧Lat.RB W b rows) (hw:W≤8) (hb:∀ x∈bs,0≤x∧x≤1000000001) (hi:0≤idle∧idle≤3) :
  (Lat.SpL ((zaR rows bs idle cs)).1 u ↔ Lat.SpL (Lat.scl rows bs) u)∧((zaR rows bs idle cs)).1.length≤W+idle.toNat:=by
 obtain ⟨k,k1,k2⟩:=ziU (cs:=[]) (bs:=bs) hr hw hb hi
 have e:zaR rows bs idle cs=List.foldl stF (zaR rows bs idle []) cs:=rfl
 have e0:(zaR rows bs idle []).1=Lat.scl rows bs++List.map (λ(_:Int)=>zch ((rows.length:Nat):Int) [(0:Int)]) (za6 0 idle.toNat):=by
  show (List.foldl ↑94 [] (List.zip rows bs))++_=_
  rw [zmd,List.nil_append];rfl
 rw [e,zom]
 refine ⟨(zsl cs _ _ _ k2).trans ?_,?_⟩
 ·rw [e0]
  refine Lat.znS λs hs j=>?_
  obtain ⟨_,_,rfl⟩:=List.mem_map.mp hs
  exact Lat.zeG
 ·rw [e0,List.length_append,List.length_map,zaY]
  have:(Lat.scl rows bs).length≤rows.length:=by
   unfold Lat.scl
   rw [List.length_map]
   exact Nat.le_trans (List.length_filter_le _ _) (by rw [List.length_zip];omega)
  have:=hr.1
  omega
theorem zmk {W b:Nat} {rows:Jq} {bs cs:Ji} {idle:Int} (hr:rows.length=W∧Lat.RB W b rows) (hw:W≤8) (hb:∀ x∈bs,0≤x∧x≤1000000001) (hi:0≤idle∧idle≤3):Lat.RB W (b+30+2*cs.length) ((zaR rows bs idle cs)).1:=by
 obtain ⟨k,k1,k2⟩:=ziU (cs:=cs) (bs:=bs) hr hw hb hi
 exact k2.1.2
def zbz (P0:Ji) (P1:Int) (P2:Int) (P3:Int):↑13 :=
 (Let (↑19/(2:Int)) (λ(hv282:Int)=>(Let (zbU P1 (zcQ P0 none (some hv282))) (λ(p283:(Jq×Jq))=>(Let (za2 P1 P2 (7:Int)) (λ(v284:Ji)=>(Let ((zaR p283.1 v284 P3 (zcQ P0 (some hv282) none)).1) (λ(v285:Jq)=>(T4.mk p283.1 p283.2 v284 v285)))))))))
def zeO (P0:Ji) (P1:Int) (P2:Int) (P3:Int):Prop:=(1≤P1∧P1≤8)∧0≤P3∧P3≤3
def zgx (K:W.Frag) (A:Adr):Sp:=Spv (ι:=Ji×Int×Int×Int) (λx=>[dQ K (List.map dI x.1),dI x.2.1,dI x.2.2.1,dI x.2.2.2]) (λx=>zeO x.1 x.2.1 x.2.2.1 x.2.2.2) (λx=>↥[dT [dL (List.map lI (((zbz x.1 x.2.1 x.2.2.1 x.2.2.2)).a)),dL (List.map lI (((zbz x.1 x.2.1 x.2.2.1 x.2.2.2)).b)),dL (List.map dI (((zbz x.1 x.2.1 x.2.2.1 x.2.2.2)).c)),dL (List.map lI (((zbz x.1 x.2.1 x.2.2.1 x.2.2.2)).d))]])
theorem zdY:FnScope ["_law_cells","_law_wide","_law_cell_here","_law_idle","_law_half","_law_rows","_law_duals","_law_bottoms_here","_law_swaps"] ["_law_cells","_law_wide","_law_cell_here","_law_idle"] (zaf zeA):=↑4
theorem zkL (F:Fun K "_law_side" "_law_side" zeA f fd) (T:Txt K mg A) (ya1:Callee P w K mg base ⇑1 2 "_law_bottoms" ["_law_wide","_law_cell_here","_law_far"] (zeZ K A)) (ybg:Callee P w K mg base ⇑1 2 "_law_frame" ["_law_wide","_law_cells"] (zfT K A)) (ya2:Callee P w K mg base ⇑1 2 "_law_stirred" ["_law_rows","_law_bottoms_here","_law_idle","_law_cells"] (ze0 K A)):FnOk P w K mg base ⇑1 3 f fd ["_law_cells","_law_wide","_law_cell_here","_law_idle"] (zgx K A):=by
 refine F.okV zdY ↥3 ↑6
 obtain ⟨P0,P1,P2,P3⟩:=x
 have hu:=hr.units
 replace hp:zeO P0 P1 P2 P3:=hp
 unfold zeO at hp
 refine ⟨_,(zac (zat (i:=4) zdY.nd rfl ⇑0 (zaD zcx ↑88 zaj)) (zac (zgS (zaF ybg ↥1 rfl zav ↑[pv 1,(zdc (zcr (K:=K) rfl) (pv 0) ze1 (zdh (pv 4)))]) (zb3 (K:=K) (n:=2) rfl rfl (zaH (zao (i:=5) zdY.nd rfl ⇑0 ⇑0) (zaH (zao (i:=6) zdY.nd rfl ⇑0 ⇑0) zcA)))) (zac (zat (i:=7) zdY.nd rfl ⇑0 (zaF ya1 ↥1 rfl zav ↑[pv 1,pv 2,zaj])) (zac (zat (i:=8) zdY.nd rfl ⇑0 (za1 ↑12 (zaF ya2 ↥1 rfl zav ↑[pv 5,pv 7,pv 3,(zdc (zcr (K:=K) rfl) (pv 0) (zdh (pv 4)) ze1)]) zaj ↑3)) (zac (zaO (zhw ↑[pv 5,pv 6,pv 7,pv 8])) zah))))),.inl ?_⟩
 show L2.Run _ ([⇑[dQ K ↑16],⇑[dI P1],⇑[dI P2],⇑[dI P3],.no,.no,.no,.no,.no]:L2.Ctx) _ (↑93 (zbz P0 P1 P2 P3))
 unfold zbz
 exact (zar (m:=true) (x:=(↑19/(2:Int))) dI ↑93 (zaT (x:=↑19) (y:=(2:Int)) (zbb (f:=dI) (xs:=P0) ↑2) zaL ↥(↑5)) (λhv282 hhalf282=>(zj8 (m:=true) (x:=(zbU P1 (zcQ P0 none (some hv282)))) (λ(p283:(Jq×Jq))=>dL (List.map lI p283.1)) (λ(p283:(Jq×Jq))=>dL (List.map lI p283.2)) ↑93 (zam (x:=(P1,(zcQ P0 none (some hv282)))) (zab ⇑7 (zab (Ev.weak (K:=K) (EvO.ev (EvO.anyI (m:=false) (zdZ (f:=dI) (xs:=P0) ↑2 zd7 (zck ↑49))))) zag)) rfl (by show zep P1 (zcQ P0 none (some hv282));exact hp.1) rfl) (λp283 hp283=>have hF:=hp283;(zar (m:=true) (x:=(za2 P1 P2 (7:Int))) lI ↑93 (EvO.ev (EvO.anyI (m:=true) (zcT (x:=(P1,P2,(7:Int))) (zab ⇑7 (zab ↑25 (zab zaL zag))) rfl (by show zdF P1 P2 (7:Int);exact ⟨by omega,by omega,by decide,by decide⟩) rfl))) (λv284 hv284=>have hB:=hv284;(zar (m:=true) (x:=(zaR p283.1 v284 P3 (zcQ P0 (some hv282) none)).1) ↑40 ↑93 (zcs (zam (x:=(p283.1,v284,P3,(zcQ P0 (some hv282) none))) (zab (Ev.old (Ev.weak (K:=K) ↑23)) (zab (Ev.old (Ev.weak (K:=K) (zaa (i:=7) rfl))) (zab (Ev.any (m:=false) ⇑9) (zab (Ev.weak (K:=K) (EvO.ev (EvO.anyI (m:=false) (zdZ (f:=dI) (xs:=P0) ↑2 (zck ↑49) zd7)))) zag)))) rfl (by show zdD p283.1 v284 P3 (zcQ P0 (some hv282) none);exact zup hp.1 hF hB hp.2) rfl) zaL rfl) (λv285 hv285=>(zal (zaE (zhy (zab ↑23 (zab (zaa (i:=6) rfl) (zab (zaa (i:=7) rfl) (zab (zaa (i:=8) rfl) zag)))) (by show 4≤sizeLine;decide))))))))))))
structure Sd71 (W fb sb:Nat) (y:Sd4):Prop where
 w1:1≤W
 w8:W≤8
 du:Lat.Du W (y.a,y.b)
 ra:∀ r∈y.a,Lat.Bit fb r
 rb:∀ r∈y.b,Lat.Bit fb r
 bl:y.c.length=W
 b0:∀ b∈y.c,0≤b∧b≤1000000001
 ln:y.d.length≤W+1
 sr:∀ r∈y.d,r.length=W∧Lat.Bit sb r
 sp:∀ u,Lat.SpL y.d u ↔ Lat.SpL (Lat.scl y.a y.c) u
theorem zqZ {W h:Nat} {w c idle:Int} {cs:Ji} (hw:w=(W:Int)) (h1:1≤w∧w≤8) (hI:0≤idle∧idle≤1) (hc:cs.length≤2*h):Sd71 W (2*h) (2*h+30+2*h) (zbz cs w c idle):=by
 unfold zbz Let
 dsimp only
 obtain ⟨n,hn⟩:∃ n:Nat,((cs.length:Nat):Int)/2=(n:Int):=⟨cs.length/2,by omega⟩
 rw [hn]
 have c1:(zcQ cs none (some (n:Int))).length≤h:=by
  have:(zcQ cs none (some (n:Int))).length≤n:=by unfold zcQ;simp only [HT.sIx_nat,HT.sIx_none,List.length_take,List.length_drop];omega
  omega
 have c2:(zcQ cs (some (n:Int)) none).length≤h:=by
  have:(zcQ cs (some (n:Int)) none).length≤cs.length-n:=by unfold zcQ;simp only [HT.sIx_nat,HT.sIx_none,List.length_take,List.length_drop];omega
  omega
 generalize zcQ cs none (some (n:Int))=ca at *
 generalize zcQ cs (some (n:Int)) none=cb at *
 have hF:=zma (cs:=ca) hw h1.1
 have b:=zpT (w:=w) (c:=c) (f:=7) ↑0
 have sb:=zmk (cs:=cb) (bs:=za2 w c 7) hF.1 ↑0 b.2 ⟨hI.1,by omega⟩
 refine ⟨by omega,by omega,zpk hw h1.1,λr hr=>((hF.1.2 r hr).2).mono ↑0,λd hd=>((hF.2.2 d hd).2).mono ↑0,by have:=b.1;show (za2 w c 7).length=W;omega,b.2,?_,λr hr=>⟨(sb r hr).1,((sb r hr).2).mono ↑0⟩,λu=>(zi5 (u:=u) hF.1 ↑0 b.2 ⟨hI.1,by omega⟩).1⟩
 have:=(zi5 (cs:=cb) (bs:=za2 w c 7) (u:=λ_=>0) hF.1 ↑0 b.2 ⟨hI.1,by omega⟩).2
 show (zaR _ _ _ _).1.length≤_
 omega
def GcI (a b:Int) (p:Int×Int):Prop:=0≤p.1∧0≤p.2∧Int.gcd p.1 p.2=Int.gcd a b
theorem GcI.start {a b:Int} (h:0≤a∧0≤b):GcI a b (a,b):=⟨h.1,h.2,rfl⟩
theorem GcI.step {a b:Int} {p:Int×Int} (I:GcI a b p) (h:decide ((0:Int)<p.2)=true):GcI a b (p.2,p.1%p.2)∧(p.1%p.2).toNat<p.2.toNat:=by
 have h:=of_decide_eq_true h
 obtain ⟨h1,h2,h3⟩:=I
 have m0:=Int.emod_nonneg p.1 (show p.2≠0 by omega)
 have m1:=Int.emod_lt_of_pos p.1 h
 refine ⟨⟨by omega,m0,?_⟩,by omega⟩
 rw [← h3]
 show Int.gcd p.2 (p.1%p.2)=_
 rw [Int.gcd_comm p.1 p.2,Int.gcd_comm p.2 (p.1%p.2)]
 obtain ⟨x,hx⟩:∃ x:Nat,p.1=(x:Int):=⟨p.1.toNat,by omega⟩
 obtain ⟨y,hy⟩:∃ y:Nat,p.2=(y:Int):=⟨p.2.toNat,by omega⟩
 rw [hx,hy,← Int.natCast_emod,Int.gcd_natCast_natCast,Int.gcd_natCast_natCast]
 exact (Nat.gcd_rec y x).symm
def zaC (P0:Int) (P1:Int):Int :=
 (Let (whl (λ(s286:Int×Int)=>(decide ((0:Int)<s286.2))) (λ(s286:Int×Int)=>(s286.2,(s286.1%s286.2))) (P1.toNat) (P0,P1)) (λ(r289:Int×Int)=>r289.1))
def zd6 (P0:Int) (P1:Int):Prop:=0≤P0∧0≤P1
def zfm (K:W.Frag) (A:Adr):Sp:=Spv (ι:=Int×Int) (λx=>[dI x.1,dI x.2]) (λx=>zd6 x.1 x.2) (λx=>↥[dI (zaC x.1 x.2)])
theorem zgW:FnScope ["_law_one","_law_other"] ["_law_one","_law_other"] (zaf zdz):=↑4
theorem zjy (F:Fun K "_law_shared" "_law_shared" zdz f fd) (T:Txt K mg A) :FnOk P w K mg base ⇑1 1 f fd ["_law_one","_law_other"] (zfm K A):=by
 refine F.okV zgW ↥3 ↑6
 obtain ⟨P0,P1⟩:=x
 have hu:=hr.units
 replace hp:zd6 P0 P1:=hp
 unfold zd6 at hp
 refine ⟨_,(zac (zlJ PassesOwn.never (zaI zli (pv 1) zaj (zaW _)) (zac (ztw (i:=0) (j:=1) rfl zgW.nd rfl rfl ↑1 rfl rfl ↑[pv 1,zaD zed (pv 0) (pv 1)] rfl) zah)) (zac (zaO (pv 0)) zah)),.inl ?_⟩
 show L2.Run _ ([⇑[dI P0],⇑[dI P1]]:L2.Ctx) _ (↑20 (zaC P0 P1))
 unfold zaC
 exact (zks (s0:=(P0,P1)) (λ(s286:Int×Int)=>([⇑[dI s286.1],⇑[dI s286.2]]:L2.Ctx)) ↑20 (λ(s286:Int×Int)=>(decide ((0:Int)<s286.2))) (λ(s286:Int×Int)=>(s286.2,(s286.1%s286.2))) (λ(s286:Int×Int)=>GcI P0 P1 s286) (λ(s286:Int×Int)=>(s286.2).toNat) (P1.toNat) (.eq (.eq .nil)) ↥(GcI.start hp) ↥(Nat.le_refl _) (λs286 hI287=>⟨(zaA (za0 (x:=s286.2) (y:=(0:Int)) ⇑7 zaL)),λhc288=>⟨↥(GcI.step ↥0 ↥0),(run_par (x:=s286.2) (y:=(s286.1%s286.2)) ⇑7 (zaT (x:=s286.1) (y:=s286.2) ↥9 ⇑7 (by show (0:Int)<_;exact of_decide_eq_true ↥0)) (zau (.eq (.eq .nil))))⟩⟩) (λr289 hr289 hI hc=>(zal (zaE ↥9))))
theorem zn3 {a b:Int} (h:0≤a∧0≤b):zaC a b=((Int.gcd a b:Nat):Int):=by
 obtain ⟨⟨h1,h2,h3⟩,h4⟩:=zjP (c:=λ(s:Int×Int)=>decide ((0:Int)<s.2)) (f:=λ(s:Int×Int)=>(s.2,(s.1%s.2))) (I:=GcI a b) (μ:=λs=>s.2.toNat) (λs hs hc=>GcI.step hs hc) (n:=b.toNat) (s:=(a,b)) (GcI.start h) ↥7
 show (whl (λ(s:Int×Int)=>decide ((0:Int)<s.2)) (λ(s:Int×Int)=>(s.2,(s.1%s.2))) b.toNat (a,b)).1=_
 generalize whl (λ(s:Int×Int)=>decide ((0:Int)<s.2)) (λ(s:Int×Int)=>(s.2,(s.1%s.2))) b.toNat (a,b)=r at *
 have h4:=of_decide_eq_false h4
 have e:r.2=0:=by omega
 rw [e,Int.gcd_zero_right] at h3
 omega
def ImP (f s:Sd4) (far:Int):Prop:=f.c.length≤8∧s.c.length≤8∧s.a.length=s.c.length∧(∀ r∈s.a,r.length=s.c.length)∧∀ b∈s.c,0≤b∧b≤1000000001
section
variable {f s:Sd4} {far x y b c m m0 k:Int} {i n:Nat} {l r t:Ji}
theorem zvY (h:ImP f s far) (q:i<(((s.c.length:Nat):Int)).toNat∧x=0+(i:Int)) (e:b=ixD s.c x):0≤b∧b≤1000000001:=by
 rw [e];exact h.2.2.2.2 _ (zcp (by unfold InB;omega))
theorem zn0 {α:Type} {l:List α} (q:i<((l.length:Nat):Int).toNat∧x=0+(i:Int)):InB l.length x:=by unfold InB;omega
theorem zsj (h:ImP f s far) (q:i<(((s.c.length:Nat):Int)).toNat∧x=0+(i:Int)):InB s.a.length x:=by rw [h.2.2.1];exact zn0 q
theorem zj2 (hB:0≤b∧b≤1000000001) (h1:↑69=false) (h2:(decide ((0:Int)<y))=true):0<b:=by
 rw [h2] at h1
 have h1:decide (b=0)=false:=h1
 have:=of_decide_eq_false h1
 omega
theorem zuD (hB:0≤b∧b≤1000000001) (h1:↑69=false) (h2:(decide ((0:Int)<y))=true):0≤b∧0≤y%b:=⟨hB.1,Int.emod_nonneg _ (by have:=zj2 hB h1 h2;omega)⟩
theorem ztH (hb:0<b):0<zaC b (y%b)∧zaC b (y%b) ∣ b∧zaC b (y%b) ∣ y:=by
 have hy:=Int.emod_nonneg y (show b≠0 by omega)
 rw [zn3 ⟨by omega,hy⟩]
 have d1:((Int.gcd b (y%b):Nat):Int) ∣ b:=Int.gcd_dvd_left ..
 have d2:((Int.gcd b (y%b):Nat):Int) ∣ y%b:=Int.gcd_dvd_right ..
 have:0<Int.gcd b (y%b):=Int.gcd_pos_of_ne_zero_left _ ↑0
 refine ⟨by omega,d1,?_⟩
 have e:=Int.dvd_add (Int.dvd_trans d1 (Int.dvd_mul_right b (y/b))) d2
 rw [Int.mul_ediv_add_emod] at e
 exact e
theorem zug (hb:0<b):zaC b (y%b)≤b:=Int.le_of_dvd hb (ztH hb).2.1
theorem zsN (hB:0≤b∧b≤1000000001) (h1:↑69=false) (h2:(decide ((0:Int)<y))=true):zfi b (zaC b (y%b)):=by
 have hb:=zj2 hB h1 h2
 have g:=ztH (y:=y) hb
 have:=zug (y:=y) hb
 exact Lat.zfi.of (b:=30) g.1 (show _≤1073741824 by omega) ↑1
theorem zrU (hM0:m0=zae c k (7:Int)-(3:Int)):-3≤m0∧m0≤3:=by
 have:=zdq (c:=c) (k:=k) (m:=7) ↑1;omega
theorem zur (hM0:m0=zae c k (7:Int)-(3:Int)):-(2^64)<m0∧m0<2^64:=by have:=zrU hM0;omega
theorem zuR (hM0:m0=zae c k (7:Int)-(3:Int)) (hB:0≤b∧b≤1000000001) (h:m=bif ↑69 then (0:Int) else (bif (decide ((0:Int)<y)) then (m0*(b/(zaC b (y%b)))) else m0)):-3000000003≤m∧m≤3000000003:=by
 have h3:=zrU hM0
 cases q1:↑69 with
 | true=>rw [q1] at h;have h:m=0:=h;omega
 | false =>
  rw [q1,cond_false] at h
  cases q2:(decide ((0:Int)<y)) with
  | false=>rw [q2,cond_false] at h;omega
  | true =>
   rw [q2,cond_true] at h
   have hb:=zj2 hB q1 q2
   have g:=ztH (y:=y) hb
   have d1:0≤b/zaC b (y%b):=Int.ediv_nonneg hB.1 ↑0
   have d2:b/zaC b (y%b)≤b:=Int.ediv_le_self _ hB.1
   generalize b/zaC b (y%b)=z at *
   have:m0=-3∨m0=-2∨m0=-1∨m0=0∨m0=1∨m0=2∨m0=3:=by omega
   rcases this with e | e | e | e | e | e | e<;>(rw [e] at h;omega)
theorem zsk (hy:0≤y) (hB:0≤b∧b≤1000000001) (h:m=bif ↑69 then (0:Int) else (bif (decide ((0:Int)<y)) then (m0*(b/(zaC b (y%b)))) else m0)):b ∣ y*m:=by
 cases q1:↑69 with
 | true=>rw [q1] at h;have h:m=0:=h;rw [h,Int.mul_zero];exact Int.dvd_zero _
 | false =>
  rw [q1,cond_false] at h
  cases q2:(decide ((0:Int)<y)) with
  | false=>have:=of_decide_eq_false q2;rw [show y=0 by omega,Int.zero_mul];exact Int.dvd_zero _
  | true =>
   rw [q2,cond_true] at h
   obtain ⟨g1,⟨u,hu⟩,⟨v,hv⟩⟩:=ztH (y:=y) (zj2 hB q1 q2)
   generalize zaC b (y%b)=g at *
   have e:b/g=u:=by rw [hu];exact Int.mul_ediv_cancel_left _ ↑0
   rw [h,e,hv,hu]
   exact ⟨v*m0,by grind⟩
theorem zvp (h:r=zch ((n:Nat):Int) [(0:Int)]):r.length=n:=by rw [h,Lat.zcg]
theorem zte (h:ImP f s far) (q:i<(((s.c.length:Nat):Int)).toNat∧x=0+(i:Int)):(ixD s.a x).length=s.c.length:=h.2.2.2.1 _ (zcp (zsj h q))
theorem zt3 (h:ImP f s far) (hr:r.length=s.c.length):(List.zip r t).length≤PySem.sizeLine:=zan (by rw [List.length_zip];have:=h.2.1;omega)
theorem zuy {ys:Jq} (h:ImP f s far) (hl:ys.length≤i) (q:i<(↑34).toNat∧x=0+(i:Int)):ys.length<PySem.sizeLine:=Nat.lt_of_le_of_lt (show ys.length≤1000 by have:=h.1;omega) ↑1
end
def m_law_images (P0:↑13) (P1:↑13) (P2:Int) (P3:Int):Jq :=
 (Let (List.foldl ↑145 [] (za6 0 (((P0.c.length:Nat):Int)).toNat)) (λ(r311:Jq)=>r311))
def zdj (P0:↑13) (P1:↑13) (P2:Int) (P3:Int):Prop:=ImP P0 P1 P3
def zfk (K:W.Frag) (A:Adr):Sp:=Spv (ι:=↑13×↑13×Int×Int) (λx=>[dT [dL (List.map lI x.1.a),dL (List.map lI x.1.b),dL (List.map dI x.1.c),dL (List.map lI x.1.d)],dT [dL (List.map lI x.2.1.a),dL (List.map lI x.2.1.b),dL (List.map dI x.2.1.c),dL (List.map lI x.2.1.d)],dI x.2.2.1,dI x.2.2.2]) (λx=>zdj x.1 x.2.1 x.2.2.1 x.2.2.2) (λx=>↥[dL (List.map lI (m_law_images x.1 x.2.1 x.2.2.1 x.2.2.2))])
theorem zbB:FnScope ["_law_first","_law_second","_law_cell_here","_law_far","_law_found","_law_k","_law_image","_law_j","_law_many","_law_bottom"] ["_law_first","_law_second","_law_cell_here","_law_far"] (zaf zcX):=↑4
theorem zjf (F:Fun K "_law_images" "_law_images" zcX f fd) (T:Txt K mg A) (ya8:Callee P w K mg base ⇑1 1 "_law_shared" ["_law_one","_law_other"] (zfm K A)) (yaa:Callee P w K mg base ⇑1 1 "_law_thing" ↑56 (zcu K A)):FnOk P w K mg base ⇑1 2 f fd ["_law_first","_law_second","_law_cell_here","_law_far"] (zfk K A):=by
 refine F.okV zbB ↥3 ↑6
 obtain ⟨P0,P1,P2,P3⟩:=x
 have hu:=hr.units
 replace hp:zdj P0 P1 P2 P3:=hp
 unfold zdj at hp
 refine ⟨_,(zac (zat (i:=4) zbB.nd rfl ⇑0 (zb8 zeC)) (zac (zcS PassesOwn.never rfl (zbY rfl T.range ↑[↑109]) (zao (i:=5) zbB.nd rfl ⇑0 ⇑0) (zac (zat (i:=6) zbB.nd rfl ⇑0 (zaD zgT (zb8 ↑[zaj]) (zaK ↑30 rfl T.len PySem.boot_len ↑[(za1 ↑12 (pv 1) zaj ↑3)]))) (zac (zcS PassesOwn.never rfl (zbY rfl T.range ↑[(zaK ↑30 rfl T.len PySem.boot_len ↑[(za1 ↑12 (pv 1) zaj ↑3)])]) (zao (i:=7) zbB.nd rfl ⇑0 ⇑0) (zac (zat (i:=8) zbB.nd rfl ↥6 (zaD zfy (zaF yaa ↥1 rfl zav ↑[pv 2,zaD zed (zaD zcH (zaD zcH (pv 3) (zaD zbK zaj (pv 5))) (pv 7)) zaj,zaj]) zaj)) (zac (zat (i:=9) zbB.nd rfl ⇑0 (za1 ⇑6 (za1 ↑12 (pv 1) zaj ↑3) (pv 7) ↑3)) (zac (zcD (PW.pt (znL (zaI zli (za1 ⇑6 (za1 ↑12 (pv 0) zaj ↑3) (pv 5) ↑3) zaj (zaW _)) (zlf (zaI zhF (pv 9) zaj (zaW _))))) (zac (zat (i:=8) zbB.nd rfl ↥6 zaj) zah) (zac (zcD (zaI zli (za1 ⇑6 (za1 ↑12 (pv 0) zaj ↑3) (pv 5) ↑3) zaj (zaW _)) (zac (zat (i:=8) zbB.nd rfl ↥6 (zaD zbK (pv 8) (zaD zcx (pv 9) (zaF ya8 ↥1 rfl zav ↑[pv 9,(zaD zed (za1 ⇑6 (za1 ↑12 (pv 0) zaj ↑3) (pv 5) ↑3) (pv 9))])))) zah) zah) zah)) (zac (zdB (i:=6) rfl zbB.nd rfl rfl (.of (osc:=(zaf zcX)) (N:=["_law_first","_law_second","_law_cell_here","_law_far","_law_found","_law_k","_law_image","_law_j","_law_many","_law_bottom"]) (own:=["_law_a","_law_b"]) (fvn:=["_law_many"]) (fv:=[8]) rfl rfl ↥5) (zd9 (K:=K) rfl rfl T.zip ↑[pv 6,(za1 ⇑6 (za1 ↑12 (pv 1) zaj ↑3) (pv 7) ↑3)]) ↑118) zah))))) (zac (zci (zb1 (K:=K) rfl (pv 4) ↑[pv 6])) zah)))) (zac (zaO (pv 4)) zah))),.inl ?_⟩
 show L2.Run _ ([⇑[dT [dL (List.map lI P0.a),dL (List.map lI P0.b),dL (List.map dI P0.c),dL (List.map lI P0.d)]],⇑[dT [dL (List.map lI P1.a),dL (List.map lI P1.b),dL (List.map dI P1.c),dL (List.map lI P1.d)]],⇑[dI P2],⇑[dI P3],.no,.no,.no,.no,.no,.no]:L2.Ctx) _ (↑36 (m_law_images P0 P1 P2 P3))
 unfold m_law_images
 exact (zeL (m:=true) (ds:=List.map lI []) (zdH (m:=true) zag) (zb2 (s0:=[]) ↑113 ↑36 ↑145 (λ(i:Nat) (s290:Jq)=>s290.length≤i) (zdv (m:=true) (n:=((P0.c.length:Nat):Int)) (zbb (f:=dI) (xs:=P0.c) ↑63) (by have z1:=hp.1;have z2:=hp.2.1;refine ⟨?_,?_⟩<;>omega)) ↑31 ↥(Nat.le_refl 0) (λi292 x291 s290 hx293 hI294=>have v293:=zbs hx293;⟨↥(zos ↥0),(zar (m:=true) (x:=(zch ((P1.c.length:Nat):Int) [(0:Int)])) lI (λz=>Oc.nx (↑113 z)) (EvO.ev (zfo (f:=dI) (xs:=[(0:Int)]) (n:=((P1.c.length:Nat):Int)) ↑50 (zbb (f:=dI) (xs:=P1.c) (Ev.weak (K:=K) (zcs ⇑2 zaL rfl))) (by have z2:=hp.2.1;constructor<;>omega) (by have z2:=hp.2.1;exact zan ↑62))) (λv295 hv295=>have hI:=hv295;(zb2 (s0:=v295) ↑91 (λz=>Oc.nx (↑113 z)) ↑132 (λ(i:Nat) (s296:Ji)=>s296.length=P1.c.length) (zdv (m:=true) (n:=((P1.c.length:Nat):Int)) (zbb (f:=dI) (xs:=P1.c) (Ev.weak (K:=K) (zcs ⇑2 zaL rfl))) (by have z1:=hp.1;have z2:=hp.2.1;refine ⟨?_,?_⟩<;>omega)) ↑31 ↥(zvp hI) (λi298 x297 s296 hx299 hI300=>have v299:=zbs hx299;⟨(by unfold Let;rw [List.length_map,List.length_zip,zte hp ↥0];omega),(zar (m:=true) (x:=((zae P2 (((P3+((8:Int)*x291))+x297)%(60:Int)) (7:Int))-(3:Int))) dI (λz=>Oc.nx (↑91 z)) (za0 (x:=(zae P2 (((P3+((8:Int)*x291))+x297)%(60:Int)) (7:Int))) (y:=(3:Int)) (Ev.any (m:=true) (zam (x:=(P2,(((P3+((8:Int)*x291))+x297)%(60:Int)),(7:Int))) (zab ↑25 (zab (zaT (x:=((P3+((8:Int)*x291))+x297)) (y:=(60:Int)) (za0 (x:=(P3+((8:Int)*x291))) (y:=x297) (za0 (x:=P3) (y:=((8:Int)*x291)) (Ev.any (m:=false) ⇑9) (zaT (x:=(8:Int)) (y:=x291) zaL ↑10 ↥(.inl ↑5))) (Ev.any (m:=true) (zaa (i:=7) rfl))) zaL ↑1) (zab zaL zag))) rfl (by show zaS P2 (((P3+((8:Int)*x291))+x297)%(60:Int)) (7:Int);exact ⟨Int.emod_nonneg _ ↑1,Int.le_of_lt (Int.lt_of_lt_of_le (Int.emod_lt_of_pos _ ↑1) ↑1),by decide⟩) rfl)) zaL) (λv301 hv301=>have hM0:=hv301;(zar (m:=true) (x:=(ixD P1.c x297)) dI (λz=>Oc.nx (↑91 z)) (Ev.any (m:=false) (zbg (f:=dI) (xs:=P1.c) (Ev.weak (K:=K) (zcs ⇑2 zaL rfl)) (Ev.any (m:=true) (zaa (i:=7) rfl)) ↥(zn0 ↥0))) (λv302 hv302=>have hB:=zvY hp ↥0 hv302;(zd0 (b:=((decide ((0:Int)<(ixD P0.c x291))) &&(decide (v302=(0:Int))))) (λbb=>([⇑[dT [dL (List.map lI P0.a),dL (List.map lI P0.b),dL (List.map dI P0.c),dL (List.map lI P0.d)]],⇑[dT [dL (List.map lI P1.a),dL (List.map lI P1.b),dL (List.map dI P1.c),dL (List.map lI P1.d)]],⇑[dI P2],⇑[dI P3],.ow true (List.map lI s290),↥[dI x291],↥[dL (List.map dI s296)],↥[dI x297],↥[dI (bif bb then (0:Int) else (bif (decide ((0:Int)<(ixD P0.c x291))) then (v301*(v302/(zaC v302 ((ixD P0.c x291)%v302)))) else v301))],↥[dI v302]]:L2.Ctx)) (zk5 (b:=(decide ((0:Int)<(ixD P0.c x291)))) (zaA (za0 (x:=(ixD P0.c x291)) (y:=(0:Int)) (Ev.any (m:=false) (zbg (f:=dI) (xs:=P0.c) ↑63 ↑10 ↥(zn0 ↥0))) zaL)) (λhb=>(zaA (zfw (x:=v302) (y:=(0:Int)) ↑74 zaL)))) (λh303=>(zcO (m:=true) zaL (zau ↑31))) (λh303=>(zd0 (b:=(decide ((0:Int)<(ixD P0.c x291)))) (λbb=>([⇑[dT [dL (List.map lI P0.a),dL (List.map lI P0.b),dL (List.map dI P0.c),dL (List.map lI P0.d)]],⇑[dT [dL (List.map lI P1.a),dL (List.map lI P1.b),dL (List.map dI P1.c),dL (List.map lI P1.d)]],⇑[dI P2],⇑[dI P3],.ow true (List.map lI s290),↥[dI x291],↥[dL (List.map dI s296)],↥[dI x297],↥[dI (bif bb then (v301*(v302/(zaC v302 ((ixD P0.c x291)%v302)))) else v301)],↥[dI v302]]:L2.Ctx)) (zaA (za0 (x:=(ixD P0.c x291)) (y:=(0:Int)) (Ev.any (m:=false) (zbg (f:=dI) (xs:=P0.c) ↑63 ↑10 ↥(zn0 ↥0))) zaL)) (λh304=>(zcO (m:=true) (zaT (x:=v301) (y:=(v302/(zaC v302 ((ixD P0.c x291)%v302)))) (Ev.any (m:=true) (zaa (i:=8) rfl)) (zaT (x:=v302) (y:=(zaC v302 ((ixD P0.c x291)%v302))) ↑74 (Ev.any (m:=true) (zam (x:=(v302,((ixD P0.c x291)%v302))) (zab ↑74 (zab (zaT (x:=(ixD P0.c x291)) (y:=v302) (Ev.any (m:=false) (zbg (f:=dI) (xs:=P0.c) ↑63 ↑10 ↥(zn0 ↥0))) ↑74 (by show (0:Int)<_;exact zj2 hB ↥0 ↥0)) zag)) rfl (by show zd6 v302 ((ixD P0.c x291)%v302);exact zuD hB ↥0 ↥0) rfl)) ↥(zsN hB ↥0 ↥0)) ↥(.inl (zur hM0))) (zau ↑31))) (λh304=>(zau ↑31)) (zau ↑31))) (zel (x:=(bif ((decide ((0:Int)<(ixD P0.c x291))) &&(decide (v302=(0:Int)))) then (0:Int) else (bif (decide ((0:Int)<(ixD P0.c x291))) then (v301*(v302/(zaC v302 ((ixD P0.c x291)%v302)))) else v301))) (λv305=>([⇑[dT [dL (List.map lI P0.a),dL (List.map lI P0.b),dL (List.map dI P0.c),dL (List.map lI P0.d)]],⇑[dT [dL (List.map lI P1.a),dL (List.map lI P1.b),dL (List.map dI P1.c),dL (List.map lI P1.d)]],⇑[dI P2],⇑[dI P3],.ow true (List.map lI s290),↥[dI x291],↥[dL (List.map dI s296)],↥[dI x297],↥[dI v305],↥[dI v302]]:L2.Ctx)) (λz=>Oc.nx (↑91 z)) (λv305 hv305=>have hM:=zuR hM0 hB hv305;(zar (m:=true) (x:=(List.map (λ(x306:(Int×Int))=>(x306.1+(v305*x306.2))) (List.zip s296 (ixD P1.a x297)))) lI (λz=>Oc.nx (↑91 z)) (EvO.ev (EvO.conv (zbS (g:=(λ(x306:(Int×Int))=>dI (x306.1+(v305*x306.2)))) (zgk (m:=false) dI dI (xs:=s296) (ys:=(ixD P1.a x297)) (Ev.old (Ev.weak (K:=K) (zaa (i:=6) rfl))) (Ev.weak (K:=K) (zbg (f:=lI) (xs:=P1.a) (Ev.weak (K:=K) (zcs ⇑2 zaL rfl)) (Ev.any (m:=true) (zaa (i:=7) rfl)) ↥(zsj hp ↥0)))) ↥(zt3 hp ↥0) ↑5 (λi307 x306 hx308=>have v308:=zdw hx308;(za0 (x:=x306.1) (y:=(v305*x306.2)) ↥9 (zaT (x:=v305) (y:=x306.2) ↑42 ⇑7 ↥(.inl ↑33))))) ↑8)) (λv309 hv309=>have hI:=hv309;(zau (.eq (.eq (.eq (.eq (.eq ↑75)))))))))))))))⟩) (λr310 hr310 hI=>(zcv (f:=lI) (xs:=s290) (x:=r310) rfl (zaa (i:=6) rfl) ↥(zuy hp ↥0 ↥0) (zau (.eq (.eq (.eq (.eq (.eq (.no (.no (.eq (.eq (.eq .nil))))))))))))))))⟩) (λr311 hr311 hI=>(zco (i:=4) rfl (zal (zaE ↑14))))))
def imM (f s:Sd4) (c far x y:Int):Int:=bif ((decide ((0:Int)<(ixD f.c x)))&&(decide ((ixD s.c y)=(0:Int)))) then (0:Int) else (bif (decide ((0:Int)<(ixD f.c x))) then ((zae c (((far+((8:Int)*x))+y)%(60:Int)) (7:Int)-(3:Int))*((ixD s.c y)/(zaC (ixD s.c y) ((ixD f.c x)%(ixD s.c y))))) else (zae c (((far+((8:Int)*x))+y)%(60:Int)) (7:Int)-(3:Int)))
def imR (f s:Sd4) (c far x:Int):Ji:=List.foldl (λ(a:Ji) (y:Int)=>List.map (λ(p:Int×Int)=>(p.1+(imM f s c far x y*p.2))) (List.zip a (ixD s.a y))) (zch ((s.c.length:Nat):Int) [(0:Int)]) (za6 0 (((s.c.length:Nat):Int)).toNat)
theorem zoq (f s:Sd4) (c far:Int):m_law_images f s c far=((za6 0 (↑34).toNat)).map (imR f s c far):=by
 show List.foldl (λ(a:Jq) (x:Int)=>a++[imR f s c far x]) [] _=_
 rw [Lat.zg0,List.nil_append]
theorem zhm {β:Type} (n:Nat) (g:Int->β):(za6 0 ((n:Nat):Int).toNat).map g=(List.range n).map λ(k:Nat)=>g (k:Int):=by
 unfold za6
 rw [List.map_map,Int.toNat_natCast]
 exact List.map_congr_left λk _=>by simp
theorem zp4 {W1 W2 fa fb sa sb:Nat} {f s:Sd4} {c far x:Int} (h:Sd71 W2 fb sb s):(imR f s c far x).length=W2∧(∀ i,Lat.vec (imR f s c far x) i=Lat.lsum ((List.range W2).map λ(j:Nat)=>imM f s c far x (j:Int)*Lat.vec (ixD s.a (j:Int)) i)):=by
 have hl:=h.du.l1
 have hr:=h.du.r
 have k:=Lat.zhU (W:=W2) (F:=λ(a:Ji) (y:Int)=>List.map (λ(p:Int×Int)=>(p.1+(imM f s c far x y*p.2))) (List.zip a (ixD s.a y))) (c:=λy i=>imM f s c far x y*Lat.vec (ixD s.a y) i) (za6 0 (((s.c.length:Nat):Int)).toNat) (zch ((s.c.length:Nat):Int) [(0:Int)]) (by rw [Lat.zcg,h.bl]) λa y hy ha=>by
  obtain ⟨i,hi⟩:=List.getElem?_of_mem hy
  have q:=zbs hi
  have hm:(ixD s.a y).length=W2:=hr _ (zcp (by rw [hl];have:=h.bl;unfold InB;omega))
  exact ⟨by rw [List.length_map,List.length_zip,hm];omega,λi=>Lat.zgE ↑0⟩
 refine ⟨k.1,λi=>(k.2 i).trans ?_⟩
 rw [Lat.zeG,Int.zero_add,zhm,h.bl]
structure Ims (W1 W2 ib:Nat) (f s:Sd4) (im:Jq):Prop where
 l:im.length=W1
 r:∀ t∈im,t.length=W2∧Lat.Bit ib t
 d:∀ k,k<W1->∀ (j:Nat) (t:Ji) (b:Int),s.b[j]?=some t->s.c[j]?=some b->b ∣ ixD f.c (k:Int)*Lat.dv t (Lat.vec (ixD im (k:Int)))
theorem zia {W1 W2 fa fb sa sb:Nat} {f s:Sd4} {c far:Int} (h1:Sd71 W1 fa sa f) (h2:Sd71 W2 fb sb s):Ims W1 W2 (fb+35) f s (m_law_images f s c far):=by
 have hm:∀ (x:Int) (j:Nat),j<W2->-3000000003≤imM f s c far x (j:Int)∧imM f s c far x (j:Int)≤3000000003:=λx j hj=>zuR rfl (h2.b0 _ (zcp (by rw [h2.bl];unfold InB;omega))) rfl
 have e:m_law_images f s c far=(List.range W1).map λ(k:Nat)=>imR f s c far (k:Int):=by rw [zoq,zhm,h1.bl]
 have g:∀ k,k<W1->ixD (m_law_images f s c far) (k:Int)=imR f s c far (k:Int):=λk hk=>zbJ (by rw [e,List.getElem?_map,List.getElem?_range hk];rfl)
 refine ⟨by rw [e,List.length_map,List.length_range],λt ht=>?_,λk hk j t b ht hb=>?_⟩
 ·rw [e] at ht
  obtain ⟨k,hk,rfl⟩:=List.mem_map.mp ht
  obtain ⟨q1,q2⟩:=zp4 (W1:=W1) (fa:=fa) (sa:=sa) (f:=f) (c:=c) (far:=far) (x:=(k:Int)) h2
  refine ⟨q1,?_⟩
  have:=Lat.zls (n:=3) (b:=32+fb) q2 (by rw [List.length_range];exact h2.w8) λj hj i=>Lat.zjg (a:=32) (by have:=hm (k:Int) j (List.mem_range.mp hj);show _≤4294967296;omega) ((h2.ra _ (Lat.ze2 (by rw [h2.du.l1];exact List.mem_range.mp hj))).vec i)
  exact this.mono ↑0
 ·rw [g k hk]
  obtain ⟨q1,q2⟩:=zp4 (W1:=W1) (fa:=fa) (sa:=sa) (f:=f) (c:=c) (far:=far) (x:=(k:Int)) h2
  rw [Lat.zjD q2,Lat.zlo,← Lat.zfl]
  refine Lat.zjz λi hi=>?_
  have hi:=List.mem_range.mp hi
  have hrow:s.a[i]?=some (ixD s.a (i:Int)):=by
   have hl:i<s.a.length:=by rw [h2.du.l1];exact hi
   rw [zbJ (List.getElem?_eq_getElem hl)];exact List.getElem?_eq_getElem hl
  rw [h2.du.A j i t _ ht hrow]
  by_cases z:j=i
  ·subst z
   rw [if_pos rfl,Int.mul_one]
   have eb:ixD s.c (j:Int)=b:=zbJ hb
   have:=zsk (m:=imM f s c far (k:Int) (j:Int)) (h1.b0 _ (zcp (i:=(k:Int)) (by rw [h1.bl];unfold InB;omega))).1 (h2.b0 _ (List.mem_of_getElem? hb)) (m0:=zae c (((far+((8:Int)*(k:Int)))+(j:Int))%(60:Int)) (7:Int)-(3:Int)) (by rw [← eb];rfl)
   exact this
  ·rw [if_neg z,Int.mul_zero,Int.mul_zero];exact Int.dvd_zero _
def WsP (f:Sd4) (im:Jq) (w:Int):Prop:=∃ W1 W2:Nat,f.c.length=W1∧W1≤8∧f.b.length=W1∧(∀ r∈f.b,r.length=W1∧Lat.Bit 100 r)∧im.length=W1∧w=(W2:Int)∧W2≤8∧∀ r∈im,r.length=W2∧Lat.Bit 200 r
section
variable {f:Sd4} {im:Jq} {w x y:Int} {i j n:Nat} {l r t:Ji} {p:Int×Int}
theorem zqc (h:WsP f im w):-(2^62)≤↑34∧↑34<2^62:=by obtain ⟨W1,W2,h1,h2,_⟩:=h;omega
theorem zty (h:WsP f im w):-(2^63)≤w∧w<2^63:=by obtain ⟨W1,W2,h1,h2,h3,h4,h5,h6,h7,h8⟩:=h;omega
theorem zul (h:WsP f im w):([(0:Int)]).length*w.toNat≤PySem.sizeLine:=by obtain ⟨W1,W2,h1,h2,h3,h4,h5,h6,h7,h8⟩:=h;exact zan ↑62
theorem zvw (h:WsP f im w) (e:r=zch w [(0:Int)]):(r.length:Int)=w:=by obtain ⟨W1,W2,h1,h2,h3,h4,h5,h6,h7,h8⟩:=h;rw [e,h6,Lat.zcg]
theorem zqN (h:WsP f im w) (q:i<(↑34).toNat∧x=0+(i:Int)):InB f.b.length x:=by obtain ⟨W1,W2,h1,h2,h3,_⟩:=h;unfold InB;omega
theorem zqw (h:WsP f im w) (q:i<(↑34).toNat∧x=0+(i:Int)):InB im.length x:=by obtain ⟨W1,W2,h1,h2,h3,h4,h5,_⟩:=h;unfold InB;omega
theorem zr9 (h:WsP f im w) (q:i<(↑34).toNat∧x=0+(i:Int)) (q2:j<(↑34).toNat∧y=0+(j:Int)):InB (ixD f.b x).length y:=by
 have hm:=zcp (zqN h q)
 obtain ⟨W1,W2,h1,h2,h3,h4,_⟩:=h
 rw [(h4 _ hm).1];unfold InB;omega
theorem zsZ (h:WsP f im w) (q:i<(↑34).toNat∧x=0+(i:Int)) (q2:j<(↑34).toNat∧y=0+(j:Int)) (hp:l[n]?=some p.1∧(ixD im x)[n]?=some p.2):zeI (ixD (ixD f.b x) y) p.2:=by
 have hy:=zcp (zr9 h q q2)
 have hm:=zcp (zqN h q)
 have hi:=zcp (zqw h q)
 obtain ⟨W1,W2,h1,h2,h3,h4,h5,h6,h7,h8⟩:=h
 exact Lat.zeI.of ((h4 _ hm).2 _ hy) ((h8 _ hi).2 _ (List.mem_of_getElem? hp.2)) ↑1 ↑1
theorem zub (h:WsP f im w) (hr:(r.length:Int)=w):(List.zip r t).length≤PySem.sizeLine:=by
 obtain ⟨W1,W2,h1,h2,h3,h4,h5,h6,h7,h8⟩:=h
 exact zan (by rw [List.length_zip];omega)
theorem zvG (h:WsP f im w) (q:i<(↑34).toNat∧x=0+(i:Int)) (hr:(r.length:Int)=w) {g:Int×Int->Int}:((Let (List.map g (List.zip r (ixD im x))) (λ(z:Ji)=>z)).length:Int)=w:=by
 have hi:=zcp (zqw h q)
 obtain ⟨W1,W2,h1,h2,h3,h4,h5,h6,h7,h8⟩:=h
 unfold Let
 rw [List.length_map,List.length_zip,(h8 _ hi).1];omega
theorem zuf {ys:Jq} (h:WsP f im w) (hl:ys.length≤i) (q:i<(↑34).toNat∧x=0+(i:Int)):ys.length<PySem.sizeLine:=by
 obtain ⟨W1,W2,h1,h2,_⟩:=h
 exact Nat.lt_of_le_of_lt (show ys.length≤1000 by omega) ↑1
end
def m_law_wares_sent (P0:↑13) (P1:Jq) (P2:Int):Jq :=
 (Let (List.foldl ↑138 [] (za6 0 (((P0.c.length:Nat):Int)).toNat)) (λ(r328:Jq)=>r328))
def zb9 (P0:↑13) (P1:Jq) (P2:Int):Prop:=WsP P0 P1 P2
def zdN (K:W.Frag) (A:Adr):Sp:=Spv (ι:=↑13×Jq×Int) (λx=>[dT [dL (List.map lI x.1.a),dL (List.map lI x.1.b),dL (List.map dI x.1.c),dL (List.map lI x.1.d)],dQ K (List.map lI x.2.1),dI x.2.2]) (λx=>zb9 x.1 x.2.1 x.2.2) (λx=>↥[dL (List.map lI (m_law_wares_sent x.1 x.2.1 x.2.2))])
theorem zbP:FnScope ["_law_first","_law_images_here","_law_wide","_law_baskets","_law_ware","_law_basket","_law_k"] ["_law_first","_law_images_here","_law_wide"] (zaf zbF):=↑4
theorem zhu (F:Fun K "_law_wares_sent" "_law_wares_sent" zbF f fd) (T:Txt K mg A) :FnOk P w K mg base ⇑1 1 f fd ["_law_first","_law_images_here","_law_wide"] (zdN K A):=by
 refine F.okV zbP ↥3 ↑6
 obtain ⟨P0,P1,P2⟩:=x
 have hu:=hr.units
 replace hp:zb9 P0 P1 P2:=hp
 unfold zb9 at hp
 refine ⟨_,(zac (zat (i:=3) zbP.nd rfl ⇑0 (zb8 zeC)) (zac (zcS PassesOwn.never rfl (zbY rfl T.range ↑[↑109]) (zao (i:=4) zbP.nd rfl ↥6 ⇑0) (zac (zat (i:=5) zbP.nd rfl ⇑0 (zaD zgT (zb8 ↑[zaj]) (pv 2))) (zac (zcS PassesOwn.never rfl (zbY rfl T.range ↑[↑109]) (zao (i:=6) zbP.nd rfl ↥6 ⇑0) (zac (zdB (i:=5) rfl zbP.nd rfl rfl (.of (osc:=(zaf zbF)) (N:=["_law_first","_law_images_here","_law_wide","_law_baskets","_law_ware","_law_basket","_law_k"]) (own:=["_law_a","_law_b"]) (fvn:=["_law_first","_law_k","_law_ware"]) (fv:=[0,6,4]) rfl rfl ↥5) (zd9 (K:=K) rfl rfl T.zip ↑[pv 5,(za1 ⇑6 (pv 1) (pv 6) ↑3)]) (λ_ _ _ _ _=>⟨(zb3 (K:=K) (n:=2) rfl rfl (zaH (zao (i:=0) (show (["_law_a","_law_b","_law_first","_law_k","_law_ware"]:List Str).Nodup by decide+kernel) rfl ⇑0 ↥6) (zaH (zao (i:=1) (show (["_law_a","_law_b","_law_first","_law_k","_law_ware"]:List Str).Nodup by decide+kernel) rfl ⇑0 ↥6) zcA))),zbc,(zaD zcH (pv 0) (zaD zbK (za1 ⇑6 (za1 ⇑6 (za1 ↑12 (pv 2) zaj ↑3) (pv 3) ↑3) (pv 4) ↑3) (pv 1)))⟩)) zah)) (zac (zci (zb1 (K:=K) rfl (pv 3) ↑[pv 5])) zah)))) (zac (zaO (pv 3)) zah))),.inl ?_⟩
 show L2.Run _ ([⇑[dT [dL (List.map lI P0.a),dL (List.map lI P0.b),dL (List.map dI P0.c),dL (List.map lI P0.d)]],⇑[dQ K (List.map lI P1)],⇑[dI P2],.no,.no,.no,.no]:L2.Ctx) _ (↑36 (m_law_wares_sent P0 P1 P2))
 unfold m_law_wares_sent
 exact (zeL (m:=true) (ds:=List.map lI []) (zdH (m:=true) zag) (zb2 (s0:=[]) ↑117 ↑36 ↑138 (λ(i:Nat) (s312:Jq)=>s312.length≤i) (zdv (m:=true) (n:=((P0.c.length:Nat):Int)) (zbb (f:=dI) (xs:=P0.c) ↑63) ↥(zqc hp)) (.eq ↑17) ↥(Nat.le_refl 0) (λi314 x313 s312 hx315 hI316=>have v315:=zbs hx315;⟨↥(zos ↥0),(zar (m:=true) (x:=(zch P2 [(0:Int)])) lI (λz=>Oc.nx (↑117 z)) (EvO.ev (zfo (f:=dI) (xs:=[(0:Int)]) (n:=P2) ↑50 ↑25 ↥(zty hp) ↥(zul hp))) (λv317 hv317=>have hI:=hv317;(zb2 (s0:=v317) ↑141 (λz=>Oc.nx (↑117 z)) (λ(s318:Ji) (x319:Int)=>(Let (List.map (λ(x323:(Int×Int))=>(x323.1+((ixD (ixD P0.b x319) x313)*x323.2))) (List.zip s318 (ixD P1 x319))) (λ(v326:Ji)=>v326))) (λ(i:Nat) (s318:Ji)=>(s318.length:Int)=P2) (zdv (m:=true) (n:=((P0.c.length:Nat):Int)) (zbb (f:=dI) (xs:=P0.c) ↑63) ↥(zqc hp)) (.eq ↑17) ↥(zvw hp hI) (λi320 x319 s318 hx321 hI322=>have v321:=zbs hx321;⟨↥(zvG hp ↥0 ↥0),(zar (m:=true) (x:=(List.map (λ(x323:(Int×Int))=>(x323.1+((ixD (ixD P0.b x319) x313)*x323.2))) (List.zip s318 (ixD P1 x319)))) lI (λz=>Oc.nx (↑141 z)) (EvO.ev (EvO.conv (zbS (g:=(λ(x323:(Int×Int))=>dI (x323.1+((ixD (ixD P0.b x319) x313)*x323.2)))) (zgk (m:=false) dI dI (xs:=s318) (ys:=(ixD P1 x319)) (Ev.old (Ev.weak (K:=K) ↑23)) (Ev.weak (K:=K) (zbg (f:=lI) (xs:=P1) ⇑2 ↑55 ↥(zqw hp ↥0)))) ↥(zub hp ↥0) ↑5 (λi324 x323 hx325=>have v325:=zdw hx325;(za0 (x:=x323.1) (y:=((ixD (ixD P0.b x319) x313)*x323.2)) ↥9 (zaT (x:=(ixD (ixD P0.b x319) x313)) (y:=x323.2) (Ev.any (m:=false) (zbg (f:=dI) (xs:=(ixD P0.b x319)) (Ev.weak (K:=K) (zbg (f:=lI) (xs:=P0.b) (Ev.weak (K:=K) (zcs ↑18 zaL rfl)) ↑48 ↥(zqN hp ↥0))) ↑49 ↥(zr9 hp ↥0 ↥0))) ⇑7 ↥(zsZ hp ↥0 ↥0 ↥0))))) ↑8)) (λv326 hv326=>have hI:=hv326;(zau (.eq (.eq (.eq (.eq (.eq (.eq (.no .nil))))))))))⟩) (λr327 hr327 hI=>(zcv (f:=lI) (xs:=s312) (x:=r327) rfl ↑23 ↥(zuf hp ↥0 ↥0) (zau (.eq (.eq (.eq (.eq (.no (.no (.eq .nil)))))))))))))⟩) (λr328 hr328 hI=>(zco (i:=3) rfl (zal (zaE ⇑9))))))
def wsR (f:Sd4) (im:Jq) (w x:Int):Ji:=List.foldl (λ(a:Ji) (y:Int)=>List.map (λ(p:Int×Int)=>(p.1+((ixD (ixD f.b y) x)*p.2))) (List.zip a (ixD im y))) (zch w [(0:Int)]) (za6 0 (↑34).toNat)
theorem zpn (f:Sd4) (im:Jq) (w:Int):m_law_wares_sent f im w=((za6 0 (↑34).toNat)).map (wsR f im w):=by
 show List.foldl (λ(a:Jq) (x:Int)=>a++[wsR f im w x]) [] _=_
 rw [Lat.zg0,List.nil_append]
theorem zlA {W1 W2 fa sa ib:Nat} {f s:Sd4} {im:Jq} {w:Int} (h1:Sd71 W1 fa sa f) (hi:Ims W1 W2 ib f s im) (hw:w=(W2:Int)):(m_law_wares_sent f im w).length=W1∧(∀ r∈m_law_wares_sent f im w,r.length=W2∧Lat.Bit (3+(fa+ib)) r)∧∀ k,k<W1->∀ i,Lat.vec (ixD (m_law_wares_sent f im w) (k:Int)) i=Lat.lsum ((List.range W1).map λ(j:Nat)=>Lat.vec (ixD f.b (j:Int)) k*Lat.vec (ixD im (j:Int)) i):=by
 have e:m_law_wares_sent f im w=(List.range W1).map λ(k:Nat)=>wsR f im w (k:Int):=by rw [zpn,zhm,h1.bl]
 have key:∀ k:Nat,(wsR f im w (k:Int)).length=W2∧∀ i,Lat.vec (wsR f im w (k:Int)) i=Lat.lsum ((List.range W1).map λ(j:Nat)=>Lat.vec (ixD f.b (j:Int)) k*Lat.vec (ixD im (j:Int)) i):=λk=>by
  have q:=Lat.zhU (W:=W2) (F:=λ(a:Ji) (y:Int)=>List.map (λ(p:Int×Int)=>(p.1+((ixD (ixD f.b y) (k:Int))*p.2))) (List.zip a (ixD im y))) (c:=λy i=>(ixD (ixD f.b y) (k:Int))*Lat.vec (ixD im y) i) (za6 0 (↑34).toNat) (zch w [(0:Int)]) (by rw [hw,Lat.zcg]) λa y hy ha=>by
   obtain ⟨i,hi'⟩:=List.getElem?_of_mem hy
   have q:=zbs hi'
   have hm:(ixD im y).length=W2:=(hi.r _ (zcp (by rw [hi.l];have:=h1.bl;unfold InB;omega))).1
   exact ⟨by rw [List.length_map,List.length_zip,hm];omega,λi=>Lat.zgE ↑0⟩
  refine ⟨q.1,λi=>(q.2 i).trans ?_⟩
  rw [hw,Lat.zeG,Int.zero_add,zhm,h1.bl]
  exact Lat.zbm λj _=>by rw [Lat.zcP]
 refine ⟨by rw [e,List.length_map,List.length_range],λr hr=>?_,λk hk i=>?_⟩
 ·rw [e] at hr
  obtain ⟨k,hk,rfl⟩:=List.mem_map.mp hr
  exact ⟨(key k).1,Lat.zls (n:=3) (b:=fa+ib) (key k).2 (by rw [List.length_range];exact h1.w8) λj hj i=>Lat.zjg ((h1.rb _ (Lat.ze2 (by rw [h1.du.l2];exact List.mem_range.mp hj))).vec k) ((((hi.r _ (Lat.ze2 (by rw [hi.l];exact List.mem_range.mp hj)))).2).vec i)⟩
 ·rw [zbJ (x:=wsR f im w (k:Int)) (by rw [e,List.getElem?_map,List.getElem?_range hk];rfl)]
  exact (key k).2 i
structure Snt (W1 W2:Nat) (f s:Sd4) (im bs:Jq) (xb:Nat):Prop where
 l:bs.length=W1
 r:∀ t∈bs,t.length=W2∧Lat.Bit xb t
 v:∀ k,k<W1->∀ i,Lat.vec (ixD bs (k:Int)) i=Lat.lsum ((List.range W1).map λ(j:Nat)=>Lat.vec (ixD f.b (j:Int)) k*Lat.vec (ixD im (j:Int)) i)
theorem zoP {W1 W2 fa sa xb:Nat} {f s:Sd4} {im bs:Jq} {a b:BookD} {x:Ji} (h1:Sd71 W1 fa sa f) (hs:Snt W1 W2 f s im bs xb) (hb:b.many=(W2:Int)) (hx:x.length=W1):((zad ⟨a,b,bs⟩ x)).length=W2∧∀ i,Lat.vec (zad ⟨a,b,bs⟩ x) i=Lat.Phi W1 f.b im (Lat.vec x) i:=by
 obtain ⟨k1,k2⟩:=zfM (S:=⟨a,b,bs⟩) (x:=x) (W1:=W1) (W2:=W2) hb (λr hr=>(hs.r r hr).1) hs.l hx
 exact ⟨k1,λi=>(k2 i).trans (Lat.ztx h1.du.l2 h1.du.d hs.v i)⟩
theorem ztD {W1 W2 fa sa fb sb ib:Nat} {f s:Sd4} {im:Jq} {u:Lat.Vc} (h1:Sd71 W1 fa sa f) (h2:Sd71 W2 fb sb s) (hi:Ims W1 W2 ib f s im) (hu:Lat.SpL f.d u):Lat.SpL (Lat.scl s.a s.c) (Lat.Phi W1 f.b im u):=by
 refine Lat.ztq (s:=(s.a,s.b)) h2.du h2.bl (λb hb=>(h2.b0 b hb).1) (λk hk=>?_) λj t b ht hb=>?_
 ·unfold Lat.Phi
  rw [Lat.zbm (g:=λ_=>0) λj hj=>by rw [Lat.zbL (by rw [((hi.r _ (Lat.ze2 (by rw [hi.l];exact List.mem_range.mp hj)))).1];exact hk),Int.mul_zero],Lat.zdI]
 ·refine Lat.zqK (cs:=f.c) (λk hk=>?_) λk hk=>hi.d k hk j t b ht hb
  have hd:f.b[k]?=some (ixD f.b (k:Int)):=by
   have hl:k<f.b.length:=by rw [h1.du.l2];exact hk
   rw [zbJ (List.getElem?_eq_getElem hl)];exact List.getElem?_eq_getElem hl
  have hc:f.c[k]?=some (ixD f.c (k:Int)):=by
   have hl:k<f.c.length:=by rw [h1.bl];exact hk
   rw [zbJ (List.getElem?_eq_getElem hl)];exact List.getElem?_eq_getElem hl
  exact Lat.zta (s:=(f.a,f.b)) h1.du ((h1.sp u).mp hu) hd hc
theorem ztb {W1 W2 fa sa ib:Nat} {f s:Sd4} {im:Jq} {w:Int} (h1:Sd71 W1 fa sa f) (hi:Ims W1 W2 ib f s im) (hw:w=(W2:Int)) (h2:W2≤8) (ha:fa≤100) (hb:ib≤200):WsP f im w:=⟨W1,W2,h1.bl,h1.w8,h1.du.l2,λr hr=>⟨h1.du.d r hr,(h1.rb r hr).mono ha⟩,hi.l,hw,h2,λr hr=>⟨(hi.r r hr).1,((hi.r r hr).2).mono hb⟩⟩
theorem zs7 {W1 W2 fa sa fb sb:Nat} {f s:Sd4} {far:Int} (h1:Sd71 W1 fa sa f) (h2:Sd71 W2 fb sb s):ImP f s far:=⟨by rw [h1.bl];exact h1.w8,by rw [h2.bl];exact h2.w8,by rw [h2.bl];exact h2.du.l1,λr hr=>by rw [h2.bl];exact h2.du.r r hr,h2.b0⟩
section
variable {bs:Jq} {x r l t:Ji} {w:Int} {i n:Nat} {p:Int×Ji} {q:Int×Int}
end
theorem let_ex {α β:Type} {P:β->Prop} {x:α} {f:α->β} (h:∀ y,y=x->P (f y)):P (Let x f):=h x rfl
theorem zhA {α β:Type} {x:α} {f:α->β} {b:β} (h:∀ y,y=x->f y=b):Let x f=b:=h x rfl
theorem zkU {W1 W2 n xb:Nat} {bs:Jq} {a b:BookD} {x:Ji} (hb:b.many=(W2:Int)) (hr:∀ t∈bs,t.length=W2∧Lat.Bit xb t) (hl:bs.length=W1) (h8:W1≤8) (hx:x.length=W1) (hn:Lat.Bit n x):Lat.Bit (3+(n+xb)) (zad ⟨a,b,bs⟩ x):=by
 obtain ⟨k1,k2⟩:=zfM (S:=⟨a,b,bs⟩) (x:=x) (W1:=W1) (W2:=W2) hb (λr hr'=>(hr r hr').1) hl hx
 exact Lat.zls (n:=3) (b:=n+xb) k2 (by rw [List.length_range];exact h8) λw hw i=>Lat.zjg (hn.vec w) (((hr _ (Lat.ze2 (by rw [show ({ first:=a,second:=b,baskets:=bs }:SenderD).baskets.length=W1 from hl];exact List.mem_range.mp hw))).2).vec i)
theorem zk1 {W1 W2 fa sa fb sb ib xb:Nat} {f s:Sd4} {im bs:Jq} {a b:BookD} {x:Ji} (hF:Sd71 W1 fa sa f) (hS:Sd71 W2 fb sb s) (hI:Ims W1 W2 ib f s im) (hN:Snt W1 W2 f s im bs xb) (hb:b.many=(W2:Int)) (hx:x.length=W1) (hu:Lat.SpL f.d (Lat.vec x)):Lat.SpL s.d (Lat.vec (zad ⟨a,b,bs⟩ x)) :=
 (hS.sp _).mpr ((ztD hF hS hI hu).conv λi=>((zoP (a:=a) hF hN hb hx).2 i).symm)
theorem znF {W0 W1 W2:Nat} {bs cs:Jq} {a c d e:BookD} {x:Ji} (hc:c.many=(W2:Int)) (he:e.many=(W1:Int)) (h1:∀ t∈bs,t.length=W1) (l1:bs.length=W0) (h2:∀ t∈cs,t.length=W2) (l2:cs.length=W1) (hx:x.length=W0) :
  zad ⟨a,c,List.map (λ(y:Ji)=>zad ⟨d,c,cs⟩ y) bs⟩ x=zad ⟨d,c,cs⟩ (zad ⟨a,e,bs⟩ x):=by
 have s2:∀ y:Ji,y.length=W1->(zad ⟨d,c,cs⟩ y).length=W2∧∀ i,Lat.vec (zad ⟨d,c,cs⟩ y) i=Lat.lsum ((List.range W1).map λ(w:Nat)=>Lat.vec y w*Lat.vec (ixD cs (w:Int)) i):=λy hy=>zfM (S:=⟨d,c,cs⟩) hc h2 l2 hy
 obtain ⟨k1,k2⟩:=zfM (S:=⟨a,e,bs⟩) (x:=x) he h1 l1 hx
 obtain ⟨j1,j2⟩:=s2 _ k1
 obtain ⟨i1,i2⟩:=zfM (S:=⟨a,c,List.map (λ(y:Ji)=>zad ⟨d,c,cs⟩ y) bs⟩) (x:=x) (W1:=W0) (W2:=W2) hc (λr hr=>by
  obtain ⟨y,hy,rfl⟩:=List.mem_map.mp hr
  exact (s2 y (h1 y hy)).1) (by rw [List.length_map];exact l1) hx
 refine Lat.zhY (i1.trans j1.symm) λi=>?_
 rw [i2 i,j2 i]
 have e1:∀ w∈List.range W1,Lat.vec (zad ⟨a,e,bs⟩ x) w*Lat.vec (ixD cs (w:Int)) i=Lat.lsum ((List.range W0).map λ(v:Nat)=>Lat.vec x v*(Lat.vec (ixD bs (v:Int)) w*Lat.vec (ixD cs (w:Int)) i)):=λw _=>by
  rw [k2 w,Int.mul_comm,← Lat.zfl]
  exact Lat.zbm λv _=>by grind
 rw [Lat.zbm e1,← Lat.zh9]
 refine Lat.zbm λv hv=>?_
 have hl:v<bs.length:=by rw [l1];exact List.mem_range.mp hv
 have ev:ixD (List.map (λ(y:Ji)=>zad ⟨d,c,cs⟩ y) bs) (v:Int)=zad ⟨d,c,cs⟩ (ixD bs (v:Int)):=zbJ (by rw [List.getElem?_map,List.getElem?_eq_getElem hl,zbJ (List.getElem?_eq_getElem hl)];rfl)
 show Lat.vec x v*Lat.vec (ixD (List.map (λ(y:Ji)=>zad ⟨d,c,cs⟩ y) bs) (v:Int)) i=_
 rw [ev,(s2 _ (h1 _ (Lat.ze2 hl))).2 i,← Lat.zfl]
theorem ztS {N:Nat} (h:N≤6):Lat.Fit N 160 7:=by
 have e1:Lat.eB 160 7=1336:=rfl
 have e2:Lat.sB 160 7=10744:=rfl
 have e3:min N 7≤6:=by omega
 refine ⟨by omega,by omega,by omega,?_⟩
 rw [e2]
 generalize min N 7=k at *
 have e4:(k+2)*((k+1)*(10744+9000))≤8*(7*19744):=Nat.mul_le_mul ↑0 (Nat.mul_le_mul ↑0 ↑0)
 have e5:(k+1)*(10744+1)≤7*10745:=Nat.mul_le_mul ↑0 ↑0
 omega
theorem zov {n:Nat} {b:BookD} {x:Ji} (hn:b.many=(n:Int)) (h1:1≤n) (h3:n≤3) (hl:b.swaps.length≤7) (hs:∀ r∈b.swaps,r.length=n∧Lat.Bit 160 r) (hx:x.length=n) (hb:Lat.Bit 10744 x) (k:Lat.SpL b.swaps (Lat.vec x)):SnS b x :=
 ⟨n,10744,hn,h1,by omega,hx,by omega,Lat.Cb.fit (R:=7) (b:=160) (ztS ↑0) ↑0 ↥7 ↑1 hl hs,hb,k⟩
theorem zob {W1 W2 fb sb sc xb:Nat} {s:Sd4} {bs:Jq} {a:BookD} (hS:Sd71 W2 fb sb s) (h8:W1≤8) (hl:bs.length=W1) (hr:∀ t∈bs,t.length=W2∧Lat.Bit xb t) (ha:a.many=(W1:Int)) (hsw:∀ t∈a.swaps,t.length=W1∧Lat.Bit sc t∧Lat.SpL s.d (Lat.vec (zad ⟨a,⟨(W2:Int),s.d⟩,bs⟩ t))) (h3:W2≤3) (hbt:3+(sc+xb)≤250) (hsb:sb≤160):SiP a ⟨(W2:Int),s.d⟩ bs:=by
 refine ⟨⟨by rw [hl,ha],λr h=>by rw [(hr r h).1]⟩,by omega,λt ht=>?_⟩
 obtain ⟨t1,t2,t3⟩:=hsw t ht
 refine ⟨⟨by show (t.length:Int)=a.many;rw [t1,ha],W2,rfl,hS.w8,λr h=>(hr r h).1,λp hp z hz=>Lat.zeI.of (a:=xb) (b:=sc) ((hr _ ((List.of_mem_zip hp)).1).2 z hz) (t2 _ ((List.of_mem_zip hp)).2) ↑0 ↑0⟩,?_,t3⟩
 have k1:=(zfM (S:=⟨a,⟨(W2:Int),s.d⟩,bs⟩) (x:=t) (W1:=W1) (W2:=W2) rfl (λr h=>(hr r h).1) hl t1).1
 have k2:Lat.Bit 250 (zad ⟨a,⟨(W2:Int),s.d⟩,bs⟩ t):=(zkU rfl hr hl h8 t1 t2).mono hbt
 exact zov (n:=W2) rfl hS.w1 h3 (by show s.d.length≤7;have:=hS.ln;omega) (λr h=>⟨(hS.sr r h).1,((hS.sr r h).2).mono hsb⟩) k1 (k2.mono ↑1) t3
def TrI (i:Nat) (s:List Sd4):Prop:=s.length=i∧∀ y∈s,∃ W:Nat,W≤3∧Sd71 W 20 70 y
section
variable {xs cs o:Ji} {c d p w x z k:Int} {i:Nat} {s r:List Sd4} {im:Jq}
theorem zvd:TrI 0 []:=⟨rfl,λy hy=>(nomatch hy)⟩
theorem zuS (hp:xs.length≤63) (hC:cs=zcQ xs (some (4:Int)) (some (63:Int))) (e:p=((cs.length:Nat):Int)/(3:Int)):0≤p∧p≤19:=by
 have l:cs.length≤59:=by
  rw [hC];unfold zcQ
  simp only [show (4:Int)=((4:Nat):Int) from rfl,show (63:Int)=((63:Nat):Int) from rfl,HT.sIx_nat,List.length_take,List.length_drop];omega
 omega
theorem zvB (e:w=(1:Int)+z%(3:Int)):1≤w∧w≤3:=by omega
theorem zu9 (hT:0≤p∧p≤19) (q:i<(3:Int).toNat∧x=0+(i:Int)) (e:o=zcQ cs (some (p*x)) (some ((p*x)+p))):o.length≤2*10:=by
 obtain ⟨n,rfl⟩:∃ n:Nat,p=(n:Int):=⟨p.toNat,by omega⟩
 have hx:x=(i:Int):=by omega
 rw [e,hx,show ((n:Int)*(i:Int))=((n*i:Nat):Int) from (Int.natCast_mul n i).symm,show (((n*i:Nat):Int)+(n:Int))=((n*i+n:Nat):Int) from rfl]
 unfold zcQ
 simp only [HT.sIx_nat,List.length_take,List.length_drop]
 omega
theorem zs2 (q:i<(3:Int).toNat∧x=0+(i:Int)):zcj xs ((1:Int)+x):=by unfold zcj;omega
theorem zvL (q:i<(3:Int).toNat∧x=0+(i:Int)):InB [(1:Int),(3:Int),(9:Int)].length x:=by have:=q.1;have:(3:Int).toNat=3:=rfl;unfold InB;simp only [List.length_cons,List.length_nil];omega
theorem zvJ (q:i<(3:Int).toNat∧x=0+(i:Int)):zfi c (ixD [(1:Int),(3:Int),(9:Int)] x):=by
 have h3:(3:Int).toNat=3:=rfl
 have:x=0∨x=1∨x=2:=by omega
 rcases this with e | e | e
 ·rw [e];show zfi c 1;exact ↑5
 ·rw [e];show zfi c 3;exact ↑5
 ·rw [e];show zfi c 9;exact ↑5
theorem zuP (hT:0≤p∧p≤19):-(2^64)<p∧p<2^64:=by omega
theorem zuI (I:TrI i s) (q:i<(3:Int).toNat∧x=0+(i:Int)):s.length<PySem.sizeLine:=Nat.lt_of_le_of_lt (show s.length≤1000 by have:=I.1;have h3:(3:Int).toNat=3:=rfl;omega) ↑1
theorem zuN (hT:0≤p∧p≤19) (q:i<(3:Int).toNat∧x=0+(i:Int)) (I:TrI i s):TrI (i+1) (Let ((1:Int)+(z%(3:Int))) (λ(w:Int)=>Let (zcQ cs (some (p*x)) (some ((p*x)+p))) (λ(o:Ji)=>s++[zbz o w k (d%(2:Int))]))):=by
 unfold Let
 refine ⟨by rw [List.length_append,I.1];rfl,λy hy=>?_⟩
 rcases List.mem_append.mp hy with h | h
 ·exact I.2 y h
 ·rw [List.mem_singleton.mp h]
  refine ⟨((1:Int)+(z%(3:Int))).toNat,by omega,zqZ (h:=10) ↑0 ↑0 ↑0 (zu9 hT q rfl)⟩
theorem zps (h:TrI ((za6 0 (3:Int).toNat)).length r) (hk:0≤k∧k<3):InB r.length k:=by
 have:r.length=3:=h.1.trans (by rw [zaY];rfl)
 unfold InB;omega
theorem zkF (h:TrI ((za6 0 (3:Int).toNat)).length r) (hk:0≤k∧k<3):∃ W:Nat,W≤3∧Sd71 W 20 70 (ixD r k):=h.2 _ (zcp (zps h hk))
theorem zsI {j:Int} {far:Int} (h:TrI ((za6 0 (3:Int).toNat)).length r) (hk:0≤k∧k<3) (hj:0≤j∧j<3):ImP (ixD r k) (ixD r j) far:=by
 obtain ⟨W0,_,h0⟩:=zkF h hk
 obtain ⟨W1,_,h1⟩:=zkF h hj
 exact zs7 h0 h1
theorem zsS {j:Int} {far:Int} (h:TrI ((za6 0 (3:Int).toNat)).length r) (hk:0≤k∧k<3) (hj:0≤j∧j<3) (e:im=m_law_images (ixD r k) (ixD r j) c far):WsP (ixD r k) im ((((ixD r j).c).length:Nat):Int):=by
 obtain ⟨W0,_,h0⟩:=zkF h hk
 obtain ⟨W1,_,h1⟩:=zkF h hj
 rw [e]
 exact ztb h0 (zia h0 h1) (by rw [h1.bl]) h1.w8 ↑1 ↑1
end
def m_law_trio (P0:Ji):(T3 (List ↑13) Jq Jq) :=
 (Let (zdQ P0 (0:Int)) (λ(v329:Int)=>(Let (zcQ P0 (some (4:Int)) (some (63:Int))) (λ(v330:Ji)=>(Let (((v330.length:Nat):Int)/(3:Int)) (λ(v331:Int)=>(Let (List.foldl ↑139 [] (za6 0 (3:Int).toNat)) (λ(r339:(List ↑13))=>(Let (m_law_images (ixD r339 (0:Int)) ↑27 (zbd P0 (0:Int)) (0:Int)) (λ(v340:Jq)=>(Let (m_law_images ↑27 (ixD r339 (2:Int)) (zbd P0 (0:Int)) (30:Int)) (λ(v341:Jq)=>(Let (m_law_wares_sent (ixD r339 (0:Int)) v340 ((((↑27).c).length:Nat):Int)) (λ(v342:Jq)=>(Let (m_law_wares_sent ↑27 v341 ((((ixD r339 (2:Int)).c).length:Nat):Int)) (λ(v343:Jq)=>(T3.mk r339 v342 v343)))))))))))))))))
def zeP (P0:Ji):Prop:=P0.length≤63
def zgt (K:W.Frag) (A:Adr):Sp:=Spv (ι:=Ji) (λx=>[dQ K (List.map dI x)]) (λx=>zeP x) (λx=>↥[dT [dL (List.map ↑44 ((m_law_trio x).a)),dL (List.map lI ((m_law_trio x).b)),dL (List.map lI ((m_law_trio x).c))]])
theorem zbH:FnScope ["_law_script","_law_cell_here","_law_cells","_law_part","_law_sides","_law_k","_law_wide","_law_own","_law_one","_law_two","_law_left","_law_right"] ["_law_script"] (zaf zes):=↑4
theorem zk7 (F:Fun K "_law_trio" "_law_trio" zes f fd) (T:Txt K mg A) (ybr:Callee P w K mg base ⇑1 1 "_law_cell" ["_law_script","_law_k"] (zgv K A)) (yaJ:Callee P w K mg base ⇑1 2 "_law_images" ["_law_first","_law_second","_law_cell_here","_law_far"] (zfk K A)) (ya0:Callee P w K mg base ⇑1 1 "_law_raw" ["_law_script","_law_k"] (zhf K A)) (ybs:Callee P w K mg base ⇑1 3 "_law_side" ["_law_cells","_law_wide","_law_cell_here","_law_idle"] (zgx K A)) (yaw:Callee P w K mg base ⇑1 1 "_law_wares_sent" ["_law_first","_law_images_here","_law_wide"] (zdN K A)):FnOk P w K mg base ⇑1 4 f fd ["_law_script"] (zgt K A):=by
 refine F.okV zbH ↥3 ↑46
 have hu:=hr.units
 replace hp:zeP P0:=hp
 unfold zeP at hp
 refine ⟨_,(zac (zat (i:=1) zbH.nd rfl ⇑0 (zaF ybr ↥1 rfl zav ↑[pv 0,zaj])) (zac (zat (i:=2) zbH.nd rfl ⇑0 (zdc (zcr (K:=K) rfl) (pv 0) (zdh zaj) (zdh zaj))) (zac (zat (i:=3) zbH.nd rfl ⇑0 (zaD zcx ↑71 zaj)) (zac (zat (i:=4) zbH.nd rfl ⇑0 (zb8 zeC)) (zac (zcS PassesOwn.never rfl (zbY rfl T.range ↑[zaj]) (zao (i:=5) zbH.nd rfl ⇑0 ⇑0) (zac (zat (i:=6) zbH.nd rfl ⇑0 (zaD zcH zaj (zaD zed (zaD zcx (pv 1) (za1 ⇑6 (zb8 ↑[zaj,zaj,zaj]) (pv 5) ↑3)) zaj))) (zac (zat (i:=7) zbH.nd rfl ⇑0 (zdc (zcr (K:=K) rfl) (pv 2) (zdh (zaD zbK (pv 3) (pv 5))) (zdh (zaD zcH (zaD zbK (pv 3) (pv 5)) (pv 3))))) (zac (zci (zb1 (K:=K) rfl (pv 4) ↑[zaF ybs ↥1 rfl zav ↑[pv 7,pv 6,zaF ya0 ↥1 rfl zav ↑[pv 0,zaD zcH zaj (pv 5)],zaD zed (zaD zcx (pv 1) zaj) zaj]])) zah)))) (zac (zat (i:=8) zbH.nd rfl ⇑0 (zaF yaJ ↥1 rfl zav ↑[↑39,↑39,zaF ya0 ↥1 rfl zav ↑[pv 0,zaj],zaj])) (zac (zat (i:=9) zbH.nd rfl ⇑0 (zaF yaJ ↥1 rfl zav ↑[↑39,↑39,zaF ya0 ↥1 rfl zav ↑[pv 0,zaj],zaj])) (zac (zat (i:=10) zbH.nd rfl ⇑0 (zaF yaw ↥1 rfl zav ↑[↑39,pv 8,(zaK ↑30 rfl T.len PySem.boot_len ↑[(za1 ↑12 ↑39 zaj ↑3)])])) (zac (zat (i:=11) zbH.nd rfl ⇑0 (zaF yaw ↥1 rfl zav ↑[↑39,pv 9,(zaK ↑30 rfl T.len PySem.boot_len ↑[(za1 ↑12 ↑39 zaj ↑3)])])) (zac (zaO (zhw ↑[pv 4,pv 10,pv 11])) zah)))))))))),.inl ?_⟩
 show L2.Run _ ([⇑[dQ K ↑16],.no,.no,.no,.no,.no,.no,.no,.no,.no,.no,.no]:L2.Ctx) _ (↑57 (m_law_trio P0))
 unfold m_law_trio
 exact (zar (m:=true) (x:=(zdQ P0 (0:Int))) dI ↑57 (Ev.any (m:=true) (zam (x:=(P0,(0:Int))) (zab ↑2 (zab zaL zag)) rfl (by show zee P0 (0:Int);unfold zee;decide) rfl)) (λv329 hv329=>(zar (m:=true) (x:=(zcQ P0 (some (4:Int)) (some (63:Int)))) lI ↑57 (EvO.ev (EvO.anyI (m:=false) (zdZ (f:=dI) (xs:=P0) ↑2 (zck zaL) (zck zaL)))) (λv330 hv330=>have hC:=hv330;(zar (m:=true) (x:=(((v330.length:Nat):Int)/(3:Int))) dI ↑57 (zaT (x:=((v330.length:Nat):Int)) (y:=(3:Int)) (zbb (f:=dI) (xs:=v330) (Ev.old ↑11)) zaL ↥(↑5)) (λv331 hv331=>have hT:=zuS hp hC hv331;(zeL (m:=true) (ds:=List.map ↑44 []) (zdH (m:=true) zag) (zb2 (s0:=[]) ↑119 ↑57 ↑139 (λ(i:Nat) (s332:(List ↑13))=>TrI i s332) (zdv (m:=true) (n:=(3:Int)) zaL ↑1) (.eq (.eq ↑31)) ↥(zvd) (λi334 x333 s332 hx335 hI336=>have v335:=zbs hx335;⟨↥(zuN hT ↥0 ↥0),(zar (m:=true) (x:=((1:Int)+((v329/(ixD [(1:Int),(3:Int),(9:Int)] x333))%(3:Int)))) dI (λz=>Oc.nx (↑119 z)) (za0 (x:=(1:Int)) (y:=((v329/(ixD [(1:Int),(3:Int),(9:Int)] x333))%(3:Int))) zaL (zaT (x:=(v329/(ixD [(1:Int),(3:Int),(9:Int)] x333))) (y:=(3:Int)) (zaT (x:=v329) (y:=(ixD [(1:Int),(3:Int),(9:Int)] x333)) (Ev.any (m:=true) ⇑2) (zbg (f:=dI) (xs:=[(1:Int),(3:Int),(9:Int)]) (Ev.weak (K:=K) (EvO.ev (zdl (zab zaL (zab zaL (zab zaL zag))) (by show 3≤sizeLine;decide)))) ↑10 ↥(zvL ↥0)) ↥(zvJ ↥0)) zaL ↑1)) (λv337 hv337=>have hW:=zvB hv337;(zar (m:=true) (x:=(zcQ v330 (some (v331*x333)) (some ((v331*x333)+v331)))) lI (λz=>Oc.nx (↑119 z)) (EvO.ev (EvO.anyI (m:=true) (zdZ (f:=dI) (xs:=v330) ↑11 (zck (zaT (x:=v331) (y:=x333) ↑48 ↑10 ↥(.inl (zuP hT)))) (zck (za0 (x:=(v331*x333)) (y:=v331) (zaT (x:=v331) (y:=x333) ↑48 ↑10 ↥(.inl (zuP hT))) ↑48))))) (λv338 hv338=>have hO:=zu9 hT ↥0 hv338;(zcv (f:=↑44) (xs:=s332) (x:=(zbz v338 v337 (zbd P0 ((1:Int)+x333)) ((v329/(27:Int))%(2:Int)))) rfl (zam (x:=(v338,v337,(zbd P0 ((1:Int)+x333)),((v329/(27:Int))%(2:Int)))) (zab (Ev.old (Ev.weak (K:=K) (zaa (i:=7) rfl))) (zab ↑55 (zab (Ev.any (m:=true) (zam (x:=(P0,((1:Int)+x333))) (zab ↑2 (zab (za0 (x:=(1:Int)) (y:=x333) zaL ↑10) zag)) rfl (by show zcj P0 ((1:Int)+x333);exact zs2 ↥0) rfl)) (zab (zaT (x:=(v329/(27:Int))) (y:=(2:Int)) (zaT (x:=v329) (y:=(27:Int)) (Ev.any (m:=true) ⇑2) zaL ↥(↑5)) zaL ↑1) zag)))) rfl (by show zeO v338 v337 (zbd P0 ((1:Int)+x333)) ((v329/(27:Int))%(2:Int));exact ⟨by omega,by omega,by omega⟩) rfl) ↥(zuI ↥0 ↥0) (zau (.eq (.eq (.eq (.eq (.eq (.no (.no (.no (.eq (.eq (.eq (.eq .nil))))))))))))))))))⟩) (λr339 hr339 hI=>(zar (m:=true) (x:=(m_law_images (ixD r339 (0:Int)) ↑27 (zbd P0 (0:Int)) (0:Int))) ↑40 ↑57 (zam (x:=((ixD r339 (0:Int)),↑27,(zbd P0 (0:Int)),(0:Int))) ↑146 rfl (by show zdj (ixD r339 (0:Int)) ↑27 (zbd P0 (0:Int)) (0:Int);exact zsI hI ↑1 ↑1) rfl) (λv340 hv340=>have h1:=hv340;(zar (m:=true) (x:=(m_law_images ↑27 (ixD r339 (2:Int)) (zbd P0 (0:Int)) (30:Int))) ↑40 ↑57 (zam (x:=(↑27,(ixD r339 (2:Int)),(zbd P0 (0:Int)),(30:Int))) ↑146 rfl (by show zdj ↑27 (ixD r339 (2:Int)) (zbd P0 (0:Int)) (30:Int);exact zsI hI ↑1 ↑1) rfl) (λv341 hv341=>have h2:=hv341;(zar (m:=true) (x:=(m_law_wares_sent (ixD r339 (0:Int)) v340 ((((↑27).c).length:Nat):Int))) ↑40 ↑57 (zam (x:=((ixD r339 (0:Int)),v340,((((↑27).c).length:Nat):Int))) (zab (Ev.old ↑83) (zab (Ev.old (Ev.weak (K:=K) (zaa (i:=8) rfl))) (zab (zbb (f:=dI) (xs:=(↑27).c) (Ev.old (Ev.weak (K:=K) (zcs ↑83 zaL rfl)))) zag))) rfl (by show zb9 (ixD r339 (0:Int)) v340 ((((↑27).c).length:Nat):Int);exact zsS hI ↑1 ↑1 h1) rfl) (λv342 hv342=>(zar (m:=true) (x:=(m_law_wares_sent ↑27 v341 ((((ixD r339 (2:Int)).c).length:Nat):Int))) ↑40 ↑57 (zam (x:=(↑27,v341,((((ixD r339 (2:Int)).c).length:Nat):Int))) (zab (Ev.old ↑83) (zab (Ev.old (Ev.weak (K:=K) (zaa (i:=9) rfl))) (zab (zbb (f:=dI) (xs:=((ixD r339 (2:Int))).c) (Ev.old (Ev.weak (K:=K) (zcs ↑83 zaL rfl)))) zag))) rfl (by show zb9 ↑27 v341 ((((ixD r339 (2:Int)).c).length:Nat):Int);exact zsS hI ↑1 ↑1 h2) rfl) (λv343 hv343=>(zco (i:=4) rfl (zal (zaE (zhy (zab ↑14 (zab (zaa (i:=10) rfl) (zab (zaa (i:=11) rfl) zag))) (by show 3≤sizeLine;decide))))))))))))))))))))))
def Q75 (W0 W1:Nat) (f s:Sd4) (bs:Jq):Prop:=∃ im,Sd71 W0 20 70 f∧Sd71 W1 20 70 s∧Ims W0 W1 55 f s im∧Snt W0 W1 f s im bs 78
def P75 (y:T3 (List Sd4) Jq Jq):Prop:=∃ (s0 s1 s2:Sd4) (W0 W1 W2:Nat),y.a=[s0,s1,s2]∧(W0≤3∧W1≤3∧W2≤3)∧Q75 W0 W1 s0 s1 y.b∧Q75 W1 W2 s1 s2 y.c
theorem zm4 {xs:Ji} {y:T3 (List Sd4) Jq Jq} (hp:xs.length≤63) (e:y=m_law_trio xs):P75 y:=by
 rw [e]
 unfold m_law_trio
 refine let_ex (P:=P75) λc _=>let_ex (P:=P75) λcs hC=>let_ex (P:=P75) λp hP=>let_ex (P:=P75) λr hr=>let_ex (P:=P75) λi1 h1=>let_ex (P:=P75) λi2 h2=>let_ex (P:=P75) λl hl=>let_ex (P:=P75) λt ht=>?_
 have hT:=zuS hp hC hP
 have I:TrI ((za6 0 (3:Int).toNat)).length r:=by
  have:=zit (xs:=za6 0 (3:Int).toNat) (s:=([]:List Sd4)) (n:=0) (I:=TrI) (f:=λ(s:List Sd4) (x:Int)=>Let ((1:Int)+((c/(ixD [(1:Int),(3:Int),(9:Int)] x))%(3:Int))) (λ(w:Int)=>Let (zcQ cs (some (p*x)) (some ((p*x)+p))) (λ(o:Ji)=>s++[zbz o w (zbd xs ((1:Int)+x)) ((c/(27:Int))%(2:Int))]))) zvd λi x s hx q=>by rw [Nat.zero_add] at q ⊢;exact zuN hT (zbs hx) q
  rw [Nat.zero_add,← hr] at this
  exact this
 obtain ⟨W0,w0,k0⟩:=zkF (k:=0) I ↑1
 obtain ⟨W1,w1,k1⟩:=zkF (k:=1) I ↑1
 obtain ⟨W2,w2,k2⟩:=zkF (k:=2) I ↑1
 have j1:=zia (c:=zbd xs 0) (far:=0) k0 k1
 have j2:=zia (c:=zbd xs 0) (far:=30) k1 k2
 rw [← h1] at j1;rw [← h2] at j2
 have m1:=zlA k0 j1 (w:=((((ixD r (1:Int)).c).length:Nat):Int)) (by rw [k1.bl])
 have m2:=zlA k1 j2 (w:=((((ixD r (2:Int)).c).length:Nat):Int)) (by rw [k2.bl])
 rw [← hl] at m1;rw [← ht] at m2
 refine ⟨ixD r 0,ixD r 1,ixD r 2,W0,W1,W2,?_,⟨w0,w1,w2⟩,⟨i1,k0,k1,j1,⟨m1.1,m1.2.1,m1.2.2⟩⟩,⟨i2,k1,k2,j2,⟨m2.1,m2.2.1,m2.2.2⟩⟩⟩
 have h3:r.length=3:=I.1.trans (by rw [zaY];rfl)
 show r=_
 match r,h3 with
 | [a,b,c],_=>rfl
def BoP (y:Sd4):Prop:=∃ W:Nat,W≤3∧Sd71 W 20 70 y
theorem zvu {y:Sd4} (h:BoP y):y.d.length≤PySem.sizeLine:=by obtain ⟨W,w,h⟩:=h;exact zan (by have:=h.ln;omega)
theorem zvs {y:Sd4} (h:BoP y):zeD ((y.c.length:Nat):Int) (List.map (λ(x:Ji)=>x) y.d):=by
 obtain ⟨W,w,h⟩:=h
 have:=h.ln;have:=h.w1;have:=h.w8;have:=h.bl
 rw [zcl]
 exact ⟨by omega,by omega,by omega,λs hs=>by rw [(h.sr s hs).1];omega⟩
def za3 (P0:↑13):BookD :=
 (zec ((P0.c.length:Nat):Int) (List.map (λ(x344:Ji)=>x344) P0.d))
def zeS (P0:↑13):Prop:=BoP P0
def zgq (K:W.Frag) (A:Adr):Sp:=Spv (ι:=↑13) (λx=>[dT [dL (List.map lI x.a),dL (List.map lI x.b),dL (List.map dI x.c),dL (List.map lI x.d)]]) (λx=>zeS x) (λx=>↥[zaM A.Book (za3 x)])
theorem zkR:FnScope ["_law_side_here"] ["_law_side_here"] (zaf zdS):=↑4
theorem zle (F:Fun K "_law_book" "_law_book" zdS f fd) (T:Txt K mg A) (ybP:Callee P w K mg base ⇑1 3 "book_of" ["many","swaps"] (zhh K A)):FnOk P w K mg base ⇑1 4 f fd ["_law_side_here"] (zgq K A):=by
 refine F.okV zkR ↥3 ↑46
 have hu:=hr.units
 replace hp:zeS P0:=hp
 unfold zeS at hp
 refine ⟨_,(zac (zaO (zaF ybP ↥1 rfl zav ↑[↑109,(zcf rfl (.of (osc:=(zaf zdS)) (N:=["_law_side_here"]) (own:=["_law_swap"]) (fvn:=[]) (fv:=[]) rfl rfl ↥5) (zaZ (K:=K) rfl (za1 ↑12 (pv 0) zaj ↑3)) (λ_ _ _ _ _=>⟨(zao (i:=0) (show (["_law_swap"]:List Str).Nodup by decide +kernel) rfl ⇑0 ↥6),zbc,↑66⟩))])) zah),.inl ?_⟩
 show L2.Run _ ([⇑[dT [dL (List.map lI P0.a),dL (List.map lI P0.b),dL (List.map dI P0.c),dL (List.map lI P0.d)]]]:L2.Ctx) _ ((λ(r:BookD)=>Oc.rt true (zaM A.Book r)) (za3 P0))
 unfold za3
 exact (zal (zaE (zam (x:=(((P0.c.length:Nat):Int),(List.map (λ(x344:Ji)=>x344) P0.d))) (zab (zbb (f:=dI) (xs:=P0.c) ↑63) (zab (Ev.weak (K:=K) (EvO.ev (EvO.conv (zbS (g:=(λ(x344:Ji)=>dL (List.map dI x344))) (zbG (m:=false) lI (xs:=P0.d) ↑63) ↥(zvu hp) ↑5 (λi345 x344 hx346=>have v346:=List.mem_of_getElem? hx346;(EvO.ev (EvO.anyI (m:=false) (zgD ↑26))))) ↑8))) zag)) rfl (by show zeD ((P0.c.length:Nat):Int) (List.map (λ(x344:Ji)=>x344) P0.d);exact zvs hp) rfl)))
theorem zkN {y:Sd4} {W:Nat} (h:Sd71 W 20 70 y):za3 y=⟨(W:Int),y.d⟩:=by unfold za3;rw [zcl,zsf,h.bl]
def zbi (P0:Int) (P1:Int) (P2:Int):Int :=
 (bif ((decide ((29:Int)<P2)) && (decide (((P0/↑24)%(2:Int))=(1:Int)))) then ((zae P0 P1 (60:Int))-(30:Int)) else ((zae P0 P1 (((2:Int)*P2)+(1:Int)))-P2))
def zeo (P0:Int) (P1:Int) (P2:Int):Prop:=0≤P1∧P1≤1000∧0≤P2∧P2≤1000000000
def zfH (K:W.Frag) (A:Adr):Sp:=Spv (ι:=Int×Int×Int) (λx=>[dI x.1,dI x.2.1,dI x.2.2]) (λx=>zeo x.1 x.2.1 x.2.2) (λx=>↥[dI (zbi x.1 x.2.1 x.2.2)])
theorem zkg:FnScope ["_law_cell_here","_law_k","_law_size"] ["_law_cell_here","_law_k","_law_size"] (zaf zdO):=↑4
theorem zjV (F:Fun K "_law_count" "_law_count" zdO f fd) (T:Txt K mg A) (yaa:Callee P w K mg base ⇑1 1 "_law_thing" ↑56 (zcu K A)):FnOk P w K mg base ⇑1 2 f fd ["_law_cell_here","_law_k","_law_size"] (zfH K A):=by
 refine F.okV zkg ↥3 ↑6
 obtain ⟨P0,P1,P2⟩:=x
 have hu:=hr.units
 replace hp:zeo P0 P1 P2:=hp
 unfold zeo at hp
 refine ⟨_,(zac (zcD (PW.pt (znL (zaI zli (pv 2) zaj (zaW _)) (zlf (zaI zhF (zaD zed (zaD zcx (pv 0) zaj) zaj) zaj (zaW _))))) (zac (zaO (zaD zfy (zaF yaa ↥1 rfl zav ↑[pv 0,pv 1,zaj]) zaj)) zah) zah) (zac (zaO (zaD zfy (zaF yaa ↥1 rfl zav ↑[pv 0,pv 1,zaD zcH (zaD zbK zaj (pv 2)) zaj]) (pv 2))) zah)),.inl ?_⟩
 show L2.Run _ ([⇑[dI P0],⇑[dI P1],⇑[dI P2]]:L2.Ctx) _ (↑20 (zbi P0 P1 P2))
 unfold zbi
 exact (zbo (b:=((decide ((29:Int)<P2)) && (decide (((P0/↑24)%(2:Int))=(1:Int))))) ↑20 (zk5 (b:=(decide ((29:Int)<P2))) (zaA (za0 (x:=P2) (y:=(29:Int)) ↑25 zaL)) (λhb=>(zaA (zfw (x:=((P0/↑24)%(2:Int))) (y:=(1:Int)) (zaT (x:=(P0/↑24)) (y:=(2:Int)) (zaT (x:=P0) (y:=↑24) ↥9 zaL ↥(↑5)) zaL ↑1) zaL)))) (λh347=>(zaJ (zal (zaE (za0 (x:=(zae P0 P1 (60:Int))) (y:=(30:Int)) (Ev.any (m:=true) (zam (x:=(P0,P1,(60:Int))) (zab ↥9 (zab ⇑7 (zab zaL zag))) rfl (by show zaS P0 P1 (60:Int);exact ⟨hp.1,hp.2.1,by decide⟩) rfl)) zaL))))) (λh347=>(zay (zal (zaE (za0 (x:=(zae P0 P1 (((2:Int)*P2)+(1:Int)))) (y:=P2) (Ev.any (m:=true) (zam (x:=(P0,P1,(((2:Int)*P2)+(1:Int)))) (zab ↥9 (zab ⇑7 (zab (za0 (x:=((2:Int)*P2)) (y:=(1:Int)) (zaT (x:=(2:Int)) (y:=P2) zaL ↑25 ↥(.inl ↑5)) zaL) zag))) rfl (by show zaS P0 P1 (((2:Int)*P2)+(1:Int));exact ⟨hp.1,hp.2.1,by omega⟩) rfl)) ↑25))))))
theorem zpD {c k z:Int} (hz:0≤z):-(z+30)≤zbi c k z∧zbi c k z≤z+30:=by
 unfold zbi
 have t1:=zdq (c:=c) (k:=k) (m:=60) ↑1
 have t2:=zdq (c:=c) (k:=k) (m:=(2:Int)*z+(1:Int)) ↑0
 cases ((decide ((29:Int)<z))&&(decide (((c/↑24)%(2:Int))=(1:Int)))) with
 | false=>rw [cond_false];omega
 | true=>rw [cond_true];omega
def zba (P0:BookD) (P1:Ji):Bool :=
 (decide ((zbX P0 P1)=(zch ((P1.length:Nat):Int) [(0:Int)])))
def zc5 (P0:BookD) (P1:Ji):Prop:=zb7 P0 P1∧P1.length≤100
def zgn (K:W.Frag) (A:Adr):Sp:=Spv (ι:=BookD×Ji) (λx=>[zaM A.Book x.1,dQ K (List.map dI x.2)]) (λx=>zc5 x.1 x.2) (λx=>↥[dB (zba x.1 x.2)])
theorem zld:FnScope ["_law_book_here","_law_basket"] ["_law_book_here","_law_basket"] (zaf zeu):=↑4
theorem zkP (F:Fun K "_law_lost" "_law_lost" zeu f fd) (T:Txt K mg A) (yaK:Callee P w K mg base ⇑1 8 "home" ["book","basket"] (zjw K A)):FnOk P w K mg base ⇑1 9 f fd ["_law_book_here","_law_basket"] (zgn K A):=by
 refine F.okV zld ↥3 ↑6
 obtain ⟨P0,P1⟩:=x
 have hu:=hr.units
 replace hp:zc5 P0 P1:=hp
 unfold zc5 at hp
 refine ⟨_,(zac (zaO (zg9 (zkJ (K:=K) rfl hu) (zaF yaK ↥1 rfl zav ↑[pv 0,pv 1]) (zaD zgT (zb8 ↑[zaj]) ↑70) (zaW _))) zah),.inl ?_⟩
 show L2.Run _ ([⇑[zaM A.Book P0],⇑[dQ K ↑7]]:L2.Ctx) _ (↥8 (zba P0 P1))
 unfold zba
 exact (zal (zaE (zi7 (n:=0) (neg:=false) (xs:=(zbX P0 P1)) (ys:=(zch ((P1.length:Nat):Int) [(0:Int)])) EqD.int (Ev.old (Ev.weak (K:=K) (zam (x:=(P0,P1)) (zab ↑2 (zab ⇑2 zag)) rfl (by show zb7 P0 P1;exact hp.1) rfl))) (Ev.weak (K:=K) (EvO.ev (zfo (f:=dI) (xs:=[(0:Int)]) (n:=((P1.length:Nat):Int)) ↑50 (zbb (f:=dI) (xs:=P1) ⇑2) (by have z:=hp.2;constructor<;>omega) (by have z:=hp.2;exact zan ↑62)))))))
structure SgP (f:SenderD) (n m:Nat):Prop where
 n1:1≤n
 n3:n≤3
 m1:1≤m
 m3:m≤3
 hn:f.first.many=(n:Int)
 hm:f.second.many=(m:Int)
 hb:f.baskets.length=n
 bb:∀ r∈f.baskets,r.length=m∧Lat.Bit 160 r
 hs:f.second.swaps.length≤4
 sb:∀ r∈f.second.swaps,r.length=m∧Lat.Bit 160 r
section
variable {f:SenderD} {n m:Nat}
theorem zkC (h:SgP f n m):zcB f.baskets++zdo f.second.swaps f.first.many=Lat.zek n f.baskets f.second.swaps:=by
 rw [h.hn]
 exact congrArg (·++_) zrm
theorem zoJ (h:SgP f n m):(↑45).length≤7∧∀ r∈Lat.zek n f.baskets f.second.swaps,r.length=m+n∧Lat.Bit 160 r:=by
 have z1:=h.hb;have z2:=h.hs;have z3:=h.n3
 refine ⟨by unfold Lat.zek;rw [List.length_append,Lat.zlv,List.length_map];omega,λr hr=>?_⟩
 rcases List.mem_append.mp hr with hr | hr
 ·have:=Lat.znx h.bb r hr
  rwa [h.hb] at this
 ·obtain ⟨t,ht,rfl⟩:=List.mem_map.mp hr
  refine ⟨by rw [List.length_append,(h.sb t ht).1,Lat.zcg],Lat.Bit.of λi=>?_⟩
  rw [Lat.zgy];exact (h.sb t ht).2.vec i
theorem zmo (h:SgP f n m):Lat.Cb (m+n) 10744 ↑45:=by
 have z1:=h.n3;have z2:=h.m3
 exact Lat.Cb.fit (R:=7) (b:=160) (ztS ↑0) ↑0 ↥7 ↑1 (zoJ h).1 (zoJ h).2
theorem zsT (h:SgP f n m):ClP f:=by
 have z1:=h.hb;have z2:=h.hs;have z3:=h.n3;have z4:=h.m3;have z5:=h.hn
 refine ⟨⟨by omega,λr hr=>by rw [(h.bb r hr).1];omega⟩,⟨by omega,λr hr=>by rw [(h.sb r hr).1];omega,by omega⟩,?_,?_⟩
 ·have:=(zoJ h).1
  rw [← zkC h,List.length_append] at this
  exact zan ↑0
 ·rw [zkC h];exact .inr ⟨_,_,zmo h⟩
theorem zf6 (h:SgP f n m):zaP f=Lat.clm Lat.MG ↑45:=by
 unfold zaP
 rw [zhl,zkC h]
theorem ziE (h:SgP f n m):∃ tt,zai f=⟨(n:Int),tt⟩∧Lat.Ech n 0 tt∧Lat.Red tt∧(∀ t∈tt,Lat.Sd n 10744 t)∧(∀ t∈tt,Lat.SpL f.second.swaps (Lat.Snd f.baskets (Lat.vec t)))∧∀ x:Ji,x.length=n->Lat.SpL f.second.swaps (Lat.Snd f.baskets (Lat.vec x))->Lat.SpL tt (Lat.vec x):=by
 have C:=zmo h
 obtain ⟨h1,h2,h3,h4⟩:=Lat.zri h.hb (λr hr=>(h.bb r hr).1) (λr hr=>(h.sb r hr).1) C.stairs
 refine ⟨Lat.zgp m (Lat.clm Lat.MG ↑45),?_,h1,h2,λt ht=>?_,h3,h4⟩
 ·unfold zai zfJ
  rw [zf6 h,h.hm,h.hn,zlx,zcl]
 ·obtain ⟨a1,a2,a3,a4⟩:=h1.mem t ht
  obtain ⟨s,hs,q,rfl⟩:=Lat.ziH ht
  have T:=C.sd s hs
  have e:=Lat.zlu q (by rw [T.len];exact T.hd)
  have ev:Lat.vec (s.drop m) (Lat.hd (s.drop m))=Lat.vec s (Lat.hd s):=by rw [e,Lat.zeb,show m+(Lat.hd s-m)=Lat.hd s by omega]
  exact ⟨a1,a3,a4,by rw [ev];exact T.top,Lat.Bit.of λi=>by rw [Lat.zeb];exact T.bit.vec _⟩
end
theorem sns_st {n:Nat} {tt:Jq} {x:Ji} (h1:1≤n) (h3:n≤3) (e:Lat.Ech n 0 tt) (r:Lat.Red tt) (hs:∀ t∈tt,Lat.Sd n 10744 t) (hx:x.length=n) (hb:Lat.Bit 10744 x) (k:Lat.SpL tt (Lat.vec x)):SnS ⟨(n:Int),tt⟩ x :=
 ⟨n,10744,rfl,h1,by omega,hx,by have:=Lat.zhn e (Nat.zero_le n);show tt.length≤30;omega,Lat.Cb.self ↑0 ↑1 e r hs,hb,k⟩
theorem ztC {n:Nat} {tt:Jq} (h3:n≤3) (e:Lat.Ech n 0 tt) (r:Lat.Red tt) (hs:∀ t∈tt,Lat.Sd n 10744 t):TrQ tt:=by
 have hl:=Lat.zhn e (Nat.zero_le n)
 exact ⟨⟨by omega,λt ht=>by rw [(hs t ht).len];omega⟩,.inr ⟨_,_,Lat.Cb.mark ↑0 ↑1 e r hs⟩⟩
theorem zse {n:Nat} {sw:Jq} (h3:n≤3) (hl:sw.length≤4) (hs:∀ r∈sw,r.length=n∧Lat.Bit 160 r):TrQ sw :=
 ⟨⟨by omega,λt ht=>by rw [(hs t ht).1];omega⟩,.inl ⟨n+sw.length,160,7,by
  have e1:Lat.eB 160 7=1336:=rfl
  have e2:Lat.sB 160 7=10744:=rfl
  refine ⟨by omega,by omega,by omega,?_⟩
  rw [e2]
  have e3:min (n+sw.length) 7≤7:=by omega
  generalize min (n+sw.length) 7=k at *
  have e4:(k+2)*((k+1)*(10744+9000))≤9*(8*19744):=Nat.mul_le_mul ↑0 (Nat.mul_le_mul ↑0 ↑0)
  have e5:(k+1)*(10744+1)≤8*10745:=Nat.mul_le_mul ↑0 ↑0
  omega,by rw [Lat.zlv];omega,Lat.znx hs⟩⟩
theorem znB {n:Nat} {sw:Jq} (h:∀ r∈sw,r.length=n):Lat.zml n (Lat.clm Lat.MG (Lat.mark sw))=Lat.clm Lat.MG sw:=by
 have T:=Lat.zbQ (n:=n+sw.length) (rows:=Lat.mark sw) λm hm=>by
  obtain ⟨i,r,hr,rfl⟩:=Lat.zg2 hm
  rw [List.length_append,h r (List.mem_of_getElem? hr),Lat.zhN]
 refine (Lat.Stairs.cut (rows:=sw) (Nat.le_add_right n _) T.1 (λm hm=>?_) λr hr=>?_).one (Lat.zbQ h).1 (λ_ hr=>Lat.SpL.mem hr) λ_ hr=>Lat.SpL.mem hr
 ·obtain ⟨i,r,hr,rfl⟩:=Lat.zg2 hm
  have hm:=List.mem_of_getElem? hr
  exact ⟨r,hm,by rw [List.take_append_of_le_length (by rw [h r hm];exact Nat.le_refl _),List.take_of_length_le (by rw [h r hm];exact Nat.le_refl _)]⟩
 ·obtain ⟨i,hi⟩:=List.getElem?_of_mem hr
  exact ⟨_,Lat.zkM hi,by rw [List.take_append_of_le_length (by rw [h r hr];exact Nat.le_refl _),List.take_of_length_le (by rw [h r hr];exact Nat.le_refl _)]⟩
theorem zqr {n:Nat} {ss:Jq} {x:Ji} (e:Lat.Ech n 0 ss) (hx:x.length=n):Lat.low x ss=zch (n:Int) [(0:Int)] ↔ Lat.SpL ss (Lat.vec x):=by
 obtain ⟨a1,a2,a3,a4⟩:=Lat.zdf (l:=x) e hx
 refine ⟨λh=>?_,λh=>?_⟩
 ·rw [h] at a2
  exact Lat.Sp.conv a2 λi=>by rw [Lat.zeG];omega
 ·refine Lat.zhY (by rw [a1,Lat.zcg]) λi=>?_
  rw [Lat.zeG]
  exact Lat.zlI e ((Lat.Sp.lin 1 (-1) h a2).conv λi=>by omega) a3 i
theorem zsU {n:Nat} {ss:Jq} {x y:Ji} (e:Lat.Ech n 0 ss) (hx:x.length=n) (hy:y.length=n) (h:Lat.SpL ss (λi=>Lat.vec x i-Lat.vec y i)):Lat.low x ss=Lat.low y ss:=by
 obtain ⟨a1,a2,a3,a4⟩:=Lat.zdf (l:=x) e hx
 obtain ⟨b1,b2,b3,b4⟩:=Lat.zdf (l:=y) e hy
 refine Lat.zhY (by rw [a1,b1]) λi=>?_
 have:=Lat.zih (u:=λi=>Lat.vec (Lat.low x ss) i-Lat.vec (Lat.low y ss) i) e ((Lat.Sp.lin 1 1 (Lat.Sp.lin 1 (-1) h a2) b2).conv λi=>by omega) (λt ht=>by
  have:=a3 t ht;have:=b3 t ht
  show -Lat.vec t (Lat.hd t)<Lat.vec (Lat.low x ss) (Lat.hd t)-Lat.vec (Lat.low y ss) (Lat.hd t)∧Lat.vec (Lat.low x ss) (Lat.hd t)-Lat.vec (Lat.low y ss) (Lat.hd t)<Lat.vec t (Lat.hd t)
  omega) i
 have this:Lat.vec (Lat.low x ss) i-Lat.vec (Lat.low y ss) i=0:=this
 omega
theorem zjK {b:BookD} {n:Nat} (hn:b.many=(n:Int)) (h:∀ r∈b.swaps,r.length=n) (x:Ji):zbX b x=Lat.low x (Lat.clm Lat.MG b.swaps):=by rw [zqi hn,znB h]
theorem zoN {b:BookD} {n:Nat} {x:Ji} (hn:b.many=(n:Int)) (h:∀ r∈b.swaps,r.length=n) (hx:x.length=n):zbX b x=zch (n:Int) [(0:Int)] ↔ Lat.SpL b.swaps (Lat.vec x):=by
 have S:=(Lat.zbQ h).1
 rw [zjK hn h,zqr S.ech hx]
 exact ⟨Lat.SpL.sub S.inn,Lat.SpL.sub S.out⟩
theorem zqh {b:BookD} {n:Nat} {x y:Ji} (hn:b.many=(n:Int)) (h:∀ r∈b.swaps,r.length=n) (hx:x.length=n) (hy:y.length=n) (k:Lat.SpL b.swaps (λi=>Lat.vec x i-Lat.vec y i)):zbX b x=zbX b y:=by
 have S:=(Lat.zbQ h).1
 rw [zjK hn h,zjK hn h]
 exact zsU S.ech hx hy (Lat.SpL.sub S.out k)
theorem zrc {b:BookD} {n:Nat} {x:Ji} (hn:b.many=(n:Int)) (h:∀ r∈b.swaps,r.length=n) (hx:x.length=n):zba b x=true ↔ Lat.SpL b.swaps (Lat.vec x):=by
 unfold zba
 rw [hx,← zoN hn h hx]
 simp
theorem zo8 {N m:Nat} {ss:Jq} {L:Ji} {w:Lat.Vc} (e:Lat.Ech N 0 ss) (a:Lat.SpL ss (λi=>Lat.vec L i-w i)) (hw:∀ i,i<m->w i=0) (k3:∀ t∈ss,0≤Lat.vec L (Lat.hd t)∧Lat.vec L (Lat.hd t)<Lat.vec t (Lat.hd t)):∀ i,i<m->Lat.vec L i=0:=by
 intro i
 induction i using Nat.strongRecOn with
 | _ i ih =>
  intro hi
  refine Classical.byContradiction λz=>?_
  have u0:∀ j,j<i->Lat.vec L j-w j=0:=λj hj=>by rw [ih j hj ↑0,hw j ↑0];rfl
  obtain ⟨t,ht,h1⟩:=Lat.zgK (u:=λi=>Lat.vec L i-w i) (h:=i) e a u0 (by rw [hw i hi];omega)
  have d:=Lat.zig (u:=λi=>Lat.vec L i-w i) e a ht (by rw [h1];exact u0)
  obtain ⟨b1,b2⟩:=k3 t ht
  have d:Lat.vec t (Lat.hd t) ∣ Lat.vec L (Lat.hd t)-w (Lat.hd t):=d
  rw [h1] at d b1 b2
  rw [hw i hi,Int.sub_zero] at d
  exact z ((Int.emod_eq_of_lt b1 b2).symm.trans (Int.emod_eq_zero_of_dvd d))
theorem zqI {n m:Nat} {B S:Jq} {x:Ji} (hn:B.length=n) (hB:∀ r∈B,r.length=m) (hx:x.length=n):Lat.SpL (Lat.zek n B S) (λi=>if i<m then Lat.Snd B (Lat.vec x) i else Lat.vec x (i-m)):=by
 have a1:Lat.SpL (Lat.zek n B S) (λi=>Lat.lsum ((↑32).map λw=>Lat.vec x w*Lat.vec (ixD B (w:Int)++Lat.zf8 B.length (w:Int)) i)):=Lat.zjn (g:=λw=>Lat.vec (ixD B (w:Int)++Lat.zf8 B.length (w:Int))) λw hw=>by
  have hw:=List.mem_range.mp hw
  refine Lat.SpL.mem (List.mem_append_left _ (Lat.zkM (List.getElem?_eq_getElem hw ▸ ?_)))
  rw [zbJ (List.getElem?_eq_getElem hw)]
 refine Lat.Sp.conv a1 λi=>?_
 by_cases q:i<m
 ·rw [if_pos q]
  exact Lat.zbm λw hw=>by rw [Lat.zdV,hB _ (Lat.ze2 (List.mem_range.mp hw)),if_pos q]
 ·rw [if_neg q]
  have e:Lat.lsum ((↑32).map λw=>Lat.vec x w*Lat.vec (ixD B (w:Int)++Lat.zf8 B.length (w:Int)) i)=Lat.lsum ((↑32).map λw=>(if w=i-m then (1:Int) else 0)*Lat.vec x w):=by
   refine Lat.zbm λw hw=>?_
   have hw:=List.mem_range.mp hw
   rw [Lat.zdV,hB _ (Lat.ze2 hw),if_neg q,Lat.zjA hw,Int.mul_comm]
   by_cases z:i-m=w
   ·rw [if_pos z,if_pos z.symm]
   ·rw [if_neg z,if_neg λk=>z k.symm]
  rw [e]
  by_cases z:i-m<B.length
  ·rw [Lat.zfP (f:=Lat.vec x) List.nodup_range (List.mem_range.mpr z)]
  ·rw [Lat.zbL (l:=x) ↑0,show ((↑32).map λw=>(if w=i-m then (1:Int) else 0)*Lat.vec x w)=(↑32).map λ_=>(0:Int) from List.map_congr_left λw hw=>by
    rw [if_neg (by have:=List.mem_range.mp hw;omega)];exact Int.zero_mul _,Lat.zdI]
theorem zk4 {f:SenderD} {n m:Nat} {y x:Ji} (h:SgP f n m) (hy:y.length=m) (hx:x.length=n) (k:Lat.SpL f.second.swaps (λi=>Lat.vec y i-Lat.Snd f.baskets (Lat.vec x) i)):∃ z:Ji,zaN f y=some z∧z.length=n∧Lat.SpL f.second.swaps (λi=>Lat.vec y i-Lat.Snd f.baskets (Lat.vec z) i):=by
 have C:=zmo h
 have S:=C.stairs
 have hB:∀ r∈f.baskets,r.length=m:=λr hr=>(h.bb r hr).1
 have hS:∀ r∈f.second.swaps,r.length=m:=λr hr=>(h.sb r hr).1
 have ev:∀ i,Lat.vec ↑90 i=-Lat.vec y i:=λi=>by rw [Lat.zgy,Lat.zdR];omega
 have el:(↑90).length=m+n:=by rw [List.length_append,Lat.zbr,hy,Lat.zcg]
 unfold zaN zei Let
 rw [zf6 h,h.hn,zdA,show zaq y ⇑5=Lat.mul y ⇑5 from rfl]
 obtain ⟨k1,k2,k3,k4⟩:=Lat.zdf (l:=Lat.mul y ⇑5++zch (n:Int) [(0:Int)]) S.ech el
 generalize Lat.low ↑90 (Lat.clm Lat.MG ↑45)=L at *
 have a1:Lat.SpL ↑45 (λi=>Lat.vec y i-Lat.Snd f.baskets (Lat.vec x) i):=Lat.SpL.sub (λs hs=>by
  have:=Lat.SpL.mem (ss:=Lat.zek n f.baskets f.second.swaps) (List.mem_append_right _ (List.mem_map.mpr ⟨s,hs,rfl⟩))
  rwa [Lat.zgy] at this) k
 have a2:Lat.SpL ↑45 (λi=>if i<m then Lat.Snd f.baskets (Lat.vec x) i else Lat.vec x (i-m)):=zqI h.hb hB hx
 have a3:Lat.SpL (Lat.clm Lat.MG ↑45) (λi=>Lat.vec L i-(if i<m then 0 else Lat.vec x (i-m))):=(Lat.Sp.lin 1 (-1) (Lat.Sp.lin (-1) (-1) k2 (Lat.SpL.sub S.out a1)) (Lat.SpL.sub S.out a2)).conv λi=>by
  rw [ev i]
  by_cases q:i<m
  ·rw [if_pos q,if_pos q];omega
  ·rw [if_neg q,if_neg q,Lat.zoa hB ↑0,Lat.zbL (l:=y) ↑0];omega
 have z0:∀ i,i<m->Lat.vec L i=0:=zo8 S.ech a3 (λi hi=>if_pos hi) k3
 have hc:(zcQ L none (some ((y.length:Nat):Int))).any (· != 0)=false:=by
  rw [hy,zlH,List.any_eq_false]
  intro c hc
  obtain ⟨j,hj,rfl⟩:=Lat.zjT hc
  rw [List.length_take] at hj
  rw [Lat.zeY,if_pos ↑0,z0 j ↑0]
  simp
 dsimp only
 rw [hc,cond_false,hy,Lat.zeV]
 refine ⟨_,rfl,by rw [List.length_drop,k1];omega,?_⟩
 refine ((Lat.zl5 h.hb hB hS (Lat.SpL.sub S.inn k2)).smul (-1)).conv λi=>?_
 have e:(λw=>Lat.vec ↑90 (m+w)-Lat.vec L (m+w))=λw=>(0:Int)+(-1)*Lat.vec (L.drop m) w:=funext λw=>by
  rw [ev,Lat.zbL (l:=y) ↑0,Lat.zeb];omega
 show -1*((if i<m then Lat.vec ↑90 i-Lat.vec L i else 0)-Lat.Snd f.baskets (λw=>Lat.vec ↑90 (m+w)-Lat.vec L (m+w)) i)=_
 rw [e,Lat.zje (u:=λ_=>0) (-1) i,Lat.zhQ]
 by_cases q:i<m
 ·rw [if_pos q,ev,z0 i q];omega
 ·rw [if_neg q,Lat.zbL (l:=y) ↑0];omega
section
variable {f:SenderD} {n m c:Nat} {x y z:Ji}
theorem znJ {N s a:Nat} {rows:Jq} (C:Lat.Cb N s rows) (hs:s≤20000) (hx:x.length=N) (hb:Lat.Bit a x) (ha:a≤1000000):Lat.LowP x (Lat.clm Lat.MG rows):=by
 have hl:=C.len (i:=rows.length)
 rw [List.take_length] at hl
 have hN:=C.1
 have:=Nat.mul_le_mul (show ((Lat.clm Lat.MG rows)).length≤9 by omega) (show s+1≤20001 by omega)
 exact ⟨N,a,s,by omega,hx,by omega,hb,C.sd,by omega⟩
theorem zgO (h:SgP f n m) (hx:x.length=n):(zad f x).length=m∧Lat.vec (zad f x)=Lat.Snd f.baskets (Lat.vec x):=by
 obtain ⟨k1,k2⟩:=zfM (S:=f) (x:=x) h.hm (λr hr=>(h.bb r hr).1) h.hb hx
 exact ⟨k1,funext λi=>by rw [k2 i];unfold Lat.Snd;rw [h.hb]⟩
theorem zoX (h:SgP f n m) (hx:x.length=n) (hb:Lat.Bit c x):Lat.Bit (3+(c+160)) (zad f x) :=
 zkU (a:=f.first) (b:=f.second) (bs:=f.baskets) h.hm h.bb h.hb (by have:=h.n3;omega) hx hb
theorem zmu (h:SgP f n m) (hx:x.length=n) (hb:Lat.Bit 400 x):SeP f x :=
 ⟨by rw [hx,h.hn],m,h.hm,by have:=h.m3;omega,λr hr=>(h.bb r hr).1,λp hp y hy=>Lat.zeI.of ((h.bb _ ((List.of_mem_zip hp)).1).2 y hy) (hb _ ((List.of_mem_zip hp)).2) ↑1 ↑1⟩
theorem zjv (hy:y.length=m) (hb:Lat.Bit c y):((zaq y ⇑5++zch (n:Int) [(0:Int)])).length=m+n∧Lat.Bit c (zaq y ⇑5++zch (n:Int) [(0:Int)]) :=
 ⟨by rw [List.length_append,show (zaq y ⇑5).length=y.length from Lat.zbr,hy,Lat.zcg],Lat.Bit.of λi=>by
  have e:Lat.vec (zaq y ⇑5++zch (n:Int) [(0:Int)]) i=-Lat.vec y i:=by
   rw [Lat.zgy,show Lat.vec (zaq y ⇑5) i=Lat.vec y i*-1 from Lat.zdR];omega
  rw [e,Int.natAbs_neg];exact hb.vec i⟩
theorem zs8 (h:SgP f n m) (hy:y.length=m) (hb:Lat.Bit 400 y):BaP f y:=by
 have z1:=h.hn;have z2:=h.n3;have z3:=h.m3
 refine ⟨by rw [hy,h.hm],zsT h,by omega,by omega,by omega,?_⟩
 rw [zf6 h,h.hn]
 exact znJ (zmo h) ↑1 (zjv hy hb).1 (zjv hy hb).2 ↑1
theorem zpq (h:SgP f n m) (hy:y.length=m) (hb:Lat.Bit 400 y) (e:zaN f y=some z):Lat.Bit 200000 z:=by
 have C:=zmo h
 have hl:=C.len (i:=(↑45).length)
 rw [List.take_length] at hl
 have L:=Lat.zgz C.sd (zjv hy hb).1 (zjv hy hb).2
 have z2:=h.n3;have z3:=h.m3
 have:=Nat.mul_le_mul_right (10744+1) (show ((Lat.clm Lat.MG ↑45)).length≤6 by omega)
 have L:=L.mono (b:=200000) ↑0
 unfold zaN zei Let at e
 rw [zf6 h,h.hn,zdA] at e
 generalize Lat.low (zaq y ⇑5++zch (n:Int) [(0:Int)]) (Lat.clm Lat.MG ↑45)=l at *
 dsimp only at e
 cases q:(zcQ l none (some ((y.length:Nat):Int))).any (· != 0) with
 | true=>rw [q,cond_true] at e;cases e
 | false =>
  rw [q,cond_false] at e
  cases e
  rw [Lat.zeV]
  exact λv hv=>L v (List.mem_of_mem_drop hv)
theorem zo6 (h:SgP f n m):LoP f:=by
 have hl:=(zmo h).len (i:=(↑45).length)
 rw [List.take_length] at hl
 have z2:=h.n3;have z3:=h.m3
 refine ⟨zsT h,by rw [zf6 h];omega,?_⟩
 show (zej _ _).length≤1000
 rw [zf6 h,h.hm,zlx]
 unfold Lat.zgp
 rw [List.length_map]
 exact Nat.le_trans (List.length_filter_le _ _) ↑0
theorem znO (h:SgP f n m) (hx:x.length=n) (hb:Lat.Bit 400 x):SnS ⟨f.second.many,f.second.swaps++f.baskets⟩ (zad f x):=by
 obtain ⟨k1,k2⟩:=zgO h hx
 have z1:=h.hb;have z2:=h.hs;have z3:=h.n3
 refine zov (n:=m) h.hm h.m1 h.m3 (by show ((f.second.swaps++f.baskets)).length≤7;rw [List.length_append];omega) (λr hr=>?_) k1 ((zoX h hx hb).mono ↑1) ?_
 ·rcases List.mem_append.mp hr with hr | hr
  ·exact h.sb r hr
  ·exact h.bb r hr
 ·rw [k2]
  exact Lat.zjn (c:=Lat.vec x) (g:=λw=>Lat.vec (ixD f.baskets (w:Int))) λw hw=>Lat.SpL.mem (List.mem_append_right _ (Lat.ze2 (List.mem_range.mp hw)))
theorem ztY (h:SgP f n m) (hx:x.length=n) (hb:Lat.Bit 400 x):BrP f (zad f x):=by
 have z1:=h.hb;have z2:=h.hs;have z3:=h.n3
 exact ⟨by rw [(zgO h hx).1,h.hm],zan ↑0,by show ((f.second.swaps++f.baskets)).length≤1000;rw [List.length_append];omega,znO h hx hb⟩
theorem zsv (h:SgP f n m) (hx:x.length=n) (hb:Lat.Bit 400 x):zcb f (zad f x)=none:=by
 unfold zcb zfJ
 rw [zcl]
 show (m_shown ⟨f.second.many,f.second.swaps++f.baskets⟩ (zad f x)).2=none
 rw [zn6 (znO h hx hb)]
theorem zuE {tt:Jq} (h3:n≤3) (e:Lat.Ech n 0 tt) (r:Lat.Red tt) (hs:∀ t∈tt,Lat.Sd n 10744 t) (hx:x.length=n) (hb:Lat.Bit 200000 x):zb7 ⟨(n:Int),tt⟩ x:=by
 refine ⟨by rw [hx],⟨ztC h3 e r hs,by show (0:Int)≤(n:Int);omega,by show (n:Int)≤100;omega⟩,?_⟩
 rw [ziq (n:=n) rfl]
 show Lat.LowP x (Lat.zml n (Lat.clm Lat.MG (Lat.mark tt)))
 rw [znB λt ht=>(hs t ht).len]
 exact znJ (Lat.Cb.self ↑0 ↑1 e r hs) ↑1 hx hb ↑1
theorem zso {b:BookD} (hn:b.many=(n:Int)) (h3:n≤3) (hl:b.swaps.length≤4) (hs:∀ r∈b.swaps,r.length=n∧Lat.Bit 160 r) (hx:x.length=n) (hb:Lat.Bit 200000 x):zb7 b x:=by
 refine ⟨by rw [hx,hn],⟨zse h3 hl hs,by omega,by omega⟩,?_⟩
 rw [ziq hn]
 show Lat.LowP x (Lat.zml n (Lat.clm Lat.MG (Lat.mark b.swaps)))
 rw [znB λt ht=>(hs t ht).1]
 exact znJ (Lat.Cb.fit (R:=7) (b:=160) (ztS ↑0) ↑0 ↥7 ↑1 ↑0 hs) ↑1 hx hb ↑1
theorem zqO {B S tt:Jq} {u:Lat.Vc} (h:∀ t∈tt,Lat.SpL S (Lat.Snd B (Lat.vec t))) (k:Lat.SpL tt u):Lat.SpL S (Lat.Snd B u) :=
 Lat.Sp.image (A:=λa=>∃ t∈tt,a=Lat.vec t) (B:=λa=>∃ s∈S,a=Lat.vec s) (g:=Lat.Snd B) (λi=>Lat.zhQ i) (λu a x i=>Lat.zje x i) (λa ⟨t,ht,e⟩=>e ▸ h t ht) k
theorem zpJ (h:SgP f n m) (hx:x.length=n) (hb:Lat.Bit 200000 x):zb7 (zai f) x:=by
 obtain ⟨tt,e,h1,h2,h3,h4,h5⟩:=ziE h
 rw [e];exact zuE h.n3 h1 h2 h3 hx hb
theorem zqb (h:SgP f n m) (hx:x.length=n):zba (zai f) x=true ↔ Lat.SpL f.second.swaps (Lat.vec (zad f x)):=by
 obtain ⟨tt,e,h1,h2,h3,h4,h5⟩:=ziE h
 rw [e,zrc (n:=n) rfl (λt ht=>(h3 t ht).len) hx,(zgO h hx).2]
 refine ⟨λk=>zqO h4 k,h5 x hx⟩
end
structure GdP (ss:List SenderD) (ls:List BookD) (x:Ji):Prop where
 three:ss.length=3
 lx:ls.length=3
 s1:SeP (ixD ss (0:Int)) x
 l2:zc5 (ixD ls (2:Int)) x
 l1:zc5 (ixD ls (1:Int)) (zad (ixD ss (0:Int)) x)
 ba:BaP (ixD ss (0:Int)) (zad (ixD ss (0:Int)) x)
 br:BrP (ixD ss (0:Int)) (zad (ixD ss (0:Int)) x)
 so:(zaN (ixD ss (0:Int)) (zad (ixD ss (0:Int)) x)).isSome=true
 h0:zb7 (ixD ls (0:Int)) (gS (zaN (ixD ss (0:Int)) (zad (ixD ss (0:Int)) x)))
 h1:zb7 (ixD ls (0:Int)) x
 s2:SeP (ixD ss (1:Int)) (zad (ixD ss (0:Int)) x)
 h2:zb7 (ixD ss (1:Int)).second (zad (ixD ss (1:Int)) (zad (ixD ss (0:Int)) x))
 s3:SeP (ixD ss (2:Int)) x
 h3:zb7 (ixD ss (2:Int)).second (zad (ixD ss (2:Int)) x)
theorem zpi {ss:List SenderD} {ls:List BookD} {x:Ji} {k:Int} (h:GdP ss ls x) (hk:0≤k∧k<3):InB ls.length k:=by have:=h.lx;unfold InB;omega
def plU (b:BookD):Jq:=List.map (λ(k:Int)=>(List.map (λ(j:Int)=>(if (decide (j=k)) then 1 else 0)) (za6 0 b.many.toNat))) (za6 0 b.many.toNat)
def plS (b:BookD):SenderD:=m_Sender b b (plU b)
structure PlP (f:SenderD) (b:BookD):Prop where
 n0:0≤b.many
 n1:b.many≤1000
 si:SiP b b (plU b)
 se:SeP (plS b) (za6 0 b.many.toNat)
 ba:BaP (plS b) (za6 0 b.many.toNat)
 so:(zaN (plS b) (za6 0 b.many.toNat)).isSome=true
 z1:(zad (plS b) (za6 0 b.many.toNat)).length<PySem.sizeLine
 z2:(gS (zaN (plS b) (za6 0 b.many.toNat))).length<PySem.sizeLine
 lo:LoP (plS b)
 w1:WiQ (zai (plS b)) b
 w2:WiQ b (zai (plS b))
 bh:BhP (plS b) f
theorem zrS {f:SenderD} {b:BookD} (h:PlP f b):-(2^62)≤b.many∧b.many<2^62:=by have:=h.n0;have:=h.n1;omega
theorem ztz {f:SenderD} {b:BookD} (h:PlP f b):((za6 0 b.many.toNat)).length≤PySem.sizeLine:=zan (by rw [zaY];have:=h.n1;omega)
def zcJ (P0:(List SenderD)) (P1:(List BookD)) (P2:Ji):Bool :=
 (Let P0 (λ(p348:(List SenderD))=>(Let (zad (ixD p348 (0:Int)) P2) (λ(v349:Ji)=>(bif (!decide ((zba (ixD P1 (2:Int)) P2)=(zba (ixD P1 (1:Int)) v349))) then false else (Let (zaN (ixD p348 (0:Int)) v349) (λ(v351:(Option Ji))=>(bif (v351.isNone||(zcb (ixD p348 (0:Int)) v349).isSome) then false else (bif (!decide ((zbX (ixD P1 (0:Int)) (gS v351))=(zbX (ixD P1 (0:Int)) P2))) then false else (Let (zbX (((ixD p348 (1:Int))).second) (zad (ixD p348 (1:Int)) v349)) (λ(hv354:Ji)=>(decide ((zbX (((ixD p348 (2:Int))).second) (zad (ixD p348 (2:Int)) P2))=hv354)))))))))))))
def zeT (P0:(List SenderD)) (P1:(List BookD)) (P2:Ji):Prop:=GdP P0 P1 P2
def zgw (K:W.Frag) (A:Adr):Sp:=Spv (ι:=(List SenderD)×(List BookD)×Ji) (λx=>[dL (List.map (zaQ A A.Sender) x.1),dQ K (List.map (zaM A.Book) x.2.1),dQ K (List.map dI x.2.2)]) (λx=>zeT x.1 x.2.1 x.2.2) (λx=>↥[dB (zcJ x.1 x.2.1 x.2.2)])
theorem zdt:FnScope ["_law_senders","_law_lost_here","_law_basket","_law_first","_law_second","_law_both","_law_sent","_law_back","_law_here"] ["_law_senders","_law_lost_here","_law_basket"] (zaf zev):=↑4
theorem zlr (F:Fun K "_law_good" "_law_good" zev f fd) (T:Txt K mg A) (yaq:CalleeM P w K mg base ⇑1 7 A.Sender "back" ["self","basket"] (zd8 K A)) (ya9:CalleeM P w K mg base ⇑1 7 A.Sender "bar" ["self","basket"] (zfq K A)) (yae:CalleeM P w K mg base ⇑1 3 A.Sender "sent" ["self","basket"] (zcI K A)) (ya5:Callee P w K mg base ⇑1 9 "_law_lost" ["_law_book_here","_law_basket"] (zgn K A)) (yaK:Callee P w K mg base ⇑1 8 "home" ["book","basket"] (zjw K A)):FnOk P w K mg base ⇑1 10 f fd ["_law_senders","_law_lost_here","_law_basket"] (zgw K A):=by
 refine F.okV zdt ↥3 ↑6
 obtain ⟨P0,P1,P2⟩:=x
 have hu:=hr.units
 replace hp:zeT P0 P1 P2:=hp
 unfold zeT at hp
 refine ⟨_,(zac (zgS (pv 0) (zsq (n:=3) rfl (zaH (zao (i:=3) zdt.nd rfl ⇑0 ⇑0) (zaH (zao (i:=4) zdt.nd rfl ⇑0 ⇑0) (zaH (zao (i:=5) zdt.nd rfl ⇑0 ⇑0) zcA))))) (zac (zat (i:=6) zdt.nd rfl ⇑0 (zfC (pv 3) T.Sender_cl yae ↥1 zav ↑[pv 2])) (zac (zcD (zaI zhk (zaF ya5 ↥1 rfl zav ↑[(za1 ⇑6 (pv 1) zaj ↑3),pv 2]) (zaF ya5 ↥1 rfl zav ↑[(za1 ⇑6 (pv 1) zaj ↑3),pv 6]) (zaW _)) (zac (zaO zjN) zah) zah) (zac (zat (i:=7) zdt.nd rfl ⇑0 (zfC (pv 3) T.Sender_cl yaq ↥1 zav ↑[pv 6])) (zac (zcD (PW.pt (zou (zaI zr4 (pv 7) zfQ (zaW _)) (zkh (zaI zgB (zfC (pv 3) T.Sender_cl ya9 ↥1 zav ↑[pv 6]) zfQ (zaW _))))) (zac (zaO zjN) zah) zah) (zac (zcD (zaI (zlb (K:=K) rfl hu) (zaF yaK ↥1 rfl zav ↑[(za1 ⇑6 (pv 1) zaj ↑3),pv 7]) (zaF yaK ↥1 rfl zav ↑[(za1 ⇑6 (pv 1) zaj ↑3),pv 2]) (zaW _)) (zac (zaO zjN) zah) zah) (zac (zat (i:=8) zdt.nd rfl ⇑0 (zaF yaK ↥1 rfl zav ↑[(zas (K:=K) rfl (pv 4) rfl),zfC (pv 4) T.Sender_cl yae ↥1 zav ↑[pv 6]])) (zac (zaO (zg9 (zkJ (K:=K) rfl hu) (zaF yaK ↥1 rfl zav ↑[(zas (K:=K) rfl (pv 5) rfl),zfC (pv 5) T.Sender_cl yae ↥1 zav ↑[pv 2]]) (pv 8) (zaW _))) zah)))))))),.inl ?_⟩
 show L2.Run _ ([⇑[dL (List.map (zaQ A A.Sender) P0)],⇑[dQ K (List.map (zaM A.Book) P1)],⇑[dQ K (List.map dI P2)],.no,.no,.no,.no,.no,.no]:L2.Ctx) _ (↥8 (zcJ P0 P1 P2))
 unfold zcJ
 exact (zkb (m:=false) (xs:=P0) (f:=(zaQ A A.Sender)) ↥8 ↑2 ↥(hp.three) (λp348 hp348=>have h3:=hp348;(zar (m:=true) (x:=(zad (ixD p348 (0:Int)) P2)) lI ↥8 (zc4 (x:=((ixD p348 (0:Int)),P2)) ⇑9 (zab ↑18 zag) rfl (by show zbh (ixD p348 (0:Int)) P2;cases h3;exact hp.s1) rfl rfl) (λv349 hv349=>have hS:=hv349;(zbo (b:=(!decide ((zba (ixD P1 (2:Int)) P2)=(zba (ixD P1 (1:Int)) v349)))) ↥8 (zaA (zsa (x:=(zba (ixD P1 (2:Int)) P2)) (y:=(zba (ixD P1 (1:Int)) v349)) (Ev.any (m:=true) (zam (x:=((ixD P1 (2:Int)),P2)) (zab (zbg (f:=(zaM A.Book)) (xs:=P1) ⇑2 zaL ↥(zpi hp ↑1)) (zab ↑18 zag)) rfl (by show zc5 (ixD P1 (2:Int)) P2;exact hp.l2) rfl)) (Ev.any (m:=true) (zam (x:=((ixD P1 (1:Int)),v349)) (zab (zbg (f:=(zaM A.Book)) (xs:=P1) ⇑2 zaL ↥(zpi hp ↑1)) (zab (Ev.old (Ev.weak (K:=K) (zaa (i:=6) rfl))) zag)) rfl (by show zc5 (ixD P1 (1:Int)) v349;cases h3;cases hS;exact hp.l1) rfl)))) (λh350=>(zaJ (zal (zaE zaL)))) (λh350=>(zay (zar (m:=true) (x:=(zaN (ixD p348 (0:Int)) v349)) (dOpt lI) ↥8 (zc4 (x:=((ixD p348 (0:Int)),v349)) ⇑9 (zab (Ev.old (Ev.weak (K:=K) (zaa (i:=6) rfl))) zag) rfl (by show zcW (ixD p348 (0:Int)) v349;cases h3;cases hS;exact hp.ba) rfl rfl) (λv351 hv351=>have hB:=hv351;(zbo (b:=(v351.isNone||(zcb (ixD p348 (0:Int)) v349).isSome)) ↥8 (zj3 (b:=v351.isNone) (zaA (zm2 (x:=v351) (f:=lI) (Ev.old (zaa (i:=7) rfl)) zaL NN.lst)) (λhb=>(zaA (zcZ (x:=(zcb (ixD p348 (0:Int)) v349)) (f:=(dSc A)) (Ev.old (zc4 (x:=((ixD p348 (0:Int)),v349)) ⇑9 (zab (Ev.old (zaa (i:=6) rfl)) zag) rfl (by show zd3 (ixD p348 (0:Int)) v349;cases h3;cases hS;exact hp.br) rfl rfl)) zaL ztR)))) (λh352=>(zaJ (zal (zaE zaL)))) (λh352=>(zay (zbo (b:=(!decide ((zbX (ixD P1 (0:Int)) (gS v351))=(zbX (ixD P1 (0:Int)) P2)))) ↥8 (zaA (zi7 (n:=0) (neg:=true) (xs:=(zbX (ixD P1 (0:Int)) (gS v351))) (ys:=(zbX (ixD P1 (0:Int)) P2)) EqD.int (Ev.old (Ev.weak (K:=K) (zam (x:=((ixD P1 (0:Int)),(gS v351))) (zab (zbg (f:=(zaM A.Book)) (xs:=P1) ⇑2 zaL ↥(zpi hp ↑1)) (zab (Ev.old (Ev.weak (K:=K) (ev_some (f:=lI) (x:=v351) (zaa (i:=7) rfl) (by cases h3;cases hS;cases hB;exact hp.so)))) zag)) rfl (by show zb7 (ixD P1 (0:Int)) (gS v351);cases h3;cases hS;cases hB;exact hp.h0) rfl))) (Ev.old (Ev.weak (K:=K) (zam (x:=((ixD P1 (0:Int)),P2)) (zab (zbg (f:=(zaM A.Book)) (xs:=P1) ⇑2 zaL ↥(zpi hp ↑1)) (zab ↑18 zag)) rfl (by show zb7 (ixD P1 (0:Int)) P2;exact hp.h1) rfl))))) (λh353=>(zaJ (zal (zaE zaL)))) (λh353=>(zay (zar (m:=true) (x:=(zbX (((ixD p348 (1:Int))).second) (zad (ixD p348 (1:Int)) v349))) lI ↥8 (zam (x:=(((ixD p348 (1:Int))).second,(zad (ixD p348 (1:Int)) v349))) (zab (zaU ↑14 T.Sender_cl T.Sender_second rfl) (zab (Ev.old (Ev.weak (K:=K) (zc4 (x:=((ixD p348 (1:Int)),v349)) ↑14 (zab (Ev.old (Ev.weak (K:=K) (zaa (i:=6) rfl))) zag) rfl (by show zbh (ixD p348 (1:Int)) v349;cases h3;cases hS;exact hp.s2) rfl rfl))) zag)) rfl (by show zb7 (((ixD p348 (1:Int))).second) (zad (ixD p348 (1:Int)) v349);cases h3;cases hS;exact hp.h2) rfl) (λhv354 hhere354=>(zal (zaE (zi7 (n:=0) (neg:=false) (xs:=(zbX (((ixD p348 (2:Int))).second) (zad (ixD p348 (2:Int)) P2))) (ys:=hv354) EqD.int (Ev.old (Ev.weak (K:=K) (zam (x:=(((ixD p348 (2:Int))).second,(zad (ixD p348 (2:Int)) P2))) (zab (zaU ↑23 T.Sender_cl T.Sender_second rfl) (zab (Ev.old (Ev.weak (K:=K) (zc4 (x:=((ixD p348 (2:Int)),P2)) ↑23 (zab ↑18 zag) rfl (by show zbh (ixD p348 (2:Int)) P2;cases h3;exact hp.s3) rfl rfl))) zag)) rfl (by show zb7 (((ixD p348 (2:Int))).second) (zad (ixD p348 (2:Int)) P2);cases h3;exact hp.h3) rfl))) (Ev.old (Ev.weak (K:=K) (zaa (i:=8) rfl)))))))))))))))))))))))
def zce (P0:SenderD) (P1:BookD):Bool :=
 (Let (List.map (λ(x355:Int)=>(List.map (λ(x358:Int)=>(if (decide (x358=x355)) then 1 else 0)) (za6 0 P1.many.toNat))) (za6 0 P1.many.toNat)) (λ(v361:Jq)=>(Let (m_Sender P1 P1 v361) (λ(plain_one362:SenderD)=>(Let (za6 0 P1.many.toNat) (λ(v363:Ji)=>(bif (!decide (v363=(za6 0 P1.many.toNat))) then false else (Let (zai plain_one362 ) (λ(v365:BookD)=>(bif ((zbe v365 P1).isSome||(zbe P1 v365).isSome) then false else (decide ((zaV plain_one362 P0).baskets=P0.baskets))))))))))))
def zeq (P0:SenderD) (P1:BookD):Prop:=PlP P0 P1
def zfO (K:W.Frag) (A:Adr):Sp:=Spv (ι:=SenderD×BookD) (λx=>[zaQ A A.Sender x.1,zaM A.Book x.2]) (λx=>zeq x.1 x.2) (λx=>↥[dB (zce x.1 x.2)])
theorem zeh:FnScope ["_law_first","_law_book_here","_law_units","_law_plain_one","_law_basket","_law_lost_here"] ["_law_first","_law_book_here"] (zaf zdr):=↑4
theorem zkl (F:Fun K "_law_plain" "_law_plain" zdr f fd) (T:Txt K mg A) (yaq:CalleeM P w K mg base ⇑1 7 A.Sender "back" ["self","basket"] (zd8 K A)) (yao:CalleeM P w K mg base ⇑1 9 A.Sender "behind" ["self","other"] (zdp K A)) (yam:CalleeM P w K mg base ⇑1 7 A.Sender "lost" ["self"] (zd2 K A)) (yae:CalleeM P w K mg base ⇑1 3 A.Sender "sent" ["self","basket"] (zcI K A)) (yaA:Callee P w K mg base ⇑1 7 "within" ⇑4 (zgM K A)) {yaz:Addr} {yat:FuncData} (yas:Mk K A.Sender yaz) (yaf:FnOk P w K mg base ⇑1 7 yaz yat ["self","first","second","baskets"] (zcR K A)) (yag:zfA K yat ["self","first","second","baskets"] []):FnOk P w K mg base ⇑1 10 f fd ["_law_first","_law_book_here"] (zfO K A):=by
 refine F.okV zeh ↥3 ↑6
 obtain ⟨P0,P1⟩:=x
 have hu:=hr.units
 replace hp:zeq P0 P1:=hp
 unfold zeq at hp
 refine ⟨_,(zac (zdB (i:=2) rfl zeh.nd rfl rfl (.of (osc:=(zaf zdr)) (N:=["_law_first","_law_book_here","_law_units","_law_plain_one","_law_basket","_law_lost_here"]) (own:=["_law_k"]) (fvn:=["_law_book_here"]) (fv:=[1]) rfl rfl ↥5) (zbY rfl T.range ↑[↑28]) (λ_ _ _ _ _=>⟨(zao (i:=0) (show (["_law_k","_law_book_here"]:List Str).Nodup by decide +kernel) rfl ↥6 ⇑0),zbc,(zcf rfl (.of (osc:=({ kind:=.function,names:=[(".0",.local),("_law_k",.cell),("range",.globalImplicit),("_law_book_here",.cell)],isGenerator:=false,isCoroutine:=false }:Scope)) (N:=["_law_k","_law_book_here"]) (own:=["_law_j"]) (fvn:=["_law_k"]) (fv:=[0]) rfl rfl ↥5) (zbY rfl T.range ↑[↑28]) (λ_ _ _ _ _=>⟨(zao (i:=0) (show (["_law_j","_law_k"]:List Str).Nodup by decide+kernel) rfl ⇑0 ↥6),zbc,(zdm ziA rfl T.int ↥5 ↑[zg9 zhF (pv 0) (pv 1) (zaW _)])⟩))⟩)) (zac (zat (i:=3) zeh.nd rfl ⇑0 (zfI yas yaf ↥1 rfl T.Sender yag .nil zav ↑[pv 1,pv 1,pv 2])) (zac (zat (i:=4) zeh.nd rfl ⇑0 (ziZ rfl rfl T.list rfl T.range ↑[↑28])) (zac (zci (zb1 (K:=K) rfl (zfC (pv 3) T.Sender_cl yae ↥1 zav ↑[pv 4]) ↑[zaj])) (zac (zci (zb1 (K:=K) rfl (zfC (pv 3) T.Sender_cl yaq ↥1 zav ↑[pv 4]) ↑[zaj])) (zac (zcD (zaI (zlb (K:=K) rfl hu) (pv 4) (ziZ rfl rfl T.list rfl T.range ↑[↑28]) (zaW _)) (zac (zaO zjN) zah) zah) (zac (zat (i:=5) zeh.nd rfl ⇑0 (zg7 (pv 3) T.Sender_cl yam ↥1 zav)) (zac (zcD (PW.pt (zou (zaI zgB (zaF yaA ↥1 rfl zav ↑[pv 5,pv 1]) zfQ (zaW _)) (zkh (zaI zgB (zaF yaA ↥1 rfl zav ↑[pv 1,pv 5]) zfQ (zaW _))))) (zac (zaO zjN) zah) zah) (zac (zaO (zg9 (zkJ (K:=K) rfl hu) (zas (K:=K) rfl (zfC (pv 3) T.Sender_cl yao ↥1 zav ↑[pv 0]) rfl) ↑9 (zaW _))) zah))))))))),.inl ?_⟩
 show L2.Run _ ([⇑[zaQ A A.Sender P0],⇑[zaM A.Book P1],.no,.no,.no,.no]:L2.Ctx) _ (↥8 (zce P0 P1))
 unfold zce
 exact (zar (m:=true) (x:=(List.map (λ(x355:Int)=>(List.map (λ(x358:Int)=>(if (decide (x358=x355)) then 1 else 0)) (za6 0 P1.many.toNat))) (za6 0 P1.many.toNat))) ↑40 ↥8 (EvO.ev (EvO.conv (zbS (g:=(λ(x355:Int)=>dL (List.map dI (List.map (λ(x358:Int)=>(if (decide (x358=x355)) then 1 else 0)) (za6 0 P1.many.toNat))))) (zdv (m:=true) (n:=P1.many) ↑51 ↥(zrS hp)) ↥(ztz hp) ↑5 (λi356 x355 hx357=>have v357:=zbs hx357;(EvO.ev (EvO.conv (zbS (g:=(λ(x358:Int)=>dI (if (decide (x358=x355)) then 1 else 0))) (zdv (m:=true) (n:=P1.many) ↑51 ↥(zrS hp)) ↥(ztz hp) ↑5 (λi359 x358 hx360=>have v360:=zbs hx360;(zk2 (b:=(decide (x358=x355))) (zab (zfw (x:=x358) (y:=x355) (Ev.any (m:=true) ↑2) (Ev.any (m:=true) ⇑2)) zag)))) ↑8)))) ↑8)) (λv361 hv361=>have hU:=hv361;(zar (m:=false) (x:=(m_Sender P1 P1 v361)) (zaQ A A.Sender) ↥8 (zhV (x:=(P1,P1,v361)) (zab ⇑2 (zab ⇑2 (zab (Ev.old ↑11) zag))) rfl (by show zbf P1 P1 v361;cases hU;exact hp.si)) (λplain_one362 hplain_one362=>have hO:=hplain_one362;(zar (m:=true) (x:=(za6 0 P1.many.toNat)) lI ↥8 (EvO.ev (EvO.anyI (m:=true) (zi4 ↑51 ↥(⟨hp.n0,hp.n1⟩)))) (λv363 hv363=>have hB:=hv363;(ziV (m:=true) rfl (zlS (zlP (zc4 (x:=(plain_one362,v363)) ⇑9 (zab (Ev.weak (K:=K) ↑14) zag) rfl (by show zbh plain_one362 v363;cases hU;cases hO;cases hB;exact hp.se) rfl rfl))) zaL (by cases hU;cases hO;cases hB;exact hp.z1) (ziV (m:=true) rfl (zo3 (zlP (zc4 (x:=(plain_one362,v363)) ⇑9 (zab (Ev.weak (K:=K) ↑14) zag) rfl (by show zcW plain_one362 v363;cases hU;cases hO;cases hB;exact hp.ba) rfl rfl)) (by cases hU;cases hO;cases hB;exact hp.so)) zaL (by cases hU;cases hO;cases hB;exact hp.z2) (zbo (b:=(!decide (v363=(za6 0 P1.many.toNat)))) ↥8 (zaA (zi7 (n:=0) (neg:=true) (xs:=v363) (ys:=(za6 0 P1.many.toNat)) EqD.int (Ev.old (Ev.weak (K:=K) ↑14)) (Ev.weak (K:=K) (EvO.ev (EvO.anyI (m:=true) (zi4 ↑51 ↥(⟨hp.n0,hp.n1⟩))))))) (λh364=>(zaJ (zal (zaE zaL)))) (λh364=>(zay (zar (m:=true) (x:=(zai plain_one362 )) (zaM A.Book) ↥8 (zc4 (x:=(plain_one362)) ⇑9 zag rfl (by show zbW plain_one362;cases hU;cases hO;exact hp.lo) rfl rfl) (λv365 hv365=>have hL:=hv365;(zbo (b:=((zbe v365 P1).isSome||(zbe P1 v365).isSome)) ↥8 (zj3 (b:=(zbe v365 P1).isSome) (zaA (zcZ (x:=(zbe v365 P1)) (f:=↑82) (Ev.old (zam (x:=(v365,P1)) (zab (Ev.old ↑23) (zab ⇑2 zag)) rfl (by show zdT v365 P1;cases hU;cases hO;cases hL;exact hp.w1) rfl)) zaL NN.tup)) (λhb=>(zaA (zcZ (x:=(zbe P1 v365)) (f:=↑82) (Ev.old (zam (x:=(P1,v365)) (zab ⇑2 (zab (Ev.old ↑23) zag)) rfl (by show zdT P1 v365;cases hU;cases hO;cases hL;exact hp.w2) rfl)) zaL NN.tup)))) (λh366=>(zaJ (zal (zaE zaL)))) (λh366=>(zay (zal (zaE (zi7 (n:=1) (neg:=false) (xs:=(zaV plain_one362 P0).baskets) (ys:=P0.baskets) (EqD.list EqD.int) (Ev.weak (K:=K) (zaU (zc4 (x:=(plain_one362,P0)) ⇑9 (zab ↑2 zag) rfl (by show zcn plain_one362 P0;cases hU;cases hO;exact hp.bh) rfl rfl) T.Sender_cl T.Sender_baskets rfl)) (Ev.weak (K:=K) (zaU ↑2 T.Sender_cl T.Sender_baskets rfl)))))))))))))))))))))
theorem zhr {γ β:Type} {f:Unit->γ->Unit ⊕ β}:∀ {xs:List γ},(∀ x∈xs,f () x=.inl ())->zc2 f () xs=.inl ()
 | [],_=>rfl
 | x :: xs,h=>by
  simp only [zc2,h x List.mem_cons_self]
  exact zhr λy hy=>h y (List.mem_cons_of_mem _ hy)
structure Gd (F G H:SenderD) (n m k:Nat):Prop where
 f:SgP F n m
 g:SgP G m k
 h:SgP H n k
 mid:∃ s1:Sd4,Sd71 m 20 70 s1∧F.second=↑22∧G.first=↑22
 sh:H.second=G.second
 si:SiP F.first F.second F.baskets
 c:∀ x:Ji,x.length=n->zad H x=zad G (zad F x)
 kf:∀ s∈F.first.swaps,s.length=n∧Lat.Bit 70 s∧Lat.SpL F.second.swaps (Lat.vec (zad F s))
 kg:∀ x:Ji,x.length=m->Lat.SpL G.first.swaps (Lat.vec x)->Lat.SpL G.second.swaps (Lat.vec (zad G x))
theorem zpG {a b:BookD} (h:∀ s∈a.swaps,SnS b s):zbe a b=none:=by
 unfold zbe
 rw [zhr λx hx=>?_]
 ·rfl
 ·obtain ⟨i,hi⟩:=List.getElem?_of_mem hx
  rw [zn6 (h _ (zl4 hi))]
  rfl
section
variable {F G H f:SenderD} {n m k:Nat} {x:Ji} {b:BookD}
theorem zrH (h:SgP f n m) (hx:x.length=n) (hb:Lat.Bit 10744 x) (k:Lat.SpL f.second.swaps (Lat.vec (zad f x))):SnS (zai f) x:=by
 obtain ⟨tt,e,h1,h2,h3,h4,h5⟩:=ziE h
 rw [e]
 rw [(zgO h hx).2] at k
 exact sns_st h.n1 h.n3 h1 h2 h3 hx hb (h5 x hx k)
theorem zkB (h:SgP f n m):(zai f).many=(n:Int)∧∀ t∈(zai f).swaps,t.length=n∧Lat.Bit 10744 t∧Lat.SpL f.second.swaps (Lat.vec (zad f t)):=by
 obtain ⟨tt,e,h1,h2,h3,h4,h5⟩:=ziE h
 rw [e]
 exact ⟨rfl,λt ht=>⟨(h3 t ht).len,(h3 t ht).bit,by rw [(zgO h (h3 t ht).len).2];exact h4 t ht⟩⟩
theorem zrO (D:Gd F G H n m k):∀ t∈(zai F).swaps,SnS (zai H) t:=λt ht=>by
 obtain ⟨t1,t2,t3⟩:=(zkB D.f).2 t ht
 refine zrH D.h t1 t2 ?_
 rw [D.c t t1,D.sh]
 obtain ⟨s1,_,e1,e2⟩:=D.mid
 exact D.kg _ (zgO D.f t1).1 (by rw [e2];rw [e1] at t3;exact t3)
theorem zsh (D:Gd F G H n m k):∀ t∈F.first.swaps,SnS (zai F) t:=λt ht=>by
 obtain ⟨t1,t2,t3⟩:=D.kf t ht
 exact zrH D.f t1 (t2.mono ↑1) t3
theorem ztW (D:Gd F G H n m k) (hx:x.length=n) (hb:Lat.Bit 40 x):GdP [F,G,H] [zai F,zai G,zai H] x:=by
 obtain ⟨s1,_⟩:=zgO D.f hx
 have b1:=zoX D.f hx hb
 have z1:=D.f.n3;have z2:=D.f.m3;have z3:=D.g.m3
 obtain ⟨z,e2,e3,e4⟩:=zk4 D.f s1 hx (Lat.Sp.zero.conv λi=>by rw [(zgO D.f hx).2];omega)
 obtain ⟨s2,_⟩:=zgO D.g s1
 obtain ⟨s3,_⟩:=zgO D.h hx
 refine ⟨rfl,rfl,zmu D.f hx (hb.mono ↑1),⟨zpJ D.h hx (hb.mono ↑1),by omega⟩,⟨zpJ D.g s1 (b1.mono ↑1),?_⟩,zs8 D.f s1 (b1.mono ↑1),ztY D.f hx (hb.mono ↑1),?_,?_,zpJ D.f hx (hb.mono ↑1),zmu D.g s1 (b1.mono ↑1),zso D.g.hm D.g.m3 D.g.hs D.g.sb s2 ((zoX D.g s1 b1).mono ↑1),zmu D.h hx (hb.mono ↑1),zso D.h.hm D.h.m3 D.h.hs D.h.sb s3 ((zoX D.h hx hb).mono ↑1)⟩
 ·show (zad F x).length≤100
  omega
 ·show ((zaN F (zad F x))).isSome=true
  rw [e2];rfl
 ·show zb7 (zai F) (gS (zaN F (zad F x)))
  have:=zpq D.f s1 (b1.mono ↑1) e2
  rw [e2]
  exact zpJ D.f e3 this
theorem zoi (D:Gd F G H n m k) (hx:x.length=n) (hb:Lat.Bit 40 x):zcJ [F,G,H] [zai F,zai G,zai H] x=true:=by
 obtain ⟨s1,s2⟩:=zgO D.f hx
 obtain ⟨z,e2,e3,e4⟩:=zk4 D.f s1 hx (Lat.Sp.zero.conv λi=>by rw [s2];omega)
 have e1:zba (zai H) x=zba (zai G) (zad F x):=Bool.eq_iff_iff.mpr (by rw [zqb D.h hx,zqb D.g s1,D.c x hx,D.sh])
 have e5:zbX (zai F) z=zbX (zai F) x:=by
  obtain ⟨tt,e,h1,h2,h3,h4,h5⟩:=ziE D.f
  rw [e]
  have hl:z.length=(Lat.mul x ⇑5).length:=by rw [Lat.zbr];omega
  have hv:Lat.vec (Lat.add z (Lat.mul x ⇑5))=λi=>Lat.vec z i+(-1)*Lat.vec x i:=funext λi=>by rw [Lat.zjx hl,Lat.zdR,Int.mul_comm]
  refine zqh (n:=n) rfl (λt ht=>(h3 t ht).len) e3 hx (Lat.Sp.conv (h5 (Lat.add z (Lat.mul x ⇑5)) (by rw [Lat.zju hl,e3]) ?_) λi=>by rw [hv];show _+_=_;omega)
  rw [hv]
  refine ((Lat.Sp.smul (-1) e4).conv λi=>?_)
  rw [Lat.zje (u:=Lat.vec z) (-1) i,s2]
  omega
 unfold zcJ Let
 show (bif (!decide (zba (zai H) x=zba (zai G) (zad F x))) then false else (bif (((zaN F (zad F x))).isNone||(zcb F (zad F x)).isSome) then false else (bif (!decide (zbX (zai F) (gS (zaN F (zad F x)))=zbX (zai F) x)) then false else decide (zbX H.second (zad H x)=zbX G.second (zad G (zad F x))))))=true
 rw [e1,e2,zsv D.f hx (hb.mono ↑1),D.c x hx,D.sh]
 show (bif (!decide (_=_)) then false else (bif (false||false) then false else (bif (!decide (zbX (zai F) z=zbX (zai F) x)) then false else decide (_=_))))=true
 rw [e5]
 simp
theorem zsi {W:Nat} (hb:b.many=(W:Int)):plU b=((List.range W)).map λ(k:Nat)=>((List.range W)).map λ(j:Nat)=>if (decide ((j:Int)=(k:Int))) then (1:Int) else 0:=by
 unfold plU
 rw [hb,zhm]
 exact List.map_congr_left λk _=>zhm W _
theorem zsy {W i:Nat} {g:Nat->Int}:Lat.vec (((List.range W)).map g) i=if i<W then g i else 0:=by
 unfold Lat.vec
 rw [List.getD_eq_getElem?_getD,List.getElem?_map]
 by_cases q:i<W
 ·rw [List.getElem?_range q,if_pos q];rfl
 ·rw [List.getElem?_eq_none (by rw [List.length_range];omega),if_neg q];rfl
theorem zkX {W:Nat} (hb:b.many=(W:Int)):(plU b).length=W∧(∀ r∈plU b,r.length=W∧Lat.Bit 1 r)∧∀ w,w<W->∀ i,Lat.vec (ixD (plU b) (w:Int)) i=if w=i then 1 else 0:=by
 rw [zsi hb]
 refine ⟨by rw [List.length_map,List.length_range],λr hr=>?_,λw hw i=>?_⟩
 ·obtain ⟨k,_,rfl⟩:=List.mem_map.mp hr
  refine ⟨by rw [List.length_map,List.length_range],λv hv=>?_⟩
  obtain ⟨j,_,rfl⟩:=List.mem_map.mp hv
  show (if decide ((j:Int)=(k:Int))=true then (1:Int) else 0).natAbs≤2
  split<;>decide
 ·rw [zbJ (by rw [List.getElem?_map,List.getElem?_range hw];rfl),zsy]
  by_cases z:w=i
  ·subst z;rw [if_pos hw,if_pos rfl,if_pos (by simp)]
  ·rw [if_neg z]
   split
   ·rw [if_neg (by simp;omega)]
   ·rfl
theorem zhC:plS b=⟨b,b,plU b⟩:=by unfold plS m_Sender;rw [zcl]
theorem zhe {W:Nat} (hb:b.many=(W:Int)) (hx:x.length=W):zad (plS b) x=x:=by
 obtain ⟨u1,u2,u3⟩:=zkX hb
 rw [zhC]
 obtain ⟨k1,k2⟩:=zfM (S:=⟨b,b,plU b⟩) (x:=x) (W1:=W) (W2:=W) hb (λr hr=>(u2 r hr).1) u1 hx
 refine Lat.zhY (k1.trans hx.symm) λi=>(k2 i).trans ?_
 rw [Lat.zbm (g:=λw=>(if w=i then (1:Int) else 0)*Lat.vec x w) λw hw=>by
  show Lat.vec x w*Lat.vec (ixD (plU b) (w:Int)) i=_
  rw [u3 w (List.mem_range.mp hw),Int.mul_comm]]
 by_cases z:i<W
 ·rw [Lat.zfP (f:=Lat.vec x) List.nodup_range (List.mem_range.mpr z)]
 ·rw [Lat.zbL (l:=x) ↑0,Lat.zbm (g:=λ_=>0) λw hw=>by
   rw [if_neg (by have:=List.mem_range.mp hw;omega)];exact Int.zero_mul _,Lat.zdI]
theorem zrh {s1:Sd4} (h:Sd71 m 20 70 s1) (h3:m≤3):SgP (plS ↑22) m m:=by
 obtain ⟨u1,u2,u3⟩:=zkX (b:=↑22) rfl
 rw [zhC]
 exact ⟨h.w1,h3,h.w1,h3,rfl,rfl,u1,λr hr=>⟨(u2 r hr).1,((u2 r hr).2).mono ↑1⟩,by have:=h.ln;show s1.d.length≤4;omega,λr hr=>⟨(h.sr r hr).1,((h.sr r hr).2).mono ↑1⟩⟩
theorem zsV (h3:m≤3):(za6 0 (m:Int).toNat).length=m∧Lat.Bit 2 (za6 0 (m:Int).toNat):=by
 refine ⟨by rw [zaY];omega,λv hv=>?_⟩
 have:=zjB.mp hv
 show v.natAbs≤4
 omega
theorem zsF {s1:Sd4} (h:Sd71 m 20 70 s1) (h3:m≤3):∀ t∈(zai (plS ↑22)).swaps,SnS ↑22 t:=λt ht=>by
 obtain ⟨t1,t2,t3⟩:=(zkB (zrh h h3)).2 t ht
 rw [zhe rfl t1,zhC] at t3
 exact zov (n:=m) rfl h.w1 h3 (by have:=h.ln;show s1.d.length≤7;omega) (λr hr=>⟨(h.sr r hr).1,((h.sr r hr).2).mono ↑1⟩) t1 t2 t3
theorem zs3 {s1:Sd4} (h:Sd71 m 20 70 s1) (h3:m≤3):∀ t∈s1.d,SnS (zai (plS ↑22)) t:=λt ht=>by
 refine zrH (zrh h h3) (h.sr t ht).1 (((h.sr t ht).2).mono ↑1) ?_
 rw [zhe rfl (h.sr t ht).1,zhC]
 exact Lat.SpL.mem ht
theorem zpY (D:Gd F G H n m k) (hb:b.many=(m:Int)):List.map (λ(r:Ji)=>zad (plS b) r) F.baskets=F.baskets:=by
 conv=>rhs;rw [← zcl F.baskets]
 exact List.map_congr_left λr hr=>zhe hb (D.f.bb r hr).1
theorem ztM (D:Gd F G H n m k) (e:b=F.second):PlP F b:=by
 obtain ⟨s1,h,e1,e2⟩:=id D.mid
 have h3:=D.f.m3
 have S:=zrh h h3
 have eb:b=↑22:=e.trans e1
 have mp:=zpY (b:=b) D (by rw [eb])
 subst eb
 obtain ⟨r1,r2⟩:=zsV h3
 obtain ⟨u1,u2,u3⟩:=zkX (b:=↑22) rfl
 obtain ⟨z,e2,e3,e4⟩:=zk4 S r1 r1 (Lat.Sp.zero.conv λi=>by rw [← (zgO S r1).2,zhe rfl r1];omega)
 have r1':((za6 0 ({many:=(m:Int),swaps:=s1.d}:BookD).many.toNat)).length=m:=r1
 have r2':Lat.Bit 2 (za6 0 ({many:=(m:Int),swaps:=s1.d}:BookD).many.toNat):=r2
 have e2':zaN (plS ↑22) (za6 0 ({many:=(m:Int),swaps:=s1.d}:BookD).many.toNat)=some z:=e2
 refine ⟨by show (0:Int)≤(m:Int);omega,by show (m:Int)≤1000;omega,?_,zmu S r1' (r2'.mono ↑1),zs8 S r1' (r2'.mono ↑1),by rw [e2'];rfl,?_,?_,zo6 S,⟨(zkB S).1,λt ht=>zsF h h3 t ht⟩,⟨(zkB S).1.symm,λt ht=>zs3 h h3 t ht⟩,?_⟩
 ·refine zob (W1:=m) (xb:=1) (sc:=70) h h.w8 u1 u2 rfl (λt ht=>?_) h3 ↑1 ↑1
  refine ⟨(h.sr t ht).1,(h.sr t ht).2,?_⟩
  rw [← zhC,zhe rfl (h.sr t ht).1]
  exact Lat.SpL.mem ht
 ·rw [zhe rfl r1'];exact Nat.lt_of_le_of_lt (show _≤1000 by omega) ↑1
 ·rw [e2'];exact Nat.lt_of_le_of_lt (show z.length≤1000 by omega) ↑1
 ·refine ⟨⟨by rw [zhC,e1],by rw [zhC,e1]⟩,λr hr=>zmu S (D.f.bb r hr).1 (((D.f.bb r hr).2).mono ↑1),zan (by have:=D.f.hb;have:=D.f.n3;omega),?_⟩
  rw [mp,zhC]
  show SiP F.first ↑22 F.baskets
  rw [← e1];exact D.si
theorem zms (D:Gd F G H n m k) (e:b=F.second):zce F b=true:=by
 obtain ⟨s1,h,e1,e2⟩:=id D.mid
 have eb:b=↑22:=e.trans e1
 have mp:=zpY (b:=b) D (by rw [eb])
 subst eb
 have w1:=zpG (zsF h D.f.m3)
 have w2:=zpG (a:=↑22) (zs3 h D.f.m3)
 have b1:(zaV (plS ↑22) F).baskets=F.baskets:=by
  unfold zaV m_Sender
  rw [zcl];exact mp
 unfold zce Let
 show (bif (!decide (za6 0 (m:Int).toNat=za6 0 (m:Int).toNat)) then false else (bif ((zbe (zai (plS ↑22)) ↑22).isSome||(zbe ↑22 (zai (plS ↑22))).isSome) then false else decide ((zaV (plS ↑22) F).baskets=F.baskets)))=true
 rw [w1,w2,b1]
 simp
end
section
variable {y:T3 (List Sd4) Jq Jq} {F G H:SenderD} {k x c:Int} {bk ls:List BookD} {i:Nat} {r t xs:Ji}
theorem zvX (h:P75 y) {v:Sd4} (hv:v∈y.a):BoP v:=by
 obtain ⟨s0,s1,s2,W0,W1,W2,e,hw,⟨i1,a1,a2,_⟩,⟨i2,a3,a4,_⟩⟩:=h
 rw [e] at hv
 simp only [List.mem_cons,List.not_mem_nil,or_false] at hv
 rcases hv with rfl | rfl | rfl
 ·exact ⟨W0,hw.1,a1⟩
 ·exact ⟨W1,hw.2.1,a2⟩
 ·exact ⟨W2,hw.2.2,a4⟩
theorem zuV (h:P75 y):y.a.length=3:=by obtain ⟨s0,s1,s2,W0,W1,W2,e,_⟩:=h;rw [e];rfl
theorem zuU (h:P75 y) (hk:0≤k∧k<3):InB y.a.length k:=by have:=zuV h;unfold InB;omega
theorem zvn (h:P75 y):y.a.length≤PySem.sizeLine:=zan (by have:=zuV h;omega)
theorem zrK (h:P75 y) (hK:bk=List.map (λ(v:Sd4)=>za3 v) y.a) (hk:0≤k∧k<3):InB bk.length k:=by rw [hK,List.length_map];exact zuU h hk
theorem zvF (h:P75 y):y.b.length≤PySem.sizeLine:=by
 obtain ⟨s0,s1,s2,W0,W1,W2,e,hw,⟨i1,a1,a2,b1,b2⟩,_⟩:=h
 exact zan (by have:=b2.l;omega)
theorem zus (h:P75 y) (hK:bk=List.map (λ(v:Sd4)=>za3 v) y.a):∃ (s0 s1 s2:Sd4) (W0 W1 W2:Nat),y.a=[s0,s1,s2]∧(W0≤3∧W1≤3∧W2≤3)∧Q75 W0 W1 s0 s1 y.b∧Q75 W1 W2 s1 s2 y.c∧bk=[⟨(W0:Int),s0.d⟩,⟨(W1:Int),s1.d⟩,⟨(W2:Int),s2.d⟩]:=by
 obtain ⟨s0,s1,s2,W0,W1,W2,e,hw,q1,q2⟩:=h
 obtain ⟨i1,a1,a2,_⟩:=id q1
 obtain ⟨i2,a3,a4,_⟩:=id q2
 refine ⟨s0,s1,s2,W0,W1,W2,e,hw,q1,q2,?_⟩
 rw [hK,e]
 show [za3 s0,za3 s1,za3 s2]=_
 rw [zkN a1,zkN a2,zkN a4]
theorem zuO {W0 W1:Nat} {f s:Sd4} {bs:Jq} {a:BookD} (h:Q75 W0 W1 f s bs) (h3:W1≤3) (ha:a.many=(W0:Int)) (hsw:∀ t∈a.swaps,t.length=W0∧Lat.Bit 70 t∧Lat.SpL f.d (Lat.vec t)):SiP a ⟨(W1:Int),s.d⟩ bs:=by
 obtain ⟨im,hF,hS,hI,hN⟩:=h
 exact zob (xb:=78) (sc:=70) hS hF.w8 hN.l hN.r ha (λt ht=>⟨(hsw t ht).1,(hsw t ht).2.1,zk1 hF hS hI hN rfl (hsw t ht).1 (hsw t ht).2.2⟩) h3 ↑1 ↑1
theorem zr2 {W0 W1:Nat} {f s:Sd4} {bs:Jq} (h:Q75 W0 W1 f s bs):∀ t∈f.d,t.length=W0∧Lat.Bit 70 t∧Lat.SpL f.d (Lat.vec t):=λt ht=>by
 obtain ⟨im,hF,hS,hI,hN⟩:=h
 exact ⟨(hF.sr t ht).1,(hF.sr t ht).2,Lat.Sp.mem ⟨t,ht,rfl⟩⟩
theorem zu1 (h:P75 y) (hK:bk=List.map (λ(v:Sd4)=>za3 v) y.a):SiP (ixD bk (0:Int)) (ixD bk (1:Int)) (List.map (λ(v:Ji)=>v) y.b):=by
 obtain ⟨s0,s1,s2,W0,W1,W2,e,hw,q1,q2,hb⟩:=zus h hK
 rw [hb,zcl]
 exact zuO q1 hw.2.1 rfl (zr2 q1)
theorem zvE (h:P75 y) (hK:bk=List.map (λ(v:Sd4)=>za3 v) y.a):SiP (ixD bk (1:Int)) (ixD bk (2:Int)) (List.map (λ(v:Ji)=>v) y.c):=by
 obtain ⟨s0,s1,s2,W0,W1,W2,e,hw,q1,q2,hb⟩:=zus h hK
 rw [hb,zcl]
 exact zuO q2 hw.2.2 rfl (zr2 q2)
theorem zuQ {W0 W1:Nat} {f s:Sd4} {bs:Jq} {a:BookD} (h:Q75 W0 W1 f s bs) (h0:W0≤3) (h1:W1≤3) (ha:a.many=(W0:Int)):SgP ⟨a,⟨(W1:Int),s.d⟩,bs⟩ W0 W1:=by
 obtain ⟨im,hF,hS,hI,hN⟩:=h
 exact ⟨hF.w1,h0,hS.w1,h1,ha,rfl,hN.l,λr hr=>⟨(hN.r r hr).1,((hN.r r hr).2).mono ↑1⟩,by have:=hS.ln;show s.d.length≤4;omega,λr hr=>⟨(hS.sr r hr).1,((hS.sr r hr).2).mono ↑1⟩⟩
def L76 (y:T3 (List Sd4) Jq Jq) (bk:List BookD) (F G H:SenderD):Prop:=∃ n m k:Nat,Gd F G H n m k∧y.b.length=n∧y.c.length=m∧bk=[F.first,F.second,G.second]∧((ixD y.a (0:Int))).a.length=n∧∀ r∈((ixD y.a (0:Int))).a,r.length=n∧Lat.Bit 20 r
theorem zrT (h:P75 y) (hK:bk=List.map (λ(v:Sd4)=>za3 v) y.a) (h1:F=m_Sender (ixD bk (0:Int)) (ixD bk (1:Int)) (List.map (λ(v:Ji)=>v) y.b)) (h2:G=m_Sender (ixD bk (1:Int)) (ixD bk (2:Int)) (List.map (λ(v:Ji)=>v) y.c)):BhP G F∧∀ H,H=zaV G F->L76 y bk F G H:=by
 have S1:=zu1 h hK
 obtain ⟨s0,s1,s2,W0,W1,W2,e,hw,q1,q2,hb⟩:=zus h hK
 rw [hb,zcl] at h1 h2 S1
 have e1:F=⟨⟨(W0:Int),s0.d⟩,⟨(W1:Int),s1.d⟩,y.b⟩:=by rw [h1];unfold m_Sender;rw [zcl];rfl
 have e2:G=↑73:=by rw [h2];unfold m_Sender;rw [zcl];rfl
 clear h1 h2
 subst e1 e2
 have g1:=zuQ (a:=⟨(W0:Int),s0.d⟩) q1 hw.1 hw.2.1 rfl
 have g2:=zuQ (a:=⟨(W1:Int),s1.d⟩) q2 hw.2.1 hw.2.2 rfl
 obtain ⟨i1,a1,a2,a3,a4⟩:=id q1
 obtain ⟨i2,c1,c2,c3,c4⟩:=id q2
 have cm:∀ x:Ji,x.length=W0->zad ⟨⟨(W0:Int),s0.d⟩,⟨(W2:Int),s2.d⟩,List.map (λ(r:Ji)=>zad ↑73 r) y.b⟩ x=zad ↑73 (zad ⟨⟨(W0:Int),s0.d⟩,⟨(W1:Int),s1.d⟩,y.b⟩ x):=λx hx=>znF rfl rfl (λr hr=>(a4.r r hr).1) a4.l (λr hr=>(c4.r r hr).1) c4.l hx
 have hd:∀ r∈List.map (λ(r:Ji)=>zad ↑73 r) y.b,r.length=W2∧Lat.Bit 159 r:=λr hr=>by
  obtain ⟨t,ht,rfl⟩:=List.mem_map.mp hr
  exact ⟨(zgO g2 (a4.r t ht).1).1,zkU (n:=78) (xb:=78) rfl c4.r c4.l c1.w8 (a4.r t ht).1 (a4.r t ht).2⟩
 have kf:∀ t∈s0.d,t.length=W0∧Lat.Bit 70 t∧Lat.SpL s1.d (Lat.vec (zad ⟨⟨(W0:Int),s0.d⟩,⟨(W1:Int),s1.d⟩,y.b⟩ t)):=λt ht=>⟨(a1.sr t ht).1,(a1.sr t ht).2,zk1 a1 a2 a3 a4 rfl (a1.sr t ht).1 (Lat.SpL.mem ht)⟩
 have kg:∀ x:Ji,x.length=W1->Lat.SpL s1.d (Lat.vec x)->Lat.SpL s2.d (Lat.vec (zad ↑73 x)):=λx hx hu=>zk1 c1 c2 c3 c4 rfl hx hu
 have bs:SiP ⟨(W0:Int),s0.d⟩ ⟨(W2:Int),s2.d⟩ (List.map (λ(r:Ji)=>zad ↑73 r) y.b):=zob (W1:=W0) (xb:=159) (sc:=70) c2 a1.w8 (by rw [List.length_map];exact a4.l) hd rfl (λt ht=>⟨(kf t ht).1,(kf t ht).2.1,by rw [cm t (kf t ht).1];exact kg _ (zgO g1 (kf t ht).1).1 (kf t ht).2.2⟩) hw.2.2 ↑1 ↑1
 refine ⟨⟨⟨rfl,rfl⟩,λr hr=>zmu g2 (a4.r r hr).1 (((a4.r r hr).2).mono ↑1),zan (by have:=a4.l;show y.b.length≤10000;omega),bs⟩,λH eH=>?_⟩
 have eH:H=⟨⟨(W0:Int),s0.d⟩,⟨(W2:Int),s2.d⟩,List.map (λ(r:Ji)=>zad ↑73 r) y.b⟩:=by rw [eH];unfold zaV m_Sender;rw [zcl]
 subst eH
 refine ⟨W0,W1,W2,⟨g1,g2,⟨g1.n1,g1.n3,g2.m1,g2.m3,rfl,rfl,by rw [List.length_map];exact a4.l,λr hr=>⟨(hd r hr).1,((hd r hr).2).mono ↑1⟩,g2.hs,g2.sb⟩,⟨s1,a2,rfl,rfl⟩,rfl,S1,cm,kf,kg⟩,a4.l,c4.l,hb,?_⟩
 rw [e]
 exact ⟨a1.du.l1,λr hr=>⟨a1.du.r r hr,a1.ra r hr⟩⟩
theorem zvZ (h:P75 y) (hK:bk=List.map (λ(v:Sd4)=>za3 v) y.a) (h1:F=m_Sender (ixD bk (0:Int)) (ixD bk (1:Int)) (List.map (λ(v:Ji)=>v) y.b)) (h2:G=m_Sender (ixD bk (1:Int)) (ixD bk (2:Int)) (List.map (λ(v:Ji)=>v) y.c)):BhP G F:=(zrT h hK h1 h2).1
theorem l76 (h:P75 y) (hK:bk=List.map (λ(v:Sd4)=>za3 v) y.a) (h1:F=m_Sender (ixD bk (0:Int)) (ixD bk (1:Int)) (List.map (λ(v:Ji)=>v) y.b)) (h2:G=m_Sender (ixD bk (1:Int)) (ixD bk (2:Int)) (List.map (λ(v:Ji)=>v) y.c)) (h3:H=zaV G F):L76 y bk F G H:=(zrT h hK h1 h2).2 H h3
theorem zvQ (h:P75 y):y.c.length≤PySem.sizeLine:=by
 obtain ⟨s0,s1,s2,W0,W1,W2,e,hw,_,⟨i1,a1,a2,b1,b2⟩⟩:=h
 exact zan (by have:=b2.l;omega)
theorem zui (h:L76 y bk F G H):LoP F:=by obtain ⟨n,m,k,D,_⟩:=h;exact zo6 D.f
theorem zt9 (h:L76 y bk F G H):LoP G:=by obtain ⟨n,m,k,D,_⟩:=h;exact zo6 D.g
theorem ztO (h:L76 y bk F G H):LoP H:=by obtain ⟨n,m,k,D,_⟩:=h;exact zo6 D.h
theorem ztN (hL:ls=[zai F,zai G,zai H]) (hk:0≤k∧k<3):InB ls.length k:=by rw [hL];unfold InB;simp only [List.length_cons,List.length_nil];omega
theorem zvS (h:L76 y bk F G H):WiQ (zai F) (zai H):=by
 obtain ⟨n,m,k,D,_⟩:=h
 exact ⟨(zkB D.f).1.trans (zkB D.h).1.symm,λt ht=>zrO D t ht⟩
theorem zvT (h:L76 y bk F G H):WiQ (ixD bk (0:Int)) (zai F):=by
 obtain ⟨n,m,k,D,_,_,e,_⟩:=h
 rw [e]
 exact ⟨D.f.hn.trans (zkB D.f).1.symm,λt ht=>zsh D t ht⟩
theorem zvH (h:L76 y bk F G H):PlP F (ixD bk (1:Int)):=by
 obtain ⟨n,m,k,D,_,_,e,_⟩:=h
 rw [e];exact ztM D rfl
theorem zqd (h:P75 y):(1≤y.b.length∧y.b.length≤3)∧(1≤y.c.length∧y.c.length≤3)∧((ixD y.a (0:Int))).a.length=y.b.length∧∀ r∈((ixD y.a (0:Int))).a,r.length=y.b.length∧Lat.Bit 20 r:=by
 obtain ⟨s0,s1,s2,W0,W1,W2,e,hw,⟨i1,a1,a2,a3,a4⟩,⟨i2,c1,c2,c3,c4⟩⟩:=h
 rw [e,a4.l,c4.l]
 exact ⟨⟨a1.w1,hw.1⟩,⟨c1.w1,hw.2.1⟩,a1.du.l1,λr hr=>⟨a1.du.r r hr,a1.ra r hr⟩⟩
theorem zvz (h:P75 y):zfi x (↑43+((y.c.length:Nat):Int)):=by
 obtain ⟨h1,h2,_⟩:=zqd h
 exact Lat.zfi.of (b:=10) ↑0 (show _≤1024 by omega) ↑1
theorem zvO (h:P75 y) (q:i<(↑43).toNat∧x=0+(i:Int)):0≤x∧x≤1000∧(0:Int)≤4∧(4:Int)≤1000000000:=by
 obtain ⟨h1,_⟩:=zqd h
 exact ⟨by omega,by omega,by decide,by decide⟩
theorem zvD (h:P75 y):-(2^62)≤↑43∧↑43<2^62:=by obtain ⟨h1,_⟩:=zqd h;omega
theorem zvk (h:P75 y):((za6 0 (↑43).toNat)).length≤PySem.sizeLine:=by obtain ⟨h1,_⟩:=zqd h;rw [zaY];exact zan ↑0
theorem zvq (h:P75 y):zaS c (11:Int) ↑43:=by obtain ⟨h1,_⟩:=zqd h;exact ⟨by decide,by decide,by omega⟩
theorem ztJ (h:P75 y):InB ((ixD y.a (0:Int))).a.length (zae c (11:Int) ↑43):=by
 obtain ⟨h1,_,h2,_⟩:=zqd h
 have:=zdq (c:=c) (k:=11) (m:=↑43) ↑0
 unfold InB;omega
theorem zvr:-(2^64)<(1:Int)+zae c (10:Int) (12:Int)∧(1:Int)+zae c (10:Int) (12:Int)<2^64:=by
 have:=zdq (c:=c) (k:=10) (m:=12) ↑1;omega
theorem zvP (h:P75 y):(ixD ((ixD y.a (0:Int))).a (zae c (11:Int) ↑43)).length≤PySem.sizeLine:=by
 have hm:=zcp (ztJ (c:=c) h)
 obtain ⟨h1,_,h2,h3⟩:=zqd h
 rw [(h3 _ hm).1];exact zan ↑0
theorem ztg {b:Bool} (h:P75 y) (hB:r=List.map (λ(x:Int)=>zbi c x (4:Int)) (za6 0 (↑43).toNat)) (hB1:t=bif b then (List.map (λ(x:Int)=>(((1:Int)+(zae c (10:Int) (12:Int)))*x)) (ixD ((ixD y.a (0:Int)).a) (zae c (11:Int) ↑43))) else r):t.length=y.b.length∧Lat.Bit 40 t:=by
 have hm:=zcp (ztJ (c:=c) h)
 obtain ⟨h1,_,h2,h3⟩:=zqd h
 cases b with
 | true =>
  rw [cond_true] at hB1
  rw [hB1]
  refine ⟨by rw [List.length_map];exact (h3 _ hm).1,λv hv=>?_⟩
  obtain ⟨z,hz,rfl⟩:=List.mem_map.mp hv
  have e:=(h3 _ hm).2 z hz
  have th:=zdq (c:=c) (k:=10) (m:=12) ↑1
  exact Nat.le_trans (Lat.zjg (a:=4) (b:=20) (show _≤16 by omega) e) ↑1
 | false =>
  rw [cond_false] at hB1
  rw [hB1,hB]
  refine ⟨by rw [List.length_map,zaY];omega,λv hv=>?_⟩
  obtain ⟨z,hz,rfl⟩:=List.mem_map.mp hv
  have:=zpD (c:=c) (k:=z) (z:=4) ↑1
  show _≤1099511627776
  omega
theorem zv0 {b:Bool} (h:L76 y bk F G H) (hT:P75 y) (hB:r=List.map (λ(x:Int)=>zbi c x (4:Int)) (za6 0 (↑43).toNat)) (hB1:t=bif b then (List.map (λ(x:Int)=>(((1:Int)+(zae c (10:Int) (12:Int)))*x)) (ixD ((ixD y.a (0:Int)).a) (zae c (11:Int) ↑43))) else r):GdP [F,G,H] [zai F,zai G,zai H] t:=by
 obtain ⟨k1,k2⟩:=ztg hT hB hB1
 obtain ⟨n,m,k,D,e,_⟩:=h
 exact ztW D (k1.trans e) k2
theorem zrR {xs l:Ji} {lo hi:Option Int} (h:xs.length≤63) (hl:l.length≤100):(zcQ xs lo hi).length+l.length≤PySem.sizeLine:=zan (by have:(zcQ xs lo hi).length≤xs.length:=(by unfold zcQ;rw [List.length_take,List.length_drop];omega);omega)
end
def m_law (P0:Ji):Bool :=
 (Let (m_law_trio P0) (λ(p367:(T3 (List ↑13) Jq Jq))=>(Let (List.map (λ(x368:↑13)=>(za3 x368)) p367.a) (λ(v371:(List BookD))=>(Let (m_Sender (ixD v371 (0:Int)) (ixD v371 (1:Int)) (List.map (λ(x372:Ji)=>x372) p367.b)) (λ(v375:SenderD)=>(Let (m_Sender (ixD v371 (1:Int)) (ixD v371 (2:Int)) (List.map (λ(x376:Ji)=>x376) p367.c)) (λ(v379:SenderD)=>(Let (zaV v379 v375) (λ(v380:SenderD)=>(Let [(zai v375 ),(zai v379 ),(zai v380 )] (λ(v381:(List BookD))=>(bif (((zbe (ixD v381 (0:Int)) (ixD v381 (2:Int)))).isSome||(zbe (ixD v371 (0:Int)) (ixD v381 (0:Int))).isSome) then false else (bif (!(zce v375 (ixD v371 (1:Int)))) then false else (zmO (zc2 ↑135 () ((zcQ P0 (some (4:Int)) (some ((6:Int)+((20:Int)/(↑41+((p367.c.length:Nat):Int))))))++[(1:Int),(2:Int)])) (λ(r399:Unit)=>true) (λb=>b))))))))))))))))
def zk9 (P0:Ji):Prop:=P0.length≤63
def zpM (K:W.Frag) (A:Adr):Sp:=Spv (ι:=Ji) (λx=>[dQ K (List.map dI x)]) (λx=>zk9 x) (λx=>↥[dB (m_law x)])
theorem ze8:FnScope ↑79 ["_law_script"] (zaf zgL):=↑4
theorem zsb (F:Fun K "law" "law" zgL f fd) (T:Txt K mg A) (yao:CalleeM P w K mg base ⇑1 9 A.Sender "behind" ["self","other"] (zdp K A)) (yam:CalleeM P w K mg base ⇑1 7 A.Sender "lost" ["self"] (zd2 K A)) (ybt:Callee P w K mg base ⇑1 4 "_law_book" ["_law_side_here"] (zgq K A)) (ybh:Callee P w K mg base ⇑1 2 "_law_count" ["_law_cell_here","_law_k","_law_size"] (zfH K A)) (ybu:Callee P w K mg base ⇑1 10 "_law_good" ["_law_senders","_law_lost_here","_law_basket"] (zgw K A)) (ybi:Callee P w K mg base ⇑1 10 "_law_plain" ["_law_first","_law_book_here"] (zfO K A)) (yaa:Callee P w K mg base ⇑1 1 "_law_thing" ↑56 (zcu K A)) (ybv:Callee P w K mg base ⇑1 4 "_law_trio" ["_law_script"] (zgt K A)) (yaA:Callee P w K mg base ⇑1 7 "within" ⇑4 (zgM K A)) {yaz:Addr} {yat:FuncData} (yas:Mk K A.Sender yaz) (yaf:FnOk P w K mg base ⇑1 7 yaz yat ["self","first","second","baskets"] (zcR K A)) (yag:zfA K yat ["self","first","second","baskets"] []):FnOk P w K mg base ⇑1 11 f fd ["_law_script"] (zpM K A):=by
 refine F.okV ze8 ↥3 ↑46
 have hu:=hr.units
 replace hp:zk9 P0:=hp
 unfold zk9 at hp
 refine ⟨_,(zac (zgS (zaF ybv ↥1 rfl zav ↑[pv 0]) (zb3 (K:=K) (n:=3) rfl rfl (zaH (zao (i:=1) ze8.nd rfl ⇑0 ⇑0) (zaH (zao (i:=2) ze8.nd rfl ⇑0 ⇑0) (zaH (zao (i:=3) ze8.nd rfl ⇑0 ⇑0) zcA))))) (zac (zdB (i:=4) rfl ze8.nd rfl rfl (.of (osc:=(zaf zgL)) (N:=↑79) (own:=["_law_side_here"]) (fvn:=[]) (fv:=[]) rfl rfl ↥5) (zaZ (K:=K) rfl (pv 1)) (λ_ _ _ _ _=>⟨(zao (i:=0) (show (["_law_side_here"]:List Str).Nodup by decide +kernel) rfl ⇑0 ↥6),zbc,(zaF ybt ↥1 rfl zav ↑[pv 0])⟩)) (zac (zat (i:=5) ze8.nd rfl ⇑0 (zfI yas yaf ↥1 rfl T.Sender yag .nil zav ↑[↑39,↑39,(zcf rfl (.of (osc:=(zaf zgL)) (N:=↑79) (own:=["_law_basket"]) (fvn:=[]) (fv:=[]) rfl rfl ↥5) (zaZ (K:=K) rfl (pv 2)) (λ_ _ _ _ _=>⟨(zao (i:=0) (show (["_law_basket"]:List Str).Nodup by decide+kernel) rfl ⇑0 ↥6),zbc,↑66⟩))])) (zac (zat (i:=6) ze8.nd rfl ⇑0 (zfI yas yaf ↥1 rfl T.Sender yag .nil zav ↑[↑39,↑39,(zcf rfl (.of (osc:=(zaf zgL)) (N:=↑79) (own:=["_law_basket"]) (fvn:=[]) (fv:=[]) rfl rfl ↥5) (zaZ (K:=K) rfl (pv 3)) (λ_ _ _ _ _=>⟨(zao (i:=0) (show (["_law_basket"]:List Str).Nodup by decide+kernel) rfl ⇑0 ↥6),zbc,↑66⟩))])) (zac (zat (i:=7) ze8.nd rfl ⇑0 (zfC (pv 6) T.Sender_cl yao ↥1 zav ↑[pv 5])) (zac (zat (i:=8) ze8.nd rfl ⇑0 (zb8 ↑[zg7 (pv 5) T.Sender_cl yam ↥1 zav,zg7 (pv 6) T.Sender_cl yam ↥1 zav,zg7 (pv 7) T.Sender_cl yam ↥1 zav])) (zac (zcD (PW.pt (zou (zaI zgB (zaF yaA ↥1 rfl zav ↑[(za1 ⇑6 (pv 8) zaj ↑3),(za1 ⇑6 (pv 8) zaj ↑3)]) zfQ (zaW _)) (zkh (zaI zgB (zaF yaA ↥1 rfl zav ↑[↑39,(za1 ⇑6 (pv 8) zaj ↑3)]) zfQ (zaW _))))) (zac (zaO zjN) zah) zah) (zac (zcD (zpL (znt (zaF ybi ↥1 rfl zav ↑[pv 5,↑39]))) (zac (zaO zjN) zah) zah) (zac (zcS PassesOwn.never rfl (zaZ (K:=K) rfl (zaD zeK (zdc (zcr (K:=K) rfl) (pv 0) (zdh zaj) (zdh (zaD zcH zaj (zaD zcx zaj (zaD zcH ↑71 (zaK ↑30 rfl T.len PySem.boot_len ↑[pv 3])))))) (zb8 ↑[zaj,zaj]))) (zao (i:=9) ze8.nd rfl ↥6 ⇑0) (zac (zdB (i:=10) rfl ze8.nd rfl rfl (.of (osc:=(zaf zgL)) (N:=↑79) (own:=["_law_k"]) (fvn:=["_law_cell_here"]) (fv:=[9]) rfl rfl ↥5) (zbY rfl T.range ↑[↑71]) (λ_ _ _ _ _=>⟨(zao (i:=0) (show (["_law_k","_law_cell_here"]:List Str).Nodup by decide +kernel) rfl ⇑0 ↥6),zbc,(zaF ybh ↥1 rfl zav ↑[pv 1,pv 0,zaj])⟩)) (zac (zcD (zaI zhF (zaD zed (pv 9) zaj) zaj (zaW _)) (zac (zat (i:=11) ze8.nd rfl ↥6 (zaD zcH zaj (zaF yaa ↥1 rfl zav ↑[pv 9,zaj,zaj]))) (zac (zdB (i:=10) rfl ze8.nd rfl rfl (.of (osc:=(zaf zgL)) (N:=↑79) (own:=["_law_entry"]) (fvn:=["_law_number"]) (fv:=[11]) rfl rfl ↥5) (zaZ (K:=K) rfl (za1 ⇑6 (za1 ↑12 (za1 ⇑6 (pv 1) zaj ↑3) zaj ↑3) (zaF yaa ↥1 rfl zav ↑[pv 9,zaj,↑71]) ↑3)) (λ_ _ _ _ _=>⟨(zao (i:=0) (show (["_law_entry","_law_number"]:List Str).Nodup by decide+kernel) rfl ⇑0 ↥6),zbc,(zaD zbK (pv 1) (pv 0))⟩)) zah)) zah) (zac (zcD (zpL (znt (zaF ybu ↥1 rfl zav ↑[zb8 ↑[pv 5,pv 6,pv 7],pv 8,pv 10]))) (zac (zaO zjN) zah) zah) zah)))) (zac (zaO zjN) zah)))))))))),.inl ?_⟩
 show L2.Run _ ([⇑[dQ K ↑16],.no,.no,.no,.no,.no,.no,.no,.no,.no,.no,.no]:L2.Ctx) _ (↥8 (m_law P0))
 unfold m_law
 exact (zjH (m:=true) (x:=(m_law_trio P0)) (λ(p367:(T3 (List ↑13) Jq Jq))=>dL (List.map ↑44 p367.a)) (λ(p367:(T3 (List ↑13) Jq Jq))=>dL (List.map lI p367.b)) (λ(p367:(T3 (List ↑13) Jq Jq))=>dL (List.map lI p367.c)) ↥8 (zam (x:=P0) (zab ↑2 zag) rfl (by show zeP P0;exact hp) rfl) (λp367 hp367=>have hT:=zm4 hp hp367;(zar (m:=true) (x:=(List.map (λ(x368:↑13)=>(za3 x368)) p367.a)) (λ(xs:(List BookD))=>dL (List.map (zaM A.Book) xs)) ↥8 (EvO.ev (EvO.conv (zbS (g:=(λ(x368:↑13)=>zaM A.Book (za3 x368))) (zbG (m:=true) ↑44 (xs:=p367.a) (Ev.weak (K:=K) ⇑2)) ↥(zvn hT) ↑5 (λi369 x368 hx370=>have v370:=List.mem_of_getElem? hx370;(zam (x:=x368) (zab (Ev.old ↑2) zag) rfl (by show zeS x368;exact zvX hT ↥0) rfl))) ↑8)) (λv371 hv371=>have hK:=hv371;(zar (m:=false) (x:=(m_Sender (ixD v371 (0:Int)) (ixD v371 (1:Int)) (List.map (λ(x372:Ji)=>x372) p367.b))) (zaQ A A.Sender) ↥8 (zhV (x:=((ixD v371 (0:Int)),(ixD v371 (1:Int)),(List.map (λ(x372:Ji)=>x372) p367.b))) (zab ↑80 (zab ↑80 (zab (Ev.weak (K:=K) (EvO.ev (EvO.conv (zbS (g:=(λ(x372:Ji)=>dL (List.map dI x372))) (zbG (m:=true) lI (xs:=p367.b) ↑11) ↥(zvF hT) ↑5 (λi373 x372 hx374=>have v374:=List.mem_of_getElem? hx374;(EvO.ev (EvO.anyI (m:=true) (zgD ↑26))))) ↑8))) zag))) rfl (by show zbf (ixD v371 (0:Int)) (ixD v371 (1:Int)) (List.map (λ(x372:Ji)=>x372) p367.b);exact zu1 hT hK)) (λv375 hv375=>have h1:=hv375;(zar (m:=false) (x:=(m_Sender (ixD v371 (1:Int)) (ixD v371 (2:Int)) (List.map (λ(x376:Ji)=>x376) p367.c))) (zaQ A A.Sender) ↥8 (zhV (x:=((ixD v371 (1:Int)),(ixD v371 (2:Int)),(List.map (λ(x376:Ji)=>x376) p367.c))) (zab ↑80 (zab ↑80 (zab (Ev.weak (K:=K) (EvO.ev (EvO.conv (zbS (g:=(λ(x376:Ji)=>dL (List.map dI x376))) (zbG (m:=true) lI (xs:=p367.c) ↑35) ↥(zvQ hT) ↑5 (λi377 x376 hx378=>have v378:=List.mem_of_getElem? hx378;(EvO.ev (EvO.anyI (m:=true) (zgD ↑26))))) ↑8))) zag))) rfl (by show zbf (ixD v371 (1:Int)) (ixD v371 (2:Int)) (List.map (λ(x376:Ji)=>x376) p367.c);exact zvE hT hK)) (λv379 hv379=>have h2:=hv379;(zar (m:=false) (x:=(zaV v379 v375)) (zaQ A A.Sender) ↥8 (zc4 (x:=(v379,v375)) (zaa (i:=6) rfl) (zab ↑23 zag) rfl (by show zcn v379 v375;exact zvZ hT hK h1 h2) rfl rfl) (λv380 hv380=>have h3:=l76 hT hK h1 h2 hv380;(zar (m:=true) (x:=[(zai v375 ),(zai v379 ),(zai v380 )]) (λ(xs:(List BookD))=>dL (List.map (zaM A.Book) xs)) ↥8 (EvO.ev (zdl (zab (zc4 (x:=(v375)) ↑23 zag rfl (by show zbW v375;exact zui h3) rfl rfl) (zab (zc4 (x:=(v379)) (zaa (i:=6) rfl) zag rfl (by show zbW v379;exact zt9 h3) rfl rfl) (zab (zc4 (x:=(v380)) (zaa (i:=7) rfl) zag rfl (by show zbW v380;exact ztO h3) rfl rfl) zag))) (by show 3≤sizeLine;decide))) (λv381 hv381=>have hL:=hv381;(zbo (b:=(((zbe (ixD v381 (0:Int)) (ixD v381 (2:Int)))).isSome||(zbe (ixD v371 (0:Int)) (ixD v381 (0:Int))).isSome)) ↥8 (zj3 (b:=((zbe (ixD v381 (0:Int)) (ixD v381 (2:Int)))).isSome) (zaA (zcZ (x:=(zbe (ixD v381 (0:Int)) (ixD v381 (2:Int)))) (f:=↑82) (Ev.old (zam (x:=((ixD v381 (0:Int)),(ixD v381 (2:Int)))) (zab ↑127 (zab ↑127 zag)) rfl (by show zdT (ixD v381 (0:Int)) (ixD v381 (2:Int));cases hL;exact zvS h3) rfl)) zaL NN.tup)) (λhb=>(zaA (zcZ (x:=(zbe (ixD v371 (0:Int)) (ixD v381 (0:Int)))) (f:=↑82) (Ev.old (zam (x:=((ixD v371 (0:Int)),(ixD v381 (0:Int)))) (zab ↑80 (zab ↑127 zag)) rfl (by show zdT (ixD v371 (0:Int)) (ixD v381 (0:Int));cases hL;exact zvT h3) rfl)) zaL NN.tup)))) (λh382=>(zaJ (zal (zaE zaL)))) (λh382=>(zay (zbo (b:=(!(zce v375 (ixD v371 (1:Int))))) ↥8 (zoG (zkG (Ev.any (m:=true) (zam (x:=(v375,(ixD v371 (1:Int)))) (zab ↑23 (zab ↑80 zag)) rfl (by show zeq v375 (ixD v371 (1:Int));exact zvH h3) rfl)))) (λh383=>(zaJ (zal (zaE zaL)))) (λh383=>(zay (zhW (s0:=()) ↑102 ↥8 (λb=>b) ↑135 (λ_ _=>True) (λb=> .inl ⟨_,_,rfl⟩) (zbG (m:=true) dI (xs:=((zcQ P0 (some (4:Int)) (some ((6:Int)+((20:Int)/(↑41+((p367.c.length:Nat):Int))))))++[(1:Int),(2:Int)])) (Ev.weak (K:=K) (EvO.ev (zdC (f:=dI) (xs:=(zcQ P0 (some (4:Int)) (some ((6:Int)+((20:Int)/(↑41+((p367.c.length:Nat):Int))))))) (ys:=[(1:Int),(2:Int)]) (EvO.ev (EvO.anyI (m:=false) (zdZ (f:=dI) (xs:=P0) ↑2 (zck zaL) (zck (za0 (x:=(6:Int)) (y:=((20:Int)/(↑41+((p367.c.length:Nat):Int)))) zaL (zaT (x:=(20:Int)) (y:=(↑41+((p367.c.length:Nat):Int))) zaL (za0 (x:=↑41) (y:=((p367.c.length:Nat):Int)) (zbb (f:=lI) (xs:=p367.b) (Ev.old ↑11)) (zbb (f:=lI) (xs:=p367.c) (Ev.old ↑35))) ↥(zvz hT))))))) (EvO.ev (zdl (zab zaL (zab zaL zag)) (by show 2≤sizeLine;decide))) ↥(zrR hp ↑1))))) (.eq (.eq ↑31)) trivial (λi386 x385 s384 hx387 hI388=>have v387:=List.mem_of_getElem? hx387;⟨(λ_ _=>trivial),(zar (m:=true) (x:=(List.map (λ(x389:Int)=>(zbi x385 x389 (4:Int))) (za6 0 (↑41).toNat))) lI (zhE ↑102 ↥8) (EvO.ev (EvO.conv (zbS (g:=(λ(x389:Int)=>dI (zbi x385 x389 (4:Int)))) (zdv (m:=true) (n:=↑41) (zbb (f:=lI) (xs:=p367.b) (Ev.old ↑11)) ↥(zvD hT)) ↥(zvk hT) ↑5 (λi390 x389 hx391=>have v391:=zbs hx391;(Ev.any (m:=true) (zam (x:=(x385,x389,(4:Int))) (zab (Ev.any (m:=true) ⇑2) (zab (Ev.any (m:=true) ↑2) (zab zaL zag))) rfl (by show zeo x385 x389 (4:Int);exact zvO hT ↥0) rfl)))) ↑8)) (λv392 hv392=>have hB:=hv392;(zd0 (b:=(decide ((x385%(3:Int))=(1:Int)))) (λbb=>([⇑[dQ K ↑16],↥[dL (List.map ↑44 p367.a)],↥[dL (List.map lI p367.b)],↥[dL (List.map lI p367.c)],↥[dL (List.map (zaM A.Book) v371)],⇑[zaQ A A.Sender v375],⇑[zaQ A A.Sender v379],⇑[zaQ A A.Sender v380],↥[dL (List.map (zaM A.Book) v381)],↥[dI x385],↥[dL (List.map dI (bif bb then (List.map (λ(x394:Int)=>(((1:Int)+(zae x385 (10:Int) (12:Int)))*x394)) (ixD ((ixD p367.a (0:Int)).a) (zae x385 (11:Int) ↑41))) else v392))],.no]:L2.Ctx)) (zaA (zfw (x:=(x385%(3:Int))) (y:=(1:Int)) (zaT (x:=x385) (y:=(3:Int)) ↑74 zaL ↑1) zaL)) (λh393=>(zcO (m:=true) (za0 (x:=(1:Int)) (y:=(zae x385 (10:Int) (12:Int))) zaL (Ev.any (m:=true) (zam (x:=(x385,(10:Int),(12:Int))) (zab ↑74 (zab zaL (zab zaL zag))) rfl (by show zaS x385 (10:Int) (12:Int);exact ⟨by decide,by decide,by decide⟩) rfl))) (zcO (m:=true) (EvO.ev (EvO.conv (zbS (g:=(λ(x394:Int)=>dI (((1:Int)+(zae x385 (10:Int) (12:Int)))*x394))) (zbG (m:=true) dI (xs:=(ixD ((ixD p367.a (0:Int)).a) (zae x385 (11:Int) ↑41))) (Ev.weak (K:=K) (zbg (f:=lI) (xs:=(ixD p367.a (0:Int)).a) (Ev.weak (K:=K) (zcs (zbg (f:=↑44) (xs:=p367.a) (Ev.weak (K:=K) ⇑2) zaL ↥(zuU hT ↑1)) zaL rfl)) (Ev.any (m:=true) (zam (x:=(x385,(11:Int),↑41)) (zab ↑74 (zab zaL (zab (zbb (f:=lI) (xs:=p367.b) (Ev.old ↑11)) zag))) rfl (by show zaS x385 (11:Int) ↑41;exact zvq hT) rfl)) ↥(ztJ hT)))) ↥(zvP hT) ↑5 (λi395 x394 hx396=>have v396:=List.mem_of_getElem? hx396;(zaT (x:=((1:Int)+(zae x385 (10:Int) (12:Int)))) (y:=x394) (Ev.any (m:=true) ⇑2) (Ev.any (m:=true) ↑2) ↥(.inl zvr)))) ↑8)) (zau (.eq (.eq (.eq (.eq (.eq (.eq (.eq (.eq (.eq (.eq (.eq (.no .nil)))))))))))))))) (λh393=>(zau (.eq (.eq ↑31)))) (zel (x:=(bif (decide ((x385%(3:Int))=(1:Int))) then (List.map (λ(x394:Int)=>(((1:Int)+(zae x385 (10:Int) (12:Int)))*x394)) (ixD ((ixD p367.a (0:Int)).a) (zae x385 (11:Int) ↑41))) else v392)) (λv397=>([⇑[dQ K ↑16],↥[dL (List.map ↑44 p367.a)],↥[dL (List.map lI p367.b)],↥[dL (List.map lI p367.c)],↥[dL (List.map (zaM A.Book) v371)],⇑[zaQ A A.Sender v375],⇑[zaQ A A.Sender v379],⇑[zaQ A A.Sender v380],↥[dL (List.map (zaM A.Book) v381)],↥[dI x385],↥[dL (List.map dI v397)],.no]:L2.Ctx)) (zhE ↑102 ↥8) (λv397 hv397=>have hB1:=hv397;(zbo (b:=(!(zcJ [v375,v379,v380] v381 v397))) (zhE ↑102 ↥8) (zoG (zkG (Ev.any (m:=true) (zam (x:=([v375,v379,v380],v381,v397)) (zab (EvO.ev (zdl (zab ↑23 (zab (zaa (i:=6) rfl) (zab (zaa (i:=7) rfl) zag))) (by show 3≤sizeLine;decide))) (zab (Ev.old (Ev.weak (K:=K) (zaa (i:=8) rfl))) (zab (Ev.old (Ev.weak (K:=K) (zaa (i:=10) rfl))) zag))) rfl (by show zeT [v375,v379,v380] v381 v397;cases hL;exact zv0 h3 hT hB hB1) rfl)))) (λh398=>(zaJ (zal (zaE zaL)))) (λh398=>(zay (zau (.eq (.eq (.eq (.eq (.eq (.eq (.eq (.eq (.eq (.no (.no (.eq .nil)))))))))))))))))))))⟩) (λr399 hr399 hI=>(zal (zaE zaL))))))))))))))))))))))
theorem zoZ (xs:Ji) (hp:xs.length≤63):m_law xs=true:=by
 unfold m_law
 refine zhA λy hy=>zhA λbk hK=>zhA λF h1=>zhA λG h2=>zhA λH h3=>?_
 have hT:=zm4 hp hy
 have hL:=l76 hT hK h1 h2 h3
 obtain ⟨n,m,k,D,e1,e2,eb,_⟩:=id hL
 refine zhA λls hl=>?_
 have w1:zbe (ixD ls (0:Int)) (ixD ls (2:Int))=none:=by rw [hl];exact zpG (zrO D)
 have w2:zbe (ixD bk (0:Int)) (ixD ls (0:Int))=none:=by rw [hl,eb];exact zpG (zsh D)
 have p1:zce F (ixD bk (1:Int))=true:=by rw [eb];exact zms D rfl
 rw [w1,w2,p1,zhr λc _=>?_]
 ·rfl
 ·refine zhA λr hB=>zhA λt hB1=>?_
  obtain ⟨k1,k2⟩:=ztg hT hB hB1
  rw [hl,zoi D (k1.trans e1) k2]
  rfl
def zpC (K:W.Frag):Sp:=λvs H Q _=>∃ (a:Addr) (ns:Ji),vs=[.ref a]∧SqL K H a (ns.map V.int)∧ns.length≤63∧∀ H',Q (.bl true) H'
theorem ztr {K:W.Frag} {A:Adr} {vs:List V} {H:Hp} {Q:VK} {E:XK} (h:zpC K vs H Q E):zpM K A vs H Q E:=by
 obtain ⟨a,ns,rfl,hS,hl,q⟩:=h
 refine ⟨ns,H,Same.refl _,.cons ⟨a,_,rfl,hS,?_⟩ .nil,hl,λv F' H' _ hv=>?_⟩
 ·clear hS hl
  induction ns with
  | nil=>exact .nil
  | cons n ns ih=>exact .cons rfl ih
 ·have hv:v=.bl (m_law ns):=hv
  rw [hv,zoZ ns hl]
  exact q _
theorem ztu {l:W.OpenLaw} {w:World} {K:W.Frag} {h:Heap} {mg:Str->Option Value} {fa f0 f1 f2 f3 f4 f5 f6 f7 f8 f9 f10 f11 f12 f13 f14 f15 f16 f17 f18 f19 f20 f21 f22 f23 f24 f25 f26 f27 f28 f29 f30 f31 f32 f33 f34 f35 f36 f37 f38 f39 f40 f41 f42 f43 f44 f45 f46 f47 f48 f49 f50 f51 f52 f53 yax yaC yaL yaF yad yan :Addr} (X:K.In h) (G:h.Ns mainGlobals mg) (hfa:mg "law"=some (.ref fa))
  {od0 an0 od1 an1 od2 an2 od3 an3 od4 an4 od5 an5 od6 an6 od7 an7 od8 an8 od9 an9 od10 an10 od11 an11 od12 an12 od13 an13 od14 an14 od15 an15 od16 an16 od17 an17 od18 an18 od19 an19 od20 an20 od21 an21 od22 an22 od23 an23 od24 an24 od25 an25 od26 an26 od27 an27 od28 an28 od29 an29 od30 an30 od31 an31 od32 an32 od33 an33 od34 an34 od35 an35 od36 an36 od37 an37 od38 an38 od39 an39 od40 an40 od41 an41 od42 an42 od43 an43 od44 an44 od45 an45 od46 an46 od47 an47 od48 an48 od49 an49 od50 an50 od51 an51 od52 an52 od53 an53:Option Addr} {sl0 sl1 sl2 sl3 sl4 sl5 sl6 sl7 sl8 sl9 sl10 sl11 sl12 sl13 sl14 sl15 sl16 sl17 sl18 sl19 sl20 sl21 sl22 sl23 sl24 sl25 sl26 sl27 sl28 sl29 sl30 sl31 sl32 sl33 sl34 sl35 sl36 sl37 sl38 sl39 sl40 sl41 sl42 sl43 sl44 sl45 sl46 sl47 sl48 sl49 sl50 sl51 sl52 sl53:Array (Option Value)} {oc0 kV0 dc0 pm0 cd0 ct0 oc1 kV1 dc1 pm1 cd1 ct1 oc2 kV2 dc2 pm2 cd2 ct2 oc3 kV3 dc3 pm3 cd3 ct3 oc4 kV4 dc4 pm4 cd4 ct4 oc5 kV5 dc5 pm5 cd5 ct5 oc6 kV6 dc6 pm6 cd6 ct6 oc7 kV7 dc7 pm7 cd7 ct7 oc8 kV8 dc8 pm8 cd8 ct8 oc9 kV9 dc9 pm9 cd9 ct9 oc10 kV10 dc10 pm10 cd10 ct10 oc11 kV11 dc11 pm11 cd11 ct11 oc12 kV12 dc12 pm12 cd12 ct12 oc13 kV13 dc13 pm13 cd13 ct13 oc14 kV14 dc14 pm14 cd14 ct14 oc15 kV15 dc15 pm15 cd15 ct15 oc16 kV16 dc16 pm16 cd16 ct16 oc17 kV17 dc17 pm17 cd17 ct17 oc18 kV18 dc18 pm18 cd18 ct18 oc19 kV19 dc19 pm19 cd19 ct19 oc20 kV20 dc20 pm20 cd20 ct20 oc21 kV21 dc21 pm21 cd21 ct21 oc22 kV22 dc22 pm22 cd22 ct22 oc23 kV23 dc23 pm23 cd23 ct23 oc24 kV24 dc24 pm24 cd24 ct24 oc25 kV25 dc25 pm25 cd25 ct25 oc26 kV26 dc26 pm26 cd26 ct26 oc27 kV27 dc27 pm27 cd27 ct27 oc28 kV28 dc28 pm28 cd28 ct28 oc29 kV29 dc29 pm29 cd29 ct29 oc30 kV30 dc30 pm30 cd30 ct30 oc31 kV31 dc31 pm31 cd31 ct31 oc32 kV32 dc32 pm32 cd32 ct32 oc33 kV33 dc33 pm33 cd33 ct33 oc34 kV34 dc34 pm34 cd34 ct34 oc35 kV35 dc35 pm35 cd35 ct35 oc36 kV36 dc36 pm36 cd36 ct36 oc37 kV37 dc37 pm37 cd37 ct37 oc38 kV38 dc38 pm38 cd38 ct38 oc39 kV39 dc39 pm39 cd39 ct39 oc40 kV40 dc40 pm40 cd40 ct40 oc41 kV41 dc41 pm41 cd41 ct41 oc42 kV42 dc42 pm42 cd42 ct42 oc43 kV43 dc43 pm43 cd43 ct43 oc44 kV44 dc44 pm44 cd44 ct44 oc45 kV45 dc45 pm45 cd45 ct45 oc46 kV46 dc46 pm46 cd46 ct46 oc47 kV47 dc47 pm47 cd47 ct47 oc48 kV48 dc48 pm48 cd48 ct48 oc49 kV49 dc49 pm49 cd49 ct49 oc50 kV50 dc50 pm50 cd50 ct50 oc51 kV51 dc51 pm51 cd51 ct51 oc52 kV52 dc52 pm52 cd52 ct52 oc53 kV53 dc53 pm53 cd53 ct53:Value} {ya7 ya6:Tok}
  (ycy:W.nsIn K mainGlobals "Book"=some (some (.ref yax)))
  (ych:W.nsIn K mainGlobals "Scale"=some (some (.ref yaC)))
  (ycz:W.nsIn K mainGlobals "Line"=some (some (.ref yaL)))
  (ycA:W.nsIn K mainGlobals "Rest"=some (some (.ref yaF)))
  (ybQ:W.nsIn K mainGlobals "Sender"=some (some (.ref yad)))
  (ybR:W.nsIn K mainGlobals "Stairs"=some (some (.ref yan)))
  (a0:W.nsIn K mainGlobals "refuse_unlike"=some (some (.ref f0)))
  (l0:K.lookup f0=some ⟨oc0,od0,.func (W.fnOf "refuse_unlike" "refuse_unlike" (zaB zcq) (zaw zcq) (zaf zcq) .none kV0 dc0 pm0 an0 cd0 ct0),sl0⟩)
  (c0:W.codeIn K cd0 "refuse_unlike"=true)
  (k0:W.keepIn K (.ref f0)=true)
  (a1:W.nsIn K mainGlobals "plus"=some (some (.ref f1)))
  (l1:K.lookup f1=some ⟨oc1,od1,.func (W.fnOf "plus" "plus" (zaB zix) (zaw zix) (zaf zix) .none kV1 dc1 pm1 an1 cd1 ct1),sl1⟩)
  (c1:W.codeIn K cd1 "plus"=true)
  (k1:W.keepIn K (.ref f1)=true)
  (a2:W.nsIn K mainGlobals "less"=some (some (.ref f2)))
  (l2:K.lookup f2=some ⟨oc2,od2,.func (W.fnOf "less" "less" (zaB ziw) (zaw ziw) (zaf ziw) .none kV2 dc2 pm2 an2 cd2 ct2),sl2⟩)
  (c2:W.codeIn K cd2 "less"=true)
  (k2:W.keepIn K (.ref f2)=true)
  (a3:W.nsIn K mainGlobals "times"=some (some (.ref f3)))
  (l3:K.lookup f3=some ⟨oc3,od3,.func (W.fnOf "times" "times" (zaB zgm) (zaw zgm) (zaf zgm) .none kV3 dc3 pm3 an3 cd3 ct3),sl3⟩)
  (c3:W.codeIn K cd3 "times"=true)
  (k3:W.keepIn K (.ref f3)=true)
  (a4:W.nsIn K mainGlobals "weighed"=some (some (.ref f4)))
  (l4:K.lookup f4=some ⟨oc4,od4,.func (W.fnOf "weighed" "weighed" (zaB zeE) (zaw zeE) (zaf zeE) .none kV4 dc4 pm4 an4 cd4 ct4),sl4⟩)
  (c4:W.codeIn K cd4 "weighed"=true)
  (k4:W.keepIn K (.ref f4)=true)
  (a5:W.nsIn K mainGlobals "head_of"=some (some (.ref f5)))
  (l5:K.lookup f5=some ⟨oc5,od5,.func (W.fnOf "head_of" "head_of" (zaB zfa) (zaw zfa) (zaf zfa) .none kV5 dc5 pm5 an5 cd5 ct5),sl5⟩)
  (c5:W.codeIn K cd5 "head_of"=true)
  (k5:W.keepIn K (.ref f5)=true)
  (a6:W.nsIn K mainGlobals "common"=some (some (.ref f6)))
  (l6:K.lookup f6=some ⟨oc6,od6,.func (W.fnOf "common" "common" (zaB zf3) (zaw zf3) (zaf zf3) .none kV6 dc6 pm6 an6 cd6 ct6),sl6⟩)
  (c6:W.codeIn K cd6 "common"=true)
  (k6:W.keepIn K (.ref f6)=true)
  (a7:W.nsIn K mainGlobals "upright"=some (some (.ref f7)))
  (l7:K.lookup f7=some ⟨oc7,od7,.func (W.fnOf "upright" "upright" (zaB zfd) (zaw zfd) (zaf zfd) .none kV7 dc7 pm7 an7 cd7 ct7),sl7⟩)
  (c7:W.codeIn K cd7 "upright"=true)
  (k7:W.keepIn K (.ref f7)=true)
  (a8:W.nsIn K mainGlobals "lowered"=some (some (.ref f8)))
  (l8:K.lookup f8=some ⟨oc8,od8,.func (W.fnOf "lowered" "lowered" (zaB ze7) (zaw ze7) (zaf ze7) .none kV8 dc8 pm8 an8 cd8 ct8),sl8⟩)
  (c8:W.codeIn K cd8 "lowered"=true)
  (k8:W.keepIn K (.ref f8)=true)
  (a9:W.nsIn K mainGlobals "merged"=some (some (.ref f9)))
  (l9:K.lookup f9=some ⟨oc9,od9,.func (W.fnOf "merged" "merged" (zaB zf7) (zaw zf7) (zaf zf7) .none kV9 dc9 pm9 an9 cd9 ct9),sl9⟩)
  (c9:W.codeIn K cd9 "merged"=true)
  (k9:W.keepIn K (.ref f9)=true)
  (a10:W.nsIn K mainGlobals "taken_in"=some (some (.ref f10)))
  (l10:K.lookup f10=some ⟨oc10,od10,.func (W.fnOf "taken_in" "taken_in" (zaB zex) (zaw zex) (zaf zex) .none kV10 dc10 pm10 an10 cd10 ct10),sl10⟩)
  (c10:W.codeIn K cd10 "taken_in"=true)
  (k10:W.keepIn K (.ref f10)=true)
  (a11:W.nsIn K mainGlobals "settled"=some (some (.ref f11)))
  (l11:K.lookup f11=some ⟨oc11,od11,.func (W.fnOf "settled" "settled" (zaB zfg) (zaw zfg) (zaf zfg) .none kV11 dc11 pm11 an11 cd11 ct11),sl11⟩)
  (c11:W.codeIn K cd11 "settled"=true)
  (k11:W.keepIn K (.ref f11)=true)
  (a12:W.nsIn K mainGlobals "climbed"=some (some (.ref f12)))
  (l12:K.lookup f12=some ⟨oc12,od12,.func (W.fnOf "climbed" "climbed" (zaB ze5) (zaw ze5) (zaf ze5) .none kV12 dc12 pm12 an12 cd12 ct12),sl12⟩)
  (c12:W.codeIn K cd12 "climbed"=true)
  (k12:W.keepIn K (.ref f12)=true)
  (a13:W.nsIn K mainGlobals "marked"=some (some (.ref f13)))
  (l13:K.lookup f13=some ⟨oc13,od13,.func (W.fnOf "marked" "marked" (zaB zfX) (zaw zfX) (zaf zfX) .none kV13 dc13 pm13 an13 cd13 ct13),sl13⟩)
  (c13:W.codeIn K cd13 "marked"=true)
  (k13:W.keepIn K (.ref f13)=true)
  (a14:W.nsIn K mainGlobals "padded"=some (some (.ref f14)))
  (l14:K.lookup f14=some ⟨oc14,od14,.func (W.fnOf "padded" "padded" (zaB zfp) (zaw zfp) (zaf zfp) .none kV14 dc14 pm14 an14 cd14 ct14),sl14⟩)
  (c14:W.codeIn K cd14 "padded"=true)
  (k14:W.keepIn K (.ref f14)=true)
  (a15:W.nsIn K mainGlobals "traced"=some (some (.ref f15)))
  (l15:K.lookup f15=some ⟨oc15,od15,.func (W.fnOf "traced" "traced" (zaB zf0) (zaw zf0) (zaf zf0) .none kV15 dc15 pm15 an15 cd15 ct15),sl15⟩)
  (c15:W.codeIn K cd15 "traced"=true)
  (k15:W.keepIn K (.ref f15)=true)
  (a16:W.nsIn K mainGlobals "tails"=some (some (.ref f16)))
  (l16:K.lookup f16=some ⟨oc16,od16,.func (W.fnOf "tails" "tails" (zaB zgo) (zaw zgo) (zaf zgo) .none kV16 dc16 pm16 an16 cd16 ct16),sl16⟩)
  (c16:W.codeIn K cd16 "tails"=true)
  (k16:W.keepIn K (.ref f16)=true)
  (a17:W.nsIn K mainGlobals "counted"=some (some (.ref f17)))
  (l17:K.lookup f17=some ⟨oc17,od17,.func (W.fnOf "counted" "counted" (zaB zfh) (zaw zfh) (zaf zfh) .none kV17 dc17 pm17 an17 cd17 ct17),sl17⟩)
  (c17:W.codeIn K cd17 "counted"=true)
  (k17:W.keepIn K (.ref f17)=true)
  (a18:W.nsIn K mainGlobals "book_of"=some (some (.ref f18)))
  (l18:K.lookup f18=some ⟨oc18,od18,.func (W.fnOf "book_of" "book_of" (zaB ze9) (zaw ze9) (zaf ze9) .none kV18 dc18 pm18 an18 cd18 ct18),sl18⟩)
  (c18:W.codeIn K cd18 "book_of"=true)
  (k18:W.keepIn K (.ref f18)=true)
  (a19:W.nsIn K mainGlobals "refuse_bad_basket"=some (some (.ref f19)))
  (l19:K.lookup f19=some ⟨oc19,od19,.func (W.fnOf "refuse_bad_basket" "refuse_bad_basket" (zaB zbx) (zaw zbx) (zaf zbx) .none kV19 dc19 pm19 an19 cd19 ct19),sl19⟩)
  (c19:W.codeIn K cd19 "refuse_bad_basket"=true)
  (k19:W.keepIn K (.ref f19)=true)
  (a20:W.nsIn K mainGlobals "levelled"=some (some (.ref f20)))
  (l20:K.lookup f20=some ⟨oc20,od20,.func (W.fnOf "levelled" "levelled" (zaB zey) (zaw zey) (zaf zey) .none kV20 dc20 pm20 an20 cd20 ct20),sl20⟩)
  (c20:W.codeIn K cd20 "levelled"=true)
  (k20:W.keepIn K (.ref f20)=true)
  (a21:W.nsIn K mainGlobals "shown"=some (some (.ref f21)))
  (l21:K.lookup f21=some ⟨oc21,od21,.func (W.fnOf "shown" "shown" (zaB zfE) (zaw zfE) (zaf zfE) .none kV21 dc21 pm21 an21 cd21 ct21),sl21⟩)
  (c21:W.codeIn K cd21 "shown"=true)
  (k21:W.keepIn K (.ref f21)=true)
  (a22:W.nsIn K mainGlobals "refuse_bad_baskets"=some (some (.ref f22)))
  (l22:K.lookup f22=some ⟨oc22,od22,.func (W.fnOf "refuse_bad_baskets" "refuse_bad_baskets" (zaB zbp) (zaw zbp) (zaf zbp) .none kV22 dc22 pm22 an22 cd22 ct22),sl22⟩)
  (c22:W.codeIn K cd22 "refuse_bad_baskets"=true)
  (k22:W.keepIn K (.ref f22)=true)
  (a23:W.nsIn K mainGlobals "refuse_other_book"=some (some (.ref f23)))
  (l23:K.lookup f23=some ⟨oc23,od23,.func (W.fnOf "refuse_other_book" "refuse_other_book" (zaB zby) (zaw zby) (zaf zby) .none kV23 dc23 pm23 an23 cd23 ct23),sl23⟩)
  (c23:W.codeIn K cd23 "refuse_other_book"=true)
  (k23:W.keepIn K (.ref f23)=true)
  (a24:W.nsIn K mainGlobals "stairs"=some (some (.ref f24)))
  (l24:K.lookup f24=some ⟨oc24,od24,.func (W.fnOf "stairs" "stairs" (zaB zd1) (zaw zd1) (zaf zd1) .none kV24 dc24 pm24 an24 cd24 ct24),sl24⟩)
  (c24:W.codeIn K cd24 "stairs"=true)
  (k24:W.keepIn K (.ref f24)=true)
  (a25:W.nsIn K mainGlobals "home"=some (some (.ref f25)))
  (l25:K.lookup f25=some ⟨oc25,od25,.func (W.fnOf "home" "home" (zaB zja) (zaw zja) (zaf zja) .none kV25 dc25 pm25 an25 cd25 ct25),sl25⟩)
  (c25:W.codeIn K cd25 "home"=true)
  (k25:W.keepIn K (.ref f25)=true)
  (a26:W.nsIn K mainGlobals "refuse_other_wares"=some (some (.ref f26)))
  (l26:K.lookup f26=some ⟨oc26,od26,.func (W.fnOf "refuse_other_wares" "refuse_other_wares" (zaB zbl) (zaw zbl) (zaf zbl) .none kV26 dc26 pm26 an26 cd26 ct26),sl26⟩)
  (c26:W.codeIn K cd26 "refuse_other_wares"=true)
  (k26:W.keepIn K (.ref f26)=true)
  (a27:W.nsIn K mainGlobals "within"=some (some (.ref f27)))
  (l27:K.lookup f27=some ⟨oc27,od27,.func (W.fnOf "within" "within" (zaB zfW) (zaw zfW) (zaf zfW) .none kV27 dc27 pm27 an27 cd27 ct27),sl27⟩)
  (c27:W.codeIn K cd27 "within"=true)
  (k27:W.keepIn K (.ref f27)=true)
  (a28:W.nsIn K mainGlobals "_law_cell"=some (some (.ref f28)))
  (l28:K.lookup f28=some ⟨oc28,od28,.func (W.fnOf "_law_cell" "_law_cell" (zaB zew) (zaw zew) (zaf zew) .none kV28 dc28 pm28 an28 cd28 ct28),sl28⟩)
  (c28:W.codeIn K cd28 "_law_cell"=true)
  (k28:W.keepIn K (.ref f28)=true)
  (a29:W.nsIn K mainGlobals "_law_raw"=some (some (.ref f29)))
  (l29:K.lookup f29=some ⟨oc29,od29,.func (W.fnOf "_law_raw" "_law_raw" (zaB ze6) (zaw ze6) (zaf ze6) .none kV29 dc29 pm29 an29 cd29 ct29),sl29⟩)
  (c29:W.codeIn K cd29 "_law_raw"=true)
  (k29:W.keepIn K (.ref f29)=true)
  (a30:W.nsIn K mainGlobals "_law_thing"=some (some (.ref f30)))
  (l30:K.lookup f30=some ⟨oc30,od30,.func (W.fnOf "_law_thing" "_law_thing" (zaB zdU) (zaw zdU) (zaf zdU) .none kV30 dc30 pm30 an30 cd30 ct30),sl30⟩)
  (c30:W.codeIn K cd30 "_law_thing"=true)
  (k30:W.keepIn K (.ref f30)=true)
  (a31:W.nsIn K mainGlobals "_law_frame"=some (some (.ref f31)))
  (l31:K.lookup f31=some ⟨oc31,od31,.func (W.fnOf "_law_frame" "_law_frame" (zaB zcd) (zaw zcd) (zaf zcd) .none kV31 dc31 pm31 an31 cd31 ct31),sl31⟩)
  (c31:W.codeIn K cd31 "_law_frame"=true)
  (k31:W.keepIn K (.ref f31)=true)
  (a32:W.nsIn K mainGlobals "_law_bottoms"=some (some (.ref f32)))
  (l32:K.lookup f32=some ⟨oc32,od32,.func (W.fnOf "_law_bottoms" "_law_bottoms" (zaB zc8) (zaw zc8) (zaf zc8) .none kV32 dc32 pm32 an32 cd32 ct32),sl32⟩)
  (c32:W.codeIn K cd32 "_law_bottoms"=true)
  (k32:W.keepIn K (.ref f32)=true)
  (a33:W.nsIn K mainGlobals "_law_stirred"=some (some (.ref f33)))
  (l33:K.lookup f33=some ⟨oc33,od33,.func (W.fnOf "_law_stirred" "_law_stirred" (zaB zbC) (zaw zbC) (zaf zbC) .none kV33 dc33 pm33 an33 cd33 ct33),sl33⟩)
  (c33:W.codeIn K cd33 "_law_stirred"=true)
  (k33:W.keepIn K (.ref f33)=true)
  (a34:W.nsIn K mainGlobals "_law_side"=some (some (.ref f34)))
  (l34:K.lookup f34=some ⟨oc34,od34,.func (W.fnOf "_law_side" "_law_side" (zaB zeA) (zaw zeA) (zaf zeA) .none kV34 dc34 pm34 an34 cd34 ct34),sl34⟩)
  (c34:W.codeIn K cd34 "_law_side"=true)
  (k34:W.keepIn K (.ref f34)=true)
  (a35:W.nsIn K mainGlobals "_law_shared"=some (some (.ref f35)))
  (l35:K.lookup f35=some ⟨oc35,od35,.func (W.fnOf "_law_shared" "_law_shared" (zaB zdz) (zaw zdz) (zaf zdz) .none kV35 dc35 pm35 an35 cd35 ct35),sl35⟩)
  (c35:W.codeIn K cd35 "_law_shared"=true)
  (k35:W.keepIn K (.ref f35)=true)
  (a36:W.nsIn K mainGlobals "_law_images"=some (some (.ref f36)))
  (l36:K.lookup f36=some ⟨oc36,od36,.func (W.fnOf "_law_images" "_law_images" (zaB zcX) (zaw zcX) (zaf zcX) .none kV36 dc36 pm36 an36 cd36 ct36),sl36⟩)
  (c36:W.codeIn K cd36 "_law_images"=true)
  (k36:W.keepIn K (.ref f36)=true)
  (a37:W.nsIn K mainGlobals "_law_wares_sent"=some (some (.ref f37)))
  (l37:K.lookup f37=some ⟨oc37,od37,.func (W.fnOf "_law_wares_sent" "_law_wares_sent" (zaB zbF) (zaw zbF) (zaf zbF) .none kV37 dc37 pm37 an37 cd37 ct37),sl37⟩)
  (c37:W.codeIn K cd37 "_law_wares_sent"=true)
  (k37:W.keepIn K (.ref f37)=true)
  (a38:W.nsIn K mainGlobals "_law_trio"=some (some (.ref f38)))
  (l38:K.lookup f38=some ⟨oc38,od38,.func (W.fnOf "_law_trio" "_law_trio" (zaB zes) (zaw zes) (zaf zes) .none kV38 dc38 pm38 an38 cd38 ct38),sl38⟩)
  (c38:W.codeIn K cd38 "_law_trio"=true)
  (k38:W.keepIn K (.ref f38)=true)
  (a39:W.nsIn K mainGlobals "_law_book"=some (some (.ref f39)))
  (l39:K.lookup f39=some ⟨oc39,od39,.func (W.fnOf "_law_book" "_law_book" (zaB zdS) (zaw zdS) (zaf zdS) .none kV39 dc39 pm39 an39 cd39 ct39),sl39⟩)
  (c39:W.codeIn K cd39 "_law_book"=true)
  (k39:W.keepIn K (.ref f39)=true)
  (a40:W.nsIn K mainGlobals "_law_count"=some (some (.ref f40)))
  (l40:K.lookup f40=some ⟨oc40,od40,.func (W.fnOf "_law_count" "_law_count" (zaB zdO) (zaw zdO) (zaf zdO) .none kV40 dc40 pm40 an40 cd40 ct40),sl40⟩)
  (c40:W.codeIn K cd40 "_law_count"=true)
  (k40:W.keepIn K (.ref f40)=true)
  (a41:W.nsIn K mainGlobals "_law_lost"=some (some (.ref f41)))
  (l41:K.lookup f41=some ⟨oc41,od41,.func (W.fnOf "_law_lost" "_law_lost" (zaB zeu) (zaw zeu) (zaf zeu) .none kV41 dc41 pm41 an41 cd41 ct41),sl41⟩)
  (c41:W.codeIn K cd41 "_law_lost"=true)
  (k41:W.keepIn K (.ref f41)=true)
  (a42:W.nsIn K mainGlobals "_law_good"=some (some (.ref f42)))
  (l42:K.lookup f42=some ⟨oc42,od42,.func (W.fnOf "_law_good" "_law_good" (zaB zev) (zaw zev) (zaf zev) .none kV42 dc42 pm42 an42 cd42 ct42),sl42⟩)
  (c42:W.codeIn K cd42 "_law_good"=true)
  (k42:W.keepIn K (.ref f42)=true)
  (a43:W.nsIn K mainGlobals "_law_plain"=some (some (.ref f43)))
  (l43:K.lookup f43=some ⟨oc43,od43,.func (W.fnOf "_law_plain" "_law_plain" (zaB zdr) (zaw zdr) (zaf zdr) .none kV43 dc43 pm43 an43 cd43 ct43),sl43⟩)
  (c43:W.codeIn K cd43 "_law_plain"=true)
  (k43:W.keepIn K (.ref f43)=true)
  (a44:W.nsIn K mainGlobals "law"=some (some (.ref f44)))
  (l44:K.lookup f44=some ⟨oc44,od44,.func (W.fnOf "law" "law" (zaB zgL) (zaw zgL) (zaf zgL) .none kV44 dc44 pm44 an44 cd44 ct44),sl44⟩)
  (c44:W.codeIn K cd44 "law"=true)
  (k44:W.keepIn K (.ref f44)=true)
  (ybw:W.findIn K (.ref yad) "sent"=some (some (.ref f45)))
  (i45:W.isFn K (.ref f45)=true)
  (l45:K.lookup f45=some ⟨oc45,od45,.func (W.fnOf "sent" "Sender.sent" (zaB zdg) (zaw zdg) (zaf zdg) .none kV45 dc45 pm45 an45 cd45 ct45),sl45⟩)
  (c45:W.codeIn K cd45 "Sender.sent"=true)
  (k45:W.keepIn K (.ref f45)=true)
  (ybx:W.findIn K (.ref yad) "climb"=some (some (.ref f46)))
  (i46:W.isFn K (.ref f46)=true)
  (l46:K.lookup f46=some ⟨oc46,od46,.func (W.fnOf "climb" "Sender.climb" (zaB zcM) (zaw zcM) (zaf zcM) .none kV46 dc46 pm46 an46 cd46 ct46),sl46⟩)
  (c46:W.codeIn K cd46 "Sender.climb"=true)
  (k46:W.keepIn K (.ref f46)=true)
  (yby:W.findIn K (.ref yad) "back"=some (some (.ref f47)))
  (i47:W.isFn K (.ref f47)=true)
  (l47:K.lookup f47=some ⟨oc47,od47,.func (W.fnOf "back" "Sender.back" (zaB zda) (zaw zda) (zaf zda) .none kV47 dc47 pm47 an47 cd47 ct47),sl47⟩)
  (c47:W.codeIn K cd47 "Sender.back"=true)
  (k47:W.keepIn K (.ref f47)=true)
  (ybz:W.findIn K (.ref yad) "bar"=some (some (.ref f48)))
  (i48:W.isFn K (.ref f48)=true)
  (l48:K.lookup f48=some ⟨oc48,od48,.func (W.fnOf "bar" "Sender.bar" (zaB zdy) (zaw zdy) (zaf zdy) .none kV48 dc48 pm48 an48 cd48 ct48),sl48⟩)
  (c48:W.codeIn K cd48 "Sender.bar"=true)
  (k48:W.keepIn K (.ref f48)=true)
  (ybA:W.findIn K (.ref yad) "lost"=some (some (.ref f49)))
  (i49:W.isFn K (.ref f49)=true)
  (l49:K.lookup f49=some ⟨oc49,od49,.func (W.fnOf "lost" "Sender.lost" (zaB zc9) (zaw zc9) (zaf zc9) .none kV49 dc49 pm49 an49 cd49 ct49),sl49⟩)
  (c49:W.codeIn K cd49 "Sender.lost"=true)
  (k49:W.keepIn K (.ref f49)=true)
  (ybB:W.findIn K (.ref yad) "behind"=some (some (.ref f50)))
  (i50:W.isFn K (.ref f50)=true)
  (l50:K.lookup f50=some ⟨oc50,od50,.func (W.fnOf "behind" "Sender.behind" (zaB zbZ) (zaw zbZ) (zaf zbZ) .none kV50 dc50 pm50 an50 cd50 ct50),sl50⟩)
  (c50:W.codeIn K cd50 "Sender.behind"=true)
  (k50:W.keepIn K (.ref f50)=true)
  (a51:W.findIn K (.ref yax) "__init__"=some (some (.ref f51)))
  (i51:W.isFn K (.ref f51)=true)
  (l51:K.lookup f51=some ⟨oc51,od51,.func (W.fnOf "__init__" "Book.__init__" (zaB zbV) (zaw zbV) (zaf zbV) .none kV51 dc51 pm51 an51 cd51 ct51),sl51⟩)
  (c51:W.codeIn K cd51 "Book.__init__"=true)
  (k51:W.keepIn K (.ref f51)=true)
  (a52:W.findIn K (.ref yad) "__init__"=some (some (.ref f52)))
  (i52:W.isFn K (.ref f52)=true)
  (l52:K.lookup f52=some ⟨oc52,od52,.func (W.fnOf "__init__" "Sender.__init__" (zaB zbv) (zaw zbv) (zaf zbv) .none kV52 dc52 pm52 an52 cd52 ct52),sl52⟩)
  (c52:W.codeIn K cd52 "Sender.__init__"=true)
  (k52:W.keepIn K (.ref f52)=true)
  (a53:W.findIn K (.ref yan) "__init__"=some (some (.ref f53)))
  (i53:W.isFn K (.ref f53)=true)
  (l53:K.lookup f53=some ⟨oc53,od53,.func (W.fnOf "__init__" "Stairs.__init__" (zaB zbR) (zaw zbR) (zaf zbR) .none kV53 dc53 pm53 an53 cd53 ct53),sl53⟩)
  (c53:W.codeIn K cd53 "Stairs.__init__"=true)
  (k53:W.keepIn K (.ref f53)=true)
  (ycB:W.plainGet K yax Str.empty=true)
  (ycC:W.hasDictIn K yax=true)
  (ycD:W.plainOver K yax=true)
  (ycE:W.findIn K (.ref yax) "__setattr__"=some ↑61)
  (ycF:W.makesIn K yax=true)
  (ycG:W.keepIn K (.ref yax)=true)
  (ybj:W.findIn K (.ref yax) "many"=some none)
  (yba:W.findIn K (.ref yax) "swaps"=some none)
  (yci:W.plainGet K yaC Str.empty=true)
  (ycj:W.hasDictIn K yaC=true)
  (yck:W.plainOver K yaC=true)
  (ycl:W.findIn K (.ref yaC) "__setattr__"=some ↑61)
  (yc9:W.makesIn K yaC=true)
  (yda:W.keepIn K (.ref yaC)=true)
  (yaM:W.findIn K (.ref yaC) "weights"=some none)
  (ycH:W.plainGet K yaL Str.empty=true)
  (ycI:W.hasDictIn K yaL=true)
  (ycJ:W.plainOver K yaL=true)
  (ycK:W.findIn K (.ref yaL) "__setattr__"=some ↑61)
  (ydq:W.makesIn K yaL=true)
  (ydr:W.keepIn K (.ref yaL)=true)
  (yaT:W.findIn K (.ref yaL) "weights"=some none)
  (ycL:W.plainGet K yaF Str.empty=true)
  (ycM:W.hasDictIn K yaF=true)
  (ycN:W.plainOver K yaF=true)
  (ycO:W.findIn K (.ref yaF) "__setattr__"=some ↑61)
  (yds:W.makesIn K yaF=true)
  (ydt:W.keepIn K (.ref yaF)=true)
  (yaU:W.findIn K (.ref yaF) "weights"=some none)
  (ybk:W.findIn K (.ref yaF) "rest"=some none)
  (ybS:W.plainGet K yad Str.empty=true)
  (ybT:W.hasDictIn K yad=true)
  (ybU:W.plainOver K yad=true)
  (ybV:W.findIn K (.ref yad) "__setattr__"=some ↑61)
  (ybW:W.makesIn K yad=true)
  (ybX:W.keepIn K (.ref yad)=true)
  (yaV:W.findIn K (.ref yad) "first"=some none)
  (yaN:W.findIn K (.ref yad) "second"=some none)
  (yaG:W.findIn K (.ref yad) "baskets"=some none)
  (ybY:W.plainGet K yan Str.empty=true)
  (ybZ:W.hasDictIn K yan=true)
  (yb0:W.plainOver K yan=true)
  (yb1:W.findIn K (.ref yan) "__setattr__"=some ↑61)
  (yb2:W.makesIn K yan=true)
  (yb3:W.keepIn K (.ref yan)=true)
  (yaW:W.findIn K (.ref yan) "steps"=some none)
  (yaX:W.findIn K (.ref yan) "heads"=some none)
  (yaY:W.findIn K (.ref yan) "roads"=some none)
  (ydx:W.nsIn K mainGlobals "any"=some none)
  (ybl:W.nsIn K mainGlobals "enumerate"=some none)
  (ydy:W.nsIn K mainGlobals "int"=some none)
  (ydz:W.nsIn K mainGlobals "len"=some none)
  (ydb:W.nsIn K mainGlobals "list"=some none)
  (ydA:W.nsIn K mainGlobals "max"=some none)
  (ycP:W.nsIn K mainGlobals "range"=some none)
  (ybC:W.nsIn K mainGlobals "reversed"=some none)
  (ydB:W.nsIn K mainGlobals "sum"=some none)
  (ydC:W.nsIn K mainGlobals "zip"=some none)
  (g_MOST_WARES:W.nsIn K mainGlobals "MOST_WARES"=some (some (.int 8 ya7)))
  (g_MOST_SWAPS:W.nsIn K mainGlobals "MOST_SWAPS"=some (some (.int 12 ya6))) :
  ∃ fd:FuncData,(∀ (s:Shared) (v:Value),BindsTo s fd ⟨[v],[]⟩ [("_law_script",v)])∧∀ base:Heap,K.In base->base.Ns mainGlobals mg->FnOk l.prog w K mg base ↥4 11 fa fd ["_law_script"] (zpC K):=by
 have e:=hfa.symm.trans (W.mg_of X G a44)
 cases e
 have ybd:=zaX (st:=zcq) l0 c0 k0
 have ycn:=ybd.binds (ps:=⇑4) λ_ _ _ _ _ _ us hl=>match us,hl with | [_,_],_=>rfl
 have zfL:=W.mg_of X G a0
 have ydL:=zaX (st:=zix) l1 c1 k1
 have yd8:=ydL.binds (ps:=⇑4) λ_ _ _ _ _ _ us hl=>match us,hl with | [_,_],_=>rfl
 have ze3:=W.mg_of X G a1
 have ydM:=zaX (st:=ziw) l2 c2 k2
 have yd9:=ydM.binds (ps:=⇑4) λ_ _ _ _ _ _ us hl=>match us,hl with | [_,_],_=>rfl
 have zfx:=W.mg_of X G a2
 have ydu:=zaX (st:=zgm) l3 c3 k3
 have yd5:=ydu.binds (ps:=["some","many"]) λ_ _ _ _ _ _ us hl=>match us,hl with | [_,_],_=>rfl
 have zaq:=W.mg_of X G a3
 have ycS:=zaX (st:=zeE) l4 c4 k4
 have ydN:=ycS.binds (ps:=⇑4) λ_ _ _ _ _ _ us hl=>match us,hl with | [_,_],_=>rfl
 have zcY:=W.mg_of X G a4
 have ycT:=zaX (st:=zfa) l5 c5 k5
 have ydO:=ycT.binds (ps:=["row"]) λ_ _ _ _ _ _ us hl=>match us,hl with | [_],_=>rfl
 have zak:=W.mg_of X G a5
 have ydc:=zaX (st:=zf3) l6 c6 k6
 have ydX:=ydc.binds (ps:=⇑4) λ_ _ _ _ _ _ us hl=>match us,hl with | [_,_],_=>rfl
 have zdL:=W.mg_of X G a6
 have ycU:=zaX (st:=zfd) l7 c7 k7
 have ydP:=ycU.binds (ps:=["row"]) λ_ _ _ _ _ _ us hl=>match us,hl with | [_],_=>rfl
 have zbT:=W.mg_of X G a7
 have ycV:=zaX (st:=ze7) l8 c8 k8
 have ydQ:=ycV.binds (ps:=["row","steps"]) λ_ _ _ _ _ _ us hl=>match us,hl with | [_,_],_=>rfl
 have m_lowered:=W.mg_of X G a8
 have ydd:=zaX (st:=zf7) l9 c9 k9
 have ydY:=ydd.binds (ps:=["step","row"]) λ_ _ _ _ _ _ us hl=>match us,hl with | [_,_],_=>rfl
 have zbE:=W.mg_of X G a9
 have yco:=zaX (st:=zex) l10 c10 k10
 have ydD:=yco.binds (ps:=["steps","row"]) λ_ _ _ _ _ _ us hl=>match us,hl with | [_,_],_=>rfl
 have m_taken_in:=W.mg_of X G a10
 have ycW:=zaX (st:=zfg) l11 c11 k11
 have ydR:=ycW.binds (ps:=["steps"]) λ_ _ _ _ _ _ us hl=>match us,hl with | [_],_=>rfl
 have zc0:=W.mg_of X G a11
 have ycX:=zaX (st:=ze5) l12 c12 k12
 have ydS:=ycX.binds (ps:=["rows"]) λ_ _ _ _ _ _ us hl=>match us,hl with | [_],_=>rfl
 have zbu:=W.mg_of X G a12
 have yde:=zaX (st:=zfX) l13 c13 k13
 have ydZ:=yde.binds (ps:=["rows"]) λ_ _ _ _ _ _ us hl=>match us,hl with | [_],_=>rfl
 have zcB:=W.mg_of X G a13
 have ydf:=zaX (st:=zfp) l14 c14 k14
 have yd0:=ydf.binds (ps:=["rows","many"]) λ_ _ _ _ _ _ us hl=>match us,hl with | [_,_],_=>rfl
 have zdo:=W.mg_of X G a14
 have ydg:=zaX (st:=zf0) l15 c15 k15
 have yd1:=ydg.binds (ps:=["rows"]) λ_ _ _ _ _ _ us hl=>match us,hl with | [_],_=>rfl
 have zdd:=W.mg_of X G a15
 have ydv:=zaX (st:=zgo) l16 c16 k16
 have yd6:=ydv.binds (ps:=["steps","many"]) λ_ _ _ _ _ _ us hl=>match us,hl with | [_,_],_=>rfl
 have zej:=W.mg_of X G a16
 have ycY:=zaX (st:=zfh) l17 c17 k17
 have ydT:=ycY.binds (ps:=["steps","basket","many"]) λ_ _ _ _ _ _ us hl=>match us,hl with | [_,_,_],_=>rfl
 have zei:=W.mg_of X G a17
 have ycZ:=zaX (st:=ze9) l18 c18 k18
 have ydU:=ycZ.binds (ps:=["many","swaps"]) λ_ _ _ _ _ _ us hl=>match us,hl with | [_,_],_=>rfl
 have zec:=W.mg_of X G a18
 have yaQ:=zaX (st:=zbx) l19 c19 k19
 have ybK:=yaQ.binds (ps:=["book","basket"]) λ_ _ _ _ _ _ us hl=>match us,hl with | [_,_],_=>rfl
 have zeF:=W.mg_of X G a19
 have ycp:=zaX (st:=zey) l20 c20 k20
 have ydE:=ycp.binds (ps:=["steps","length"]) λ_ _ _ _ _ _ us hl=>match us,hl with | [_,_],_=>rfl
 have zdW:=W.mg_of X G a20
 have ydw:=zaX (st:=zfE) l21 c21 k21
 have yd7:=ydw.binds (ps:=["book","basket"]) λ_ _ _ _ _ _ us hl=>match us,hl with | [_,_],_=>rfl
 have m_shown:=W.mg_of X G a21
 have yaO:=zaX (st:=zbp) l22 c22 k22
 have ybD:=yaO.binds (ps:=["first","second","baskets"]) λ_ _ _ _ _ _ us hl=>match us,hl with | [_,_,_],_=>rfl
 have zem:=W.mg_of X G a22
 have yaR:=zaX (st:=zby) l23 c23 k23
 have ybL:=yaR.binds (ps:=⇑4) λ_ _ _ _ _ _ us hl=>match us,hl with | [_,_],_=>rfl
 have m_refuse_other_book:=W.mg_of X G a23
 have ydh:=zaX (st:=zd1) l24 c24 k24
 have yd2:=ydh.binds (ps:=["book"]) λ_ _ _ _ _ _ us hl=>match us,hl with | [_],_=>rfl
 have zdJ:=W.mg_of X G a24
 have ydV:=zaX (st:=zja) l25 c25 k25
 have yea:=ydV.binds (ps:=["book","basket"]) λ_ _ _ _ _ _ us hl=>match us,hl with | [_,_],_=>rfl
 have zbX:=W.mg_of X G a25
 have yaP:=zaX (st:=zbl) l26 c26 k26
 have ybE:=yaP.binds (ps:=⇑4) λ_ _ _ _ _ _ us hl=>match us,hl with | [_,_],_=>rfl
 have zen:=W.mg_of X G a26
 have ydi:=zaX (st:=zfW) l27 c27 k27
 have yd3:=ydi.binds (ps:=⇑4) λ_ _ _ _ _ _ us hl=>match us,hl with | [_,_],_=>rfl
 have zbe:=W.mg_of X G a27
 have ycq:=zaX (st:=zew) l28 c28 k28
 have ydF:=ycq.binds (ps:=["_law_script","_law_k"]) λ_ _ _ _ _ _ us hl=>match us,hl with | [_,_],_=>rfl
 have zdQ:=W.mg_of X G a28
 have yc0:=zaX (st:=ze6) l29 c29 k29
 have ydW:=yc0.binds (ps:=["_law_script","_law_k"]) λ_ _ _ _ _ _ us hl=>match us,hl with | [_,_],_=>rfl
 have zbd:=W.mg_of X G a29
 have yb7:=zaX (st:=zdU) l30 c30 k30
 have ydm:=yb7.binds (ps:=↑56) λ_ _ _ _ _ _ us hl=>match us,hl with | [_,_,_],_=>rfl
 have zae:=W.mg_of X G a30
 have yb8:=zaX (st:=zcd) l31 c31 k31
 have ydn:=yb8.binds (ps:=["_law_wide","_law_cells"]) λ_ _ _ _ _ _ us hl=>match us,hl with | [_,_],_=>rfl
 have zbU:=W.mg_of X G a31
 have ybF:=zaX (st:=zc8) l32 c32 k32
 have yc1:=ybF.binds (ps:=["_law_wide","_law_cell_here","_law_far"]) λ_ _ _ _ _ _ us hl=>match us,hl with | [_,_,_],_=>rfl
 have za2:=W.mg_of X G a32
 have ybG:=zaX (st:=zbC) l33 c33 k33
 have yc2:=ybG.binds (ps:=["_law_rows","_law_bottoms_here","_law_idle","_law_cells"]) λ_ _ _ _ _ _ us hl=>match us,hl with | [_,_,_,_],_=>rfl
 have zaR:=W.mg_of X G a33
 have ycr:=zaX (st:=zeA) l34 c34 k34
 have ydG:=ycr.binds (ps:=["_law_cells","_law_wide","_law_cell_here","_law_idle"]) λ_ _ _ _ _ _ us hl=>match us,hl with | [_,_,_,_],_=>rfl
 have zbz:=W.mg_of X G a34
 have yb4:=zaX (st:=zdz) l35 c35 k35
 have ydj:=yb4.binds (ps:=["_law_one","_law_other"]) λ_ _ _ _ _ _ us hl=>match us,hl with | [_,_],_=>rfl
 have zaC:=W.mg_of X G a35
 have yb5:=zaX (st:=zcX) l36 c36 k36
 have ydk:=yb5.binds (ps:=["_law_first","_law_second","_law_cell_here","_law_far"]) λ_ _ _ _ _ _ us hl=>match us,hl with | [_,_,_,_],_=>rfl
 have m_law_images:=W.mg_of X G a36
 have ybb:=zaX (st:=zbF) l37 c37 k37
 have ycm:=ybb.binds (ps:=["_law_first","_law_images_here","_law_wide"]) λ_ _ _ _ _ _ us hl=>match us,hl with | [_,_,_],_=>rfl
 have m_law_wares_sent:=W.mg_of X G a37
 have ycs:=zaX (st:=zes) l38 c38 k38
 have ydH:=ycs.binds (ps:=["_law_script"]) λ_ _ _ _ _ _ us hl=>match us,hl with | [_],_=>rfl
 have m_law_trio:=W.mg_of X G a38
 have yct:=zaX (st:=zdS) l39 c39 k39
 have ydI:=yct.binds (ps:=["_law_side_here"]) λ_ _ _ _ _ _ us hl=>match us,hl with | [_],_=>rfl
 have za3:=W.mg_of X G a39
 have yb9:=zaX (st:=zdO) l40 c40 k40
 have ydo:=yb9.binds (ps:=["_law_cell_here","_law_k","_law_size"]) λ_ _ _ _ _ _ us hl=>match us,hl with | [_,_,_],_=>rfl
 have zbi:=W.mg_of X G a40
 have ycu:=zaX (st:=zeu) l41 c41 k41
 have ydJ:=ycu.binds (ps:=["_law_book_here","_law_basket"]) λ_ _ _ _ _ _ us hl=>match us,hl with | [_,_],_=>rfl
 have zba:=W.mg_of X G a41
 have ycv:=zaX (st:=zev) l42 c42 k42
 have ydK:=ycv.binds (ps:=["_law_senders","_law_lost_here","_law_basket"]) λ_ _ _ _ _ _ us hl=>match us,hl with | [_,_,_],_=>rfl
 have zcJ:=W.mg_of X G a42
 have yca:=zaX (st:=zdr) l43 c43 k43
 have ydp:=yca.binds (ps:=["_law_first","_law_book_here"]) λ_ _ _ _ _ _ us hl=>match us,hl with | [_,_],_=>rfl
 have zce:=W.mg_of X G a43
 have yd4:=zaX (st:=zgL) l44 c44 k44
 have yeb:=yd4.binds (ps:=["_law_script"]) λ_ _ _ _ _ _ us hl=>match us,hl with | [_],_=>rfl
 have m_law:=W.mg_of X G a44
 have ybH:=zaX (st:=zdg) l45 c45 k45
 have yc3:=ybH.binds (ps:=["self","basket"]) λ_ _ _ _ _ _ us hl=>match us,hl with | [_,_],_=>rfl
 have ybo:=zaX (st:=zcM) l46 c46 k46
 have ycQ:=ybo.binds (ps:=["self"]) λ_ _ _ _ _ _ us hl=>match us,hl with | [_],_=>rfl
 have ybI:=zaX (st:=zda) l47 c47 k47
 have yc4:=ybI.binds (ps:=["self","basket"]) λ_ _ _ _ _ _ us hl=>match us,hl with | [_,_],_=>rfl
 have yb6:=zaX (st:=zdy) l48 c48 k48
 have ydl:=yb6.binds (ps:=["self","basket"]) λ_ _ _ _ _ _ us hl=>match us,hl with | [_,_],_=>rfl
 have ybJ:=zaX (st:=zc9) l49 c49 k49
 have yc5:=ybJ.binds (ps:=["self"]) λ_ _ _ _ _ _ us hl=>match us,hl with | [_],_=>rfl
 have ybe:=zaX (st:=zbZ) l50 c50 k50
 have ycw:=ybe.binds (ps:=["self","other"]) λ_ _ _ _ _ _ us hl=>match us,hl with | [_,_],_=>rfl
 have ybf:=zaX (st:=zbV) l51 c51 k51
 have yak:=ybf.binds (ps:=["self","many","swaps"]) λ_ _ _ _ _ _ us hl=>match us,hl with | [_,_,_],_=>rfl
 have ya3:=zaX (st:=zbv) l52 c52 k52
 have yag:=ya3.binds (ps:=["self","first","second","baskets"]) λ_ _ _ _ _ _ us hl=>match us,hl with | [_,_,_,_],_=>rfl
 have ya4:=zaX (st:=zbR) l53 c53 k53
 have yaE:=ya4.binds (ps:=["self","steps","heads","roads"]) λ_ _ _ _ _ _ us hl=>match us,hl with | [_,_,_,_],_=>rfl
 have T:Txt K mg ⟨(),yax,yaC,yaL,yaF,yad,yan⟩:=⟨W.mg_none_of X G ydx,W.mg_none_of X G ybl,W.mg_none_of X G ydy,W.mg_none_of X G ydz,W.mg_none_of X G ydb,W.mg_none_of X G ydA,W.mg_none_of X G ycP,W.mg_none_of X G ybC,W.mg_none_of X G ydB,W.mg_none_of X G ydC,W.mg_of X G ycy,⟨ycB,ycC,ycD,ycE⟩,ybj,yba,W.mg_of X G ych,⟨yci,ycj,yck,ycl⟩,yaM,W.mg_of X G ycz,⟨ycH,ycI,ycJ,ycK⟩,yaT,W.mg_of X G ycA,⟨ycL,ycM,ycN,ycO⟩,yaU,ybk,W.mg_of X G ybQ,⟨ybS,ybT,ybU,ybV⟩,yaV,yaN,yaG,W.mg_of X G ybR,⟨ybY,ybZ,yb0,yb1⟩,yaW,yaX,yaY,⟨ya7,W.mg_of X G g_MOST_WARES⟩,⟨ya6,W.mg_of X G g_MOST_SWAPS⟩⟩
 refine ⟨W.fnOf "law" "law" (zaB zgL) (zaw zgL) (zaf zgL) .none kV44 dc44 pm44 an44 cd44 ct44,λs v=>.of_eq rfl,λbase _ _=>?_⟩
 have yaI:Mk K yax f51:=⟨ycF,a51,i51,ycG⟩
 have yas:Mk K yad f52:=⟨ybW,a52,i52,ybX⟩
 have ycf:Mk K yan f53:=⟨yb2,a53,i53,yb3⟩
 have yai:Callee l.prog w K mg base ↥4 1 "refuse_unlike" ⇑4 (zcE K _):=⟨_,_,zhD ybd T  ,zfL,k0,ycn⟩
 have ybn:Callee l.prog w K mg base ↥4 2 "plus" ⇑4 (zjd K _):=⟨_,_,zqB ydL T yai ,ze3,k1,yd8⟩
 have ybm:Callee l.prog w K mg base ↥4 2 "less" ⇑4 (zjr K _):=⟨_,_,zqz ydM T yai ,zfx,k2,yd9⟩
 have yah:Callee l.prog w K mg base ↥4 1 "times" ["some","many"] (zeM K _):=⟨_,_,zo0 ydu T  ,zaq,k3,yd5⟩
 have ybN:Callee l.prog w K mg base ↥4 2 "weighed" ⇑4 (zhg K _):=⟨_,_,zmD ycS T yai ,zcY,k4,ydN⟩
 have yab:Callee l.prog w K mg base ↥4 1 "head_of" ["row"] (zcK K _):=⟨_,_,zmB ycT T  ,zak,k5,ydO⟩
 have ycb:Callee l.prog w K mg base ↥4 1 "common" ⇑4 (ziC K _):=⟨_,_,zol ydc T  ,zdL,k6,ydX⟩
 have ybc:Callee l.prog w K mg base ↥4 2 "upright" ["row"] (zhj K _):=⟨_,_,zmC ycU T yab yah ,zbT,k7,ydP⟩
 have yal:Callee l.prog w K mg base ↥4 3 "lowered" ["row","steps"] (zez K _):=⟨_,_,zmq ycV T yab ybm yah ,m_lowered,k8,ydQ⟩
 have ycc:Callee l.prog w K mg base ↥4 3 "merged" ["step","row"] (zil K _):=⟨_,_,zn2 ydd T ycb yab ybm ybn yah ,zbE,k9,ydY⟩
 have ybp:Callee l.prog w K mg base ↥4 4 "taken_in" ["steps","row"] (zgA K _):=⟨_,_,zkK yco T yab yal ycc ybc ,m_taken_in,k10,ydD⟩
 have ybM:Callee l.prog w K mg base ↥4 4 "settled" ["steps"] (zhp K _):=⟨_,_,zmn ycW T yal ,zc0,k11,ydR⟩
 have yar:Callee l.prog w K mg base ↥4 5 "climbed" ["rows"] (ze4 K _):=⟨_,_,zmx ycX T ybM ybp ,zbu,k12,ydS⟩
 have yaS:Callee l.prog w K mg base ↥4 1 "marked" ["rows"] (zgN K _):=⟨_,_,zn1 yde T  ,zcB,k13,ydZ⟩
 have ycd:Callee l.prog w K mg base ↥4 1 "padded" ["rows","many"] (zic K _):=⟨_,_,znD ydf T  ,zdo,k14,yd0⟩
 have yce:Callee l.prog w K mg base ↥4 6 "traced" ["rows"] (zis K _):=⟨_,_,znP ydg T yar yaS ,zdd,k15,yd1⟩
 have ycx:Callee l.prog w K mg base ↥4 2 "tails" ["steps","many"] (zjp K _):=⟨_,_,zpz ydv T yab ,zej,k16,yd6⟩
 have ybO:Callee l.prog w K mg base ↥4 4 "counted" ["steps","basket","many"] (zg6 K _):=⟨_,_,zmy ycY T yal yah ,zei,k17,ydT⟩
 have yaj:=zhJ (P:=l.prog) (w:=w) (base:=base) ybf T
 have ybP:Callee l.prog w K mg base ↥4 3 "book_of" ["many","swaps"] (zhh K _):=⟨_,_,zmt ycZ T  yaI yaj yak ,zec,k18,ydU⟩
 have yac:Callee l.prog w K mg base ↥4 1 "refuse_bad_basket" ["book","basket"] (zbn K _):=⟨_,_,zgg yaQ T  ,zeF,k19,ybK⟩
 have ybq:Callee l.prog w K mg base ↥4 3 "levelled" ["steps","length"] (zgl K _):=⟨_,_,zkH ycp T yab yah ybN ,zdW,k20,ydE⟩
 have yaB:Callee l.prog w K mg base ↥4 6 "shown" ["book","basket"] (zgJ K _):=⟨_,_,zo2 ydw T yar yab ybq ,m_shown,k21,yd7⟩
 have yau:Callee l.prog w K mg base ↥4 1 "refuse_bad_baskets" ["first","second","baskets"] (zc3 K _):=⟨_,_,zfN yaO T  ,zem,k22,ybD⟩
 have yay:Callee l.prog w K mg base ↥4 1 "refuse_other_book" ⇑4 (zdi K _):=⟨_,_,zgh yaR T  ,m_refuse_other_book,k23,ybL⟩
 have yae:CalleeM l.prog w K mg base ↥4 3 yad "sent" ["self","basket"] (zcI K _):=⟨_,_,ziM ybH T ybn yac yah ,⟨ybw,i45,k45⟩,yc3⟩
 have yaf:=zgU (P:=l.prog) (w:=w) (base:=base) ya3 T  yae yau yaB
 have yap:CalleeM l.prog w K mg base ↥4 6 yad "climb" ["self"] (zdK K _):=⟨_,_,zh1 ybo T yar yaS ycd ,⟨ybx,i46,k46⟩,ycQ⟩
 have yaq:CalleeM l.prog w K mg base ↥4 7 yad "back" ["self","basket"] (zd8 K _):=⟨_,_,ziQ ybI T yap ybO yac ,⟨yby,i47,k47⟩,yc4⟩
 have ya9:CalleeM l.prog w K mg base ↥4 7 yad "bar" ["self","basket"] (zfq K _):=⟨_,_,zjj yb6 T yac yaB yaI yaj yak ,⟨ybz,i48,k48⟩,ydl⟩
 have yam:CalleeM l.prog w K mg base ↥4 7 yad "lost" ["self"] (zd2 K _):=⟨_,_,ziK ybJ T yap ycx yaI yaj yak ,⟨ybA,i49,k49⟩,yc5⟩
 have yao:CalleeM l.prog w K mg base ↥4 9 yad "behind" ["self","other"] (zdp K _):=⟨_,_,zhL ybe T yae yay yas yaf yag ,⟨ybB,i50,k50⟩,ycw⟩
 have yaD:=zgY (P:=l.prog) (w:=w) (base:=base) ya4 T
 have ycg:Callee l.prog w K mg base ↥4 7 "stairs" ["book"] (zhZ K _):=⟨_,_,znA ydh T yab yce ycf yaD yaE ,zdJ,k24,yd2⟩
 have yaK:Callee l.prog w K mg base ↥4 8 "home" ["book","basket"] (zjw K _):=⟨_,_,zqE ydV T yal yac ycg ,zbX,k25,yea⟩
 have yav:Callee l.prog w K mg base ↥4 1 "refuse_other_wares" ⇑4 (zc6 K _):=⟨_,_,zfD yaP T  ,zen,k26,ybE⟩
 have yaA:Callee l.prog w K mg base ↥4 7 "within" ⇑4 (zgM K _):=⟨_,_,zmT ydi T yav yaB ,zbe,k27,yd3⟩
 have ybr:Callee l.prog w K mg base ↥4 1 "_law_cell" ["_law_script","_law_k"] (zgv K _):=⟨_,_,zkz ycq T  ,zdQ,k28,ydF⟩
 have ya0:Callee l.prog w K mg base ↥4 1 "_law_raw" ["_law_script","_law_k"] (zhf K _):=⟨_,_,zmm yc0 T  ,zbd,k29,ydW⟩
 have yaa:Callee l.prog w K mg base ↥4 1 "_law_thing" ↑56 (zcu K _):=⟨_,_,zkm yb7 T  ,zae,k30,ydm⟩
 have ybg:Callee l.prog w K mg base ↥4 2 "_law_frame" ["_law_wide","_law_cells"] (zfT K _):=⟨_,_,zki yb8 T yaa ,zbU,k31,ydn⟩
 have ya1:Callee l.prog w K mg base ↥4 2 "_law_bottoms" ["_law_wide","_law_cell_here","_law_far"] (zeZ K _):=⟨_,_,ziL ybF T yaa ,za2,k32,yc1⟩
 have ya2:Callee l.prog w K mg base ↥4 2 "_law_stirred" ["_law_rows","_law_bottoms_here","_law_idle","_law_cells"] (ze0 K _):=⟨_,_,ziJ ybG T yaa ,zaR,k33,yc2⟩
 have ybs:Callee l.prog w K mg base ↥4 3 "_law_side" ["_law_cells","_law_wide","_law_cell_here","_law_idle"] (zgx K _):=⟨_,_,zkL ycr T ya1 ybg ya2 ,zbz,k34,ydG⟩
 have ya8:Callee l.prog w K mg base ↥4 1 "_law_shared" ["_law_one","_law_other"] (zfm K _):=⟨_,_,zjy yb4 T  ,zaC,k35,ydj⟩
 have yaJ:Callee l.prog w K mg base ↥4 2 "_law_images" ["_law_first","_law_second","_law_cell_here","_law_far"] (zfk K _):=⟨_,_,zjf yb5 T ya8 yaa ,m_law_images,k36,ydk⟩
 have yaw:Callee l.prog w K mg base ↥4 1 "_law_wares_sent" ["_law_first","_law_images_here","_law_wide"] (zdN K _):=⟨_,_,zhu ybb T  ,m_law_wares_sent,k37,ycm⟩
 have ybv:Callee l.prog w K mg base ↥4 4 "_law_trio" ["_law_script"] (zgt K _):=⟨_,_,zk7 ycs T ybr yaJ ya0 ybs yaw ,m_law_trio,k38,ydH⟩
 have ybt:Callee l.prog w K mg base ↥4 4 "_law_book" ["_law_side_here"] (zgq K _):=⟨_,_,zle yct T ybP ,za3,k39,ydI⟩
 have ybh:Callee l.prog w K mg base ↥4 2 "_law_count" ["_law_cell_here","_law_k","_law_size"] (zfH K _):=⟨_,_,zjV yb9 T yaa ,zbi,k40,ydo⟩
 have ya5:Callee l.prog w K mg base ↥4 9 "_law_lost" ["_law_book_here","_law_basket"] (zgn K _):=⟨_,_,zkP ycu T yaK ,zba,k41,ydJ⟩
 have ybu:Callee l.prog w K mg base ↥4 10 "_law_good" ["_law_senders","_law_lost_here","_law_basket"] (zgw K _):=⟨_,_,zlr ycv T yaq ya9 yae ya5 yaK ,zcJ,k42,ydK⟩
 have ybi:Callee l.prog w K mg base ↥4 10 "_law_plain" ["_law_first","_law_book_here"] (zfO K _):=⟨_,_,zkl yca T yaq yao yam yae yaA yas yaf yag ,zce,k43,ydp⟩
 exact (zsb yd4 T yao yam ybt ybh ybu ybi yaa ybv yaA yas yaf yag ).imp λ_ _ _ _ q=>ztr q
theorem zvl {l:W.OpenLaw} {q:Program} {loose:List Str} {XP:(Str->Option Value)->Heap->Prop} {YP:World->Heap->Prop} {d:DefRec} {K:Params->W.Frag} (hn:l.most=some 63) (hdf:d.params.defaults=[])
  (hY:∀ (w:World) (h:Heap),YP w h->(K w.params).In h)
  (F:∀ (w:World) (mg:Str->Option Value) (fa:Addr) (h:Heap),(K w.params).In h->h.Ns mainGlobals mg->mg d.name=some (.ref fa) →
   ∃ fd:FuncData,(∀ (s:Shared) (u:Value),BindsTo s fd ⟨[u],[]⟩ [("_law_script",u)])∧∀ base:Heap,(K w.params).In base->base.Ns mainGlobals mg->FnOk l.prog w (K w.params) mg base ↥4 11 fa fd ["_law_script"] (zpC (K w.params))) :
  W.WalkO q loose XP YP l.row.toRowW d [] (λf vs=>PySem.call f vs) :=
 L2.zrt (n:=63) (k:=11) (x:="_law_script") (CX:=λw=>CXE l.prog w) (sp:=λw=>zpC (K w.params)) hn ↑1 hdf ⟨rfl,by decide,by decide⟩ hY F (λ_ _ a ns hl _ hS=>⟨a,ns,rfl,hS,hl,λ_=>rfl⟩) λ_ _ _ _ _ ⟨_,_,_,_,_,_,_,_,_,_,z⟩=>z
end
end My
section
open PySem PySem.W PyProof.Rows
set_option maxRecDepth 100000 in
set_option maxHeartbeats 0 in
theorem PySem.Challenge.cw_swapbook_k76_whole_what_is_lost_behind_holds : PySem.Challenge.rw_swapbook_k76_whole_what_is_lost_behind.Holds := by
 refine My.headT ?hc
 k_fill
 refine My.zvl (l:=PySem.Challenge.rw_swapbook_k76_whole_what_is_lost_behind) rfl rfl (λw h Y=>W.kIn_of Y) ?F
 case F =>
  intro w mg fa h KX G hmg
  refine' My.ztu KX G hmg ?ycy ?ych ?ycz ?ycA ?ybQ ?ybR ?a0 ?l0 ?c0 ?k0 ?a1 ?l1 ?c1 ?k1 ?a2 ?l2 ?c2 ?k2 ?a3 ?l3 ?c3 ?k3 ?a4 ?l4 ?c4 ?k4 ?a5 ?l5 ?c5 ?k5 ?a6 ?l6 ?c6 ?k6 ?a7 ?l7 ?c7 ?k7 ?a8 ?l8 ?c8 ?k8 ?a9 ?l9 ?c9 ?k9 ?a10 ?l10 ?c10 ?k10 ?a11 ?l11 ?c11 ?k11 ?a12 ?l12 ?c12 ?k12 ?a13 ?l13 ?c13 ?k13 ?a14 ?l14 ?c14 ?k14 ?a15 ?l15 ?c15 ?k15 ?a16 ?l16 ?c16 ?k16 ?a17 ?l17 ?c17 ?k17 ?a18 ?l18 ?c18 ?k18 ?a19 ?l19 ?c19 ?k19 ?a20 ?l20 ?c20 ?k20 ?a21 ?l21 ?c21 ?k21 ?a22 ?l22 ?c22 ?k22 ?a23 ?l23 ?c23 ?k23 ?a24 ?l24 ?c24 ?k24 ?a25 ?l25 ?c25 ?k25 ?a26 ?l26 ?c26 ?k26 ?a27 ?l27 ?c27 ?k27 ?a28 ?l28 ?c28 ?k28 ?a29 ?l29 ?c29 ?k29 ?a30 ?l30 ?c30 ?k30 ?a31 ?l31 ?c31 ?k31 ?a32 ?l32 ?c32 ?k32 ?a33 ?l33 ?c33 ?k33 ?a34 ?l34 ?c34 ?k34 ?a35 ?l35 ?c35 ?k35 ?a36 ?l36 ?c36 ?k36 ?a37 ?l37 ?c37 ?k37 ?a38 ?l38 ?c38 ?k38 ?a39 ?l39 ?c39 ?k39 ?a40 ?l40 ?c40 ?k40 ?a41 ?l41 ?c41 ?k41 ?a42 ?l42 ?c42 ?k42 ?a43 ?l43 ?c43 ?k43 ?a44 ?l44 ?c44 ?k44 ?ybw ?i45 ?l45 ?c45 ?k45 ?ybx ?i46 ?l46 ?c46 ?k46 ?yby ?i47 ?l47 ?c47 ?k47 ?ybz ?i48 ?l48 ?c48 ?k48 ?ybA ?i49 ?l49 ?c49 ?k49 ?ybB ?i50 ?l50 ?c50 ?k50 ?a51 ?i51 ?l51 ?c51 ?k51 ?a52 ?i52 ?l52 ?c52 ?k52 ?a53 ?i53 ?l53 ?c53 ?k53 ?ycB ?ycC ?ycD ?ycE ?ycF ?ycG ?ybj ?yba ?yci ?ycj ?yck ?ycl ?yc9 ?yda ?yaM ?ycH ?ycI ?ycJ ?ycK ?ydq ?ydr ?yaT ?ycL ?ycM ?ycN ?ycO ?yds ?ydt ?yaU ?ybk ?ybS ?ybT ?ybU ?ybV ?ybW ?ybX ?yaV ?yaN ?yaG ?ybY ?ybZ ?yb0 ?yb1 ?yb2 ?yb3 ?yaW ?yaX ?yaY ?ydx ?ybl ?ydy ?ydz ?ydb ?ydA ?ycP ?ybC ?ydB ?ydC ?g_MOST_WARES ?g_MOST_SWAPS
  (case ycy=>k_is)
  (case ych=>k_is)
  (case ycz=>k_is)
  (case ycA=>k_is)
  (case ybQ=>k_is)
  (case ybR=>k_is)
  (case a0=>k_is)
  (case l0=>k_is)
  (case c0=>k_is)
  (case k0=>k_is)
  (case a1=>k_is)
  (case l1=>k_is)
  (case c1=>k_is)
  (case k1=>k_is)
  (case a2=>k_is)
  (case l2=>k_is)
  (case c2=>k_is)
  (case k2=>k_is)
  (case a3=>k_is)
  (case l3=>k_is)
  (case c3=>k_is)
  (case k3=>k_is)
  (case a4=>k_is)
  (case l4=>k_is)
  (case c4=>k_is)
  (case k4=>k_is)
  (case a5=>k_is)
  (case l5=>k_is)
  (case c5=>k_is)
  (case k5=>k_is)
  (case a6=>k_is)
  (case l6=>k_is)
  (case c6=>k_is)
  (case k6=>k_is)
  (case a7=>k_is)
  (case l7=>k_is)
  (case c7=>k_is)
  (case k7=>k_is)
  (case a8=>k_is)
  (case l8=>k_is)
  (case c8=>k_is)
  (case k8=>k_is)
  (case a9=>k_is)
  (case l9=>k_is)
  (case c9=>k_is)
  (case k9=>k_is)
  (case a10=>k_is)
  (case l10=>k_is)
  (case c10=>k_is)
  (case k10=>k_is)
  (case a11=>k_is)
  (case l11=>k_is)
  (case c11=>k_is)
  (case k11=>k_is)
  (case a12=>k_is)
  (case l12=>k_is)
  (case c12=>k_is)
  (case k12=>k_is)
  (case a13=>k_is)
  (case l13=>k_is)
  (case c13=>k_is)
  (case k13=>k_is)
  (case a14=>k_is)
  (case l14=>k_is)
  (case c14=>k_is)
  (case k14=>k_is)
  (case a15=>k_is)
  (case l15=>k_is)
  (case c15=>k_is)
  (case k15=>k_is)
  (case a16=>k_is)
  (case l16=>k_is)
  (case c16=>k_is)
  (case k16=>k_is)
  (case a17=>k_is)
  (case l17=>k_is)
  (case c17=>k_is)
  (case k17=>k_is)
  (case a18=>k_is)
  (case l18=>k_is)
  (case c18=>k_is)
  (case k18=>k_is)
  (case a19=>k_is)
  (case l19=>k_is)
  (case c19=>k_is)
  (case k19=>k_is)
  (case a20=>k_is)
  (case l20=>k_is)
  (case c20=>k_is)
  (case k20=>k_is)
  (case a21=>k_is)
  (case l21=>k_is)
  (case c21=>k_is)
  (case k21=>k_is)
  (case a22=>k_is)
  (case l22=>k_is)
  (case c22=>k_is)
  (case k22=>k_is)
  (case a23=>k_is)
  (case l23=>k_is)
  (case c23=>k_is)
  (case k23=>k_is)
  (case a24=>k_is)
  (case l24=>k_is)
  (case c24=>k_is)
  (case k24=>k_is)
  (case a25=>k_is)
  (case l25=>k_is)
  (case c25=>k_is)
  (case k25=>k_is)
  (case a26=>k_is)
  (case l26=>k_is)
  (case c26=>k_is)
  (case k26=>k_is)
  (case a27=>k_is)
  (case l27=>k_is)
  (case c27=>k_is)
  (case k27=>k_is)
  (case a28=>k_is)
  (case l28=>k_is)
  (case c28=>k_is)
  (case k28=>k_is)
  (case a29=>k_is)
  (case l29=>k_is)
  (case c29=>k_is)
  (case k29=>k_is)
  (case a30=>k_is)
  (case l30=>k_is)
  (case c30=>k_is)
  (case k30=>k_is)
  (case a31=>k_is)
  (case l31=>k_is)
  (case c31=>k_is)
  (case k31=>k_is)
  (case a32=>k_is)
  (case l32=>k_is)
  (case c32=>k_is)
  (case k32=>k_is)
  (case a33=>k_is)
  (case l33=>k_is)
  (case c33=>k_is)
  (case k33=>k_is)
  (case a34=>k_is)
  (case l34=>k_is)
  (case c34=>k_is)
  (case k34=>k_is)
  (case a35=>k_is)
  (case l35=>k_is)
  (case c35=>k_is)
  (case k35=>k_is)
  (case a36=>k_is)
  (case l36=>k_is)
  (case c36=>k_is)
  (case k36=>k_is)
  (case a37=>k_is)
  (case l37=>k_is)
  (case c37=>k_is)
  (case k37=>k_is)
  (case a38=>k_is)
  (case l38=>k_is)
  (case c38=>k_is)
  (case k38=>k_is)
  (case a39=>k_is)
  (case l39=>k_is)
  (case c39=>k_is)
  (case k39=>k_is)
  (case a40=>k_is)
  (case l40=>k_is)
  (case c40=>k_is)
  (case k40=>k_is)
  (case a41=>k_is)
  (case l41=>k_is)
  (case c41=>k_is)
  (case k41=>k_is)
  (case a42=>k_is)
  (case l42=>k_is)
  (case c42=>k_is)
  (case k42=>k_is)
  (case a43=>k_is)
  (case l43=>k_is)
  (case c43=>k_is)
  (case k43=>k_is)
  (case a44=>k_is)
  (case l44=>k_is)
  (case c44=>k_is)
  (case k44=>k_is)
  (case ybw=>k_is)
  (case i45=>k_is)
  (case l45=>k_is)
  (case c45=>k_is)
  (case k45=>k_is)
  (case ybx=>k_is)
  (case i46=>k_is)
  (case l46=>k_is)
  (case c46=>k_is)
  (case k46=>k_is)
  (case yby=>k_is)
  (case i47=>k_is)
  (case l47=>k_is)
  (case c47=>k_is)
  (case k47=>k_is)
  (case ybz=>k_is)
  (case i48=>k_is)
  (case l48=>k_is)
  (case c48=>k_is)
  (case k48=>k_is)
  (case ybA=>k_is)
  (case i49=>k_is)
  (case l49=>k_is)
  (case c49=>k_is)
  (case k49=>k_is)
  (case ybB=>k_is)
  (case i50=>k_is)
  (case l50=>k_is)
  (case c50=>k_is)
  (case k50=>k_is)
  (case a51=>k_is)
  (case i51=>k_is)
  (case l51=>k_is)
  (case c51=>k_is)
  (case k51=>k_is)
  (case a52=>k_is)
  (case i52=>k_is)
  (case l52=>k_is)
  (case c52=>k_is)
  (case k52=>k_is)
  (case a53=>k_is)
  (case i53=>k_is)
  (case l53=>k_is)
  (case c53=>k_is)
  (case k53=>k_is)
  (case ycB=>k_is)
  (case ycC=>k_is)
  (case ycD=>k_is)
  (case ycE=>k_is)
  (case ycF=>k_is)
  (case ycG=>k_is)
  (case ybj=>k_is)
  (case yba=>k_is)
  (case yci=>k_is)
  (case ycj=>k_is)
  (case yck=>k_is)
  (case ycl=>k_is)
  (case yc9=>k_is)
  (case yda=>k_is)
  (case yaM=>k_is)
  (case ycH=>k_is)
  (case ycI=>k_is)
  (case ycJ=>k_is)
  (case ycK=>k_is)
  (case ydq=>k_is)
  (case ydr=>k_is)
  (case yaT=>k_is)
  (case ycL=>k_is)
  (case ycM=>k_is)
  (case ycN=>k_is)
  (case ycO=>k_is)
  (case yds=>k_is)
  (case ydt=>k_is)
  (case yaU=>k_is)
  (case ybk=>k_is)
  (case ybS=>k_is)
  (case ybT=>k_is)
  (case ybU=>k_is)
  (case ybV=>k_is)
  (case ybW=>k_is)
  (case ybX=>k_is)
  (case yaV=>k_is)
  (case yaN=>k_is)
  (case yaG=>k_is)
  (case ybY=>k_is)
  (case ybZ=>k_is)
  (case yb0=>k_is)
  (case yb1=>k_is)
  (case yb2=>k_is)
  (case yb3=>k_is)
  (case yaW=>k_is)
  (case yaX=>k_is)
  (case yaY=>k_is)
  (case ydx=>k_is)
  (case ybl=>k_is)
  (case ydy=>k_is)
  (case ydz=>k_is)
  (case ydb=>k_is)
  (case ydA=>k_is)
  (case ycP=>k_is)
  (case ybC=>k_is)
  (case ydB=>k_is)
  (case ydC=>k_is)
  (case g_MOST_WARES=>k_is)
  (case g_MOST_SWAPS=>k_is)
end
