import PyProof.Rows.All
import Wide.All
import OpenK.AllK
import Wide.FinOn
import Lean
import PyProof.EqAt
import PyProof.EqKinds
import PyProof.TupleCall
import PySem.Challenge.RW_swapbook_k71_sent
set_option Elab.async false
set_option linter.all false
set_option maxRecDepth 100000
set_option compiler.extract_closed false
set_option genSizeOf false
namespace Hd
open PySem PySem.W PyProof.Rows
def runT (p:Program) (w:World) (m:Nat) (a:Option Value):Nat->SharedT->Thread->Option SharedT
 | 0,_,_=>none
 | n+1,s,t=>match through t with
  | true=>some s
  | false=>match stepOk m a t with
   | true=>(match stepT (denote treeTable) p w s t with
    | some x=>runT p w m a n x.1 x.2
    | none=>none)
   | false=>none
theorem zpV {p:Program} {w:World} {m:Nat} {a:Option Value}:∀ {n:Nat} {s z:SharedT} {t:Thread},runT p w m a n s t=some z->topRun treeTable p w m a n s.abs t=some z.abs
 | 0,_,_,_,h=>by cases h
 | n+1,s,z,t,h=>by
  rw [runT] at h
  rw [topRun]
  cases h1:through t<;>rw [h1] at h
  ·cases h2:stepOk m a t<;>rw [h2] at h
   ·cases h
   ·cases h3:stepT (denote treeTable) p w s t with
    | none=>rw [h3] at h;cases h
    | some x=>rw [h3] at h;rw [stepT_spec (s':=x.1) (t':=x.2) h3];exact zpV h
  ·cases h;rfl
def tr:List Obj->Nat->BT->BT
 | [],_,t=>t
 | o :: r,n,t=>tr r (n+1) (t.ins n o)
noncomputable def boot (P:Params) (os:OsState):SharedT:=⟨tr (boot_heap P).objs.toList 0 .nil,11,(boot_heap P).life,Array.mk [],boot_drawn,boot_toks,os⟩
theorem zoX (P:Params) (os:OsState):(boot P os).abs=⟨boot_heap P,Array.mk [],boot_drawn,boot_toks,os⟩:=by kernel_rfl
theorem zq0 (P:Params):((boot_heap P).isNs mainGlobals&&(Array.mk ([]:List GenState)).size == 0)=true:=by kernel_rfl
theorem zrE (P:Params):(boot_heap P).objs.size=11:=by kernel_rfl
theorem zqH (P:Params):(boot_heap P).nsMap mainGlobals "__annotations__"=some (.ref 6):=by kernel_rfl
noncomputable def lk (p:Program) (w:World) (s:Shared):Bool:=staticsOk (importedModules p.main.body) (boot_heap w.params) s.heap&&namesBound p s.heap&&gensDone s&&laidKept (boot_heap w.params) s.heap
def getT (s:SharedT) (a:Nat):Option Obj:=match Nat.blt a s.n with
 | true=>alive ((s.tree.get a).getD default)
 | false=>none
theorem zrz (s:SharedT) (a:Nat):s.abs.heap.get? a=getT s a:=by
 show (absHeap s.tree s.n s.life).get? a=_
 unfold Heap.get? getT
 rw [absHeap_at]
 by_cases h:a<s.n
 ·have e:Nat.blt a s.n=true:=by simpa [Nat.blt_eq] using h
  rw [if_pos h,e]
  generalize (s.tree.get a).getD default=o
  obtain ⟨c,d,dt,sl⟩:=o
  cases dt<;>rfl
 ·have e:Nat.blt a s.n=false:=by
   cases q:Nat.blt a s.n with
   | false=>rfl
   | true=>exact absurd (by simpa [Nat.blt_eq] using q) h
  rw [if_neg h,e]
theorem y_is (as:List Addr) (s:SharedT):as.map s.abs.heap.get?=as.map (getT s):=by
 congr 1
 funext a
 exact zrz s a
theorem left_of {p q:Program} {loose:List Str} {Xt:Shared->Bool} {α:Type} {Yf:Shared->α} {Ya:World->α} {N:Nat} {g0:Bool} {YT:SharedT->α}
  (e:opening p=plainProg p.main.scope.names) (hN:Nat.ble 600 N=true) (f:∀ s,fenceModules? p s=some s) (hy:∀ s:SharedT,Yf s.abs=YT s)
  (h:∀ w os,(runT p w 11 (some (.ref 6)) N (boot w.params os) (topStub p)).map (λs=>(lk p w s.abs,openSeen q loose (importedModules p.main.body) Xt g0 s.abs,YT s))=some (true,openGood q loose,Ya w)):LeftO p q loose Xt Yf Ya N g0:=λw=>by
 obtain ⟨s,h1,h2⟩:=Option.map_eq_some_iff.mp (boot_open e hN f w)
 obtain ⟨hp,gs,dr,tk,os⟩:=s
 have h3:hp=boot_heap w.params∧gs=Array.mk []∧dr=boot_drawn∧tk=boot_toks:=by simpa using h2
 obtain ⟨rfl,rfl,rfl,rfl⟩:=h3
 obtain ⟨z,h4,h5⟩:=Option.map_eq_some_iff.mp (h w os)
 have h6:=zpV h4
 rw [zoX] at h6
 obtain ⟨l1,l2,l3⟩:_∧_∧_:=by simpa only [Prod.mk.injEq] using h5
 unfold openEnds
 rw [h1]
 show (topFrom treeTable p w N _).map _=_
 have h7:topFrom treeTable p w N ⟨boot_heap w.params,Array.mk [],boot_drawn,boot_toks,os⟩=some z.abs:=by
  unfold topFrom
  dsimp only
  rw [zq0,zrE,zqH,h6]
  show (match lk p w z.abs with | true=>_ | false=>_)=_
  rw [l1]
 rw [h7]
 exact congrArg some (Prod.ext l2 ((hy z).trans l3))
end Hd
set_option maxRecDepth 100000
namespace My
open PySem PySem.W PyProof.Rows
noncomputable def hdF (q:Program) (as:List Addr) (N:Nat) (w:World) (os:OsState) (bh:Heap) :=
 (Hd.runT PySem.Challenge.rw_swapbook_k71_sent.row.prog w 11 (some (.ref 6)) N ⟨Hd.tr bh.objs.toList 0 .nil,11,bh.life,Array.mk [],boot_drawn,boot_toks,os⟩ (topStub PySem.Challenge.rw_swapbook_k71_sent.row.prog)).map (λs=>(staticsOk (importedModules PySem.Challenge.rw_swapbook_k71_sent.row.prog.main.body) bh s.abs.heap&&namesBound PySem.Challenge.rw_swapbook_k71_sent.row.prog s.abs.heap&&gensDone s.abs&&laidKept bh s.abs.heap,
  openSeen q [] (importedModules PySem.Challenge.rw_swapbook_k71_sent.row.prog.main.body) (λs=>xlAt q [] s&&recOk (RowW.records PySem.Challenge.rw_swapbook_k71_sent.row.toRowW) s) true s.abs,as.map (Hd.getT s)))
noncomputable def hdG (q:Program) (K:Params->Frag) (w:World):=some (true,openGood q [],(K w.params).map λp=>some p.2)
end My
set_option Elab.async false
lay_quick My.hdF My.hdG
namespace My
open PySem PySem.W PyProof.Rows
theorem zsi {q:Program} {K:Params->Frag} {as:List Addr} {N:Nat} {e:∀ P,as=(K P).map (·.1)} (hN:Nat.ble 600 N=true)
  (h:∀ w os,W.Fast.tw6084617276858994590 q as N w os (boot_heap w.params)=W.Fast.tw7309032369996461460 q K w) :
  LeftO PySem.Challenge.rw_swapbook_k71_sent.row.prog q [] (λs=>xlAt q [] s&&recOk (RowW.records PySem.Challenge.rw_swapbook_k71_sent.row.toRowW) s) (kHook K as e).obs (kHook K as e).val N:=by
 rw [← W.Fast.te6084617276858994590,← W.Fast.te7309032369996461460] at h
 exact Hd.left_of (by kernel_rfl) hN (λs=>by kernel_rfl) (Hd.y_is as) h
end My
section
local macro_rules
 | `(tactic| refine $e:term)=>do
  if e.raw.isOfKind `Lean.Parser.Term.app&&e.raw[0].getId.eraseMacroScopes == `PySem.W.holds_open then
   let some _:=e.raw.find? (λs=>s.isOfKind `Lean.Parser.Term.syntheticHole&&s[1].getId.eraseMacroScopes == `hl) | Lean.Macro.throwUnsupported
   let h ← `(My.zsi (by decide) (λw os=>by kernel_rfl))
   let e' ← e.raw.replaceM λs=>pure (if s.isOfKind `Lean.Parser.Term.syntheticHole&&s[1].getId.eraseMacroScopes == `hl then some h.raw else none)
   `(tactic| refine $(⟨e'⟩))
  else Lean.Macro.throwUnsupported
open PySem PySem.W PyProof.Rows
set_option maxRecDepth 100000 in
set_option maxHeartbeats 0 in
open_top My.headT for PySem.Challenge.rw_swapbook_k71_sent
end
set_option hygiene false in
local macro_rules
 | `(↥4)=>`(⟨rfl,rfl,rfl,by decide+kernel,rfl,by decide+kernel,by decide+kernel⟩)
 | `(↑10)=>`((by first|(rw [List.map_map];rfl)|(simp only [cond_true,cond_false];rw [List.map_map];rfl)))
 | `(↑109)=>`((λ(r:(T3 ⇑9 ⇑9 Jq))=>Oc.rt true (dT [dT [dL (List.map lI r.a.a),dL (List.map lI r.a.b),dL (List.map dI r.a.c),dL (List.map lI r.a.d)],dT [dL (List.map lI r.b.a),dL (List.map lI r.b.b),dL (List.map dI r.b.c),dL (List.map lI r.b.d)],dL (List.map lI r.c)])))
 | `(↥0)=>`((by assumption))
 | `(↑2)=>`((zaa (i:=0) rfl))
 | `(⇑0)=>`((Or.inl rfl))
 | `(↥1)=>`((hr.mono ⇑1))
 | `(↑0)=>`((by omega))
 | `(↑41)=>`((.eq (.eq ↑114)))
 | `(↑206)=>`((λ(s298:Ji)=>([⇑[dT [dL ↑99,dL ↑100,dL ↑98,dL ↑101]],⇑[dT [dL ↑146,dL ↑147,dL ↑145,dL ↑148]],⇑[dI P2],⇑[dI P3],.ow true (List.map lI s292),↥[dI x293],↥[dL (List.map dI s298)],.no,.no,.no]:L2.Ctx)))
 | `(↑3)=>`((zaa (i:=1) rfl))
 | `(↥7)=>`((λcdv Ar outer s H E x hr hp=> ?_))
 | `(↑173)=>`((λ(s268:Jq×Jq)=>([⇑[dQ K ⇑8],⇑[dQ K ⇑4],⇑[dI P2],⇑[dQ K ↑125],.ow true (List.map lI s268.1),.no,.no,↥[dI v256],.tl (dRI s268.2),.no,.no,.no,.no,.no]:L2.Ctx)))
 | `(⇑5)=>`(⟨by decide,by decide⟩)
 | `(↑19)=>`((zaa (i:=2) rfl))
 | `(↑110)=>`((by apply zan;subst_vars;simp only [List.length_append,List.length_cons,List.length_nil,List.length_map];omega))
 | `(↥8)=>`((λ(r:Bool)=>Oc.rt true (dB r)))
 | `(↑257)=>`((λ(s391:Ji)=>([⇑[zbX A A.Sender P0],⇑[dT [dL ↑146,dL ↑147,dL ↑145,dL ↑148]],⇑[dT [dL (List.map lI P2.a),dL (List.map lI P2.b),dL (List.map dI P2.c),dL (List.map lI P2.d)]],⇑[dL (List.map lI P3)],⇑[dI P4],↥[dI v383],↥[dL (List.map dI v384)],↥[dL (List.map dI s391)],.tl (dL (List.map dI v389)),.no,.no,.no,.no]:L2.Ctx)))
 | `(↑23)=>`((λ(r:Ji)=>Oc.rt true (dL (List.map dI r))))
 | `(↥2)=>`((model X.prog X.w))
 | `(↑258)=>`((λ(v303:Int)=>(Let (ixD P1.c x299) (λ(v304:Int)=>(Let (bif (↑131 && (decide (v304=(0:Int)))) then (0:Int) else (bif ↑131 then (v303*↑226) else v303)) (λ(v307:Int)=>(Let (List.map (λ(x308:↥6)=>(x308.1+(v307*x308.2))) (List.zip s298 (ixD P1.a x299))) (λ(v311:Ji)=>v311))))))))
 | `(↑232)=>`((show (["_law_a","_law_b","_law_many"]:List Str).Nodup by decide+kernel))
 | `(↑174)=>`((λ(s217:Jq×Jq)=>([⇑[dI P0],⇑[dQ K ⇑4],.ow true (List.map lI s217.1),.ow true (List.map lI s217.2),.no,.no,.no,.no]:L2.Ctx)))
 | `(↑175)=>`((λ(s21:Int×Int×Int×Int)=>([⇑[dI P0],⇑[dI P1],↥[dI s21.1],↥[dI s21.2.1],↥[dI s21.2.2.1],↥[dI s21.2.2.2],.no,.no]:L2.Ctx)))
 | `(↑86)=>`((λ(r:(Jq×Jq))=>Oc.rt true (dT [dL (List.map lI r.1),dL (List.map lI r.2)])))
 | `(↑5)=>`((by decide+kernel))
 | `(↑18)=>`((Ev.weak (K:=K) ↑29))
 | `(↑111)=>`((λ(r:(Int×(Option (LineD⊕RestD))))=>Oc.rt true (dT [dI r.1,dOpt (dSc A) r.2])))
 | `(↑24)=>`((Ev.any (m:=true) ↑81))
 | `(↑259)=>`((λ(s292:Jq)=>([⇑[dT [dL ↑99,dL ↑100,dL ↑98,dL ↑101]],⇑[dT [dL ↑146,dL ↑147,dL ↑145,dL ↑148]],⇑[dI P2],⇑[dI P3],.ow true (List.map lI s292),.no,.no,.no,.no,.no]:L2.Ctx)))
 | `(↑152)=>`((zal ↑42 rfl T.len PySem.boot_len ↑[↑197]))
 | `(↑1)=>`((CXE P w))
 | `(↑6)=>`((.type "NoneType"))
 | `(↑207)=>`(["_law_rows","_law_bottoms_here","_law_idle","_law_cells","_law_swaps","_law_row","_law_number","_law_kept","_law_trips","_law_cell_here","_law_one","_law_two","_law_many","_law_trip"])
 | `(↑75)=>`((EvO.ev (zbV ↑27 ↑135)))
 | `(↑14)=>`(((f.c.length:Nat):Int))
 | `(↑153)=>`((λ(x:Int)=>List.map (λ(y:Int)=>(if (decide (y=x)) then (1:Int) else 0)) ↑107))
 | `(↑25)=>`((λ(r:Int)=>Oc.rt true (dI r)))
 | `(↑35)=>`(((List.getElem?_eq_some_iff.mp e)))
 | `(↑260)=>`((List.map (λ(x229:↥6)=>(x229.1-(v224*x229.2))) (List.zip (ixD s217.2 v222) (ixD s217.2 v223))))
set_option hygiene false in
local macro_rules
 | `(⇑1)=>`((by decide))
 | `(⇑6)=>`((Ev.any (m:=false) ↑3))
 | `(↑208)=>`((λ_ _ _ _ _=>⟨(zba (K:=K) (n:=2) rfl rfl (zay (zak (i:=0) ↑232 rfl ⇑0 ↥3) (zay (zak (i:=1) ↑232 rfl ⇑0 ↥3) zbE))),za5,(zaw zcD (pv 0) (zaw zbA (pv 2) (pv 1)))⟩))
 | `(⇑4)=>`((List.map dI P1))
 | `(↑9)=>`((Ev.any (m:=false) ↑2))
 | `(↑209)=>`((λ(r:⇑9)=>Oc.rt true (dT [dL (List.map lI r.a),dL (List.map lI r.b),dL (List.map dI r.c),dL (List.map lI r.d)])))
 | `(↑38)=>`((Ev.any (m:=true) (zaa (i:=4) rfl)))
 | `(↑210)=>`((λ(s:Jq) (x:Ji×Int)=>Let (bif (decide ((0:Int)<x.2)) then (s++[List.map (λ(y:Int)=>(x.2*y)) x.1]) else s) (λ(z:Jq)=>z)))
 | `(↑76)=>`((List.filter (λ(t:Ji)=>decide (zai t<b.many)) rows))
 | `(⇑3)=>`((λ_ _=>rfl))
 | `(↑8)=>`((List.map dI P0))
 | `(⇑8)=>`((List.map lI P0))
 | `(⇑2)=>`((Addr×Obj))
 | `(↑7)=>`((zaB (K:=K) rfl))
 | `(↑261)=>`((by ((try simp only [decide_eq_true_eq,decide_eq_false_iff_not,Bool.not_eq_true',Bool.not_eq_false',Bool.and_eq_true,Bool.or_eq_false_iff,Bool.or_eq_true,Bool.and_eq_false_iff,Bool.cond_eq_ite] at*)<;>omega)))
 | `(↑20)=>`((.ref (A.xc .BadBasket)))
 | `(↑233)=>`((λ(head:Int)=>Let (zcj s x) (λ(weight:Int)=>Let (zas s (ixD x head)) (λ(numbers:Ji)=>Let (zdl numbers head (-weight)) (λ(y:Ji)=>y)))))
 | `(↑234)=>`((bif (!decide (v273=v274)) then (List.map (λ(ns280:Ji)=>zdl ns280 v273 ((ixD ns280 v273)-(v275*(ixD ns280 v274)))) s268.2) else s268.2))
 | `(↑211)=>`((List.map (λ(x226:↥6)=>(x226.1+(v224*x226.2))) (List.zip (ixD s217.1 v223) (ixD s217.1 v222))))
 | `(↑212)=>`((List.map (λ(x277:↥6)=>(x277.1+(v275*x277.2))) (List.zip (ixD s268.1 v274) (ixD s268.1 v273))))
 | `(↑262)=>`((λ(s314:Jq)=>([⇑[dT [dL ↑99,dL ↑100,dL ↑98,dL ↑101]],⇑[dQ K ↑71],⇑[dI P2],.ow true (List.map lI s314),.no,.no,.no]:L2.Ctx)))
 | `(↑235)=>`((bif ↑228 then (m_lowered ((↑123).2) (cutD P0 (some (x55.1+(1:Int))) none)) else s54.2))
 | `(↑154)=>`((zcB (zcc (K:=K) rfl) rfl T.list PyProof.Rows.boot_list ↑[pv 0]))
 | `(↑213)=>`(["_law_script","_law_first","_law_second","_law_baskets","_law_one","_law_two","_law_handed","_law_sender","_law_cell_here"])
 | `(↑58)=>`((Ev.weak (K:=K) ↑19))
 | `(↑42)=>`((zat (K:=K) rfl))
 | `(↑127)=>`((.eq (.eq (.eq ↑28))))
 | `(↑62)=>`((Ev.any (m:=false) (zaa (i:=4) rfl)))
 | `(↑63)=>`((λcdv Ar outer s H E P0 hr hp=> ?_))
 | `(↑155)=>`((zkN ↑1 P w K mg base N qual (zad st) f cdv A outer s H E))
 | `(↑64)=>`((Ev.any (m:=true) ↑29))
 | `(↑65)=>`((Ev.weak (K:=K) (zbw ↑3 zaG rfl)))
 | `(↑214)=>`((λxs H Q=>∃p ys,xs=[.ref p]∧(SqL K H p ys∨SqT K H p ys)∧Q (.int ys.length) H))
 | `(↑77)=>`((zcw X (own++fvn) scope cl C fp s H))
 | `(↑236)=>`((List.map (λ(x325:↥6)=>(x325.1+((ixD (ixD P0.b x321) x315)*x325.2))) (List.zip s320 (ixD P1 x321))))
 | `(↑156)=>`((Ev.any (m:=false) (zbU ↑2 T.Book_cl T.Book_many rfl)))
 | `(↑87)=>`((max (1:Int) ((s268.1.length:Nat):Int)))
 | `(↑39)=>`((Ev.any (m:=false) ↑19))
 | `(↑78)=>`((Ev.any (m:=true) ↑72))
 | `(↑11)=>`((Nat.le_refl _))
set_option hygiene false in
local macro_rules
 | `(↑237)=>`((λ(s54:Jq×Ji)=>([⇑[dQ K ⇑8],⇑[dQ K ⇑4],↥[dL (List.map dI s54.2)],.ow false (List.map lI s54.1),.no,.no,.no]:L2.Ctx)))
 | `(⇑9)=>`((T4 Jq Jq Ji Jq))
 | `(↥3)=>`((Or.inr rfl))
 | `(↑215)=>`((λ(s99:Ji)=>([⇑[dQ K ⇑8],⇑[dI P1],.ow true (List.map dI s99),.no,.no,.no]:L2.Ctx)))
 | `(↑238)=>`((λ(s30:Ji)=>([⇑[dQ K ↑8],⇑[dQ K ↑71],↥[dL (List.map dI s30)],.no,.no,.no]:L2.Ctx)))
 | `(↑66)=>`((backTo pos (starEach es X.env)))
 | `(↑49)=>`((zaN (K:=K) rfl))
 | `(↑21)=>`((zbQ I q ↥5))
 | `(↑216)=>`(["_law_wide","_law_cells","_law_rows","_law_duals","_law_cell_here","_law_one","_law_two","_law_many"])
 | `(↑31)=>`(((P0.length:Nat):Int))
 | `(↑217)=>`((λ(r:(Ji×Ji))=>Oc.rt true (dT [dL (List.map dI r.1),dL (List.map dI r.2)])))
 | `(↑50)=>`(((steps.length+1)*(s+9000)))
 | `(↑51)=>`((zaU (K:=K) rfl (pv 0) rfl))
 | `(↑263)=>`(((scope.names.map λ(n,k)=>if (k==NameKind.free && X.env.scope.kind== .function && X.env.kindOf n==some .cell) then (n,NameKind.cell) else (n,k))))
 | `(↑88)=>`((max (1:Int) ((s.1.length:Nat):Int)))
 | `(↑239)=>`((λ(s235:Ji)=>([⇑[dI P0],⇑[dI P1],⇑[dI P2],.ow true (List.map dI s235),.no,.no,.no]:L2.Ctx)))
 | `(↑52)=>`(((Lat.lv (n+1) ss).take n))
 | `(↑128)=>`((.Call (.Attribute o m apos) (e::es) [] pos))
 | `(↑32)=>`((s.heap.objs.size+1))
 | `(↑43)=>`(⟨by omega,by omega⟩)
 | `(↑129)=>`((λ(r:Jq)=>Oc.rt true (dL (List.map lI r))))
 | `(↑59)=>`((List.mem_cons_of_mem _ ht))
 | `(↑157)=>`((zcw X (own++fvn) scope cl' G2.objs.size fp s H2))
 | `(↑240)=>`((λ(r:((Option Ji)×(Option Xn)))=>Oc.rt true (dT [dOpt lI r.1,dOpt ↑121 r.2])))
 | `(↑15)=>`((zaX (K:=K) rfl))
 | `(↑158)=>`((((ss.length:Nat):Int)=↑204))
 | `(↑159)=>`((List.map (λ(x165:Ji)=>x165) P2))
 | `(↑45)=>`((x==("__debug__" :Str)))
 | `(↑4)=>`((λ_=>rfl))
 | `(↑160)=>`((↑143 && (decide (b=(0:Int)))))
 | `(↑176)=>`((λz=>hc (by rw [z];exact List.mem_singleton.mpr rfl)))
 | `(↑53)=>`(((P1.c.length:Nat):Int))
 | `(↑54)=>`((Ev.any (m:=true) ↑19))
 | `(↑161)=>`((λ(r:Jq)=>Oc.rt false (dL (List.map lI r))))
 | `(↑67)=>`(((10:Int) ^ (9:Int).toNat))
 | `(↑55)=>`((zaa (i:=7) rfl))
 | `(↑177)=>`((show (["a","b"]:List Str).Nodup by decide+kernel))
 | `(↑112)=>`((Ev.weak (K:=K) ↑81))
 | `(↑40)=>`((Lat.zgX b.swaps x))
 | `(↑68)=>`((show false=true from hs))
set_option hygiene false in
local macro_rules
 | `(↑60)=>`((Ev.any (m:=true) ↑3))
 | `(↑89)=>`((by show 2≤sizeLine;decide))
 | `(↑178)=>`((Nat.lt_of_lt_of_le ↑104 I.ok.above))
 | `(↑179)=>`((.ListComp elt [⟨tg,iter,ifs,0⟩] scope pos))
 | `(↑130)=>`((Ev.weak (K:=K) (zbw ↑19 zaG rfl)))
 | `(↑79)=>`((Lat.lv (n+1) ↑17))
 | `(↑28)=>`((.eq (.eq ↑41)))
 | `(↑29)=>`((zaa (i:=3) rfl))
 | `(↑180)=>`((zal ↑42 rfl T.len PySem.boot_len ↑[pv 0]))
 | `(↑181)=>`((zal ↑42 rfl T.len PySem.boot_len ↑[pv 1]))
 | `(↑182)=>`((zal ↑42 rfl T.len PySem.boot_len ↑[pv 3]))
 | `(↑218)=>`((A.deeper (envOfC qual (zad st) s.heap.objs.size f cdv)))
 | `(↑131)=>`((decide ((0:Int)<(ixD P0.c x293))))
 | `(↑183)=>`(([⇑[zct A.Book P0],⇑[dQ K ⇑4]]:L2.Ctx))
 | `(↑162)=>`((!decide (((r.length:Nat):Int)=↑14)))
 | `(↑163)=>`((some (.builtin "object.__setattr__")))
 | `(↑219)=>`((zaf P2 (((P3+((8:Int)*x293))+x299)%(60:Int)) (7:Int)))
 | `(↑220)=>`((λx=>[dQ K (List.map dI x.1),dQ K ↑70]))
 | `(↥6)=>`((Int×Int))
 | `(↑113)=>`((.builtin "object.__class__"))
 | `(↑90)=>`((Ev.weak (K:=K) ↑2))
 | `(↑30)=>`((.ref (A.xc e)))
 | `(↑184)=>`((∀x c,X.env.cells.lookup x=some c->c≠b))
 | `(↑241)=>`((bif (!decide (v222=v223)) then (zdl s217.2 v222 ↑260) else s217.2))
 | `(↑221)=>`((List.map (λ(x126:Ji)=>(x126++[(0:Int)])) P0.swaps))
 | `(↑36)=>`((2147483647:Int))
 | `(↑185)=>`((Ev.old (Ev.weak (K:=K) ↑72)))
 | `(↑242)=>`((thn (ha pos pins s σ H _ I h) λus s1 ⟨vs,H1,I1,r1,q1⟩=> ?_))
 | `(↑132)=>`((List.getElem?_eq_getElem ↑0))
 | `(↑133)=>`((by refine ⟨?_,?_⟩<;>omega))
 | `(↑56)=>`((by simpa using hi))
 | `(⇑7)=>`((-(1:Int)))
 | `(↑26)=>`((model prog w))
 | `(↑186)=>`((λ(xs:(List Bool))=>dL (List.map dB xs)))
 | `(↑264)=>`((λr s'=>r= .ok (.ret (.bool true))∧OldK s₁.heap s'.heap∧s'.os=s₁.os∧AllBare s'.gens))
 | `(↑265)=>`((zb9 rfl T.range ↑[(zal ↑42 rfl T.len PySem.boot_len ↑[(za1 ↑49 (pv 0) zah ⇑3)])]))
 | `(↑164)=>`((.Call (.Name x p) (e::es) [] pos))
 | `(↥5)=>`((by simp))
 | `(↑243)=>`((List.mem_append_right _ (List.mem_append_right _ (zgc hb e))))
 | `(↑134)=>`(["_law_cell_here","_law_k","_law_many"])
set_option hygiene false in
local macro_rules
 | `(↥9)=>`(["one","other"])
 | `(↑222)=>`((List.map (λ(x251:Int)=>(x246.2*x251)) x246.1))
 | `(↑135)=>`((by show 1≤sizeLine;decide))
 | `(↑136)=>`((by show 3≤sizeLine;decide))
 | `(↑165)=>`((λr=>Oc.rl true (List.map dB r)))
 | `(↑166)=>`((λr=>Oc.rl true (List.map dI r)))
 | `(↑91)=>`((Ev.any (m:=true) ↑2))
 | `(↑244)=>`((tSeq (zjt te (zow K 2 (zgk (zdk i) (zgk (zdk j) zpz)))) u))
 | `(↑167)=>`((λ(xs:Jq)=>dL (List.map lI xs)))
 | `(↑137)=>`((List.mem_singleton.mpr rfl))
 | `(↑138)=>`((za1 ↑49 (pv 2) zah ⇑3))
 | `(↑187)=>`(((M.f (vec s (hd s)) (vec l (hd s)))))
 | `(↑266)=>`(((hs.2 b (Nat.ne_of_lt (Nat.lt_of_lt_of_le ↑104 (I.ok.cab x c hfn hc))))))
 | `(↑188)=>`((backToKw pos (keywordEach [] X.env)))
 | `(↑189)=>`((by rw [List.length_singleton];omega))
 | `(↑27)=>`((zab zaG zag))
 | `(↑190)=>`((Ev.any (m:=true) (zaa (i:=10) rfl)))
 | `(↑191)=>`((zbo 0 ((f.d.length:Nat):Int).toNat))
 | `(↑139)=>`(((p406.a.c.length:Nat):Int))
 | `(↑46)=>`((.no (.no .nil)))
 | `(↑69)=>`((a.inj i j q e2 h2))
 | `(↑245)=>`((A.under (.builtin "type.__call__" ⟨.ref C::us,kw⟩)))
 | `(↑192)=>`((Ev.weak (K:=K) (zbw ↑2 zaG rfl)))
 | `(↑223)=>`(([⇑[dQ K ↑8],⇑[dQ K ⇑4]]:L2.Ctx))
 | `(↑193)=>`((λv (d:Ds)=>d.pr (part m F Hb) v))
 | `(↑224)=>`((envOfC qual scope s.heap.objs.size f cd))
 | `(↑267)=>`((k'==NameKind.free && env.scope.kind== .function && env.kindOf n==some .cell))
 | `(↑92)=>`((zax (zaj (zaC zaG))))
 | `(↑168)=>`((λx=>[dQ K (List.map dI x)]))
 | `(↑57)=>`((EP X pins σ Q))
 | `(↑225)=>`((cutD P0 (some (3:Int)) (some (63:Int))))
 | `(↑226)=>`((v304/(zaz v304 ((ixD P0.c x293)%v304))))
 | `(↑80)=>`((zac (zaJ zh1) zae))
 | `(↑246)=>`((List.map (λ(x:Int×Int)=>x.1*x.2) (List.zip w t)))
 | `(↑16)=>`((a.grow g1))
 | `(↑17)=>`((snS n b x))
 | `(↑114)=>`((.eq (.eq (.eq .nil))))
 | `(↑115)=>`((Ev.weak (K:=K) ↑55))
 | `(↑116)=>`((ha pins s σ H _ I h))
 | `(↑37)=>`((λ(x:Ji)=>x))
set_option hygiene false in
local macro_rules
 | `(↑117)=>`((λv (d:Ds)=>d.pr H v))
 | `(↑93)=>`(((a.length:Nat):Int))
 | `(↑94)=>`((by intro z;cases z))
 | `(↑247)=>`((m_Sender_sent (⟨P0,P1,↑159⟩:SenderD) x169.2))
 | `(↑268)=>`(⟨by rw [List.length_map,List.length_zip,hm];omega,λi=>Lat.zfc ↑0⟩)
 | `(↑169)=>`(((p406.b.c.length:Nat):Int))
 | `(↑70)=>`((List.map dI x.2))
 | `(↑12)=>`((.ref yaa))
 | `(↑194)=>`((by rw [List.length_zip];omega))
 | `(↑13)=>`((xs.map f))
 | `(↑118)=>`(((P1.length:Nat):Int))
 | `(↑95)=>`((by rw [zaT];omega))
 | `(↑47)=>`((ns.map V.int))
 | `(↑96)=>`(["_law_a","_law_b"])
 | `(↑248)=>`((if (decide (x264=(v256+x261))) then 1 else 0))
 | `(↑71)=>`((List.map lI P1))
 | `(↑72)=>`((zaa (i:=6) rfl))
 | `(↑73)=>`((λz=>nomatch z))
 | `(↑227)=>`(((backTo cpos (starEach es X.env))))
 | `(↑195)=>`((.eq (.eq (.eq (.eq ↑127)))))
 | `(↑61)=>`((by simp;omega))
 | `(↑44)=>`((g1.trans g2))
 | `(↑140)=>`(((s.c.length:Nat):Int))
 | `(↑141)=>`((he pins s σ H _ I h))
 | `(↑97)=>`(((zhd hO hT ↥0)))
 | `(↑98)=>`((List.map dI P0.c))
 | `(↑99)=>`((List.map lI P0.a))
 | `(↑100)=>`((List.map lI P0.b))
 | `(↑101)=>`((List.map lI P0.d))
 | `(↑102)=>`((by simpa using h))
 | `(↑103)=>`((zbo 0 idle.toNat))
 | `(↑228)=>`((decide ((zai s54.2)=(zai x55.2))))
 | `(↑196)=>`((show u=Value.ref a from rx))
 | `(↑197)=>`((za1 ↑49 (pv 1) zah ⇑3))
 | `(↑249)=>`((EvO.ev (EvO.anyI (m:=false) (zfg ↑90))))
 | `(↑48)=>`((lv (n+1) ss))
 | `(↑119)=>`((zdF (m:=true) zag))
 | `(↑250)=>`((by simp only [List.size_toArray]<;>omega))
 | `(↑198)=>`((List.mem_cons_of_mem _ hy))
 | `(↑199)=>`((zaU (K:=K) rfl (pv 7) rfl))
set_option hygiene false in
local macro_rules
 | `(↑81)=>`((zaa (i:=5) rfl))
 | `(↑82)=>`((zcN (K:=K) rfl))
 | `(↑170)=>`(((P0.c.length:Nat):Int))
 | `(↑33)=>`((Str×Addr))
 | `(↑142)=>`(((x.natAbs:Nat):Int))
 | `(↑22)=>`((a.grow g))
 | `(↑143)=>`((decide ((0:Int)<y)))
 | `(↑120)=>`(((↥0:StI W _ _)))
 | `(↑121)=>`((λe=>dE (A.xc e)))
 | `(↑171)=>`((.eq (.eq (.no .nil))))
 | `(↑172)=>`((λv (d:Ds)=>d.pr F v))
 | `(↑200)=>`(((p406.c.length:Nat):Int))
 | `(↑201)=>`((s.heap.push W.emptyDict))
 | `(↑202)=>`((tSeq (zjt te (zdk i)) u))
 | `(↑251)=>`(("weights",dL (List.map dI b.weights)))
 | `(↑252)=>`((.builtin "getset_descriptor.__get__"))
 | `(↑104)=>`((Heap.lt_size e))
 | `(↑105)=>`((b.many+(1:Int)))
 | `(↑253)=>`((b∈X.ex∨X.s₀.heap.objs.size≤b))
 | `(↑74)=>`((λi=>u (i+1)))
 | `(↑144)=>`((σ.set i (some v)))
 | `(↑269)=>`((HT.sIx xs.length xs.length hi-HT.sIx xs.length 0 lo))
 | `(↑122)=>`((zap (Wk.refl _)))
 | `(↑123)=>`((zbv x55.2 s54.2))
 | `(↑203)=>`(((List.range xs.length)))
 | `(↑145)=>`((List.map dI P1.c))
 | `(↑146)=>`((List.map lI P1.a))
 | `(↑147)=>`((List.map lI P1.b))
 | `(↑148)=>`((List.map lI P1.d))
 | `(↑149)=>`((by simpa using e))
 | `(↑150)=>`((za7 P3 v384 v383))
 | `(↑254)=>`(((List.getElem?_eq_some_iff.mp hn)))
 | `(↑106)=>`(((n+1:Nat):Int))
 | `(↑204)=>`(((rows.length:Nat):Int))
 | `(↑34)=>`((.inl rfl))
 | `(↑83)=>`((.ins C dx fs))
 | `(↑84)=>`((Ev.old ↑58))
 | `(↑85)=>`((zbf ↑[zah]))
 | `(↑107)=>`((zbo 0 w.toNat))
 | `(↑124)=>`(((m_law_pair x)))
set_option hygiene false in
local macro_rules
 | `(↑229)=>`((I.base.keep b o e n hb hx))
 | `(↑125)=>`((List.map dI P3))
 | `(↑230)=>`((List.mem_cons_of_mem _ hb))
 | `(↑231)=>`((List.mem_cons_of_mem _ hv))
 | `(↑126)=>`((zaa (i:=9) rfl))
 | `(↑205)=>`(((List.of_mem_zip hp)))
 | `(↑255)=>`(((zbd x.1 x.2.1 x.2.2.1 x.2.2.2)))
 | `(↑151)=>`((Nat.lt_irrefl _))
 | `(↑256)=>`((by rw [List.length_drop];omega))
 | `(↑108)=>`((vec t (hd t)))
set_option hygiene false in
local macro_rules
 | `(⇑[$x])=>`((.va false $x))
 | `(↥[$x])=>`((.va true $x))
 | `(↥($x))=>`((by exact $x))
set_option hygiene false in
local macro_rules
 | `(↥991)=>`((λ_ _ _ _ _ _ us hl=>match us,hl with | [_],_=>rfl))
 | `(↥992)=>`((λ_ _ _ _ _ _ us hl=>match us,hl with | [_,_],_=>rfl))
 | `(↥993)=>`((λ_ _ _ _ _ _ us hl=>match us,hl with | [_,_,_],_=>rfl))
 | `(↥994)=>`((λ_ _ _ _ _ _ us hl=>match us,hl with | [_,_,_,_],_=>rfl))
 | `(↥995)=>`((λ_ _ _ _ _ _ us hl=>match us,hl with | [_,_,_,_,_],_=>rfl))
abbrev Ji:=List Int
abbrev Jq:=List Ji
set_option hygiene false in
local macro_rules
 | `(↑[$a0])=>`((zbx $a0 zeV))
 | `(↑[$a0,$a1])=>`((zbx $a0 (zbx $a1 zeV)))
 | `(↑[$a0,$a1,$a2])=>`((zbx $a0 (zbx $a1 (zbx $a2 zeV))))
 | `(↑[$a0,$a1,$a2,$a3])=>`((zbx $a0 (zbx $a1 (zbx $a2 (zbx $a3 zeV)))))
 | `(↑[$a0,$a1,$a2,$a3,$a4])=>`((zbx $a0 (zbx $a1 (zbx $a2 (zbx $a3 (zbx $a4 zeV))))))
 | `(↑[$a0,$a1,$a2,$a3,$a4,$a5])=>`((zbx $a0 (zbx $a1 (zbx $a2 (zbx $a3 (zbx $a4 (zbx $a5 zeV)))))))
namespace L2
open PySem PySem.Spec PyProof.Rows
abbrev Key:=Sum Int Str
def zsA:Key->Value->Bool
 | .inl k,v=>Value.isInt k v
 | .inr x,v=>Value.isStrOf x v
def zvu (w:World):Key->Int
 | .inl k=>hashInt k
 | .inr x=>hashStr w x
theorem zcz:∀ {k:Key} {v:Value},zsA k v=true->(∃ i t,k=Sum.inl i∧v=Value.int i t)∨(∃ x t,k=Sum.inr x∧v=Value.str x t)
 | .inl i,v,h=>by
  obtain ⟨t,e⟩:=Value.isInt_shape (k:=i) (v:=v) h
  exact .inl ⟨i,t,rfl,e⟩
 | .inr x,v,h=>by
  obtain ⟨t,e⟩:=Value.isStrOf_shape (x:=x) (v:=v) h
  exact .inr ⟨x,t,rfl,e⟩
theorem zr0 (a b:Int):decide ((Sum.inl a:Key)=Sum.inl b)=(a == b):=by
 by_cases e:a=b
 ·subst e;simp
 ·have h:¬ (Sum.inl a:Key)=Sum.inl b:=λq=>e (Sum.inl.inj q)
  rw [decide_eq_false h]
  exact (beq_eq_false_iff_ne.mpr e).symm
theorem zsj (a b:Str):decide ((Sum.inr a:Key)=Sum.inr b)=decide (a=b):=by
 by_cases e:a=b
 ·subst e;simp
 ·have h:¬ (Sum.inr a:Key)=Sum.inr b:=λq=>e (Sum.inr.inj q)
  rw [decide_eq_false h,decide_eq_false e]
theorem zti (a:Int) (b:Str):decide ((Sum.inl a:Key)=Sum.inr b)=false:=decide_eq_false (λq=>nomatch q)
theorem zta (a:Str) (b:Int):decide ((Sum.inr a:Key)=Sum.inl b)=false:=decide_eq_false (λq=>nomatch q)
def znX (prog:Program) (w:World):PySem.KeyKind prog w Key where
 is:=zsA
 hash:=zvu w
 inj:=λv a b ha hb=>by
  rcases zcz ha with ⟨i,t,rfl,rfl⟩ | ⟨x,t,rfl,rfl⟩
  ·rcases zcz hb with ⟨j,u,rfl,e⟩ | ⟨y,u,rfl,e⟩
   ·injection e with e1 _;rw [e1]
   ·exact nomatch e
  ·rcases zcz hb with ⟨j,u,rfl,e⟩ | ⟨y,u,rfl,e⟩
   ·exact nomatch e
   ·injection e with e1 _;rw [e1]
 byValue:=λk v h=>by
  rcases zcz h with ⟨i,t,rfl,rfl⟩ | ⟨x,t,rfl,rfl⟩<;>rfl
 pyHash:=λhv h=>by
  rcases zcz hv with ⟨i,t,rfl,rfl⟩ | ⟨x,t,rfl,rfl⟩
  ·exact wpAny_pyHash_int h
  ·exact wpAny_pyHash_str h
 eqBool:=λhu hv h=>by
  rcases zcz hu with ⟨i,t,rfl,rfl⟩ | ⟨x,t,rfl,rfl⟩
  ·rcases zcz hv with ⟨j,u,rfl,rfl⟩ | ⟨y,u,rfl,rfl⟩
   ·rw [zr0] at h;exact wpAny_eqBool_int h
   ·rw [zti] at h;exact SeqAt.EqAt.int_str i t y u _ _ _ _ h
  ·rcases zcz hv with ⟨j,u,rfl,rfl⟩ | ⟨y,u,rfl,rfl⟩
   ·rw [zta] at h;exact SeqAt.EqAt.str_int x t j u _ _ _ _ h
   ·rw [zsj] at h;exact wpAny_eqBool_str h
 «strs»:=λk x t v h=>by
  rcases zcz h with ⟨i,u,rfl,e⟩ | ⟨y,u,rfl,e⟩
  ·exact nomatch e
  ·injection e with e1 _
   subst e1
   cases v<;>rfl
end L2
namespace L2
open PySem PySem.Spec PyProof.Rows
inductive V where
 | non | bl (b:Bool) | int (i:Int) | str (x:Str) | byt (b:Array UInt8) | flt (b:UInt64) | ref (a:Addr) | ty (n:String)
 deriving DecidableEq
def zdw:V->Value->Prop
 | .non,u=>u=Value.none
 | .bl b,u=>u=Value.bool b
 | .int i,u=>∃ t,u=Value.int i t
 | .str x,u=>∃ t,u=Value.str x t
 | .byt b,u=>∃ t,u=Value.bytes b t
 | .flt b,u=>∃ t,u=Value.float b t
 | .ref a,u=>u=Value.ref a
 | .ty n,u=>u=Value.type n
abbrev zcn:List V->List Value->Prop:=Paired zdw
theorem zcn.length {xs:List V} {us:List Value} (r:zcn xs us):xs.length=us.length:=Paired.length r
theorem zcn.get:∀ {xs:List V} {us:List Value} {i:Nat} {x:V},zcn xs us->xs[i]?=some x->∃ u,us[i]?=some u∧zdw x u
 | _,_,_,_,.nil,e=>by simp at e
 | _,_,0,_,.cons r _,e=>by simp at e;subst e;exact ⟨_,rfl,r⟩
 | _,_,i+1,x,.cons _ t,e=>by
  obtain ⟨u,h1,h2⟩:=zcn.get (i:=i) (x:=x) t ↑149
  exact ⟨u,by simpa using h1,h2⟩
theorem zcn.set {x:V} {u:Value} (r:zdw x u):∀ {xs:List V} {us:List Value} (i:Nat),zcn xs us->zcn (xs.set i x) (us.set i u)
 | _,_,_,.nil=>.nil
 | _,_,0,.cons _ t=>.cons r t
 | _,_,i+1,.cons q t=>.cons q (zcn.set r i t)
theorem zcn.append:∀ {xs ys:List V} {us ws:List Value},zcn xs us->zcn ys ws->zcn (xs++ys) (us++ws)
 | _,_,_,_,.nil,s=>s
 | _,_,_,_,.cons r t,s=>.cons r (zcn.append t s)
theorem zcn.take:∀ {xs:List V} {us:List Value} (n:Nat),zcn xs us->zcn (xs.take n) (us.take n)
 | _,_,0,_=>.nil
 | _,_,_+1,.nil=>.nil
 | _,_,n+1,.cons r t=>.cons r (zcn.take n t)
theorem zcn.drop:∀ {xs:List V} {us:List Value} (n:Nat),zcn xs us->zcn (xs.drop n) (us.drop n)
 | _,_,0,r=>r
 | _,_,_+1,.nil=>.nil
 | _,_,n+1,.cons _ t=>zcn.drop n t
def zov:Option V->Option Value->Prop
 | some v,some u=>zdw v u
 | none,none=>True
 | _,_=>False
def KV {κ:Type}:List (κ×V)->List (κ×Value)->Prop:=Paired λ(p:κ×V) (q:κ×Value)=>p.1=q.1∧zdw p.2 q.2
def kV:Key->V
 | .inl i=>.int i
 | .inr x=>.str x
inductive HO where
 | lst (xs:List V)
 | tup (xs:List V)
 | dK (kvs:List (Key×V)) | dT (kvs:List (List Key×V))
 | set (S:Int->Bool) (n:Nat)
 | ins (C dx:Addr) (fs:List (Str×V))
 | own (x:Addr)
 | xd (fs:List (Str×V))
 | met (f x:Addr)
 | rng (lo hi:Int)
 | frz (o:Obj) (u:HO)
 | tbl (ps:Array Value)
 | ext (φ:Heap->Prop)
abbrev Hp:=Addr->Option HO
def upd (H:Hp) (a:Addr) (o:HO):Hp:=λb=>if b=a then some o else H b
theorem zaD {H:Hp} {a:Addr} {o:HO}:upd H a o a=some o:=by unfold upd;rw [if_pos rfl]
theorem zaq {H:Hp} {a b:Addr} {o:HO} (h:b≠a):upd H a o b=H b:=by unfold upd;rw [if_neg h]
theorem zjd {H:Hp} {a b:Addr} {o u:HO} (h:H a=some o) (h':H b=some u) (d:o≠u):a≠b:=by
 intro e;subst e;rw [h] at h';exact d (Option.some.inj h')
theorem zaV {H:Hp} {a b:Addr} {o:HO} (h:H a=some o) (h':H b=none):a≠b:=by
 intro e;subst e;rw [h] at h';cases h'
section
variable (P:Program) (w:World)
def zeq (H:Hp) (h:Heap) (a:Addr):HO->Prop
 | .lst xs=>xs.length≤sizeLine∧∃ (its:List Value) (n:Nat),zcn xs its∧h.get? a=some { cls:=.type "list",data:=.seq its.toArray n }
 | .tup xs=>xs.length≤sizeLine∧∃ its:List Value,zcn xs its∧IsTup h a its.toArray
 | .dK kvs=>kvs.length≤sizeLine∧(a == sysModules)=false∧∃ vs,KV kvs vs∧h.DictOf (znX P w) a vs
 | .dT kvs=>kvs.length≤sizeLine∧(a == sysModules)=false∧∃ xs:List (List Key×Addr×Value),
   Paired (λ(p:List Key×V) (q:List Key×Addr×Value)=>p.1=q.1∧H q.2.1=some (.tup (p.1.map kV))∧zdw p.2 q.2.2) kvs xs ∧
   ∃ o es ep,h.get? a=some o∧o.ExactDict∧o.data=.dict es ep∧es.toList=xs.map (entryOfKey (tupleKind (znX P w)))∧(xs.map (·.1)).Nodup
 | .set S n=>h.SetOf (intKind P w) a S n
 | .ins C dx fs=>H dx=some (.own a)∧fs.length≤1000∧dx≠a∧h.get? a=some (W.instObj C dx) ∧
   ∃ mA,h.Ns1 dx mA∧(∀ f,zov (fs.lookup f) (mA f))∧PySem.Within mA (fs.map (·.1))
 | .own _=>∃ o,h.get? a=some o
 | .xd fs=>∃ mA,h.Ns1 a mA∧∀ f,zov (fs.lookup f) (mA f)
 | .rng lo hi=>∃ t u v,h.get? a=some { cls:=.type "range",data:=.fields #[.int lo t,.int hi u,.int 1 v] }
 | .frz o u=>h.get? a=some o∧zeq H h a u
 | .tbl ps=>h.get? a=some { cls:=.none,data:=.fields ps }
 | .met f x=>h.get? a=some (W.methodObj (.ref f) (.ref x))
 | .ext φ=>φ h∧(∃ o,h.get? a=some o)∧∀ h1 h2:Heap,φ h1->(∀ o,h1.get? a=some o->h2.get? a=some o)->φ h2
def HOk (H:Hp) (h:Heap):Prop:=∀ a o,H a=some o->zeq P w H h a o
end
section
variable {P:Program} {w:World} {H H':Hp} {h h':Heap} {a:Addr} {o:HO}
theorem zeq.lt (x:zeq P w H h a o):a<h.objs.size:=by
 cases o with
 | lst xs=>obtain ⟨_,_,_,_,e⟩:=x;exact Heap.lt_size e
 | tup xs=>obtain ⟨_,_,_,p⟩:=x;exact p.lt
 | dK kvs=>obtain ⟨_,_,_,_,o,_,_,e,_⟩:=x;exact Heap.lt_size e
 | dT kvs=>obtain ⟨_,_,_,_,o,_,_,e,_⟩:=x;exact Heap.lt_size e
 | set S n=>obtain ⟨o,_,_,_,e,_⟩:=x;exact Heap.lt_size e
 | ins C dx fs=>obtain ⟨_,_,_,e,_⟩:=x;exact Heap.lt_size e
 | own y=>obtain ⟨_,e⟩:=x;exact Heap.lt_size e
 | xd fs=>obtain ⟨_,⟨_,_,_,e,_⟩,_⟩:=x;exact Heap.lt_size e
 | rng lo hi=>obtain ⟨_,_,_,e⟩:=x;exact Heap.lt_size e
 | frz ob u=>obtain ⟨e,_⟩:=x;exact Heap.lt_size e
 | tbl ps=>exact Heap.lt_size (show h.get? a=some _ from x)
 | met f y=>exact Heap.lt_size (show h.get? a=some _ from x)
 | ext φ=>obtain ⟨_,⟨_,e⟩,_⟩:=x;exact Heap.lt_size e
theorem Paired.mapP {α β:Type} {F G:α->β->Prop}:∀ {l₁:List α} {l₂:List β},Paired F l₁ l₂->(∀ a b,F a b->G a b)->Paired G l₁ l₂
 | _,_,.nil,_=>.nil
 | _,_,.cons r t,f=>.cons (f _ _ r) (Paired.mapP t f)
theorem zeq.stay (x:zeq P w H h a o) (k:∀ b u,(b=a∨H b=some (.own a))->h.get? b=some u->h'.get? b=some u)
  (ho:∀ b,H b=some (.own a)->H' b=some (.own a)) (ht:∀ b xs,H b=some (.tup xs)->H' b=some (.tup xs)):zeq P w H' h' a o:=by
 induction o with
 | lst xs=>obtain ⟨z,its,n,r,e⟩:=x;exact ⟨z,its,n,r,k _ _ ↑34 e⟩
 | tup xs=>obtain ⟨z,its,r,ob,e,c⟩:=x;exact ⟨z,its,r,ob,k _ _ ↑34 e,c⟩
 | dK kvs=>obtain ⟨z,y,vs,r,ob,es,ep,e,c⟩:=x;exact ⟨z,y,vs,r,ob,es,ep,k _ _ ↑34 e,c⟩
 | dT kvs =>
  obtain ⟨z,y,xs,r,ob,es,ep,e,c⟩:=x
  exact ⟨z,y,xs,Paired.mapP r λp q z=>⟨z.1,ht _ _ z.2.1,z.2.2⟩,ob,es,ep,k _ _ ↑34 e,c⟩
 | set S n=>obtain ⟨ob,es,ep,t,e,c⟩:=x;exact ⟨ob,es,ep,t,k _ _ ↑34 e,c⟩
 | ins C dx fs =>
  obtain ⟨d,z,ne,e,mA,⟨od,es,ep,e2,c⟩,r⟩:=x
  exact ⟨ho _ d,z,ne,k _ _ ↑34 e,mA,⟨od,es,ep,k _ _ (.inr d) e2,c⟩,r⟩
 | own y=>obtain ⟨ob,e⟩:=x;exact ⟨ob,k _ _ ↑34 e⟩
 | xd fs=>obtain ⟨mA,⟨od,es,ep,e,c⟩,r⟩:=x;exact ⟨mA,⟨od,es,ep,k _ _ ↑34 e,c⟩,r⟩
 | rng lo hi=>obtain ⟨t,u,v,e⟩:=x;exact ⟨t,u,v,k _ _ ↑34 e⟩
 | frz ob u ih=>obtain ⟨e,q⟩:=x;exact ⟨k _ _ ↑34 e,ih q⟩
 | tbl ps =>
  have e:h.get? a=some { cls:=.none,data:=.fields ps }:=x
  show h'.get? a=some { cls:=.none,data:=.fields ps }
  exact k a _ ↑34 e
 | met f y =>
  have e:h.get? a=some (W.methodObj (.ref f) (.ref y)):=x
  show h'.get? a=some (W.methodObj (.ref f) (.ref y))
  exact k a _ ↑34 e
 | ext φ=>obtain ⟨p,⟨o,e⟩,st⟩:=x;exact ⟨st _ _ p λo q=>k _ _ ↑34 q,⟨o,k _ _ ↑34 e⟩,st⟩
theorem HOk.lt (x:HOk P w H h) (e:H a=some o):a<h.objs.size:=(x a o e).lt
theorem HOk.fresh (x:HOk P w H h) (e:h.objs.size≤a):H a=none:=by
 cases q:H a with
 | none=>rfl
 | some u=>exact absurd (Nat.lt_of_lt_of_le (x.lt q) e) ↑151
theorem HOk.kept (x:HOk P w H h) (k:∀ b u,h.get? b=some u->h'.get? b=some u):HOk P w H h':=λa o e =>
 (x a o e).stay (λb u _ q=>k b u q) (λ_ q=>q) λ_ _ q=>q
theorem HOk.laid (x:HOk P w H h) (k:∀ b u,h.get? b=some u->h'.get? b=some u) (hp:h.objs.size≤a) (new:zeq P w (upd H a o) h' a o):HOk P w (upd H a o) h':=λb u e=>by
 have hn:=x.fresh hp
 by_cases hb:b=a
 ·subst hb;rw [zaD] at e;cases e;exact new
 ·rw [zaq hb] at e
  exact (x b u e).stay (λc v _ q=>k c v q) (λc q=>by rw [zaq (zaV q hn)];exact q) λc xs q=>by rw [zaq (zaV q hn)];exact q
end
def Rd (H:Hp) (a:Addr) (u:HO):Prop:=H a=some u∨∃ o,H a=some (.frz o u)
theorem Rd.ok {P:Program} {w:World} {H:Hp} {h:Heap} {a:Addr} {u:HO} (r:Rd H a u) (x:HOk P w H h):zeq P w H h a u:=by
 rcases r with r | ⟨o,r⟩
 ·exact x a u r
 ·obtain ⟨_,q⟩:=x a _ r
  exact q
def Mut:Option HO->Prop
 | some (.lst _)=>True
 | some (.dK _)=>True
 | some (.dT _)=>True
 | some (.set _ _)=>True
 | some (.ins _ _ _)=>True
 | some (.ext _)=>True
 | _=>False
section
variable {P:Program} {w:World} {H:Hp} {h h':Heap} {x e:Addr} {o':HO}
theorem HOk.write (ok:HOk P w H h) (mu:Mut (H x)) (he:e=x∨H e=some (.own x)) (k:∀ b u,b≠e->h.get? b=some u->h'.get? b=some u) (heo:∃ u,h'.get? e=some u)
  (new:zeq P w (upd H x o') h' x o'):HOk P w (upd H x o') h':=λb u q=>by
 have nown:∀ c y,H c=some (.own y)->c≠x:=λc y r z=>by subst z;rw [r] at mu;exact mu
 have ntup:∀ c xs,H c=some (.tup xs)->c≠x:=λc xs r z=>by subst z;rw [r] at mu;exact mu
 by_cases hb:b=x
 ·subst hb;rw [zaD] at q;cases q;exact new
 ·rw [zaq hb] at q
  by_cases hbe:b=e
  ·have q':H b=some (.own x):=by
    rcases he with z | z
    ·exact absurd (hbe.trans z) hb
    ·rw [hbe];exact z
   rw [q] at q';cases q'
   obtain ⟨v,hv⟩:=heo
   exact ⟨v,by rw [hbe];exact hv⟩
  ·refine (ok b u q).stay (λc v hc r=>k c v ?_ r) (λc r=>by rw [zaq (nown c b r)];exact r) λc xs r=>by rw [zaq (ntup c xs r)];exact r
   rcases hc with rfl | hc
   ·exact hbe
   ·rintro rfl
    rcases he with z | z
    ·exact nown c b hc z
    ·rw [hc] at z;cases z;exact hb rfl
end
structure Un (fs ex:List Addr) (H H':Hp) (h h':Heap):Prop where
 keep:∀ b o,h.get? b=some o->H b=none->b ∉ fs->b ∉ ex->h'.get? b=some o
 slot:∀ b o,h.get? b=some o->H b=none->b∈fs->b ∉ ex->∃ sl,h'.get? b=some { o with slots:=sl }
 free:∀ b o,h.get? b=some o->H b=none->b ∉ ex->H' b=none
 there:∀ b o,h.get? b=some o->b ∉ ex->∃ o',h'.get? b=some o'
 tups:∀ b xs,H b=some (.tup xs)->H' b=some (.tup xs)
 frzs:∀ b o u,H b=some (.frz o u)->H' b=some (.frz o u)
 tbls:∀ b ps,H b=some (.tbl ps)->∃ more,H' b=some (.tbl (ps++more))
section
variable {fs fs' ex ex':List Addr} {H H1 H2:Hp} {h h1 h2 h':Heap} {a x e:Addr} {o:HO}
theorem Un.any (u:Un fs ex H H1 h h1) {b:Addr} {ob:Obj} (q:h.get? b=some ob) (n:H b=none) (hx:b ∉ ex):∃ sl,h1.get? b=some { ob with slots:=sl }:=by
 by_cases hb:b∈fs
 ·exact u.slot b ob q n hb hx
 ·exact ⟨ob.slots,u.keep b ob q n hb hx⟩
theorem Un.kept (k:∀ b u,h.get? b=some u->h'.get? b=some u):Un fs ex H H h h' :=
 ⟨λb ob q _ _ _=>k b ob q,λb ob q _ _ _=>⟨ob.slots,k b ob q⟩,λ_ _ _ n _=>n,λb ob q _=>⟨ob,k b ob q⟩,λ_ _ q=>q,λ_ _ _ q=>q,λ_ ps q=>⟨#[],by rw [q];simp⟩⟩
theorem Un.refl:Un fs ex H H h h:=Un.kept λ_ _ q=>q
theorem Un.laid (k:∀ b u,h.get? b=some u->h'.get? b=some u) (hp:h.objs.size≤a) (hn:H a=none):Un fs ex H (upd H a o) h h' where
 keep:=λb u q _ _ _=>k b u q
 slot:=λb u q _ _ _=>⟨u.slots,k b u q⟩
 free:=λb u q n _=>by rw [zaq (Nat.ne_of_lt (Nat.lt_of_lt_of_le (Heap.lt_size q) hp))];exact n
 there:=λb u q _=>⟨u,k b u q⟩
 tups:=λb xs q=>by rw [zaq (zaV q hn)];exact q
 frzs:=λb u xs q=>by rw [zaq (zaV q hn)];exact q
 tbls:=λb ps q=>⟨#[],by rw [zaq (zaV q hn),q];simp⟩
theorem Un.write (mu:Mut (H x)) (he:e=x∨H e=some (.own x)) (k:∀ b u,b≠e->h.get? b=some u->h'.get? b=some u) (heo:∃ u,h'.get? e=some u):Un fs ex H (upd H x o) h h':=by
 have hx:∀ b,H b=none->b≠x:=λb n z=>by subst z;rw [n] at mu;exact mu
 have hb:∀ b,H b=none->b≠e:=λb n z=>by
  subst z
  rcases he with r | r
  ·exact hx b n r
  ·rw [n] at r;cases r
 have hm:∀ b u,H b=some u->¬ Mut (some u)->b≠x:=λb u q nm z=>by subst z;rw [q] at mu;exact nm mu
 refine ⟨λb u q n _ _=>k b u (hb b n) q,λb u q n _ _=>⟨u.slots,k b u (hb b n) q⟩,λb u q n _=>by rw [zaq (hx b n)];exact n,λb u q _=>?_,
  λb xs q=>by rw [zaq (hm b _ q λz=>z)];exact q,λb u xs q=>by rw [zaq (hm b _ q λz=>z)];exact q,λb ps q=>⟨#[],by rw [zaq (hm b _ q λz=>z),q];simp⟩⟩
 by_cases hbe:b=e
 ·subst hbe;exact heo
 ·exact ⟨u,k b u hbe q⟩
end
def trk (h:Heap) (H:Hp):List Addr:=(List.range h.objs.size).filter λa=>(H a).isSome
def zpt (h:Heap) (H:Hp):Heap:=W.hideAll h (trk h H)
theorem zng (h:Heap) (H:Hp):(zpt h H).objs.size=h.objs.size:=W.hideAll_size _ _
theorem zpk {h:Heap} {H:Hp} {b:Addr} {o:Obj} (e:h.get? b=some o) (n:H b=none):(zpt h H).get? b=some o :=
 W.hideAll_get _ e λhm=>by
  have q:(H b).isSome=true:=(List.mem_filter.mp hm).2
  rw [n] at q;simp at q
theorem zry {h:Heap} {H:Hp} {b:Addr} {o:Obj} (e:(zpt h H).get? b=some o):h.get? b=some o∧H b=none:=by
 have e':h.get? b=some o:=W.of_hideAll (trk h H) e
 refine ⟨e',?_⟩
 cases q:H b with
 | none=>rfl
 | some x =>
  have hm:b∈trk h H:=List.mem_filter.mpr ⟨List.mem_range.mpr (Heap.lt_size e'),by simp [q]⟩
  have z:(zpt h H).get? b=none:=W.hideAll_none (trk h H) hm
  rw [z] at e;cases e
end L2
namespace L2
open PySem PySem.Spec PyProof.Rows
structure Mod (K:W.Frag) (mg:Str->Option Value) (base:Heap):Prop where
 kin:K.In base
 glob:base.Ns mainGlobals mg
 blt:∃ mb,base.Ns builtinsNs mb∧∀ x:Str,x≠"__name__"->mb x=bootBuiltins x
 nolimit:base.NoLimit
structure Cx where
 prog:Program
 w:World
 K:W.Frag
 mg:Str->Option Value
 base:Heap
 A:Around
 N:List Str
 s₀:Shared
 H₀:Hp
 env:Env
 outer:List Env
 stack:List Env
 ex:List Addr
 fn:Str->Bool
 calm:Bool
 pn:List ⇑2
 xe:Value->Shared->Prop
def frs (l:List Env):List Addr:=l.filterMap (·.frame)
abbrev Cx.fs (X:Cx):List Addr:=frs X.outer
def Vis (sc:Scope) (x:Str):Prop:=sc.names.lookup x=some .local∨sc.names.lookup x=some .cell∨sc.names.lookup x=some .free
def Loc (sc:Scope) (x:Str):Prop:=sc.names.lookup x=some .local∨sc.names.lookup x=some .cell
def zu7 (env:Env) (h:Heap) (m:Str->Option Value) (x:Str) (u:Value):Prop :=
 (env.kindOf x=some .local∧m x=some u)∨((env.kindOf x=some .cell∨env.kindOf x=some .free)∧∃ c,env.cells.lookup x=some c∧h.IsCell c (some u))
structure Cx.Ok (X:Cx):Prop where
 mod:Mod X.K X.mg X.base
 kind:X.env.scope.kind=.function
 glob:X.env.globals=mainGlobals
 blt:X.env.builtins=builtinsNs
 above:X.s₀.heap.objs.size≤X.env.locals
 inj:∀ x y c,X.env.cells.lookup x=some c->X.env.cells.lookup y=some c->x=y
 has:∀ x,(X.env.kindOf x=some .cell∨X.env.kindOf x=some .free)->∃ c,X.env.cells.lookup x=some c
 cab:∀ x c,X.fn x=true->X.env.cells.lookup x=some c->X.s₀.heap.objs.size≤c
 hd:X.calm=true->X.A.handled=none
 frames:X.A.frames=some X.stack
 stk:X.stack=X.outer∨(X.stack=X.env :: X.outer∧X.env.frame=some X.env.locals)
 exf:∀ b∈X.ex,b≠X.env.locals∧∀ x c,X.env.cells.lookup x=some c->c≠b
 bs:∀ b o,X.base.get? b=some o->X.s₀.heap.get? b=some o∧X.H₀ b=none
 bsz:X.base.objs.size≤X.s₀.heap.objs.size
 noex:∀ b o,X.base.get? b=some o->b ∉ X.ex
 exfs:∀ b∈X.ex,b ∉ X.fs
 funs:X.s₀.heap.FunFrames X.base X.outer
 frf:∀ b∈X.fs,X.H₀ b=none
structure Inv (X:Cx) (pins:List ⇑2) (σ:List (Option V)) (H:Hp) (s:Shared):Prop where
 ok:X.Ok
 os:s.os=X.s₀.os
 bare:AllBare s.gens
 base:Un X.fs X.ex X.H₀ H X.s₀.heap s.heap
 loc:∃ m,s.heap.Ns X.env.locals m∧∀ (i:Nat) (x:Str) (v:V),X.N[i]?=some x->σ[i]?=some (some v)->Vis X.env.scope x->∃ u,zdw v u∧zu7 X.env s.heap m x u
 cell:∀ x c,X.env.cells.lookup x=some c->∃ v,s.heap.IsCell c v
 free:H X.env.locals=none
 freeC:∀ x c,X.env.cells.lookup x=some c->H c=none
 pin:∀ p∈X.pn++pins,s.heap.get? p.1=some p.2∧H p.1=none∧p.1≠X.env.locals∧p.1 ∉ X.fs∧∀ v,p.2.data≠.cell v
 hok:HOk X.prog X.w H s.heap
 len:σ.length=X.N.length
section
variable {X:Cx} {pins:List ⇑2} {σ:List (Option V)} {H H':Hp} {s:Shared} {h':Heap}
theorem Cx.Ok.nofr (ok:X.Ok) {b:Addr} {o:Obj} (e:X.base.get? b=some o):b ∉ X.fs:=λhb=>by
 have:=(ok.funs.mem hb).1
 rw [e] at this;cases this
theorem Inv.bs (I:Inv X pins σ H s):∀ b o,X.base.get? b=some o->s.heap.get? b=some o∧H b=none:=λb o e =>
 ⟨I.base.keep b o ((I.ok.bs b o e)).1 ((I.ok.bs b o e)).2 (I.ok.nofr e) (I.ok.noex b o e),I.base.free b o ((I.ok.bs b o e)).1 ((I.ok.bs b o e)).2 (I.ok.noex b o e)⟩
theorem Inv.bk (I:Inv X pins σ H s):∀ b o,X.base.get? b=some o->s.heap.get? b=some o:=λb o e=>(I.bs b o e).1
theorem Inv.mod (I:Inv X pins σ H s):Mod X.K X.mg X.base:=I.ok.mod
theorem Inv.kIn (I:Inv X pins σ H s):X.K.In s.heap:=I.ok.mod.kin.keeps I.bk
theorem Inv.nolimit (I:Inv X pins σ H s):s.heap.NoLimit:=I.ok.mod.nolimit.keeps I.bk
theorem Inv.fr (I:Inv X pins σ H s):∃ m,Fr X.base X.env.locals s.heap m :=
 let ⟨m,hn,_⟩:=I.loc
 ⟨m,hn,I.bk,Nat.le_trans I.ok.bsz I.ok.above⟩
theorem Inv.lt (I:Inv X pins σ H s):X.env.locals<s.heap.objs.size:=let ⟨_,hn,_⟩:=I.loc;hn.lt
theorem Inv.sz (I:Inv X pins σ H s):X.s₀.heap.objs.size≤s.heap.objs.size:=Nat.le_trans I.ok.above (Nat.le_of_lt I.lt)
theorem Inv.nofs (I:Inv X pins σ H s) {a:Addr} (h:s.heap.objs.size≤a):a ∉ X.fs:=λhb=>by
 obtain ⟨_,o,ho,_⟩:=I.ok.funs.mem hb
 exact absurd (Nat.lt_of_lt_of_le (Heap.lt_size ho) (Nat.le_trans I.sz h)) ↑151
theorem Inv.cne (I:Inv X pins σ H s):∀ x c,X.env.cells.lookup x=some c->c≠X.env.locals:=λx c e z=>by
 obtain ⟨v,o,ho,hd⟩:=I.cell x c e
 obtain ⟨m,⟨o',es,ep,ho',hd',_⟩,_⟩:=I.loc
 rw [z,ho'] at ho;cases ho;rw [hd'] at hd;cases hd
theorem Inv.funs (I:Inv X pins σ H s):s.heap.FunFrames X.base X.outer:=by
 have all:∀ (l:List Env),(∀ b∈frs l,b∈X.fs)->X.s₀.heap.FunFrames X.base l->s.heap.FunFrames X.base l:=by
  intro l
  induction l with
  | nil=>intro _ _;trivial
  | cons env r ih =>
   intro hs hl
   obtain ⟨hk,⟨L,o,hf,hn,ho,hd⟩,hr⟩:=hl
   have hL:L∈X.fs:=hs L (by unfold frs;rw [List.filterMap_cons,hf];exact List.mem_cons_self)
   obtain ⟨sl,e⟩:=I.base.slot L o ho (I.ok.frf L hL) hL λz=>I.ok.exfs L z hL
   exact ⟨hk,⟨L,_,hf,hn,e,hd⟩,ih (λb hb=>hs b (by unfold frs;rw [List.filterMap_cons,hf];exact List.mem_cons_of_mem _ hb)) hr⟩
 exact all X.outer (λ_ hb=>hb) I.ok.funs
theorem Inv.stack (I:Inv X pins σ H s):s.heap.FunFrames X.base X.stack:=by
 rcases I.ok.stk with e | ⟨e,hf⟩
 ·rw [e];exact I.funs
 ·rw [e]
  obtain ⟨m,hn,_⟩:=I.loc
  refine .cons (by rw [I.ok.kind];decide) hf hn ?_ I.funs
  exact Heap.get?_none_of_le (Nat.le_trans I.ok.bsz I.ok.above)
theorem Inv.stkSub (I:Inv X pins σ H s):∀ b∈frs X.stack,b∈X.env.locals :: X.fs:=λb hb=>by
 rcases I.ok.stk with e | ⟨e,hf⟩
 ·rw [e] at hb;exact List.mem_cons_of_mem _ hb
 ·rw [e] at hb
  unfold frs at hb
  rw [List.filterMap_cons,hf] at hb
  exact hb
theorem Inv.stkFree (I:Inv X pins σ H s):∀ b∈frs X.stack,H b=none:=λb hb=>by
 rcases List.mem_cons.mp (I.stkSub b hb) with e | hb
 ·rw [e];exact I.free
 ·obtain ⟨_,o,ho,_⟩:=I.ok.funs.mem hb
  exact I.base.free b o ho (I.ok.frf b hb) λz=>I.ok.exfs b z hb
theorem Inv.step {g':Array GenState} {t':Nat} {d':Drawn} {ch:List Addr} (I:Inv X pins σ H s)
  (hch:∀ b∈ch,↑253∧b≠X.env.locals∧↑184∧∀ p∈X.pn++pins,p.1≠b)
  (keep:∀ b o,b≠X.env.locals->b ∉ X.fs->b ∉ ch->s.heap.get? b=some o->H b=none->h'.get? b=some o)
  (slot:∀ b o,b≠X.env.locals->b∈X.fs->b ∉ ch->s.heap.get? b=some o->H b=none->∃ sl,h'.get? b=some { o with slots:=sl }) (free:∀ b o,b ∉ ch->s.heap.get? b=some o->H b=none->H' b=none)
  (there:∀ b o,b ∉ ch->s.heap.get? b=some o->∃ o',h'.get? b=some o')
  (tups:∀ b xs,H b=some (.tup xs)->H' b=some (.tup xs)) (frzs:∀ b o u,H b=some (.frz o u)->H' b=some (.frz o u)) (tbls:∀ b ps,H b=some (.tbl ps)->∃ more,H' b=some (.tbl (ps++more)))
  (ns:∀ m,s.heap.Ns X.env.locals m->h'.Ns X.env.locals m) (hok:HOk X.prog X.w H' h') (hg:AllBare g') :
  Inv X pins σ H' { s with heap:=h',gens:=g',drawn:=d',toks:=t' }:=by
 have neL:∀ b o,X.s₀.heap.get? b=some o->b≠X.env.locals:=λb o e=>Nat.ne_of_lt ↑178
 have neC:∀ b o,X.s₀.heap.get? b=some o->b ∉ X.ex->b ∉ ch:=λb o e hx hb=>by
  rcases (hch b hb).1 with z | z
  ·exact hx z
  ·exact absurd (Nat.lt_of_lt_of_le ↑104 z) ↑151
 have cellK:∀ x c,X.env.cells.lookup x=some c->∀ v,s.heap.IsCell c v->h'.IsCell c v:=λx c e v ⟨o,ho,hd⟩=>by
  have nch:c ∉ ch:=λz=>(hch c z).2.2.1 x c e rfl
  by_cases hc:c∈X.fs
  ·obtain ⟨sl,q⟩:=slot c o (I.cne x c e) hc nch ho (I.freeC x c e)
   exact ⟨_,q,hd⟩
  ·exact ⟨o,keep c o (I.cne x c e) hc nch ho (I.freeC x c e),hd⟩
 refine ⟨I.ok,I.os,hg,⟨λb o e n hb hx=>?_,λb o e n hb hx=>?_,λb o e n hx=>?_,λb o e hx=>?_,λb xs e=>tups b xs (I.base.tups b xs e),λb o xs e=>frzs b o xs (I.base.frzs b o xs e),λb ps e=>?_⟩,?_,λx c e=>?_,?_,λx c e=>?_,λp hp=>?_,hok,I.len⟩
 ·exact keep b o (neL b o e) hb (neC b o e hx) ↑229 (I.base.free b o e n hx)
 ·obtain ⟨sl,e1⟩:=I.base.slot b o e n hb hx
  obtain ⟨sl',e2⟩:=slot b _ (neL b o e) hb (neC b o e hx) e1 (I.base.free b o e n hx)
  exact ⟨sl',e2⟩
 ·obtain ⟨o',e1⟩:=I.base.there b o e hx
  exact free b o' (neC b o e hx) e1 (I.base.free b o e n hx)
 ·obtain ⟨o',e1⟩:=I.base.there b o e hx
  exact there b o' (neC b o e hx) e1
 ·obtain ⟨m1,e1⟩:=I.base.tbls b ps e
  obtain ⟨m2,e2⟩:=tbls b _ e1
  exact ⟨m1++m2,by rw [e2,Array.append_assoc]⟩
 ·obtain ⟨m,hn,hl⟩:=I.loc
  refine ⟨m,ns m hn,λi x v e1 e2 e3=>?_⟩
  obtain ⟨u,r,l⟩:=hl i x v e1 e2 e3
  refine ⟨u,r,?_⟩
  rcases l with l | ⟨k,c,e,z⟩
  ·exact .inl l
  ·exact .inr ⟨k,c,e,cellK x c e _ z⟩
 ·obtain ⟨v,z⟩:=I.cell x c e
  exact ⟨v,cellK x c e v z⟩
 ·obtain ⟨m,⟨o,_,_,ho,_⟩,_⟩:=I.loc
  exact free _ o (λz=>(hch _ z).2.1 rfl) ho I.free
 ·obtain ⟨v,o,ho,hd⟩:=I.cell x c e
  exact free c o (λz=>(hch c z).2.2.1 x c e rfl) ho (I.freeC x c e)
 ·obtain ⟨e,n,ne,nf,d⟩:=I.pin p hp
  have nch:p.1 ∉ ch:=λz=>(hch p.1 z).2.2.2 p hp rfl
  exact ⟨keep p.1 p.2 ne nf nch e n,free p.1 p.2 nch e n,ne,nf,d⟩
theorem Inv.un {t':Nat} (I:Inv X pins σ H s) (u:Un X.fs [] H H' s.heap h') (hok:HOk X.prog X.w H' h'):Inv X pins σ H' { s with heap:=h',toks:=t' }:=by
 obtain ⟨m,⟨o,es,ep,ho,r⟩,_⟩:=id I.loc
 obtain ⟨sl,hL⟩:=u.any ho I.free ↥5
 exact I.step (g':=s.gens) (d':=s.drawn) (ch:=[]) (λ_ z=>nomatch z) (λb o _ hb _ e n=>u.keep b o e n hb ↥5) (λb o _ hb _ e n=>u.slot b o e n hb ↥5) (λb o _ e n=>u.free b o e n ↥5) (λb o _ e=>u.there b o e ↥5) u.tups u.frzs u.tbls (λm' hm=>by
  obtain ⟨o',es',ep',ho',r'⟩:=hm
  rw [ho] at ho';cases ho'
  exact ⟨_,es',ep',hL,r'⟩) hok I.bare
theorem Inv.call {g':Array GenState} {t':Nat} {d':Drawn} {ch:List Addr} (I:Inv X pins σ H s) (u:Un (frs X.stack) ch H H' s.heap h') (hok:HOk X.prog X.w H' h') (hg:AllBare g')
  (hch:∀ b∈ch,↑253∧b≠X.env.locals∧↑184∧∀ p∈X.pn++pins,p.1≠b) :
  Inv X pins σ H' { s with heap:=h',gens:=g',drawn:=d',toks:=t' }:=by
 obtain ⟨m,⟨o,es,ep,ho,r⟩,_⟩:=id I.loc
 obtain ⟨sl,hL⟩:=u.any ho I.free λz=>(hch _ z).2.1 rfl
 exact I.step (ch:=ch) hch (λb o hL hb hc e n=>u.keep b o e n (λz=>(List.mem_cons.mp (I.stkSub b z)).elim hL hb) hc) (λb o _ _ hc e n=>u.any e n hc) (λb o hc e n=>u.free b o e n hc) (λb o hc e=>u.there b o e hc) u.tups u.frzs u.tbls (λm' hm=>by
  obtain ⟨o',es',ep',ho',r'⟩:=hm
  rw [ho] at ho';cases ho'
  exact ⟨_,es',ep',hL,r'⟩) hok hg
theorem Inv.turned {t':Nat} {it:Addr} (I:Inv X pins σ H s) (k:∀ b o,b≠it->s.heap.get? b=some o->h'.get? b=some o) (hn:H it=none) (hL:it≠X.env.locals)
  (h1:it∈X.ex∨X.s₀.heap.objs.size≤it) (h2:∀ x c,X.env.cells.lookup x=some c->c≠it) (h3:∀ p∈X.pn++pins,p.1≠it):Inv X pins σ H { s with heap:=h',toks:=t' }:=by
 have nit:∀ b u,H b=some u->b≠it:=λb u e z=>by rw [z,hn] at e;cases e
 refine I.step (g':=s.gens) (d':=s.drawn) (ch:=[it]) (λb hb=>?_) (λb o _ _ hc e _=>k b o (λz=>hc (by simp [z])) e) (λb o _ _ hc e _=>⟨o.slots,k b o (λz=>hc (by simp [z])) e⟩) (λ_ _ _ _ n=>n)
  (λb o hc e=>⟨o,k b o (λz=>hc (by simp [z])) e⟩) (λ_ _ e=>e) (λ_ _ _ e=>e) (λb ps e=>⟨#[],by rw [e];simp⟩) (λm hm=>?_) (λb u e=>?_) I.bare
 ·have e:b=it:=by simpa using hb
  subst e
  exact ⟨h1,hL,h2,h3⟩
 ·obtain ⟨o,es,ep,ho,r⟩:=hm
  exact ⟨o,es,ep,k _ o (Ne.symm hL) ho,r⟩
 ·refine (I.hok b u e).stay (λc v hc q=>k c v ?_ q) (λ_ q=>q) λ_ _ q=>q
  rcases hc with z | z
  ·rw [z];exact nit b u e
  ·exact nit c _ z
theorem Inv.tok (I:Inv X pins σ H s) (t:Nat):Inv X pins σ H { s with toks:=t }:=I.un (h':=s.heap) (t':=t) Un.refl I.hok
theorem Inv.kept {t':Nat} (I:Inv X pins σ H s) (k:∀ b u,s.heap.get? b=some u->h'.get? b=some u):Inv X pins σ H { s with heap:=h',toks:=t' }:=I.un (Un.kept k) (I.hok.kept k)
theorem Inv.laid {a:Addr} {o:HO} {t':Nat} (I:Inv X pins σ H s) (k:∀ b u,s.heap.get? b=some u->h'.get? b=some u) (hp:s.heap.objs.size≤a) (new:zeq X.prog X.w (upd H a o) h' a o) :
  Inv X pins σ (upd H a o) { s with heap:=h',toks:=t' }:=I.un (Un.laid k hp (I.hok.fresh hp)) (I.hok.laid k hp new)
theorem Inv.write {x e:Addr} {o:HO} {t':Nat} (I:Inv X pins σ H s) (mu:Mut (H x)) (he:e=x∨H e=some (.own x)) (k:∀ b u,b≠e->s.heap.get? b=some u->h'.get? b=some u) (heo:∃ u,h'.get? e=some u)
  (new:zeq X.prog X.w (upd H x o) h' x o):Inv X pins σ (upd H x o) { s with heap:=h',toks:=t' }:=I.un (Un.write mu he k heo) (I.hok.write mu he k heo new)
theorem Inv.pins_of {pins':List ⇑2} (I:Inv X pins σ H s) (h:∀ p∈pins',s.heap.get? p.1=some p.2∧H p.1=none∧p.1≠X.env.locals∧p.1 ∉ X.fs∧∀ v,p.2.data≠.cell v):Inv X pins' σ H s :=
 ⟨I.ok,I.os,I.bare,I.base,I.loc,I.cell,I.free,I.freeC,λp hp=>(List.mem_append.mp hp).elim (λz=>I.pin p (List.mem_append_left _ z)) (h p),I.hok,I.len⟩
theorem zju {N:List Str} (hN:N.Nodup) {i j:Nat} {x:Str} (a:N[i]?=some x) (b:N[j]?=some x):i=j:=by
 obtain ⟨h1,e1⟩:=List.getElem?_eq_some_iff.mp a
 obtain ⟨h2,e2⟩:=List.getElem?_eq_some_iff.mp b
 exact (List.getElem_inj hN).mp (e1.trans e2.symm)
theorem zjU {M:Model} {A:Around} {E:Value->Shared->Prop} {i:Nat} {x:Str} {v:V} {u:Value} {Q:Unit->Shared->Prop} (I:Inv X pins σ H s) (hN:X.N.Nodup) (hi:X.N[i]?=some x) (hx:Loc X.env.scope x) (r:zdw v u)
  (h:∀ s',Inv X pins ↑144 H s'->(∃ a,Heap.SameBut a s.heap s'.heap∧(a=X.env.locals∨X.env.cells.lookup x=some a))->Q () s') (hf:X.fn x=true∨X.env.scope.names.lookup x=some .local:=by first | exact .inl rfl | exact .inr rfl | assumption):wpAny M A (storeName X.env x u) Q E s:=by
 obtain ⟨m,hn,hl⟩:=id I.loc
 have hcls:(X.env.scope.kind== .class||(X.env.scope.kind== .module && X.env.locals !=X.env.globals))=false:=by rw [I.ok.kind];rfl
 have hiσ:i<σ.length:=by rw [I.len];exact ((List.getElem?_eq_some_iff.mp hi)).1
 have cne:=I.cne
 have tracked:∀ {a:Addr} {h':Heap},(∃ o,s.heap.get? a=some o∧H a=none)->Heap.SameBut a s.heap h'->HOk X.prog X.w H h':=λ{a h'} ha hs b ob e=>by
  obtain ⟨_,_,hfree⟩:=ha
  refine (I.hok b ob e).stay (λc w' hc q=>(hs.2 c ?_).trans q) (λ_ q=>q) λ_ _ q=>q
  rintro rfl
  rcases hc with rfl | hc
  ·rw [hfree] at e;cases e
  ·rw [hfree] at hc;cases hc
 rcases hx with hk | hk
 ·refine wpAny_storeName_local hk hn (λh' hn' hs=>?_) hcls
  obtain ⟨oL,_,_,hoL,_⟩:=id hn
  refine h _ ⟨I.ok,I.os,I.bare,⟨λb o e n hb hx=>?_,λb o e n hb hx=>?_,I.base.free,λb o e hx=>?_,I.base.tups,I.base.frzs,I.base.tbls⟩,⟨_,hn',λj y v' e1 e2 e3=>?_⟩,λy c e=>?_,I.free,I.freeC,λp hp=>?_,tracked ⟨oL,hoL,I.free⟩ hs,by simpa using I.len⟩ ⟨_,hs,.inl rfl⟩
  ·exact ((hs.2 b (Nat.ne_of_lt ↑178))).trans ↑229
  ·obtain ⟨sl,e1⟩:=I.base.slot b o e n hb hx
   exact ⟨sl,((hs.2 b (Nat.ne_of_lt ↑178))).trans e1⟩
  ·obtain ⟨o',e1⟩:=I.base.there b o e hx
   exact ⟨o',((hs.2 b (Nat.ne_of_lt ↑178))).trans e1⟩
  ·by_cases hj:j=i
   ·subst hj
    rw [hi] at e1;cases e1
    rw [List.getElem?_set_self hiσ] at e2
    cases e2
    exact ⟨u,r,.inl ⟨hk,by simp⟩⟩
   ·rw [List.getElem?_set_ne (Ne.symm hj)] at e2
    obtain ⟨u',r',q⟩:=hl j y v' e1 e2 e3
    refine ⟨u',r',?_⟩
    rcases q with ⟨k,e⟩ | ⟨k,c,e,z⟩
    ·refine .inl ⟨k,?_⟩
     have:y≠x:=λe=>hj (zju hN e1 (e ▸ hi))
     simp [this,e]
    ·exact .inr ⟨k,c,e,z.sameBut hs (cne y c e)⟩
  ·obtain ⟨w',z⟩:=I.cell y c e
   exact ⟨w',z.sameBut hs (cne y c e)⟩
  ·obtain ⟨e,n,ne,nf,d⟩:=I.pin p hp
   exact ⟨(hs.2 p.1 ne).trans e,n,ne,nf,d⟩
 ·have hfn:X.fn x=true:=by
   rcases hf with z | z
   ·exact z
   ·rw [z] at hk;cases hk
  obtain ⟨c,hc⟩:=I.ok.has x (.inl hk)
  obtain ⟨w',z⟩:=I.cell x c hc
  refine wpAny_storeName_cell I.ok.kind hk hc z (λh' hc' hs=>?_)
  obtain ⟨oc,hoc,hocd⟩:=id z
  refine h { s with heap:=h' } ⟨I.ok,I.os,I.bare,⟨λb o e n hb hx=>?_,λb o e n hb hx=>?_,I.base.free,λb o e hx=>?_,I.base.tups,I.base.frzs,I.base.tbls⟩,⟨m,hn.sameBut hs (Ne.symm (cne x c hc)),λj y v' e1 e2 e3=>?_⟩,λy c' e=>?_,I.free,I.freeC,λp hp=>?_,tracked ⟨oc,hoc,I.freeC x c hc⟩ hs,by simpa using I.len⟩ ⟨c,hs,.inr hc⟩
  ·exact (↑266).trans ↑229
  ·obtain ⟨sl,e1⟩:=I.base.slot b o e n hb hx
   exact ⟨sl,(↑266).trans e1⟩
  ·obtain ⟨o',e1⟩:=I.base.there b o e hx
   exact ⟨o',(↑266).trans e1⟩
  ·by_cases hj:j=i
   ·subst hj
    rw [hi] at e1;cases e1
    rw [List.getElem?_set_self hiσ] at e2
    cases e2
    exact ⟨u,r,.inr ⟨.inl hk,c,hc,hc'⟩⟩
   ·rw [List.getElem?_set_ne (Ne.symm hj)] at e2
    obtain ⟨u',r',q⟩:=hl j y v' e1 e2 e3
    refine ⟨u',r',?_⟩
    rcases q with q | ⟨k,c',e,z'⟩
    ·exact .inl q
    ·refine .inr ⟨k,c',e,z'.sameBut hs ?_⟩
     rintro rfl
     exact hj (zju hN e1 (I.ok.inj _ _ _ e hc ▸ hi))
  ·by_cases hcc:c'=c
   ·subst hcc;exact ⟨_,hc'⟩
   ·obtain ⟨w2,z2⟩:=I.cell y c' e
    exact ⟨w2,z2.sameBut hs hcc⟩
  ·obtain ⟨e,n,ne,nf,d⟩:=I.pin p hp
   refine ⟨(hs.2 p.1 ?_).trans e,n,ne,nf,d⟩
   intro q
   rw [q,hoc] at e
   have q':oc=p.2:=Option.some.inj e
   exact d w' (by rw [← q'];exact hocd)
theorem zfK {M:Model} {A:Around} {E:Value->Shared->Prop} {i:Nat} {x:Str} {v:V} {u:Value} {Q:Unit->Shared->Prop} (I:Inv X pins σ H s) (hN:X.N.Nodup) (hi:X.N[i]?=some x) (hx:Loc X.env.scope x) (r:zdw v u)
  (h:∀ s',Inv X pins ↑144 H s'->Q () s') (hf:X.fn x=true∨X.env.scope.names.lookup x=some .local:=by first | exact .inl rfl | exact .inr rfl | assumption):wpAny M A (storeName X.env x u) Q E s :=
 zjU I hN hi hx r (λs' I' _=>h s' I') hf
theorem Inv.call' {s':Shared} {ch:List Addr} (I:Inv X pins σ H s) (ho:s'.os=s.os) (u:Un (frs X.stack) ch H H' s.heap s'.heap) (hok:HOk X.prog X.w H' s'.heap) (hg:AllBare s'.gens)
  (hch:∀ b∈ch,↑253∧b≠X.env.locals∧↑184∧∀ p∈X.pn++pins,p.1≠b):Inv X pins σ H' s':=by
 obtain ⟨h',g',d',t',o'⟩:=s'
 have e:o'=s.os:=ho
 subst e
 exact I.call (g':=g') (t':=t') (d':=d') u hok hg hch
end
abbrev XK:=Value->Option Addr->Hp->Prop
abbrev St:=List (Option V)
abbrev VK:=V->Hp->Prop
abbrev TE:=St->Hp->VK->Prop
abbrev TT:=St->Hp->(Bool->Hp->Prop)->Prop
abbrev TA:=St->Hp->(List V->Hp->Prop)->Prop
structure Ends where
 nx:St->Hp->Prop
 rt:VK
 bk:St->Hp->Prop:=λ_ _=>False
 ct:St->Hp->Prop:=λ_ _=>False
abbrev TS:=Ends->St->Hp->Prop
def EP (X:Cx) (pins:List ⇑2) (σ:St) (Q:VK) (u:Value) (s':Shared):Prop:=∃ v H',Inv X pins σ H' s'∧zdw v u∧Q v H'
def TP (X:Cx) (pins:List ⇑2) (σ:St) (Q:Bool->Hp->Prop) (b:Bool) (s':Shared):Prop:=∃ H',Inv X pins σ H' s'∧Q b H'
def AP (X:Cx) (pins:List ⇑2) (σ:St) (Q:List V->Hp->Prop) (us:List Value) (s':Shared):Prop:=∃ vs H',Inv X pins σ H' s'∧zcn vs us∧Q vs H'
def SP (X:Cx) (pins:List ⇑2) (D:Ends) (f:Flow) (s':Shared):Prop :=
 match f with
 | .next=>∃ σ' H',Inv X pins σ' H' s'∧D.nx σ' H'
 | .brk=>∃ σ' H',Inv X pins σ' H' s'∧D.bk σ' H'
 | .cont=>∃ σ' H',Inv X pins σ' H' s'∧D.ct σ' H'
 | .ret u=>∃ v σ' H',Inv X pins σ' H' s'∧zdw v u∧D.rt v H'
def PE (X:Cx) (e:Expr) (t:TE):Prop :=
 ∀ (pins:List ⇑2) (s:Shared) (σ:St) (H:Hp) (Q:VK),Inv X pins σ H s->t σ H Q->wpAny ↥2 X.A (eval e X.env) ↑57 X.xe s
def PT (X:Cx) (e:Expr) (t:TT):Prop :=
 ∀ (pins:List ⇑2) (s:Shared) (σ:St) (H:Hp) (Q:Bool->Hp->Prop),Inv X pins σ H s->t σ H Q->wpAny ↥2 X.A (isTrue e X.env (eval e X.env)) (TP X pins σ Q) X.xe s
def PW (X:Cx) (e:Expr) (t:TT):Prop :=
 ∀ (whole:Sem Value) (pins:List ⇑2) (s:Shared) (σ:St) (H:Hp) (Q:Bool->Hp->Prop),Inv X pins σ H s->t σ H Q->wpAny ↥2 X.A (isTrue e X.env whole) (TP X pins σ Q) X.xe s
theorem PW.pt {X:Cx} {e:Expr} {t:TT} (h:PW X e t):PT X e t:=h _
def PA (X:Cx) (es:List Expr) (t:TA):Prop :=
 ∀ (pos:Pos) (pins:List ⇑2) (s:Shared) (σ:St) (H:Hp) (Q:List V->Hp->Prop),Inv X pins σ H s->t σ H Q->wpAny ↥2 X.A (spliced ↑66) (AP X pins σ Q) X.xe s
def PS (X:Cx) (st:Stmt) (t:TS):Prop :=
 ∀ (pins:List ⇑2) (s:Shared) (σ:St) (H:Hp) (D:Ends),Inv X pins σ H s->t D σ H->wpAny ↥2 X.A (exec st X.env) (SP X pins D) X.xe s
def PSs (X:Cx) (st:List Stmt) (t:TS):Prop :=
 ∀ (pins:List ⇑2) (s:Shared) (σ:St) (H:Hp) (D:Ends),Inv X pins σ H s->t D σ H->wpAny ↥2 X.A (execs st X.env) (SP X pins D) X.xe s
theorem thn {α:Type} {t:Sem α} {Q Q':α->Shared->Prop} {M:Model} {A:Around} {E:Value->Shared->Prop} {s:Shared} (h:wpAny M A t Q E s) (hQ:∀ a s,Q a s->Q' a s):wpAny M A t Q' E s:=wpAny_mono h hQ λ_ _ x=>x
end L2
namespace L2
open PySem PySem.Spec PyProof.Rows
section
variable {X:Cx}
theorem bin {a b:Expr} {ta tb:TE} (ha:PE X a ta) (hb:PE X b tb) {pins:List ⇑2} {s:Shared} {σ:St} {H:Hp} {R:V->V->Hp->Prop} (I:Inv X pins σ H s) (h:ta σ H λx H1=>tb σ H1 λy H2=>R x y H2)
  {α:Type} {Q:α->Shared->Prop} {f:Value->Value->Sem α}
  (hf:∀ v u s2 x y H2,Inv X pins σ H2 s2->zdw x v->zdw y u->R x y H2->wpAny ↥2 X.A (f v u) Q X.xe s2) :
  wpAny ↥2 X.A (eval a X.env) (λv s₁=>wpAny ↥2 X.A (eval b X.env) (λu s₂=>wpAny ↥2 X.A (f v u) Q X.xe s₂) X.xe s₁) X.xe s:=by
 refine thn ↑116 λv s1 ⟨x,H1,I1,r1,q1⟩=>?_
 refine thn (hb pins s1 σ H1 _ I1 q1) λu s2 ⟨y,H2,I2,r2,q2⟩=>?_
 exact hf v u s2 x y H2 I2 r1 r2 q2
def zg1 (i:Nat):TE:=λσ H Q=>∃ v,σ[i]?=some (some v)∧Q v H
def tC (v:V):TE:=λ_ H Q=>Q v H
theorem zpI {i:Nat} {x:Str} {pos:Pos} (hN:X.N[i]?=some x) (hv:Vis X.env.scope x) (hd:↑45=false:=by decide) (hcd:(x == ("__classdict__" :Str))=false:=by decide):PE X (.Name x pos) (zg1 i):=by
 intro pins s σ H Q I h
 obtain ⟨v,e,h⟩:=h
 obtain ⟨m,hn,hl⟩:=I.loc
 obtain ⟨u,r,l⟩:=hl i x v hN e hv
 have fin:EP X pins σ Q u s:=⟨v,H,I,r,h⟩
 rcases l with ⟨hk,hm⟩ | ⟨hk,c,hc,hcell⟩
 ·exact wpAny_Name (wpAny_loadName_local I.ok.kind hk hn hm fin) hd
 ·rcases hk with hk | hk
  ·exact wpAny_Name (wpAny_loadName_cell I.ok.kind hk hc hcell fin) hd
  ·exact wpAny_Name (wpAny_loadName_free I.ok.kind hk hc hcell fin hcd) hd
theorem zah {i j pos}:PE X (.Constant (.int i) j pos) (tC (.int i)):=λ_ _ _ H _ I h=>wpAny_Constant_int ⟨.int i,H,I.tok _,⟨_,rfl⟩,h⟩
theorem zh1 {b j pos}:PE X (.Constant (.bool b) j pos) (tC (.bl b)):=λ_ _ _ H _ I h=>Constant_bool ⟨.bl b,H,I,rfl,h⟩
theorem zj4 {j pos}:PE X (.Constant .none j pos) (tC .non):=λ_ _ _ H _ I h=>Constant_none ⟨.non,H,I,rfl,h⟩
theorem zc9 {x j pos}:PE X (.Constant (.str x) j pos) (tC (.str x)):=λ_ _ _ H _ I h=>Calls.Constant_str ⟨.str x,H,I.tok _,⟨_,rfl⟩,h⟩
def Gl (X:Cx) (x:Str):Prop:=X.env.kindOf x=some .globalImplicit
theorem zhm {E:Value->Shared->Prop} {pins:List ⇑2} {s:Shared} {σ:St} {H:Hp} {x:Str} {u:Value} {pos:Pos} {Q:Value->Shared->Prop} (I:Inv X pins σ H s) (hg:Gl X x) (hm:X.mg x=some u) (h:Q u s)
  (hd:↑45=false:=by decide):wpAny ↥2 X.A (eval (.Name x pos) X.env) Q E s :=
 Calls.Name_function_global I.ok.kind hg (Calls.loadGlobal_global (by rw [I.ok.glob];exact I.mod.glob.keeps I.bk) hm h) hd
theorem zim {E:Value->Shared->Prop} {pins:List ⇑2} {s:Shared} {σ:St} {H:Hp} {x:Str} {u:Value} {pos:Pos} {Q:Value->Shared->Prop} (I:Inv X pins σ H s) (hg:Gl X x) (hm:X.mg x=none) (hv:bootBuiltins x=some u) (h:Q u s)
  (hn:x≠"__name__":=by decide) (hd:↑45=false:=by decide):wpAny ↥2 X.A (eval (.Name x pos) X.env) Q E s:=by
 obtain ⟨mb,h1,h2⟩:=I.mod.blt
 exact Calls.Name_function_global I.ok.kind hg (Calls.loadGlobal_builtin (by rw [I.ok.glob];exact I.mod.glob.keeps I.bk) hm (by rw [I.ok.blt];exact h1.keeps I.bk) ((h2 x hn).trans hv) h) hd
theorem zb1 {x:Str} {v:V} {u:Value} {pos:Pos} (hg:Gl X x) (hm:X.mg x=some u) (r:zdw v u) (hd:↑45=false:=by decide):PE X (.Name x pos) (tC v) :=
 λ_ _ _ H _ I h=>zhm I hg hm ⟨v,H,I,r,h⟩ hd
theorem zin {x:Str} {v:V} {u:Value} {pos:Pos} (hg:Gl X x) (hm:X.mg x=none) (hv:bootBuiltins x=some u) (r:zdw v u) (hn:x≠"__name__":=by decide) (hd:↑45=false:=by decide):PE X (.Name x pos) (tC v) :=
 λ_ _ _ H _ I h=>zim I hg hm hv ⟨v,H,I,r,h⟩ hn hd
variable {a b:Expr} {ta tb:TE} {pos:Pos}
def PC (X:Cx) (op:CmpOp) (a b:Expr) (t:TE):Prop :=
 ∀ (pins:List ⇑2) (s:Shared) (σ:St) (H:Hp) (Q:VK),Inv X pins σ H s->t σ H Q →
  wpAny ↥2 X.A (eval a X.env) (λv s₁=>wpAny ↥2 X.A (eval b X.env) (λu s₂=>wpAny ↥2 X.A (compareOp op v u) ↑57 X.xe s₂) X.xe s₁) X.xe s
theorem zoS (b:Expr) {op:CmpOp} (h:op≠.In) (h2:op≠.NotIn):behindInMarks op b=false:=by
 have e1:(op == CmpOp.In)=false:=by cases op<;>first | rfl | exact absurd rfl h
 have e2:(op == CmpOp.NotIn)=false:=by cases op<;>first | rfl | exact absurd rfl h2
 cases b<;>simp [behindInMarks,e1,e2]
def tB (t:TE):TT:=λσ H Q=>t σ H λx H1=>∃ c,x=.bl c∧Q c H1
theorem zuO {op:CmpOp} {t:TE} (h:PC X op a b t) (h1:behindInMarks op b=false:=by first | exact zoS _ ⇑1 ⇑1 | rfl):PT X (.Compare a [op] [b] pos) (tB t):=by
 intro pins s σ H Q I hw
 refine wpAny_isTrue_Compare1 (thn (h pins s σ H _ I hw) λv s1 h1=>thn h1 λu s2 h2=>thn h2 λc s3 ⟨x,H1,I1,r1,q1⟩=>?_) h1
 obtain ⟨d,rfl,q⟩:=q1
 cases r1
 exact wpAny_truthy_bool ⟨H1,I1,q⟩
theorem zj0 {e:Expr} {t:TE} (h:PE X e t) (he:∀ whole,isTrue e X.env whole=(do let v ← whole;standAt e.pos;holding [v] (truthy v)):=by intro _;rfl):PT X e (tB t):=by
 intro pins s σ H Q I hw
 refine isTrue_plain (thn (h pins s σ H _ I hw) λv s1 ⟨x,H1,I1,r1,q1⟩=>?_) (he _)
 obtain ⟨d,rfl,q⟩:=q1
 cases r1
 exact wpAny_truthy_bool ⟨H1,I1,q⟩
variable {tA tB':TT} {rest:List Expr}
def zuS (t u:TT):TT:=λσ H Q=>t σ H λc H1=>if c=true then u σ H1 Q else Q false H1
def tOr (t u:TT):TT:=λσ H Q=>t σ H λc H1=>if c=true then Q true H1 else u σ H1 Q
def zu5 (t:TT):TT:=λσ H Q=>t σ H λc H1=>Q (!c) H1
theorem zig (ha:PT X a tA):PW X (.BoolOp .And [a] pos) tA:=by
 intro wh pins s σ H Q I h
 refine isTrue_and (thn (ha pins s σ H Q I h) λc s1 e=> ?_)
 cases c with
 | true=>exact isTrue_and_nil e
 | false=>exact e
theorem zhV (ha:PT X a tA):PW X (.BoolOp .Or [a] pos) tA:=by
 intro wh pins s σ H Q I h
 refine isTrue_or (thn (ha pins s σ H Q I h) λc s1 e=> ?_)
 cases c with
 | false=>exact isTrue_or_nil e
 | true=>exact e
theorem zkr (ha:PT X a tA) (hb:PW X (.BoolOp .And (b :: rest) pos) tB'):PW X (.BoolOp .And (a :: b :: rest) pos) (zuS tA tB'):=by
 intro wh pins s σ H Q I h
 refine isTrue_and (thn ↑116 λc s1 ⟨H1,I1,q1⟩=> ?_)
 cases c with
 | true=>exact hb wh pins s1 σ H1 Q I1 q1
 | false=>exact ⟨H1,I1,q1⟩
theorem zkV (ha:PT X a tA) (hb:PW X (.BoolOp .Or (b :: rest) pos) tB'):PW X (.BoolOp .Or (a :: b :: rest) pos) (tOr tA tB'):=by
 intro wh pins s σ H Q I h
 refine isTrue_or (thn ↑116 λc s1 ⟨H1,I1,q1⟩=> ?_)
 cases c with
 | true=>exact ⟨H1,I1,q1⟩
 | false=>exact hb wh pins s1 σ H1 Q I1 q1
theorem zjQ (ha:PT X a tA):PT X (.UnaryOp .Not a pos) (zu5 tA):=by
 intro pins s σ H Q I h
 exact isTrue_not (ha pins s σ H (λc H1=>Q (!c) H1) I h)
def zsx (ta tb:TE):TE:=λσ H Q=>ta σ H λx H1=>∃ c,x=.bl c∧if c=true then tb σ H1 Q else Q (.bl false) H1
def ztc (ta:TE):TE:=λσ H Q=>ta σ H λx H1=>∃ c,x=.bl c∧Q (.bl (!c)) H1
theorem znp {op} {t:TE} (h:PE X a t):PE X (.BoolOp op [a] pos) t:=λpins s σ H Q I hw=>BoolOp_one (h pins s σ H Q I hw)
theorem zmF (ha:PE X a ta) (hb:PE X (.BoolOp .And (b :: rest) pos) tb):PE X (.BoolOp .And (a :: b :: rest) pos) (zsx ta tb):=by
 intro pins s σ H Q I h
 refine BoolOp_and (thn ↑116 λv s1 ⟨x,H1,I1,r1,q1⟩=> ?_)
 obtain ⟨c,rfl,q1⟩:=q1
 cases r1
 refine wpAny_truthy_bool ?_
 cases c with
 | true=>exact hb pins s1 σ H1 Q I1 q1
 | false=>exact ⟨.bl false,H1,I1,rfl,q1⟩
theorem zr4 (ha:PE X a ta):PE X (.UnaryOp .Not a pos) (ztc ta):=by
 intro pins s σ H Q I h
 refine UnaryOp_ (thn ↑116 λv s1 ⟨x,H1,I1,r1,q1⟩=> ?_)
 obtain ⟨c,rfl,q1⟩:=q1
 cases r1
 exact not_of (wpAny_truthy_bool ⟨.bl (!c),H1,I1,rfl,q1⟩)
def tIf (t:TT) (ta tb:TE):TE:=λσ H Q=>t σ H λc H1=>if c=true then ta σ H1 Q else tb σ H1 Q
theorem zoK {c:Expr} (hc:PT X c tA) (ha:PE X a ta) (hb:PE X b tb):PE X (.IfExp c a b pos) (tIf tA ta tb):=by
 intro pins s σ H Q I h
 refine wpAny_IfExp (thn (hc pins s σ H _ I h) λd s1 ⟨H1,I1,q1⟩=> ?_)
 cases d with
 | true=>exact ha pins s1 σ H1 Q I1 q1
 | false=>exact hb pins s1 σ H1 Q I1 q1
end
end L2
namespace L2
open PySem PySem.Spec PyProof.Rows
def SqL (K:W.Frag) (H:Hp) (a:Addr) (xs:List V):Prop :=
 Rd H a (.lst xs) ∨
  ∃ (o:Obj) (its:Array Value) (n:Nat),K.lookup a=some o∧o.cls=.type "list"∧o.dict=none∧o.data=.seq its n∧its.size≤sizeLine∧zcn xs its.toList
def SqT (K:W.Frag) (H:Hp) (a:Addr) (xs:List V):Prop :=
 Rd H a (.tup xs) ∨
  ∃ (o:Obj) (its:Array Value) (n:Nat),K.lookup a=some o∧o.cls=.type "tuple"∧o.data=.seq its n∧its.size≤sizeLine∧zcn xs its.toList
def zvC:Value->Option V
 | .none=>some .non
 | .bool b=>some (.bl b)
 | .int i _=>some (.int i)
 | .str x _=>some (.str x)
 | .bytes b _=>some (.byt b)
 | .float b _=>some (.flt b)
 | .ref a=>some (.ref a)
 | .type n=>some (.ty n)
 | _=>none
theorem zdw.abs {x:V} {u:Value} (r:zdw x u):zvC u=some x:=by
 cases x with
 | non=>cases r;rfl
 | bl _=>cases r;rfl
 | int _=>obtain ⟨t,rfl⟩:=r;rfl
 | str _=>obtain ⟨t,rfl⟩:=r;rfl
 | byt _=>obtain ⟨t,rfl⟩:=r;rfl
 | flt _=>obtain ⟨t,rfl⟩:=r;rfl
 | ref _=>cases r;rfl
 | ty _=>cases r;rfl
theorem zdw.inj {x y:V} {u:Value} (r:zdw x u) (q:zdw y u):x=y:=Option.some.inj (r.abs.symm.trans q.abs)
theorem zcn.inj:∀ {xs ys:List V} {us:List Value},zcn xs us->zcn ys us->xs=ys
 | _,_,_,.nil,.nil=>rfl
 | _,_,_,.cons r t,.cons r' t'=>by rw [r.inj r',zcn.inj t t']
section
variable {X:Cx} {pins:List ⇑2} {σ:St} {H:Hp} {s:Shared} {a:Addr} {xs ys:List V}
theorem SqL.of {K:W.Frag} (h:H a=some (.lst xs)):SqL K H a xs:=.inl (.inl h)
theorem Inv.list (I:Inv X pins σ H s) (h:SqL X.K H a xs):∃ its:List Value,zcn xs its∧PlainL s.heap a its.toArray∧xs.length≤sizeLine:=by
 rcases h with h | ⟨o,its,n,hk,hc,hd,hs,hz,r⟩
 ·obtain ⟨z,its,n,r,e⟩:=h.ok I.hok
  exact ⟨its,r,⟨_,n,e,rfl,rfl,rfl⟩,z⟩
 ·refine ⟨its.toList,r,⟨o,n,I.kIn a o hk,hc,hd,by simpa using hs⟩,?_⟩
  have e:=r.length
  simp only [Array.length_toList] at e
  omega
theorem Inv.tuple (I:Inv X pins σ H s) (h:SqT X.K H a xs):∃ its:List Value,zcn xs its∧IsTup s.heap a its.toArray∧xs.length≤sizeLine:=by
 rcases h with h | ⟨o,its,n,hk,hc,hs,hz,r⟩
 ·obtain ⟨z,its,r,p⟩:=h.ok I.hok
  exact ⟨its,r,p,z⟩
 ·refine ⟨its.toList,r,⟨o,I.kIn a o hk,hc,n,by simpa using hs⟩,?_⟩
  have e:=r.length
  simp only [Array.length_toList] at e
  omega
theorem Inv.list_inj (I:Inv X pins σ H s) (h:SqL X.K H a xs) (h':SqL X.K H a ys):xs=ys:=by
 obtain ⟨its,r,⟨o,n,e,_,_,d⟩,_⟩:=I.list h
 obtain ⟨its',r',⟨o',n',e',_,_,d'⟩,_⟩:=I.list h'
 rw [e] at e';cases e'
 rw [d] at d'
 injection d' with d1 _
 have:its=its':=by simpa using congrArg Array.toList d1
 subst this
 exact r.inj r'
end
abbrev Cx.wish (X:Cx) (E:Value->Shared->Prop):Cx:={ X with xe:=E }
abbrev Cx.nox (X:Cx):Cx:=X.wish λ_ _=>False
theorem Cx.Ok.wish {X:Cx} (ok:X.Ok) (E:Value->Shared->Prop):(X.wish E).Ok :=
 ⟨ok.mod,ok.kind,ok.glob,ok.blt,ok.above,ok.inj,ok.has,ok.cab,ok.hd,ok.frames,ok.stk,ok.exf,ok.bs,ok.bsz,ok.noex,ok.exfs,ok.funs,ok.frf⟩
theorem Cx.Ok.unwish {X:Cx} {E:Value->Shared->Prop} (ok:(X.wish E).Ok):X.Ok :=
 ⟨ok.mod,ok.kind,ok.glob,ok.blt,ok.above,ok.inj,ok.has,ok.cab,ok.hd,ok.frames,ok.stk,ok.exf,ok.bs,ok.bsz,ok.noex,ok.exfs,ok.funs,ok.frf⟩
section
variable {X:Cx} {pins:List ⇑2} {σ:St} {H:Hp} {s:Shared} {E:Value->Shared->Prop}
theorem Inv.wish (I:Inv X pins σ H s) (E:Value->Shared->Prop):Inv (X.wish E) pins σ H s:=⟨I.ok.wish E,I.os,I.bare,I.base,I.loc,I.cell,I.free,I.freeC,I.pin,I.hok,I.len⟩
theorem Inv.unwish (I:Inv (X.wish E) pins σ H s):Inv X pins σ H s:=⟨I.ok.unwish,I.os,I.bare,I.base,I.loc,I.cell,I.free,I.freeC,I.pin,I.hok,I.len⟩
theorem SP.unwish {D:Ends} {f:Flow} {s':Shared} (h:SP (X.wish E) pins D f s'):SP X pins D f s':=by
 cases f with
 | next=>obtain ⟨σ',H',I,q⟩:=h;exact ⟨σ',H',I.unwish,q⟩
 | brk=>obtain ⟨σ',H',I,q⟩:=h;exact ⟨σ',H',I.unwish,q⟩
 | cont=>obtain ⟨σ',H',I,q⟩:=h;exact ⟨σ',H',I.unwish,q⟩
 | ret u=>obtain ⟨v,σ',H',I,r,q⟩:=h;exact ⟨v,σ',H',I.unwish,r,q⟩
end
section
variable {X:Cx} {st:Stmt} {rest:List Stmt} {t u:TS} {e:Expr} {te:TE} {pos:Pos}
def zoj:TS:=λD σ H=>D.nx σ H
def tSeq (t u:TS):TS:=λD σ H=>t { D with nx:=u D } σ H
theorem zae:PSs X [] zoj:=λ_ _ σ H _ I h=>wpAny_execs_nil ⟨σ,H,I,h⟩
theorem zac (h1:PS X st t) (h2:PSs X rest u):PSs X (st :: rest) (tSeq t u):=by
 intro pins s σ H D I h
 refine wpAny_execs_cons (thn (h1 pins s σ H { D with nx:=u D } I h) λf s1 q=>?_)
 cases f with
 | next =>
  obtain ⟨σ',H',I',q⟩:=q
  exact h2 pins s1 σ' H' D I' q
 | ret v=>exact q
 | brk=>exact q
 | cont=>exact q
theorem zrF (h1:PS X st t):PSs X [st] t:=by
 intro pins s σ H D I h
 refine wpAny_execs_cons (thn (h1 pins s σ H D I h) λf s1 q=>?_)
 cases f with
 | next=>exact wpAny_execs_nil q
 | ret v=>exact q
 | brk=>exact q
 | cont=>exact q
theorem Inv.quiet {pins:List ⇑2} {σ:St} {H:Hp} {s:Shared} (I:Inv X pins σ H s):interactive X.env=false:=by simp [interactive,I.ok.kind]
def zjB (te:TE):TS:=λD σ H=>te σ H λ_ H1=>D.nx σ H1
theorem zcR (he:PE X e te) (hs:swapsWith e none pos.line X.env=pure false:=by rfl):PS X (.Expr e pos) (zjB te):=by
 intro pins s σ H D I h
 exact wpAny_Expr_any (thn ↑141 λv s1 ⟨x,H1,I1,r1,q1⟩=>⟨σ,H1,I1,q1⟩) I.quiet hs
def zou (te:TE):TS:=λD σ H=>te σ H D.rt
theorem zaJ (he:PE X e te):PS X (.Return (some e) pos) (zou te):=by
 intro pins s σ H D I h
 exact wpAny_Return_some (thn ↑141 λv s1 ⟨x,H1,I1,r1,q1⟩=>⟨x,σ,H1,I1,r1,q1⟩)
def zs0 (c:TT) (t u:TS):TS:=λD σ H=>c σ H λb H1=>if b=true then t D σ H1 else u D σ H1
theorem zco {c:Expr} {a b:List Stmt} {tc:TT} (hc:PT X c tc) (ha:PSs X a t) (hb:PSs X b u):PS X (.If c a b pos) (zs0 tc t u):=by
 intro pins s σ H D I h
 refine wpAny_If (thn (hc pins s σ H _ I h) λd s1 ⟨H1,I1,q1⟩=> ?_)
 cases d with
 | true=>exact ha pins s1 σ H1 D I1 q1
 | false=>exact hb pins s1 σ H1 D I1 q1
def zsr:TS:=λ_ _ _=>False
theorem zeC:PS X st zsr:=λ_ _ _ _ _ _ h=>h.elim
end
abbrev TG:=V->St->Hp->(St->Hp->Prop)->Prop
abbrev TGs:=List V->St->Hp->(St->Hp->Prop)->Prop
def PG (X:Cx) (target:Expr) (t:TG):Prop :=
 ∀ (pins:List ⇑2) (s:Shared) (σ:St) (H:Hp) (v:V) (u:Value) (Q:St->Hp->Prop),Inv X pins σ H s->zdw v u->t v σ H Q →
  wpAny ↥2 X.A (assign target X.env u) (λ_ s'=>∃σ' H',Inv X pins σ' H' s'∧Q σ' H') X.xe s
def PGs (X:Cx) (ts:List Expr) (t:TGs):Prop :=
 ∀ (pins:List ⇑2) (s:Shared) (σ:St) (H:Hp) (vs:List V) (us:List Value) (Q:St->Hp->Prop),Inv X pins σ H s->zcn vs us->t vs σ H Q →
  wpAny ↥2 X.A (assignInOrder ((assignEach ts X.env).map (·.2)) us) (λ_ s'=>∃σ' H',Inv X pins σ' H' s'∧Q σ' H') X.xe s
abbrev zuF:=V->V->V->Hp->(Hp->Prop)->Prop
def zvb (X:Cx) (t:zuF):Prop :=
 ∀ (pins:List ⇑2) (s:Shared) (σ:St) (H:Hp) (o i v:V) (ov iv u:Value) (Q:Hp->Prop),Inv X pins σ H s->zdw o ov->zdw i iv->zdw v u->t o i v H Q →
  wpAny ↥2 X.A (setItem ov iv u) (λ_ s'=>∃ H',Inv X pins σ H' s'∧Q H') X.xe s
section
variable {X:Cx} {pos:Pos}
def zdk (i:Nat):TG:=λv σ H Q=>Q ↑144 H
theorem zak {i:Nat} {x:Str} (hN:X.N.Nodup) (hi:X.N[i]?=some x) (hx:Loc X.env.scope x) (hf:X.fn x=true∨X.env.scope.names.lookup x=some .local:=by first | exact .inl rfl | exact .inr rfl | assumption):PG X (.Name x pos) (zdk i):=by
 intro pins s σ H v u Q I r h
 exact wpAny_assign_Name (zfK I hN hi hx r (λs' I'=>⟨_,H,I',h⟩) hf)
def zpz:TGs:=λvs σ H Q=>vs=[]∧Q σ H
def zgk (t:TG) (u:TGs):TGs:=λvs σ H Q=>∃ v r,vs=v :: r∧t v σ H λσ' H'=>u r σ' H' Q
theorem zbE:PGs X [] zpz:=by
 intro pins s σ H vs us Q I r h
 obtain ⟨e,h⟩:=h
 subst e
 cases r
 exact assignInOrder_nil ⟨σ,H,I,h⟩
theorem zay {e:Expr} {es:List Expr} {t:TG} {u:TGs} (h1:PG X e t) (h2:PGs X es u)
  (hs:(assignEach (e::es) X.env).map (·.2)=assign e X.env :: ((assignEach es X.env)).map (·.2):=by rfl):PGs X (e::es) (zgk t u):=by
 intro pins s σ H vs us Q I r h
 obtain ⟨v,vr,e1,h⟩:=h
 subst e1
 cases r with
 | cons r rr =>
  rw [hs]
  refine assignInOrder_cons (thn (h1 pins s σ H _ _ _ I r h) λ_ s1 ⟨σ1,H1,I1,q1⟩=>?_)
  exact h2 pins s1 σ1 H1 _ _ Q I1 rr q1
def zow (K:W.Frag) (n:Nat) (t:TGs):TG:=λv σ H Q=>∃ a xs,v=.ref a∧SqT K H a xs∧xs.length=n∧t xs σ H Q
theorem ztn {es:List Expr} {k:Nat} {t:TGs} {n:Nat} (hc:X.calm=true) (h:PGs X es t)
  (hn:((assignEach es X.env)).length=n:=by rfl) (hst:((assignEach es X.env)).findIdx? (·.1)=none:=by rfl):PG X (.Tuple es k pos) (zow X.K n t):=by
 intro pins s σ H v u Q I r hw
 obtain ⟨a,xs,e1,hq,hl,hw⟩:=hw
 subst e1
 cases r
 obtain ⟨its,rv,ht,hz⟩:=I.tuple hq
 refine assign_Tuple_tuple (I.ok.hd hc) ht (by simp [hn,← hl,rv.length]) hst λh' hx=>?_
 have I1:Inv X pins σ H { s with heap:=h' }:=I.kept (t':=s.toks) λb o e=>hx b o (Nat.ne_of_lt ↑104) e
 exact h pins _ σ H xs _ Q I1 (by simpa using rv) hw
def zso (to ti:TE) (t:zuF):TG:=λv σ H Q=>to σ H λo H1=>ti σ H1 λi H2=>t o i v H2 λH3=>Q σ H3
theorem zjA {o i:Expr} {to ti:TE} {t:zuF} (ho:PE X o to) (hi:PE X i ti) (hs:zvb X t)
  (ha:∀ v,assign (.Subscript o i pos) X.env v=(do
   let ov ← holding [v] (eval o X.env)
   let iv ← holding [v,ov] (eval i X.env)
   standAt pos
   holding [v,ov,iv] (setItem ov iv v)
   release [v,ov,iv] []):=by intro _;rfl):PG X (.Subscript o i pos) (zso to ti t):=by
 intro pins s σ H v u Q I r h
 rw [ha]
 refine wpAny_bind (wpAny_holding (thn (ho pins s σ H _ I h) λov s1 ⟨x,H1,I1,r1,q1⟩=>?_))
 refine wpAny_bind (wpAny_holding (thn (hi pins s1 σ H1 _ I1 q1) λiv s2 ⟨y,H2,I2,r2,q2⟩=>?_))
 refine wpAny_bind (wpAny_standAt (wpAny_bind (wpAny_holding (thn (hs pins s2 σ H2 x y v ov iv u _ I2 r1 r2 r q2) λ_ s3 ⟨H3,I3,q3⟩=>?_))))
 exact wpAny_release ⟨σ,H3,I3,q3⟩
def zjt (te:TE) (g:TG):TS:=λD σ H=>te σ H λx H1=>g x σ H1 D.nx
theorem zhv {tg e:Expr} {te:TE} {g:TG} (he:PE X e te) (hg:PG X tg g) (hs:swapsWithSole [tg] e pos.line X.env=pure false:=by rfl) (hw:swappedStores [tg] e X.env=pure none:=by rfl)
  (h1:(assignEach [tg] X.env).map (·.2)=[assign tg X.env]:=by rfl):PS X (.Assign [tg] e pos) (zjt te g):=by
 intro pins s σ H D I h
 refine wpAny_Assign_stores (thn ↑141 λv s1 ⟨x,H1,I1,r1,q1⟩=> ?_) hs hw
 rw [h1]
 exact thn (hg pins s1 σ H1 x v _ I1 r1 q1) λ_ s2 q=>q
theorem zao {i:Nat} {x:Str} {e:Expr} {te:TE} {pos':Pos} (hN:X.N.Nodup) (hi:X.N[i]?=some x) (hx:Loc X.env.scope x) (he:PE X e te) (hs:swapsWith e (some (.Name x pos')) pos.line X.env=pure false:=by rfl) (hf:X.fn x=true∨X.env.scope.names.lookup x=some .local:=by first | exact .inl rfl | exact .inr rfl | assumption) :
  PS X (.Assign [.Name x pos'] e pos) (zjt te (zdk i)):=by
 intro pins s σ H D I h
 refine wpAny_Assign_Name (thn ↑141 λv s1 ⟨y,H1,I1,r1,q1⟩=>?_) hs
 exact zfK I1 hN hi hx r1 (λs2 I2=>⟨_,H1,I2,q1⟩) hf
def tPar (i j:Nat) (ta:TA):TS:=λD σ H=>ta σ H λvs H1=>∃ v w,vs=[v,w]∧D.nx ((↑144).set j (some w)) H1
theorem zrQ {i j:Nat} {x y:Str} {a b:Expr} {ta:TA} {px py pt:Pos} {kt k2 pt2} (hc:X.calm=true) (hN:X.N.Nodup) (hi:X.N[i]?=some x) (hj:X.N[j]?=some y) (hij:i≠j)
  (hx:X.env.scope.names.lookup x=some .local) (hy:X.env.scope.names.lookup y=some .local) (ha:PA X [a,b] ta)
  (hw:swappedStores [.Tuple [.Name x px,.Name y py] kt pt] (.Tuple [a,b] k2 pt2) X.env=pure (some [x,y]))
  (hs:swapsWithSole [.Tuple [.Name x px,.Name y py] kt pt] (.Tuple [a,b] k2 pt2) pos.line X.env=pure false:=by rfl) :
  PS X (.Assign [.Tuple [.Name x px,.Name y py] kt pt] (.Tuple [a,b] k2 pt2) pos) (tPar i j ta):=by
 intro pins s σ H D I h
 rw [exec_Assign_arm]
 refine wpAny_bind (wpAny_standAt ?_)
 rw [hs]
 refine wpAny_bind (wpAny_pure ?_)
 rw [if_neg ⇑1]
 refine wpAny_bind (Tuple_ (thn (ha _ pins s σ H _ I h) λus s1 ⟨vs,H1,I1,r1,q1⟩=>?_))
 obtain ⟨v,w,e1,q1⟩:=q1
 subst e1
 obtain ⟨u1,u2,rfl,rv,rw'⟩:∃ u1 u2,us=[u1,u2]∧zdw v u1∧zdw w u2:=by
  cases r1 with
  | cons p q =>
   cases q with
   | cons p' q' =>
    cases q'
    exact ⟨_,_,rfl,p,p'⟩
 refine wpAny_newObj_type ?_ ↑89
 have I2:Inv X pins σ H1 { s1 with heap:=s1.heap.push { cls:=.type "tuple",data:=.seq [u1,u2].toArray } }:=I1.kept (t':=s1.toks) λb o e=>Heap.get?_push_of_some _ e
 rw [hw]
 refine wpAny_bind (wpAny_pure ?_)
 show wpAny ↥2 X.A (do rule "assign.swapped-stores";let items ← unpackItems (.ref s1.heap.objs.size) 2 none;assignInOrder [λv=>bindName X.env y v,λv=>bindName X.env x v] items.reverse;pure Flow.next) _ _ _
 refine wpAny_bind (wpAny_rule (wpAny_bind (unpackItems_tuple (items:=#[u1,u2]) (I.ok.hd hc) (IsTup.new s1.heap _) λh' hx'=>?_)))
 have I3:=I2.kept (h':=h') (t':=s1.toks) λb o e=>hx' b o (Nat.ne_of_lt ↑104) e
 show wpAny _ _ (assignInOrder [λv=>bindName X.env y v,λv=>bindName X.env x v] [u2,u1] >>= λ_=>pure Flow.next) _ _ _
 refine wpAny_bind (assignInOrder_cons (wpAny_bindName (zfK I3 hN hj (.inl hy) rw' (λs2 I4=>?_) (.inr hy))))
 refine assignInOrder_cons (wpAny_bindName (zfK I4 hN hi (.inl hx) rv (λs3 I5=>assignInOrder_nil (wpAny_pure ?_)) (.inr hx)))
 rw [List.set_comm _ _ (Ne.symm hij)] at I5
 exact ⟨_,H1,I5,q1⟩
end
section
variable {X:Cx} {pos:Pos}
def zp0 (c:TT) (tb:TS):TS:=λD σ H=>∃ W:Nat->St->Hp->Prop,(∃ m,W m σ H)∧∀ m σ H,W m σ H →
 c σ H λb H1=>if b=true then ∃ N:St->Hp->Prop,(∀ σ' H',N σ' H'->∃ m',m'<m∧W m' σ' H')∧tb { D with nx:=N,ct:=N,bk:=D.nx } σ H1 else D.nx σ H1
theorem zja {c:Expr} {body:List Stmt} {tc:TT} {tb:TS} (hp:PassesOwn ↥2 X.A X.env X.xe) (hc:PT X c tc) (hb:PSs X body tb):PS X (.While c body [] pos) (zp0 tc tb):=by
 intro pins s σ H D I h
 obtain ⟨W,⟨m0,w0⟩,turn⟩:=h
 refine wpAny_While (codeAny_whileLoop (λn s'=>∃ σ' H',Inv X pins σ' H' s'∧W n σ' H') ?_ m0 ⟨σ,H,I,w0⟩)
 rintro n s1 ⟨σ1,H1,I1,w1⟩
 refine wpAny_passesOwn hp (thn (hc pins s1 σ1 H1 _ I1 (turn n σ1 H1 w1)) λb s2 ⟨H2,I2,q2⟩=>?_)
 cases b with
 | true =>
  obtain ⟨N,hN,q2⟩:=q2
  rw [if_pos rfl]
  refine wpAny_passesOwn hp (thn (hb pins s2 σ1 H2 _ I2 q2) λf s3 q3=>?_)
  cases f with
  | next =>
   obtain ⟨σ3,H3,I3,n3⟩:=q3
   obtain ⟨m',hm,w3⟩:=hN σ3 H3 n3
   exact ⟨m',hm,σ3,H3,I3,w3⟩
  | cont =>
   obtain ⟨σ3,H3,I3,n3⟩:=q3
   obtain ⟨m',hm,w3⟩:=hN σ3 H3 n3
   exact ⟨m',hm,σ3,H3,I3,w3⟩
  | brk=>exact q3
  | ret v=>exact q3
 | false =>
  rw [if_neg Bool.false_ne_true]
  exact wpAny_execs_nil ⟨σ1,H2,I2,q2⟩
end
structure It where
 go:Nat->Hp->Prop
 yld:Nat->Hp->V->Hp->Prop
 stop:Nat->Hp->Prop
def zlq (X:Cx) (pins:List ⇑2) (H:Hp) (b:Addr):Prop :=
 H b=none∧b≠X.env.locals∧b ∉ X.fs∧↑253∧↑184∧∀ p∈X.pn++pins,p.1≠b
theorem Inv.fpOk {X:Cx} {pins:List ⇑2} {σ:St} {H H':Hp} {s:Shared} {b:Addr} (I:Inv X pins σ H s) (hb:s.heap.objs.size≤b) (hn:H' b=none):zlq X pins H' b:=by
 refine ⟨hn,Nat.ne_of_gt (Nat.lt_of_lt_of_le I.lt hb),I.nofs hb,.inr (Nat.le_trans I.sz hb),λx c e z=>?_,λp hp z=>?_⟩
 ·obtain ⟨v,q⟩:=I.cell x c e
  exact absurd (Nat.lt_of_lt_of_le q.lt (by rw [z];exact hb)) ↑151
 ·exact absurd (Nat.lt_of_lt_of_le (Heap.lt_size (I.pin p hp).1) (by rw [z];exact hb)) ↑151
structure Turn (P:Program) (w:World) (K:W.Frag) (tg:Expr) (J:It) (fp:List Addr) (it:Addr) (tn:Nat->Heap->Prop):Prop where
 mem:it∈fp
 obj:∀ i h,tn i h->∀ b∈fp,∃ o,h.get? b=some o∧∀ v,o.data≠.cell v
 keep:∀ i h h',tn i h->(∀ b∈fp,∀ o,h.get? b=some o->h'.get? b=some o)->tn i h'
 item:∀ (X:Cx),X.prog=P->X.w=w->X.K=K->X.calm=true->∀ (i:Nat) (pins:List ⇑2) (s:Shared) (σ:St) (H:Hp) (E:Value->Shared->Prop),Inv X pins σ H s->(∀ b∈fp,zlq X pins H b)->tn i s.heap->J.go i H →
  wpAny (model P w) X.A (pyNext (.ref it)) (λr s1=>∃ u,r=some u ∧
   wpAny (model P w) X.A (letOwnedTupleGo tg (.ref it) u) (λ_ s2=>∃ x H',Inv X pins σ H' s2∧zdw x u∧J.yld i H x H'∧tn (i+1) s2.heap∧∀ b∈fp,H' b=none) E s1) E s
 done:∀ (X:Cx),X.prog=P->X.w=w->X.K=K->X.calm=true->∀ (i:Nat) (pins:List ⇑2) (s:Shared) (σ:St) (H:Hp) (E:Value->Shared->Prop),Inv X pins σ H s->(∀ b∈fp,zlq X pins H b)->tn i s.heap->J.stop i H →
  wpAny (model P w) X.A (pyNext (.ref it)) (λr s1=>r=none∧Inv X pins σ H s1) E s
 self:∀ (A:Around) (i:Nat) (s:Shared) (Q:Value->Shared->Prop) (E:Value->Shared->Prop),tn i s.heap->Q (.ref it) s->wpAny (model P w) A (pyIter (.ref it)) Q E s
abbrev TI:=St->Hp->(It->Hp->Prop)->Prop
def PIE (X:Cx) (pins:List ⇑2) (σ:St) (tg:Expr) (R:It->Hp->Prop) (itv:Value) (s2:Shared):Prop :=
 ∃ (it:Addr) (fp:List Addr) (tn:Nat->Heap->Prop) (J:It) (H':Hp),itv=.ref it∧Inv X pins σ H' s2∧Turn X.prog X.w X.K tg J fp it tn∧tn 0 s2.heap∧(∀ b∈fp,zlq X pins H' b)∧R J H'
def PI (X:Cx) (tg iter:Expr) (wi:TI):Prop :=
 ∀ (pins:List ⇑2) (s:Shared) (σ:St) (H:Hp) (R:It->Hp->Prop),Inv X pins σ H s->wi σ H R →
  wpAny ↥2 X.A (eval iter X.env) (λv s1=>wpAny ↥2 X.A (pyIter v) (PIE X pins σ tg R) X.xe s1) X.xe s
theorem zqX {M:Model} {A:Around} {E:Value->Shared->Prop} {s:Shared} {tg:Expr} {it:Addr} {u:Value} {o:Obj} {n:String} {vs:Array Value} {Q:Unit->Shared->Prop} (ho:s.heap.get? it=some o) (hc:o.cls=.type n) (hd:o.data=.fields vs)
  (hn:["enumerate","zip","dict_itemiterator","dict_reverseitemiterator","odict_iterator","itertools.zip_longest","itertools.pairwise"].contains n=false) (hQ:Q () s):wpAny M A (letOwnedTupleGo tg (.ref it) u) Q E s:=by
 unfold letOwnedTupleGo
 cases tg<;>first
  | exact wpAny_pure hQ
  | (cases u<;>first
    | exact wpAny_pure hQ
    | (refine wpAny_bind (wpAny_load ho ?_)
       rw [hc,hd]
       show wpAny M A (if (["enumerate","zip","dict_itemiterator","dict_reverseitemiterator","odict_iterator","itertools.zip_longest","itertools.pairwise"].contains n&&vs[0]? == some (rawInt _))=true then _ else _) Q E s
       rw [if_neg (by intro h;rw [hn,Bool.false_and] at h;cases h)]
       exact wpAny_pure hQ))
def Itl (K:W.Frag) (a:Addr):It :=
 ⟨λi H=>∃ xs x,SqL K H a xs∧xs[i]?=some x,λi H x H'=>H'=H∧∀ xs,SqL K H a xs->xs[i]?=some x,λi H=>∃ xs,SqL K H a xs∧xs.length≤i⟩
def Itr (lo:Int) (n:Nat):It:=⟨λi _=>i<n,λi H x H'=>H'=H∧x=.int (lo+i),λi _=>n≤i⟩
theorem znG {P:Program} {w:World} {K:W.Frag} {tg:Expr} (a it:Addr):Turn P w K tg (Itl K a) [it] it (λi h=>h.IsListIter it a i) where
 mem:=by simp
 obj:=λi h st b hb=>by
  have e:b=it:=by simpa using hb
  subst e
  obtain ⟨o,e,c,d⟩:=st
  exact ⟨o,e,λv z=>by rw [d] at z;cases z⟩
 keep:=λi h h' st k=>st.at λo e=>k it ↥5 o e
 item:=by
  intro X hP hw hK hc i pins s σ H E I hf st hg
  subst hP hw hK
  obtain ⟨xs,x,hq,hx⟩:=hg
  obtain ⟨its,rv,p,hz⟩:=I.list hq
  obtain ⟨u,hu,ru⟩:=rv.get hx
  obtain ⟨f0,f1,f2,f3,f4,f5⟩:=hf it ↥5
  refine wpAny_pyNext_list_item st p.isList (x:=u) (by simpa using hu) λh' st' sb=>?_
  have I1:Inv X pins σ H { s with heap:=h' }:=I.turned (t':=s.toks) (λb o hb e=>(sb.2 b hb).trans e) f0 f1 f3 f4 f5
  obtain ⟨o,e,c,d⟩:=id st'
  exact ⟨u,rfl,zqX (s:= {s with heap:=h'}) e c d ⇑1 ⟨x,H,I1,ru,⟨rfl,λys hy=>by rw [I.list_inj hy hq];exact hx⟩,st',λb hb=>(hf b hb).1⟩⟩
 done:=by
  intro X hP hw hK hc i pins s σ H E I hf st hg
  subst hP hw hK
  obtain ⟨xs,hq,hx⟩:=hg
  obtain ⟨its,rv,p,hz⟩:=I.list hq
  obtain ⟨f0,f1,f2,f3,f4,f5⟩:=hf it ↥5
  have hl:=rv.length
  exact wpAny_pyNext_list_end (I.ok.hd hc) st p.isList ↑61 λh' eb=>⟨rfl,I.turned (t':=s.toks) (λb o hb e=>eb b o hb e) f0 f1 f3 f4 f5⟩
 self:=λ_ _ _ _ _ st h=>wpAny_pyIter_listiter st h
theorem zmj {P:Program} {w:World} {K:W.Frag} {tg:Expr} (it:Addr) (lo:Int) (n:Nat):Turn P w K tg (Itr lo n) [it] it (λi h=>IsRangeIter h it (lo+(i:Nat)*1) ((n:Int)-(i:Nat)) 1) where
 mem:=by simp
 obj:=λi h st b hb=>by
  have e:b=it:=by simpa using hb
  subst e
  exact ⟨_,st,λv z=>by
   have z':Data.fields _=Data.cell v:=z
   cases z'⟩
 keep:=λi h h' st k=>k it ↥5 _ st
 item:=by
  intro X hP hw hK hc i pins s σ H E I hf st hg
  subst hP hw hK
  obtain ⟨f0,f1,f2,f3,f4,f5⟩:=hf it ↥5
  have W:=Walks.range (prog:=X.prog) (w:=X.w) (I.ok.hd hc) it lo 1 n
  refine W.item i s _ _ hg st λv h' tk hv st' kk=>?_
  obtain ⟨t,rfl⟩:=hv
  have I1:Inv X pins σ H { s with heap:=h',toks:=tk }:=I.turned (λb o hb e=>kk b o (by simpa using hb) e) f0 f1 f3 f4 f5
  refine ⟨_,rfl,zqX (s:={ s with heap:=h',toks:=tk }) (n:="range_iterator") st' rfl rfl ⇑1 ⟨.int (lo+i),H,I1,⟨t,?_⟩,⟨rfl,rfl⟩,st',λb hb=>(hf b hb).1⟩⟩
  rw [Int.mul_one]
 done:=by
  intro X hP hw hK hc i pins s σ H E I hf st hg
  subst hP hw hK
  obtain ⟨f0,f1,f2,f3,f4,f5⟩:=hf it ↥5
  exact wpAny_pyNext_range_end (I.ok.hd hc) st (by have:n≤i:=hg;omega) λh' eb=>⟨rfl,I.turned (t':=s.toks) (λb o hb e=>eb b o hb e) f0 f1 f3 f4 f5⟩
 self:=λ_ _ _ _ _ st h=>wpAny_pyIter_rangeiter st h
end L2
namespace L2
open PySem PySem.Spec PyProof.Rows
section
variable {X:Cx} {tg:Expr}
def zoL (K:W.Frag) (tl:TE):TI:=λσ H R=>tl σ H λx H1=>∃ a,x=.ref a∧(∃xs,SqL K H1 a xs)∧R (Itl K a) H1
theorem zrg {l:Expr} {tl:TE} (hl:PE X l tl):PI X tg l (zoL X.K tl):=by
 intro pins s σ H R I h
 refine thn (hl pins s σ H _ I h) λv s1 ⟨x,H1,I1,r1,q1⟩=>?_
 obtain ⟨a,e,⟨xs,hq⟩,q⟩:=q1
 subst e
 cases r1
 obtain ⟨its,rv,p,hz⟩:=I1.list hq
 refine wpAny_pyIter_list p.isList ?_
 refine ⟨s1.heap.objs.size,[s1.heap.objs.size],_,_,H1,rfl,I1.kept (t':=s1.toks) λb o e=>Heap.get?_push_of_some _ e,znG a _,⟨_,Heap.get?_push_size _ rfl,rfl,rfl⟩,λb hb=>?_,q⟩
 have e:b=s1.heap.objs.size:=by simpa using hb
 subst e
 exact I1.fpOk ↑11 (I1.hok.fresh ↑11)
theorem zo4 {pins:List ⇑2} {σ:St} {H:Hp} {s:Shared} {R:It->Hp->Prop} {E:Value->Shared->Prop} {lo hi:Int} {t u v:Tok} {tk:Nat} (I:Inv X pins σ H s) (h1:-(2^62)≤lo) (h2:lo<2^62) (h3:-(2^62)≤hi) (h4:hi<2^62)
  (q:R (Itr lo (hi-lo).toNat) H):wpAny ↥2 X.A (pyIter (.ref s.heap.objs.size)) (PIE X pins σ tg R) E { s with heap:=s.heap.push { cls:=.type "range",data:=.fields #[.int lo t,.int hi u,.int 1 v] },toks:=tk }:=by
 refine wpAny_pyIter_range (IsRange.new ..) (small_one h1 h2 h3 h4) ?_
 have I1:Inv X pins σ H { s with heap:=s.heap.push { cls:=.type "range",data:=.fields #[.int lo t,.int hi u,.int 1 v] },toks:=tk }:=I.kept λb o e=>Heap.get?_push_of_some _ e
 refine ⟨((s.heap.push {cls:= .type "range",data:= .fields #[.int lo t,.int hi u,.int 1 v]})).objs.size,[((s.heap.push {cls:= .type "range",data:= .fields #[.int lo t,.int hi u,.int 1 v]})).objs.size],_,_,H,rfl,
  I1.kept (t':=tk) λb o e=>Heap.get?_push_of_some _ e,zmj _ lo (hi-lo).toNat,?_,λb hb=>?_,q⟩
 ·have e1:lo+((0:Nat):Int)*1=lo:=by simp
  have e2:(((hi-lo).toNat:Nat):Int)-((0:Nat):Int)=Builtin.Range.rangeSize lo hi 1:=by rw [rangeSize_one];split<;>omega
  show IsRangeIter _ _ (lo+((0:Nat):Int)*1) ((((hi-lo).toNat:Nat):Int)-((0:Nat):Int)) 1
  rw [e1,e2]
  exact Heap.get?_push_size _ rfl
 ·have e:b=((s.heap.push {cls:= .type "range",data:= .fields #[.int lo t,.int hi u,.int 1 v]})).objs.size:=by simpa using hb
  subst e
  exact I1.fpOk ↑11 (I1.hok.fresh ↑11)
def zr3 (ta:TA):TI:=λσ H R=>ta σ H λvs H1=>∃ j:Int,vs=[.int j]∧-(2^62)≤j∧j<2^62∧R (Itr 0 j.toNat) H1
theorem zb9 {a:Expr} {ta:TA} {p pos:Pos} (hg:Gl X "range") (hm:X.mg "range"=none) (ha:PA X [a] ta) (hs:starEach [a] X.env=[(false,eval a X.env)]:=by rfl):PI X tg (.Call (.Name "range" p) [a] [] pos) (zr3 ta):=by
 intro pins s σ H R I h
 refine Call_ (zim I hg hm boot_range (PyProof.Rows.callWith_type1 ↑242 hs rfl))
 obtain ⟨j,e,q1,q2,q⟩:=q1
 subst e
 cases r1 with
 | cons r rr =>
  cases rr
  obtain ⟨t,rfl⟩:=r
  exact call_range_1 (zo4 I1 ↑0 ↑0 q1 q2 (by simpa using q))
def zrI (wi:TI) (g:TG) (tb:TS):TS:=λD σ H=>wi σ H λJ H1=>∃ W:Nat->Nat->St->Hp->Prop,(∃ m,W 0 m σ H1)∧∀ i m σ H,W i m σ H →
 (J.stop i H∧D.nx σ H)∨(J.go i H∧∃ N:St->Hp->Prop,(∀ σ' H',N σ' H'->∃ m',m'<m∧W (i+1) m' σ' H')∧∀ x H',J.yld i H x H'->g x σ H' λσ2 H2=>tb { D with nx:=N,ct:=N,bk:=D.nx } σ2 H2)
def zko (fp:List Addr) (h:Heap):List ⇑2:=fp.filterMap λb=>(h.get? b).map λo=>(b,o)
theorem zgc {fp:List Addr} {h:Heap} {b:Addr} {o:Obj} (hb:b∈fp) (e:h.get? b=some o):(b,o)∈zko fp h:=List.mem_filterMap.mpr ⟨b,hb,by rw [e];rfl⟩
theorem zoe {fp:List Addr} {h:Heap} {p:Addr×Obj} (hp:p∈zko fp h):p.1∈fp∧h.get? p.1=some p.2:=by
 obtain ⟨b,hb,e⟩:=List.mem_filterMap.mp hp
 cases q:h.get? b with
 | none=>rw [q] at e;cases e
 | some o =>
  rw [q] at e
  have e':(b,o)=p:=Option.some.inj e
  subst e'
  exact ⟨hb,q⟩
theorem Inv.pinned {pins:List ⇑2} {σ:St} {H:Hp} {s:Shared} {fp:List Addr} (I:Inv X pins σ H s) (hf:∀ b∈fp,zlq X pins H b) (ho:∀ b∈fp,∃ o,s.heap.get? b=some o∧∀ v,o.data≠.cell v):Inv X (pins++zko fp s.heap) σ H s :=
 I.pins_of λp hp=>(List.mem_append.mp hp).elim (λz=>I.pin p (List.mem_append_right _ z)) λz=>by
  obtain ⟨hb,e⟩:=zoe z
  obtain ⟨f0,f1,f2,_⟩:=hf p.1 hb
  obtain ⟨o,e',d⟩:=ho p.1 hb
  rw [e] at e';cases e'
  exact ⟨e,f0,f1,f2,d⟩
theorem Inv.unpinned {pins pl:List ⇑2} {σ:St} {H:Hp} {s:Shared} (I:Inv X (pins++pl) σ H s):Inv X pins σ H s:=I.pins_of λp hp=>I.pin p (List.mem_append_right _ (List.mem_append_left _ hp))
theorem zch {iter:Expr} {body:List Stmt} {wi:TI} {g:TG} {tb:TS} {pos:Pos} (hp:PassesOwn ↥2 X.A X.env X.xe) (hc:X.calm=true) (hi:PI X tg iter wi) (hg:PG X tg g) (hb:PSs X body tb)
  (hs:∀ x,foldedSetIterable iter X.env x=pure x:=by intro _;rfl):PS X (.For tg iter body [] pos) (zrI wi g tb):=by
 intro pins s σ H D I h
 refine wpAny_For (thn (hi pins s σ H _ I h) λv s1 h1=>thn h1 λitv s2 h2=>?_) hs
 obtain ⟨it,fp,tn,J,H2,e,I2,T,st2,f2,W,⟨m0,w0⟩,turn⟩:=h2
 subst e
 have stat:∀ {H':Hp},(∀b∈fp,H' b=none)->∀ b∈fp,zlq X pins H' b:=λhn b hb=>⟨hn b hb,(f2 b hb).2⟩
 refine codeAny_forLoop_any (λn s'=>∃ i σ' H',Inv X pins σ' H' s'∧tn i s'.heap∧(∀b∈fp,H' b=none)∧W i n σ' H') ?_ m0 ⟨0,σ,H2,I2,st2,λb hb=>(f2 b hb).1,w0⟩
 rintro n s3 ⟨i,σ3,H3,I3,st3,fr3,w3⟩
 rcases turn i n σ3 H3 w3 with ⟨stop,qn⟩ | ⟨go,N,hN,step⟩
 ·refine wpAny_passesOwn hp (thn (T.done X rfl rfl rfl hc i pins s3 σ3 H3 X.xe I3 (stat fr3) st3 stop) λr s4 ⟨hr,I4⟩=>?_)
  subst hr
  exact wpAny_execs_nil ⟨σ3,H3,I4,qn⟩
 ·refine wpAny_passesOwn hp (thn (T.item X rfl rfl rfl hc i pins s3 σ3 H3 X.xe I3 (stat fr3) st3 go) λr s4 ⟨u,hr,h4⟩=>?_)
  subst hr
  refine wpAny_passesOwn hp (thn h4 λ_ s5 ⟨x,H5,I5,r5,y5,st5,fr5⟩=>?_)
  have I5':=I5.pinned (stat fr5) (T.obj _ _ st5)
  refine wpAny_passesOwn hp (thn (hg _ s5 σ3 H5 x u _ I5' r5 (step x H5 y5)) λ_ s6 ⟨σ6,H6,I6,q6⟩=>?_)
  refine wpAny_passesOwn hp (thn (hb _ s6 σ6 H6 _ I6 q6) λf s7 q7=>?_)
  have again:∀ {σ7:St} {H7:Hp},Inv X (pins++zko fp s5.heap) σ7 H7 s7->N σ7 H7->∃ m,m<n∧∃ i σ' H',Inv X pins σ' H' s7∧tn i s7.heap∧(∀b∈fp,H' b=none)∧W i m σ' H':=λ{σ7 H7} I7 n7=>by
   obtain ⟨m',hm,w7⟩:=hN σ7 H7 n7
   refine ⟨m',hm,i+1,σ7,H7,I7.unpinned,T.keep _ _ _ st5 λb hb o e=>(I7.pin (b,o) ↑243).1,λb hb=>?_,w7⟩
   obtain ⟨o,e,d⟩:=T.obj _ _ st5 b hb
   exact (I7.pin (b,o) ↑243).2.1
  cases f with
  | next=>obtain ⟨σ7,H7,I7,n7⟩:=q7;exact again I7 n7
  | cont=>obtain ⟨σ7,H7,I7,n7⟩:=q7;exact again I7 n7
  | brk=>obtain ⟨σ7,H7,I7,q7⟩:=q7;exact ⟨σ7,H7,I7.unpinned,q7⟩
  | ret v=>obtain ⟨x7,σ7,H7,I7,r7,q7⟩:=q7;exact ⟨x7,σ7,H7,I7.unpinned,r7,q7⟩
end
end L2
namespace L2
open PySem PySem.Spec PyProof.Rows
abbrev R2:=V->V->Hp->VK->Prop
def OpR (X:Cx) (f:Value->Value->Sem Value) (r:R2):Prop :=
 ∀ (pins:List ⇑2) (s:Shared) (σ:St) (H:Hp) (x y:V) (v u:Value) (Q:VK),Inv X pins σ H s->zdw x v->zdw y u->r x y H Q →
  wpAny ↥2 X.A (f v u) ↑57 X.xe s
def UnR (X:Cx) (f:Value->Sem Value) (r:V->Hp->VK->Prop):Prop :=
 ∀ (pins:List ⇑2) (s:Shared) (σ:St) (H:Hp) (x:V) (v:Value) (Q:VK),Inv X pins σ H s->zdw x v->r x H Q →
  wpAny ↥2 X.A (f v) ↑57 X.xe s
def zfZ (X:Cx) (f:Value) (r:List V->Hp->VK->Prop):Prop :=
 ∀ (pins:List ⇑2) (s:Shared) (σ:St) (H:Hp) (xs:List V) (us:List Value) (Q:VK),Inv X pins σ H s->zcn xs us->r xs H Q →
  wpAny ↥2 X.A (call f us) ↑57 X.xe s
def tOp (r:R2) (ta tb:TE):TE:=λσ H Q=>ta σ H λx H1=>tb σ H1 λy H2=>r x y H2 Q
def tUn (r:V->Hp->VK->Prop) (ta:TE):TE:=λσ H Q=>ta σ H λx H1=>r x H1 Q
def rI (C:Int->Int->Prop) (g:Int->Int->V):R2:=λx y H Q=>∃ i j,x=.int i∧y=.int j∧C i j∧Q (g i j) H
def rI0 (g:Int->Int->V):R2:=λx y H Q=>∃ i j,x=.int i∧y=.int j∧Q (g i j) H
def rU (g:Int->V):V->Hp->VK->Prop:=λx H Q=>∃ i,x=.int i∧Q (g i) H
section
variable {X:Cx} {a b c:Expr} {ta tb tc:TE} {pos:Pos}
theorem zuH (ha:PE X a ta) (hb:PE X b tb) {pins:List ⇑2} {s:Shared} {σ:St} {H:Hp} {R:V->V->Hp->Prop} (I:Inv X pins σ H s)
  (h:ta σ H λx H1=>tb σ H1 λy H2=>R x y H2) {Q:Value->Shared->Prop} {f:Value->Value->Sem Value}
  (hf:∀ v u s2 x y H2,Inv X pins σ H2 s2->zdw x v->zdw y u->R x y H2->wpAny ↥2 X.A (f v u) Q X.xe s2) :
  wpAny ↥2 X.A (eval a X.env) (λv s₁=>wpAny ↥2 X.A (eval b X.env) (λu s₂=>wpAny ↥2 X.A (f v u) Q X.xe s₂) X.xe s₁) X.xe s:=by
 refine thn ↑116 λv s1 ⟨x,H1,I1,r1,q1⟩=>?_
 refine thn (hb pins s1 σ H1 _ I1 q1) λu s2 ⟨y,H2,I2,r2,q2⟩=>?_
 exact hf v u s2 x y H2 I2 r1 r2 q2
theorem zaw {op:Operator} {r:R2} (ho:OpR X (binaryOp op) r) (ha:PE X a ta) (hb:PE X b tb):PE X (.BinOp a op b pos) (tOp r ta tb):=by
 intro pins s σ H Q I h
 exact wpAny_BinOp (zuH ha hb I h λv u s2 x y H2 I2 rx ry q=>ho pins s2 σ H2 x y v u Q I2 rx ry q)
theorem zoZ {op:UnaryOp} {r:V->Hp->VK->Prop} (ho:UnR X (unaryOp op) r) (ha:PE X a ta):PE X (.UnaryOp op a pos) (tUn r ta):=by
 intro pins s σ H Q I h
 exact UnaryOp_ (thn ↑116 λv s1 ⟨x,H1,I1,r1,q1⟩=>ho pins s1 σ H1 x v Q I1 r1 q1)
theorem opI {f:Value->Value->Sem Value} {C:Int->Int->Prop} {g:Int->Int->Int}
  (rule:∀ (i j:Int) (t u:Tok) (s:Shared) (Q:Value->Shared->Prop) (E:Value->Shared->Prop),C i j->Q (.int (g i j) s.toks) { s with toks:=s.toks+1 }->wpAny ↥2 X.A (f (.int i t) (.int j u)) Q E s) :
  OpR X f (rI C λi j=>.int (g i j)):=by
 intro pins s σ H x y v u Q I rx ry h
 obtain ⟨i,j,rfl,rfl,hc,q⟩:=h
 obtain ⟨t,rfl⟩:=rx
 obtain ⟨t',rfl⟩:=ry
 exact rule i j t t' s _ _ hc ⟨.int (g i j),H,I.tok _,⟨_,rfl⟩,q⟩
theorem zuP {f:Value->Value->Sem Value} {g:Int->Int->Int}
  (rule:∀ (i j:Int) (t u:Tok) (s:Shared) (Q:Value->Shared->Prop) (E:Value->Shared->Prop),Q (.int (g i j) s.toks) { s with toks:=s.toks+1 }->wpAny ↥2 X.A (f (.int i t) (.int j u)) Q E s) :
  OpR X f (rI0 λi j=>.int (g i j)):=by
 intro pins s σ H x y v u Q I rx ry h
 obtain ⟨i,j,rfl,rfl,q⟩:=h
 obtain ⟨t,rfl⟩:=rx
 obtain ⟨t',rfl⟩:=ry
 exact rule i j t t' s _ _ ⟨.int (g i j),H,I.tok _,⟨_,rfl⟩,q⟩
theorem zu6 {f:Value->Value->Sem Value} {g:Int->Int->Bool}
  (rule:∀ (i j:Int) (t u:Tok) (s:Shared) (Q:Value->Shared->Prop) (E:Value->Shared->Prop),Q (.bool (g i j)) s->wpAny ↥2 X.A (f (.int i t) (.int j u)) Q E s) :
  OpR X f (rI0 λi j=>.bl (g i j)):=by
 intro pins s σ H x y v u Q I rx ry h
 obtain ⟨i,j,rfl,rfl,q⟩:=h
 obtain ⟨t,rfl⟩:=rx
 obtain ⟨t',rfl⟩:=ry
 exact rule i j t t' s _ _ ⟨.bl (g i j),H,I,rfl,q⟩
def zvo (i j:Int):Prop:=0≤j∧j≤1000000∧i.natAbs<2^64
theorem zcD:OpR X (binaryOp .Add) (rI0 λi j=>.int (i+j)):=zuP λ_ _ _ _ _ _ _ q=>add_int q
theorem zfi:OpR X (binaryOp .Sub) (rI0 λi j=>.int (i-j)):=zuP λ_ _ _ _ _ _ _ q=>sub_int q
theorem zcI:OpR X (binaryOp .Mod) (rI (λ_ j=>0<j) λi j=>.int (i%j)):=opI λi j _ _ _ _ _ hc q=>by
 have h1:(0:Int)<j:=hc
 exact mod_int' ↑0 (by rw [Int.fmod_eq_emod_of_nonneg i ↑0];exact q)
theorem zpC:OpR X (binaryOp .Pow) (rI zvo λi j=>.int (i^j.toNat)):=opI λ_ _ _ _ _ _ _ hc q=>pow_int_small hc.1 hc.2.1 hc.2.2 q
theorem unI {f:Value->Sem Value} {g:Int->Int}
  (rule:∀ (i:Int) (t:Tok) (s:Shared) (Q:Value->Shared->Prop) (E:Value->Shared->Prop),Q (.int (g i) s.toks) { s with toks:=s.toks+1 }->wpAny ↥2 X.A (f (.int i t)) Q E s) :
  UnR X f (rU λi=>.int (g i)):=by
 intro pins s σ H x v Q I rx h
 obtain ⟨i,rfl,q⟩:=h
 obtain ⟨t,rfl⟩:=rx
 exact rule i t s _ _ ⟨.int (g i),H,I.tok _,⟨_,rfl⟩,q⟩
theorem zlw:UnR X (unaryOp .USub) (rU λi=>.int (-i)):=unI λ_ _ _ _ _ q=>neg_int q
end
def scal:V->V->Bool
 | .non,.non=>true | .non,.int _=>true | .int _,.non=>true | .non,.bl _=>true | .bl _,.non=>true | .non,.str _=>true | .str _,.non=>true
 | .int _,.int _=>true | .bl _,.bl _=>true | .str _,.str _=>true | .byt _,.byt _=>true
 | .int _,.str _=>true | .str _,.int _=>true | .bl _,.str _=>true | .str _,.bl _=>true
 | _,_=>false
def rEq:R2:=λx y H Q=>scal x y=true∧Q (.bl (decide (x=y))) H
def rNe:R2:=λx y H Q=>scal x y=true∧Q (.bl (!decide (x=y))) H
theorem zm4 {i j:Int}:decide (V.int i=V.int j)=(i == j):=by
 rw [Bool.eq_iff_iff]
 simp
theorem zp2 {i j:Bool}:decide (V.bl i=V.bl j)=(i == j):=by
 rw [Bool.eq_iff_iff]
 simp
theorem zn0 {i j:Str}:decide (V.str i=V.str j)=(i == j):=by
 rw [Bool.eq_iff_iff]
 simp
theorem zof {i j:Array UInt8}:decide (V.byt i=V.byt j)=(i.toList == j.toList):=by
 rw [Bool.eq_iff_iff]
 cases i
 cases j
 simp
section
variable {X:Cx} {a b c:Expr} {ta tb tc:TE} {pos:Pos}
theorem zbQ {pins:List ⇑2} {σ:St} {H:Hp} {s:Shared} {Q:VK} {k k':Bool} (I:Inv X pins σ H s) (q:Q (.bl k) H) (e:k=k'):EP X pins σ Q (.bool k') s:=by
 subst e
 exact ⟨.bl k,H,I,rfl,q⟩
theorem zgq:OpR X (compareOp .Eq) rEq:=by
 intro pins s σ H x y v u Q I rx ry h
 obtain ⟨hs,q⟩:=h
 cases x with
 | non =>
  cases rx
  cases y with
  | non=>cases ry;exact PySem.EqNone.eq_none_none ↑21
  | bl j=>cases ry;exact PySem.EqNone.eq_none_bool ↑21
  | int j=>obtain ⟨t',rfl⟩:=ry;exact PySem.EqNone.eq_none_int ↑21
  | str j=>obtain ⟨t',rfl⟩:=ry;exact PySem.EqNone.eq_none_str ↑21
  | _=>exact absurd ↑68 Bool.false_ne_true
 | bl i =>
  cases rx
  cases y with
  | non=>cases ry;exact PySem.EqNone.eq_bool_none ↑21
  | bl j=>cases ry;exact eq_bool (zbQ I q zp2)
  | str j=>obtain ⟨t',rfl⟩:=ry;exact PySem.EqMixed.eq_bool_str ↑21
  | _=>exact absurd ↑68 Bool.false_ne_true
 | int i =>
  obtain ⟨t,rfl⟩:=rx
  cases y with
  | non=>cases ry;exact PySem.EqNone.eq_int_none ↑21
  | int j=>obtain ⟨t',rfl⟩:=ry;exact eq_int (zbQ I q zm4)
  | str j=>obtain ⟨t',rfl⟩:=ry;exact PySem.EqMixed.eq_int_str ↑21
  | _=>exact absurd ↑68 Bool.false_ne_true
 | str i =>
  obtain ⟨t,rfl⟩:=rx
  cases y with
  | non=>cases ry;exact PySem.EqNone.eq_str_none ↑21
  | bl j=>cases ry;exact PySem.EqMixed.eq_str_bool ↑21
  | int j=>obtain ⟨t',rfl⟩:=ry;exact PySem.EqMixed.eq_str_int ↑21
  | str j=>obtain ⟨t',rfl⟩:=ry;exact eq_str (zbQ I q zn0)
  | _=>exact absurd ↑68 Bool.false_ne_true
 | byt i =>
  obtain ⟨t,rfl⟩:=rx
  cases y with
  | byt j=>obtain ⟨t',rfl⟩:=ry;exact W.eq_bytes (zbQ I q zof)
  | _=>exact absurd ↑68 Bool.false_ne_true
 | _=>cases y<;>exact absurd ↑68 Bool.false_ne_true
theorem zfD:OpR X (compareOp .NotEq) rNe:=by
 intro pins s σ H x y v u Q I rx ry h
 obtain ⟨hs,q⟩:=h
 cases x with
 | non =>
  cases rx
  cases y with
  | non=>cases ry;exact PySem.EqNone.ne_none_none ↑21
  | bl j=>cases ry;exact PySem.EqNone.ne_none_bool ↑21
  | int j=>obtain ⟨t',rfl⟩:=ry;exact PySem.EqNone.ne_none_int ↑21
  | str j=>obtain ⟨t',rfl⟩:=ry;exact PySem.EqNone.ne_none_str ↑21
  | _=>exact absurd ↑68 Bool.false_ne_true
 | bl i =>
  cases rx
  cases y with
  | non=>cases ry;exact PySem.EqNone.ne_bool_none ↑21
  | bl j=>cases ry;exact ne_bool (zbQ I q (congrArg not zp2))
  | str j=>obtain ⟨t',rfl⟩:=ry;exact PySem.EqMixed.ne_bool_str ↑21
  | _=>exact absurd ↑68 Bool.false_ne_true
 | int i =>
  obtain ⟨t,rfl⟩:=rx
  cases y with
  | non=>cases ry;exact PySem.EqNone.ne_int_none ↑21
  | int j=>obtain ⟨t',rfl⟩:=ry;exact ne_int (zbQ I q (congrArg not zm4))
  | str j=>obtain ⟨t',rfl⟩:=ry;exact PySem.EqMixed.ne_int_str ↑21
  | _=>exact absurd ↑68 Bool.false_ne_true
 | str i =>
  obtain ⟨t,rfl⟩:=rx
  cases y with
  | non=>cases ry;exact PySem.EqNone.ne_str_none ↑21
  | bl j=>cases ry;exact PySem.EqMixed.ne_str_bool ↑21
  | int j=>obtain ⟨t',rfl⟩:=ry;exact PySem.EqMixed.ne_str_int ↑21
  | str j=>obtain ⟨t',rfl⟩:=ry;exact ne_str (zbQ I q (congrArg not zn0))
  | _=>exact absurd ↑68 Bool.false_ne_true
 | byt i =>
  obtain ⟨t,rfl⟩:=rx
  cases y with
  | byt j=>obtain ⟨t',rfl⟩:=ry;exact W.ne_bytes (zbQ I q (congrArg not zof))
  | _=>exact absurd ↑68 Bool.false_ne_true
 | _=>cases y<;>exact absurd ↑68 Bool.false_ne_true
theorem zjK:OpR X (compareOp .Lt) (rI0 λi j=>.bl (decide (i<j))):=zu6 λ_ _ _ _ _ _ _ q=>lt_int q
theorem zkj:OpR X (compareOp .Gt) (rI0 λi j=>.bl (decide (j<i))):=zu6 λ_ _ _ _ _ _ _ q=>gt_int q
theorem zmW:OpR X (compareOp .IsNot) (λx y H Q=>y= .non∧Q (.bl (!decide (x= .non))) H):=by
 intro pins s σ H x y v u Q I rx ry h
 obtain ⟨rfl,q⟩:=h
 cases ry
 refine isnot_none_gen (zbQ I q ?_)
 cases x<;>first
  | (cases rx;rfl)
  | (obtain ⟨t,rfl⟩:=rx;rfl)
theorem zaM (b:Expr) {op:CmpOp} (h:op≠.In:=by decide) (h2:op≠.NotIn:=by decide):behindInMarks op b=false:=by
 have e1:(op == CmpOp.In)=false:=by cases op<;>first | rfl | exact absurd rfl h
 have e2:(op == CmpOp.NotIn)=false:=by cases op<;>first | rfl | exact absurd rfl h2
 cases b<;>simp [behindInMarks,e1,e2]
theorem zid {op:CmpOp} {r:R2} (ho:OpR X (compareOp op) r) (ha:PE X a ta) (hb:PE X b tb) (hm:behindInMarks op b=false):PE X (.Compare a [op] [b] pos) (tOp r ta tb):=by
 intro pins s σ H Q I h
 exact wpAny_Compare1 (zuH ha hb I h λv u s2 x y H2 I2 rx ry q=>ho pins s2 σ H2 x y v u Q I2 rx ry q) hm
def zsJ (t:TE):TT:=λσ H Q=>t σ H λx H'=>∃ k,x=.bl k∧Q k H'
theorem zaF {op:CmpOp} {r:R2} (ho:OpR X (compareOp op) r) (ha:PE X a ta) (hb:PE X b tb) (hm:behindInMarks op b=false):PT X (.Compare a [op] [b] pos) (zsJ (tOp r ta tb)):=by
 intro pins s σ H Q I h
 refine wpAny_isTrue_Compare1 (thn ↑116 λv s1 ⟨x,H1,I1,r1,q1⟩=>thn (hb pins s1 σ H1 _ I1 q1) λu s2 ⟨y,H2,I2,r2,q2⟩ =>
  thn (ho pins s2 σ H2 x y v u _ I2 r1 r2 q2) λc s3 ⟨z,H3,I3,r3,k,e,q3⟩=>?_) hm
 subst e
 cases r3
 exact wpAny_truthy_bool ⟨H3,I3,q3⟩
theorem zlj:(sizeLine:Nat)<2^63:=by rw [sizeLine_eq];decide
theorem zkA {x:V} {us:List Value} (r:zcn [x] us):∃ u,us=[u]∧zdw x u:=by
 cases r with
 | cons r1 r2=>cases r2;exact ⟨_,rfl,r1⟩
theorem zoT {x y:V} {us:List Value} (r:zcn [x,y] us):∃ u w',us=[u,w']∧zdw x u∧zdw y w':=by
 cases r with
 | cons r1 r2 =>
  cases r2 with
  | cons r3 r4=>cases r4;exact ⟨_,_,rfl,r1,r3⟩
theorem zoR:zfZ X (.builtin "abs") (λxs H Q=>∃i,xs=[.int i]∧Q (.int (if i<0 then-i else i)) H):=by
 intro pins s σ H xs us Q I r h
 obtain ⟨i,rfl,q⟩:=h
 obtain ⟨u,rfl,t,rfl⟩:=zkA r
 exact call_abs_int λu tk=>⟨.int (if i<0 then -i else i),H,I.tok _,⟨_,rfl⟩,q⟩
theorem zjJ (hc:X.calm=true):zfZ X (.builtin "max") (λxs H Q=>∃i j,xs=[.int i,.int j]∧Q (.int (if j>i then j else i)) H):=by
 intro pins s σ H xs us Q I r h
 obtain ⟨i,j,rfl,q⟩:=h
 obtain ⟨u,w',rfl,⟨t,rfl⟩,⟨t',rfl⟩⟩:=zoT r
 refine max_two_ints (I.ok.hd hc) λh' tk k=>⟨_,H,I.kept k,?_,q⟩
 by_cases hj:j > i
 ·rw [if_pos hj,if_pos hj];exact ⟨_,rfl⟩
 ·rw [if_neg hj,if_neg hj];exact ⟨_,rfl⟩
theorem zjI:zfZ X (.type "int") (λxs H Q=>(∃i,xs=[.int i]∧Q (.int i) H)∨∃k,xs=[.bl k]∧Q (.int (if k then 1 else 0)) H):=by
 intro pins s σ H xs us Q I r h
 rcases h with ⟨i,rfl,q⟩ | ⟨k,rfl,q⟩
 ·obtain ⟨u,rfl,t,rfl⟩:=zkA r
  exact call_int_int ⟨.int i,H,I,⟨_,rfl⟩,q⟩
 ·obtain ⟨u,rfl,r1⟩:=zkA r
  cases r1
  exact call_int_bool ⟨.int (if k then 1 else 0),H,I.tok _,⟨_,rfl⟩,q⟩
end
end L2
namespace L2
open PySem PySem.Spec PyProof.Rows
structure ObjM (h:Heap) (x dx C:Addr) (mA:Str->Option Value):Prop where
 obj:h.get? x=some (W.instObj C dx)
 ns:h.Ns1 dx mA
 ne:dx≠x
theorem znR {h:Heap} {dx:Addr} {mA:Str->Option Value} (n:h.Ns1 dx mA):∃ od,h.get? dx=some od∧∀ name,W.lookIn name od=some (mA name):=by
 obtain ⟨o,es,ep,ho,hd,hk,_,hm⟩:=n
 refine ⟨o,ho,λname=>?_⟩
 have e:=hm name
 unfold nsFind findBy at e
 rw [← Array.find?_toList] at e
 unfold W.lookIn
 rw [hd]
 dsimp only
 split
 ·rename_i y q
  rw [q] at e
  exact congrArg some e
 ·rename_i q
  rw [q] at e
  have a:es.toList.any (·.refKey)=false:=by
   rw [List.any_eq_false]
   intro y hy
   obtain ⟨z,t,hkey⟩:=hk y (Array.mem_toList_iff.mp hy)
   simp [DictEntry.refKey,hkey]
  have a':¬ es.toList.any (·.refKey)=true:=by rw [a];exact Bool.false_ne_true
  rw [if_neg a']
  exact congrArg some e
theorem ObjM.look {h:Heap} {x dx C:Addr} {mA:Str->Option Value} (I:ObjM h x dx C mA):∃ od,W.InstAt h x (W.instObj C dx) C (some od)∧∀ name,W.lookIn name od=some (mA name) :=
 let ⟨od,ho,hl⟩:=znR I.ns
 ⟨od,⟨I.obj,rfl,rfl,ho⟩,hl⟩
section
variable {prog:Program} {w:World} {A:Around} {E:Value->Shared->Prop} {s:Shared} {K:W.Frag} {x dx C f:Addr} {mA:Str->Option Value} {name:Str} {v:Value}
theorem zql {expr:Bool} {Q:Value->Shared->Prop} (X:K.In s.heap) (I:ObjM s.heap x dx C mA) (hg:W.plainGet K C name=true) (hh:W.hasDictIn K C=true)
  (ha:W.findIn K (.ref C) name=some none) (hv:mA name=some v) (hv':W.handedIn v=true) (h:Q v { s with toks:=s.toks+1 }) :
  wpAny ↑26 A (getAttr (.ref x) name expr) Q E s:=by
 obtain ⟨od,J,hl⟩:=I.look
 exact W.get_value X J (W.plainGet_of hg).1 (W.findObj_own hh ha rfl (by rw [hl,hv])) hv' h
theorem zoG {pl:Sem Bool} {Q:Value×List Value->Shared->Prop} (X:K.In s.heap) (I:ObjM s.heap x dx C mA) (hg:W.plainGet K C name=true)
  (hf:W.findIn K (.ref C) name=some (some (.ref f))) (ht:W.isFn K (.ref f)=true) (hv:mA name=none) (h:Q (.ref f,[.ref x]) s) :
  wpAny ↑26 A (getMethod (.ref x) name pl) Q E s:=by
 obtain ⟨od,J,hl⟩:=I.look
 exact W.method_fn X J (W.plainGet_of hg).1 (W.plainGet_of hg).2 hf (beq_iff_eq.mp ht) (by show (W.lookIn name od).map (·.isSome)=some false;rw [hl,hv];rfl) h
theorem zqG {ns:List Str} {Q:Unit->Shared->Prop} (X:K.In s.heap) (I:ObjM s.heap x dx C mA)
  (hs:W.findIn K (.ref C) "__setattr__"=some ↑163) (hp:W.plainOver K C=true) (ht:W.takerIn K C name=some none) (hh:W.hasDictIn K C=true)
  (hw:PySem.Within mA ns) (hsz:ns.length≤sizeLine)
  (h:∀ h',ObjM h' x dx C (λy=>if y=name then some v else mA y)->Heap.SameBut dx s.heap h'->Q () { s with heap:=h',toks:=s.toks+2 }) :
  wpAny ↑26 A (setAttr (.ref x) name v) Q E s:=by
 obtain ⟨od,J,hl⟩:=I.look
 refine W.set_plain X J hs (W.osa_open (s:={ s with toks:=s.toks+1 }) (r:=none) X J hp ht λb=>?_)
 obtain ⟨cd,hc,hd'⟩:=W.any_some hh
 have hx:s.heap.get? x=some ⟨.ref C,some dx,.plain,#[]⟩:=I.obj
 refine wpAny_bind (wpAny_pure (wpAny_bind (wpAny_bind (wpAny_loadPart hx (wpAny_bind (W.Looks.here (s:={ s with toks:=s.toks+1 }) (W.looks_clsIn X hc) ?_))))))
 rw [hd']
 refine wpAny_pure (a:=some dx) (wpAny_bind (wpAny_pure (wpAny_bind ?_)))
 refine wpAny_nsSet1 (s:={ s with toks:=s.toks+1 }) I.ns λh' hn2 hs2=>?_
 obtain ⟨oD,esD,epD,hoD,hdD,hcD⟩:=hn2.count (PySem.Within.cons name v hw)
 refine wpAny_bind (wpAny_lookBehind hoD (by rw [hdD];exact pastItsLine_dict (Nat.le_trans hcD (by rw [List.length_cons];omega))) ?_)
 exact wpAny_pure (h _ ⟨(hs2.2 _ (Ne.symm I.ne)).trans I.obj,hn2,I.ne⟩ hs2)
theorem zpg {R:Result->Shared->Prop} {vs:List Value} {kw:List (Str×Value)} (X:K.In s.heap) (hm:W.makesIn K C=true)
  (hi:W.findIn K (.ref C) "__init__"=some (some (.ref f))) (hf:W.typeIn K (.ref f)=some (.type "function"))
  (h:codeAny ↑26 (A.under (.builtin "type.__call__" ⟨.ref C :: vs,kw⟩)) (.call (.ref f) ⟨.ref ↑32 :: vs,kw⟩) (W.InitBack ↑32 R)
   { s with heap:=(↑201).push (W.instObj C s.heap.objs.size) }) :
  codeAny ↑26 A (.call (.ref C) ⟨vs,kw⟩) R s:=by
 obtain ⟨hh,g,d,t,os⟩:=s
 exact W.make_core (W.makes_of X hm) (W.looks_findIn X hi) (λself=>W.bind_fn X self hf) ↑34 h
end
def putF (f:Str) (v:V):List (Str×V)->List (Str×V)
 | []=>[(f,v)]
 | (g,x) :: r=>if g=f then (g,v) :: r else (g,x) :: putF f v r
theorem zil (f g:Str) (v:V):∀ fs:List (Str×V),(putF f v fs).lookup g=if g=f then some v else fs.lookup g
 | []=>by
  show List.lookup g [(f,v)]=_
  by_cases h:g=f
  ·have hb:(g == f)=true:=beq_iff_eq.mpr h
   simp only [List.lookup,hb,if_pos h]
  ·have hb:(g == f)=false:=beq_eq_false_iff_ne.mpr h
   simp only [List.lookup,hb,if_neg h]
 | (k,x) :: r=>by
  have ih:=zil f g v r
  rw [show putF f v ((k,x) :: r)=(if k=f then (k,v)::r else (k,x)::putF f v r) from rfl]
  by_cases hk:k=f
  ·rw [if_pos hk]
   by_cases h:g=k
   ·have hb:(g == k)=true:=beq_iff_eq.mpr h
    simp only [List.lookup,hb,if_pos (h.trans hk)]
   ·have hb:(g == k)=false:=beq_eq_false_iff_ne.mpr h
    simp only [List.lookup,hb,if_neg (λe:g=f=>h (e.trans hk.symm))]
  ·rw [if_neg hk]
   by_cases h:g=k
   ·have hb:(g == k)=true:=beq_iff_eq.mpr h
    simp only [List.lookup,hb,if_neg (λe:g=f=>hk (h.symm.trans e))]
   ·have hb:(g == k)=false:=beq_eq_false_iff_ne.mpr h
    simp only [List.lookup,hb]
    exact ih
theorem zh2 (f:Str) (v:V):∀ fs:List (Str×V),f∈(putF f v fs).map (·.1)∧∀ g,g∈fs.map (·.1)->g∈(putF f v fs).map (·.1)
 | []=>⟨by simp [putF],λg h=>by simp at h⟩
 | (k,x) :: r=>by
  obtain ⟨i1,i2⟩:=zh2 f v r
  rw [show putF f v ((k,x) :: r)=(if k=f then (k,v)::r else (k,x)::putF f v r) from rfl]
  by_cases hk:k=f
  ·rw [if_pos hk]
   subst hk
   exact ⟨by simp,λg h=>by simpa using h⟩
  ·rw [if_neg hk]
   refine ⟨?_,λg h=>?_⟩
   ·rw [List.map_cons]
    exact List.mem_cons_of_mem _ i1
   ·rw [List.map_cons] at h ⊢
    rcases List.mem_cons.mp h with e | e
    ·exact List.mem_cons.mpr (.inl e)
    ·exact List.mem_cons_of_mem _ (i2 g e)
theorem zh4 (f:Str) (v:V):∀ fs:List (Str×V),(putF f v fs).length≤fs.length+1
 | []=>by simp [putF]
 | (k,x) :: r=>by
  have ih:=zh4 f v r
  rw [show putF f v ((k,x) :: r)=(if k=f then (k,v)::r else (k,x)::putF f v r) from rfl]
  by_cases hk:k=f
  ·rw [if_pos hk,List.length_cons,List.length_cons];omega
  ·rw [if_neg hk,List.length_cons,List.length_cons];omega
theorem zov.some_of {v:V} {o:Option Value} (r:zov (some v) o):∃ u,o=some u∧zdw v u:=by
 cases o with
 | none=>exact (show False from r).elim
 | some u=>exact ⟨u,rfl,r⟩
theorem zov.none_of {o:Option Value} (r:zov none o):o=none:=by
 cases o with
 | none=>rfl
 | some u=>exact (show False from r).elim
theorem znO {v:V} {u:Value} (r:zdw v u):W.handedIn u=true:=by
 cases v with
 | non=>cases (show u=Value.none from r);rfl
 | bl b=>cases (show u=Value.bool b from r);rfl
 | int i=>obtain ⟨t,e⟩:=(show ∃ t,u=Value.int i t from r);cases e;rfl
 | str x=>obtain ⟨t,e⟩:=(show ∃ t,u=Value.str x t from r);cases e;rfl
 | byt b=>obtain ⟨t,e⟩:=(show ∃ t,u=Value.bytes b t from r);cases e;rfl
 | flt b=>obtain ⟨t,e⟩:=(show ∃ t,u=Value.float b t from r);cases e;rfl
 | ref a=>cases (show u=Value.ref a from r);rfl
 | ty n=>cases (show u=Value.type n from r);rfl
section
variable {P:Program} {w:World} {H H':Hp} {h h':Heap} {a C dx:Addr} {fs fs':List (Str×V)}
theorem zi3 (hok:HOk P w H h) (e:H a=some ↑83):∃ mA,ObjM h a dx C mA∧(∀ f,zov (fs.lookup f) (mA f))∧PySem.Within mA (fs.map (·.1))∧fs.length≤1000∧H dx=some (.own a):=by
 obtain ⟨d,z,ne,ob,mA,n,r,q⟩:=(show zeq P w H h a ↑83 from hok a _ e)
 exact ⟨mA,⟨ob,n,ne⟩,r,q,z,d⟩
end
structure Cls (K:W.Frag) (C:Addr):Prop where
 pg:W.plainGet K C Str.empty=true
 hd:W.hasDictIn K C=true
 po:W.plainOver K C=true
 sa:W.findIn K (.ref C) "__setattr__"=some ↑163
theorem Cls.get {K:W.Frag} {C:Addr} (c:Cls K C) (f:Str):W.plainGet K C f=true:=c.pg
def NoAttr (K:W.Frag) (C:Addr) (f:Str):Prop:=W.findIn K (.ref C) f=some none
theorem NoAttr.taker {K:W.Frag} {C:Addr} {f:Str} (n:NoAttr K C f):W.takerIn K C f=some none:=by
 unfold W.takerIn
 rw [show W.findIn K (.ref C) f=some none from n]
 rfl
structure Con (K:W.Frag) (C:Addr) (f:Str) (v:V) (u:Value):Prop where
 at_:W.findIn K (.ref C) f=some (some u)
 rel:zdw v u
 get:W.specialIn K u "__get__"=some none
 cp:W.copiedNames.contains f=false
structure Meth (K:W.Frag) (C:Addr) (m:Str) (f:Addr):Prop where
 at_:W.findIn K (.ref C) m=some (some (.ref f))
 fn:W.isFn K (.ref f)=true
 kp:W.keepIn K (.ref f)=true
section
variable {X:Cx} {pins:List ⇑2} {σ:St} {H:Hp} {s:Shared} {a C dx:Addr} {fs:List (Str×V)} {f:Str} {v:V} {A:Around} {E:Value->Shared->Prop}
theorem zmg {b:Bool} {Q:Value->Shared->Prop} (I:Inv X pins σ H s) (e:H a=some ↑83) (c:Cls X.K C) (n:NoAttr X.K C f) (l:fs.lookup f=some v)
  (h:∀ u s',Inv X pins σ H s'->zdw v u->Q u s'):wpAny ↥2 A (getAttr (.ref a) f b) Q E s:=by
 obtain ⟨mA,O,r,_,_,_⟩:=zi3 I.hok e
 obtain ⟨u,hu,ru⟩:=zov.some_of (v:=v) (o:=mA f) (by rw [← l];exact r f)
 exact zql I.kIn O (c.get f) c.hd n hu (znO ru) (h u _ (I.tok _) ru)
theorem zhk {m:Str} {g:Addr} {pl:Sem Bool} {Q:Value×List Value->Shared->Prop} (I:Inv X pins σ H s) (e:H a=some ↑83) (c:Cls X.K C) (k:Meth X.K C m g) (l:fs.lookup m=none)
  (h:Q (.ref g,[.ref a]) s):wpAny ↥2 A (getMethod (.ref a) m pl) Q E s:=by
 obtain ⟨mA,O,r,_,_,_⟩:=zi3 I.hok e
 have hn:mA m=none:=zov.none_of (by rw [← l];exact r m)
 exact zoG I.kIn O (c.get m) k.at_ k.fn hn h
theorem zmo {y:V} {u:Value} {Q:Unit->Shared->Prop} (I:Inv X pins σ H s) (e:H a=some ↑83) (c:Cls X.K C) (n:NoAttr X.K C f) (hl:fs.length<1000) (ry:zdw y u)
  (h:∀ s',Inv X pins σ (upd H a (.ins C dx (putF f y fs))) s'->Q () s'):wpAny ↥2 A (setAttr (.ref a) f u) Q E s:=by
 obtain ⟨mA,O,r,wi,_,ho⟩:=zi3 I.hok e
 have hz:(fs.map (·.1)).length≤sizeLine:=by rw [List.length_map,sizeLine_eq];omega
 refine zqG I.kIn O c.sa c.po n.taker c.hd wi hz λh' O' sb=>h _ ?_
 have hd:∃ o,h'.get? dx=some o:=let ⟨o,_,_,e',_⟩:=O'.ns;⟨o,e'⟩
 refine I.write (x:=a) (e:=dx) (by rw [e];exact True.intro) (.inr ho) (λb q hb z=>(sb.2 b hb).trans z) hd ?_
 refine ⟨by rw [zaq O.ne];exact ho,?_,O.ne,O'.obj,_,O'.ns,λg=>?_,λg hg=>?_⟩
 ·have:=zh4 f y fs;omega
 ·show zov ((putF f y fs).lookup g) (if g=f then some u else mA g)
  rw [zil]
  by_cases q:g=f
  ·rw [if_pos q,if_pos q];exact ry
  ·rw [if_neg q,if_neg q];exact r g
 ·by_cases q:g=f
  ·rw [q];exact (zh2 f y fs).1
  ·refine (zh2 f y fs).2 g (wi g λz=>hg ?_)
   show (if g=f then some u else mA g)=none
   rw [if_neg q];exact z
theorem Inv.made (I:Inv X pins σ H s):Inv X pins σ (upd (upd H s.heap.objs.size (.own ↑32)) ↑32 (.ins C s.heap.objs.size []))
  { s with heap:=(↑201).push (W.instObj C s.heap.objs.size) }:=by
 have e1:(↑201).get? s.heap.objs.size=some W.emptyDict:=Heap.get?_push_size s.heap rfl
 have e2:((↑201).push (W.instObj C s.heap.objs.size)).get? ↑32=some (W.instObj C s.heap.objs.size):=by
  have:=Heap.get?_push_size ↑201 (o:=W.instObj C s.heap.objs.size) rfl
  rwa [Heap.size_push] at this
 have e3:(↑201).Ns s.heap.objs.size (λ_=>none):=⟨W.emptyDict,#[],_,e1,rfl,(λe he=>absurd he ↥5),λ_=>rfl⟩
 have I1:=I.laid (a:=s.heap.objs.size) (o:=.own ↑32) (h':=s.heap.push W.emptyDict) (t':=s.toks) (λb u q=>Heap.get?_push_of_some _ q) ↑11 ⟨_,e1⟩
 refine I1.laid (a:=s.heap.objs.size+1) (o:=.ins C s.heap.objs.size []) (t':=s.toks) (λb u q=>Heap.get?_push_of_some _ q) (Nat.le_of_eq (Heap.size_push _ _)) ?_
 have ne:s.heap.objs.size≠s.heap.objs.size+1:=Nat.ne_of_lt (Nat.lt_succ_self _)
 refine ⟨by rw [zaq ne,zaD],Nat.zero_le _,ne,e2,λ_=>none,(Heap.Ns1.of_empty e3).at λo q=>Heap.get?_push_of_some _ q,λ_=>True.intro,λy hy=>absurd rfl hy⟩
theorem zqc {prog:Program} {w:World} {env:Env} {e:Expr} {f:Str} {pos:Pos} {s:Shared} {Q:Value->Shared->Prop} (hb:attributeBase e f env (eval e env)=eval e env)
  (h:wpAny ↑26 A (eval e env) (λo s₁=>wpAny ↑26 A (getAttr o f true) Q E s₁) E s):wpAny ↑26 A (eval (.Attribute e f pos) env) Q E s :=
 Attribute_any_ h (by rw [arm_eval_Attribute,hb])
end
def tFld (K:W.Frag) (ta:TE) (f:Str):TE:=λσ H Q=>ta σ H λx H1=>∃ a C dx fs v,x=.ref a∧H1 a=some ↑83∧Cls K C∧NoAttr K C f∧fs.lookup f=some v∧Q v H1
def zuB (K:W.Frag) (ta tv:TE) (f:Str):TS:=λD σ H=>tv σ H λy H1=>ta σ H1 λx H2=>∃ a C dx fs,x=.ref a∧H2 a=some ↑83∧Cls K C∧NoAttr K C f∧fs.length<1000 ∧
 D.nx σ (upd H2 a (.ins C dx (putF f y fs)))
section
variable {X:Cx} {o e value:Expr} {f:Str} {pos pos' tpos:Pos} {ta tv:TE}
theorem zs3 (he:PE X e ta) (hb:attributeBase e f X.env (eval e X.env)=eval e X.env):PE X (.Attribute e f pos) (tFld X.K ta f):=by
 intro pins s σ H Q I h
 refine zqc hb (thn ↑141 λu s1 ⟨x,H1,I1,rx,a,C,dx,fs,v,ex,ea,c,n,l,q⟩=>?_)
 subst ex
 obtain rfl:u=Value.ref a:=rx
 exact zmg I1 ea c n l λu' s2 I2 ru=>⟨v,H1,I2,ru,q⟩
theorem zhs (ha:PE X o ta) (hv:PE X value tv) (hs:swapsWith value (some (.Attribute o f pos')) pos.line X.env=pure false):PS X (.Assign [.Attribute o f pos'] value pos) (zuB X.K ta tv f):=by
 intro pins s σ H D I h
 refine plainObj_wpAny_Assign_Attribute (thn (hv pins s σ H _ I h) λu s1 ⟨y,H1,I1,ry,q⟩=>thn (ha pins s1 σ H1 _ I1 q) λov s2 ⟨x,H2,I2,rx,a,C,dx,fs,ex,ea,c,n,l,q2⟩=>?_) hs
 subst ex
 obtain rfl:ov=Value.ref a:=rx
 exact zmo I2 ea c n l ry λs3 I3=>⟨σ,_,I3,q2⟩
theorem zrf {pl:Sem Bool} {m:Str} {apos:Pos} {args:List Expr} {pins:List ⇑2} {s:Shared} {σ:St} {H:Hp} {Q:Value->Shared->Prop} {te:TE} (he:PE X e te) (I:Inv X pins σ H s)
  (h:te σ H λx H1=>∃ a C dx fs g,x=.ref a∧H1 a=some ↑83∧Cls X.K C∧Meth X.K C m g∧fs.lookup m=none ∧
   ∀ s1,Inv X pins σ H1 s1->wpAny ↥2 X.A (callWith pos (.ref g) [.ref a] (backTo pos (starEach args X.env)) ↑188) Q X.xe s1)
  (ht:eval (.Call (.Attribute e m apos) args [] pos) X.env=(do
   let ov ← eval e X.env
   standAt apos.atName
   let (f,first) ← holding [ov] (getMethod ov m pl)
   callWith pos f first (backTo pos (starEach args X.env)) ↑188)) :
  wpAny ↥2 X.A (eval (.Call (.Attribute e m apos) args [] pos) X.env) Q X.xe s:=by
 refine W.methodCall_KW (pl:=pl) (thn ↑141 λu s1 ⟨x,H1,I1,rx,a,C,dx,fs,g,ex,ea,c,k,l,q⟩=>?_) ht
 subst ex
 obtain rfl:u=Value.ref a:=rx
 exact zhk I1 ea c k l (q s1 I1)
end
section
variable {X:Cx} {pins:List ⇑2} {σ:St} {H:Hp} {s:Shared} {A:Around} {E:Value->Shared->Prop} {Q:Value->Shared->Prop} {c:Value} {b:Bool}
inductive TyOf (K:W.Frag) (H:Hp):V->Value->Prop where
 | non:TyOf K H .non ↑6
 | bl (x:Bool):TyOf K H (.bl x) (.type "bool")
 | int (i:Int):TyOf K H (.int i) (.type "int")
 | str (x:Str):TyOf K H (.str x) (.type "str")
 | flt (x:UInt64):TyOf K H (.flt x) (.type "float")
 | lst {a:Addr} {xs:List V} (e:H a=some (.lst xs)):TyOf K H (.ref a) (.type "list")
 | frz {a:Addr} {o:Obj} {xs:List V} (e:H a=some (.frz o (.lst xs))):TyOf K H (.ref a) (.type "list")
 | tup {a:Addr} {xs:List V} (e:H a=some (.tup xs)):TyOf K H (.ref a) (.type "tuple")
 | dK {a:Addr} {kvs:List (Key×V)} (e:H a=some (.dK kvs)):TyOf K H (.ref a) (.type "dict")
 | dT {a:Addr} {kvs:List (List Key×V)} (e:H a=some (.dT kvs)):TyOf K H (.ref a) (.type "dict")
 | ins {a C dx:Addr} {fs:List (Str×V)} (e:H a=some ↑83) (cl:Cls K C) (ha:W.findIn K (.ref C) "__class__"=some (some ↑113))
   (hn:W.specialIn K ↑113 "__get__"=some (some ↑252)) (htk:W.takesIn K ↑113=some true)
   (hm:W.mroIn K C (.type "object")=some true):TyOf K H (.ref a) (.ref C)
theorem zke {x:V} {u t:Value} (I:Inv X pins σ H s) (rx:zdw x u) (ty:TyOf X.K H x t) (e:W.kitOne X.K t c=some b) (h:∀ tk,Q (.bool b) { s with toks:=tk }) :
  wpAny ↥2 A (call (.builtin "isinstance") [u,c]) Q E s:=by
 cases ty with
 | non=>cases (show u=Value.none from rx);exact W.kia_one W.kitx_none I.kIn True.intro e ↑73 h
 | bl y=>cases (show u=Value.bool y from rx);exact W.kia_one W.kitx_bool I.kIn True.intro e ↑73 h
 | int i=>obtain ⟨t,q⟩:=(show ∃ t,u=Value.int i t from rx);cases q;exact W.kia_one W.kitx_int I.kIn True.intro e ↑73 h
 | str y=>obtain ⟨t,q⟩:=(show ∃ t,u=Value.str y t from rx);cases q;exact W.kia_one W.kitx_str I.kIn True.intro e ↑73 h
 | flt y=>obtain ⟨t,q⟩:=(show ∃ t,u=Value.float y t from rx);cases q;exact W.kia_one W.kitx_float I.kIn True.intro e ↑73 h
 | @lst a xs ea =>
  cases ↑196
  obtain ⟨_,_,n,_,h1⟩:=(show zeq X.prog X.w H s.heap a (.lst xs) from I.hok a _ ea)
  exact W.kia_one W.kitx_list I.kIn ⟨_,h1,rfl⟩ e ↑73 h
 | @frz a ob xs ea =>
  cases ↑196
  obtain ⟨_,_,_,n,_,h1⟩:=(show zeq X.prog X.w H s.heap a (.frz ob (.lst xs)) from I.hok a _ ea)
  exact W.kia_one W.kitx_list I.kIn ⟨_,h1,rfl⟩ e ↑73 h
 | @tup a xs ea =>
  cases ↑196
  obtain ⟨_,_,_,p⟩:=(show zeq X.prog X.w H s.heap a (.tup xs) from I.hok a _ ea)
  obtain ⟨o,h1,h2,_⟩:=p
  exact W.kia_one W.kitx_tuple I.kIn ⟨o,h1,h2⟩ e ↑73 h
 | @dK a kvs ea =>
  cases ↑196
  obtain ⟨_,_,vs,_,p⟩:=(show zeq X.prog X.w H s.heap a (.dK kvs) from I.hok a _ ea)
  obtain ⟨o,es,ep,h1,h2,_⟩:=p
  exact W.kia_one W.kitx_dict I.kIn ⟨o,h1,h2.1⟩ e ↑73 h
 | @dT a kvs ea =>
  cases ↑196
  obtain ⟨_,_,xs,_,o,es,ep,h1,h2,_⟩:=(show zeq X.prog X.w H s.heap a (.dT kvs) from I.hok a _ ea)
  exact W.kia_one W.kitx_dict I.kIn ⟨o,h1,h2.1⟩ e ↑73 h
 | @ins a C dx fs ea cl ha hn htk hm =>
  cases ↑196
  obtain ⟨mA,O,_⟩:=zi3 I.hok ea
  obtain ⟨od,J,_⟩:=O.look
  exact W.kia_one (W.kitx_own (cl.get _) cl.hd ha hn htk hm) I.kIn J e ↑73 h
end
end L2
namespace L2
open PySem PySem.Spec PyProof.Rows
structure Room (k:Nat) (A:Around):Prop where
 hd:A.handled=none
 dp:A.depth+3*k+5<recursionLimit
 un:A.units+16*k+200<cLine
theorem Room.mono {j k:Nat} {A:Around} (r:Room k A) (h:j≤k):Room j A:=⟨r.hd,by have:=r.dp;omega,by have:=r.un;omega⟩
theorem Room.deeper {k:Nat} {A:Around} (r:Room (k+1) A) (env:Env):Room k (A.deeper env) :=
 ⟨r.hd,by have:=r.dp;show A.depth+1+3*k+5<_;omega,by have:=r.un;show A.units+3+16*k+200<_;omega⟩
theorem Room.in1 {k:Nat} {A:Around} (r:Room (k+1) A):Room k A.in1 :=
 ⟨r.hd,by have:=r.dp;show A.depth+3*k+5<_;omega,by have:=r.un;show A.units+1+16*k+200<_;omega⟩
theorem zl2 {A:Around} {C:Addr} {us:List Value} {kw:List (Str×Value)}:(↑245).depth=A.depth+1:=by
 first | rfl | simp [Around.under,Code.weight,Code.isCreation,Code.isGuard,Code.isCaller,Code.frames,Code.isFrame,guardIds]
theorem zmh {A:Around} {C:Addr} {us:List Value} {kw:List (Str×Value)}:(↑245).units=A.units+1:=by
 first | rfl | simp [Around.under,Code.cUnits,Code.frames,Code.isFrame]
theorem Room.make {k:Nat} {A:Around} (r:Room (k+1) A) (C:Addr) (us:List Value) (kw:List (Str×Value)):Room k ↑245 :=
 ⟨r.hd,by have:=r.dp;rw [zl2];omega,by have:=r.un;rw [zmh];omega⟩
theorem Room.depth {k:Nat} {A:Around} (r:Room k A):A.depth<recursionLimit:=by have:=r.dp;omega
theorem Room.units {k:Nat} {A:Around} (r:Room k A):A.units+64<cLine:=by have:=r.un;omega
def tNil:TA:=λ_ H Q=>Q [] H
def tCons (ta:TE) (tr:TA):TA:=λσ H Q=>ta σ H λx H1=>tr σ H1 λxs H2=>Q (x :: xs) H2
section
variable {X:Cx} {e:Expr} {es:List Expr} {te:TE} {t:TA} {pos:Pos}
theorem zeV:PA X [] tNil:=λ_ _ _ _ H Q I h=>Calls.spliced_nil ⟨[],H,I,.nil,h⟩
theorem zbx (ha:PE X e te) (hr:PA X es t) (hs:starEach (e::es) X.env=(false,eval e X.env) :: starEach es X.env:=by rfl):PA X (e::es) (tCons te t):=by
 intro pos pins s σ H Q I h
 rw [hs]
 show wpAny _ _ (spliced ((false,eval e X.env) :: backTo pos (starEach es X.env))) _ _ s
 refine Calls.spliced_cons (thn ↑116 λu s1 ⟨x,H1,I1,r1,q1⟩=>?_)
 exact thn (hr pos pins s1 σ H1 _ I1 q1) λus s2 ⟨xs,H2,I2,r2,q2⟩=>⟨x :: xs,H2,I2,.cons r1 r2,q2⟩
def zuW (t:TA):TE:=λσ H Q=>t σ H λxs H1=>xs.length≤sizeLine∧∀ p,H1 p=none->Q (.ref p) (upd H1 p (.tup xs))
def zuC (t:TA):TE:=λσ H Q=>t σ H λxs H1=>xs.length≤sizeLine∧∀ p,H1 p=none->Q (.ref p) (upd H1 p (.lst xs))
theorem zgn {x1} (h:PA X es t):PE X (.Tuple es x1 pos) (zuW t):=by
 intro pins s σ H Q I hq
 refine wpAny_Tuple_spliced (thn (h pos pins s σ H _ I hq) λus s1 ⟨xs,H1,I1,r,z,q⟩=>⟨by rw [←r.length];exact z,?_⟩)
 have hf:H1 s1.heap.objs.size=none:=I1.hok.fresh ↑11
 refine ⟨.ref s1.heap.objs.size,upd H1 s1.heap.objs.size (.tup xs),I1.laid (t':=s1.toks) (λb u e=>Heap.get?_push_of_some _ e) ↑11 ?_,rfl,q _ hf⟩
 exact ⟨z,us,r,⟨_,Heap.get?_push_size _ rfl,rfl,_,rfl⟩⟩
theorem zbf (h:PA X es t):PE X (.List es pos) (zuC t):=by
 intro pins s σ H Q I hq
 refine wpAny_List_spliced (thn (h pos pins s σ H _ I hq) λus s1 ⟨xs,H1,I1,r,z,q⟩=>⟨by rw [←r.length];exact z,?_⟩)
 have hf:H1 s1.heap.objs.size=none:=I1.hok.fresh ↑11
 refine ⟨.ref s1.heap.objs.size,upd H1 s1.heap.objs.size (.lst xs),I1.laid (t':=s1.toks) (λb u e=>Heap.get?_push_of_some _ e) ↑11 ?_,rfl,q _ hf⟩
 exact ⟨z,us,0,r,Heap.get?_push_size _ rfl⟩
end
abbrev Sp:=List V->Hp->VK->XK->Prop
abbrev CXT:=List Env->Hp->Shared->XK->Value->Shared->Prop
structure Env0 (P:Program) (w:World) (K:W.Frag) (mg:Str->Option Value) (base:Heap) (A:Around) (outer:List Env) (s:Shared) (H:Hp):Prop where
 frames:A.frames=some outer
 mod:Mod K mg base
 bs:∀ b o,base.get? b=some o->s.heap.get? b=some o∧H b=none
 bsz:base.objs.size≤s.heap.objs.size
 funs:s.heap.FunFrames base outer
 frf:∀ b∈frs outer,H b=none
 hok:HOk P w H s.heap
 bare:AllBare s.gens
def CE (outer:List Env) (P:Program) (w:World) (H:Hp) (s:Shared) (Q:VK) (u:Value) (s':Shared):Prop :=
 ∃ v H',s'.os=s.os∧AllBare s'.gens∧Un (frs outer) [] H H' s.heap s'.heap∧HOk P w H' s'.heap∧zdw v u∧Q v H'
def CR (CX:CXT) (outer:List Env) (P:Program) (w:World) (H:Hp) (s:Shared) (Q:VK) (E:XK) (r:Result) (s':Shared):Prop :=
 match r with
 | .ok (.ret u)=>CE outer P w H s Q u s'
 | .ok _=>False
 | .error e=>CX outer H s E e s'
structure FnOk (P:Program) (w:World) (K:W.Frag) (mg:Str->Option Value) (base:Heap) (CX:CXT) (k:Nat) (f:Addr) (fd:FuncData) (ps:List Str) (sp:Sp):Prop where
 len:∀ vs H Q E,sp vs H Q E->vs.length=ps.length
 run:∀ (A:Around) (outer:List Env) (s:Shared) (H:Hp) (args:Args) (us:List Value) (vs:List V) (Q:VK) (E:XK),Room k A->Env0 P w K mg base A outer s H->BindsTo s fd args (ps.zip us)->zcn vs us->sp vs H Q E →
  codeAny (model P w) A (.call (.ref f) args) (CR CX outer P w H s Q E) s
theorem FnOk.imp {P:Program} {w:World} {K:W.Frag} {mg:Str->Option Value} {base:Heap} {CX:CXT} {k:Nat} {f:Addr} {fd:FuncData} {ps:List Str} {sp sp':Sp} (F:FnOk P w K mg base CX k f fd ps sp)
  (h:∀ vs H Q E,sp' vs H Q E->sp vs H Q E):FnOk P w K mg base CX k f fd ps sp' :=
 ⟨λvs H Q E q=>F.len vs H Q E (h _ _ _ _ q),λA outer s H args us vs Q E hr he hb hv hs=>F.run A outer s H args us vs Q E hr he hb hv (h _ _ _ _ hs)⟩
theorem Env0.make {P:Program} {w:World} {K:W.Frag} {mg:Str->Option Value} {base:Heap} {A:Around} {outer:List Env} {s:Shared} {H:Hp} (e:Env0 P w K mg base A outer s H) (C:Addr) (us:List Value) (kw:List (Str×Value)) :
  Env0 P w K mg base ↑245 outer s H:=⟨by first | exact e.frames | (simpa [Around.under,Code.envs,Code.isFrame,pushEnvs] using e.frames),e.mod,e.bs,e.bsz,e.funs,e.frf,e.hok,e.bare⟩
theorem Env0.in1 {P:Program} {w:World} {K:W.Frag} {mg:Str->Option Value} {base:Heap} {A:Around} {outer:List Env} {s:Shared} {H:Hp} (e:Env0 P w K mg base A outer s H) :
  Env0 P w K mg base A.in1 outer s H:=⟨e.frames,e.mod,e.bs,e.bsz,e.funs,e.frf,e.hok,e.bare⟩
section
variable {X:Cx} {pins:List ⇑2} {σ:St} {H:Hp} {s s':Shared}
theorem Inv.env0 (I:Inv X pins σ H s):Env0 X.prog X.w X.K X.mg X.base X.A X.stack s H :=
 ⟨I.ok.frames,I.ok.mod,I.bs,Nat.le_trans I.ok.bsz I.sz,I.stack,I.stkFree,I.hok,I.bare⟩
theorem Inv.after {Q:VK} {u:Value} (I:Inv X pins σ H s) (h:CE X.stack X.prog X.w H s Q u s'):EP X pins σ Q u s':=by
 obtain ⟨v,H',os,bare,un,hok,r,q⟩:=h
 obtain ⟨hh,g,d,t,os'⟩:=s'
 obtain rfl:os'=s.os:=os
 exact ⟨v,H',I.call (h':=hh) (g':=g) (d':=d) (t':=t) (ch:=[]) un hok bare (λb z=>absurd z ↥5),r,q⟩
end
def tCall (sp:Sp) (dvs:List V) (E:XK) (t:TA):TE:=λσ H Q=>t σ H λvs H1=>sp (vs++dvs) H1 Q E
def zrl (C:Addr) (m:Str) (sp:Sp) (dvs:List V) (E:XK) (ta:TE) (t:TA):TE:=λσ H Q=>ta σ H λx H1=>∃ a dx fs,x=.ref a∧H1 a=some ↑83∧fs.lookup m=none ∧
 t σ H1 λvs H2=>sp (x :: (vs++dvs)) H2 Q E
def zqU (C:Addr) (sp:Sp) (dvs:List V) (E:XK) (t:TA):TE:=λσ H Q=>t σ H λvs H1=>∀ x dx,H1 x=none->H1 dx=none->dx≠x →
 sp (.ref x :: (vs++dvs)) (upd (upd H1 dx (.own x)) x (.ins C dx [])) (λv H2=>v=.non∧Q (.ref x) H2) E
def zgl (K:W.Frag) (fd:FuncData) (ps:List Str) (ds:List Value):Prop :=
 ∀ (s:Shared) (us:List Value),K.In s.heap->(us++ds).length=ps.length->BindsTo s fd ⟨us,[]⟩ (ps.zip (us++ds))
theorem zgl.all {K:W.Frag} {fd:FuncData} {ps:List Str} (h:∀ us:List Value,us.length=ps.length->bindArgs fd ⟨us,[]⟩=pure (ps.zip us)):zgl K fd ps []:=λs us _ hl=>by
 rw [List.append_nil] at hl ⊢
 exact .of_eq (h us hl)
def zgL (CX:CXT) (X:Cx) (E:XK):Prop:=∀ (pins:List ⇑2) (σ:St) (H:Hp) (s:Shared) (e:Value) (s':Shared),Inv X pins σ H s->CX X.stack H s E e s'->X.xe e s'
section
variable {X:Cx} {CX:CXT} {k:Nat} {f C:Addr} {fd:FuncData} {ps:List Str} {sp:Sp} {dvs:List V} {ds:List Value} {E:XK} {x m:Str} {p pos apos:Pos} {e o:Expr} {es:List Expr} {ta:TE} {t:TA}
theorem zm3 {pins:List ⇑2} {σ:St} {H:Hp} {s:Shared} {Q:VK} {us:List Value} {vs:List V} (F:FnOk X.prog X.w X.K X.mg X.base CX k f fd ps sp) (hr:Room k X.A) (hb:zgl X.K fd ps ds) (hd:zcn dvs ds) (hx:zgL CX X E)
  (I:Inv X pins σ H s) (r:zcn vs us) (h:sp (vs++dvs) H Q E):wpAny ↥2 X.A (call (.ref f) us) ↑57 X.xe s:=by
 have r2:zcn (vs++dvs) (us++ds):=r.append hd
 have hl:(us++ds).length=ps.length:=by rw [← r2.length];exact F.len _ _ _ _ h
 refine wpAny_call (codeAny_mono (F.run X.A X.stack s H ⟨us,[]⟩ (us++ds) (vs++dvs) Q E hr I.env0 (hb s us I.kIn hl) r2 h) λr s' hq=>?_)
 cases r with
 | error e=>exact hx pins σ H s e s' I hq
 | ok fl =>
  cases fl with
  | ret u=>exact I.after hq
  | next=>exact False.elim hq
  | brk=>exact False.elim hq
  | cont=>exact False.elim hq
theorem zqz (F:FnOk X.prog X.w X.K X.mg X.base CX k f fd ps sp) (hr:Room k X.A) (hg:Gl X x) (hm:X.mg x=some (.ref f)) (hk:W.keepIn X.K (.ref f)=true) (hb:zgl X.K fd ps ds) (hd:zcn dvs ds) (hx:zgL CX X E)
  (ha:PA X (e::es) t) (hdb:↑45=false:=by decide) (he:starEach (e::es) X.env=(false,eval e X.env) :: starEach es X.env:=by rfl) (hpl:(↑66).any (·.1)=false:=by rfl) :
  PE X ↑164 (tCall sp dvs E t):=by
 intro pins s σ H Q I h
 refine wpAny_Call_Name_kw (zhm I hg hm ?_ hdb)
 refine W.callWith_K (h₀:=X.base) I.ok.mod.kin hk (thn (ha pos pins s σ H _ I h) λus s1 ⟨vs,H1,I1,r,q⟩=>⟨I1.kIn,?_⟩) he hpl
 exact zm3 F hr hb hd hx I1 r q
theorem zqi {pl:Sem Bool} (he:PE X o ta) (c:Cls X.K C) (hm:Meth X.K C m f) (F:FnOk X.prog X.w X.K X.mg X.base CX k f fd ps sp) (hr:Room k X.A) (hb:zgl X.K fd ps ds) (hd:zcn dvs ds) (hx:zgL CX X E) (ha:PA X (e::es) t)
  (hst:starEach (e::es) X.env=(false,eval e X.env) :: starEach es X.env:=by rfl) (hpl:(↑66).any (·.1)=false:=by rfl)
  (ht:eval ↑128 X.env=(do
   let ov ← eval o X.env
   standAt apos.atName
   let (f,first) ← holding [ov] (getMethod ov m pl)
   callWith pos f first (backTo pos (starEach (e::es) X.env)) ↑188):=by rfl) :
  PE X ↑128 (zrl C m sp dvs E ta t):=by
 intro pins s σ H Q I h
 refine W.methodCall_KW (pl:=pl) (thn ↑141 λu s1 ⟨x,H1,I1,rx,a,dx,fs,ex,ea,l,q⟩=>?_) ht
 subst ex
 obtain rfl:u=Value.ref a:=rx
 refine zhk I1 ea c hm l ?_
 refine W.callWith_K (first:=[.ref a]) (h₀:=X.base) I.ok.mod.kin hm.kp (thn (ha pos pins s1 σ H1 _ I1 q) λus s2 ⟨vs,H2,I2,r,q2⟩=>⟨I2.kIn,?_⟩) hst hpl
 exact zm3 (us:=.ref a :: us) (vs:=.ref a :: vs) F hr hb hd hx I2 (.cons rfl r) q2
structure Mk (K:W.Frag) (C f:Addr):Prop where
 makes:W.makesIn K C=true
 init:W.findIn K (.ref C) "__init__"=some (some (.ref f))
 fn:W.isFn K (.ref f)=true
 kp:W.keepIn K (.ref C)=true
theorem zpf {pins:List ⇑2} {σ:St} {H:Hp} {s:Shared} {Q:VK} {us:List Value} {vs:List V} (M:Mk X.K C f) (F:FnOk X.prog X.w X.K X.mg X.base CX k f fd ps sp) (hr:Room (k+1) X.A) (hb:zgl X.K fd ps ds) (hd:zcn dvs ds)
  (hx:zgL CX X E) (I:Inv X pins σ H s) (r:zcn vs us)
  (h:∀ x dx,H x=none->H dx=none->dx≠x->sp (.ref x :: (vs++dvs)) (upd (upd H dx (.own x)) x (.ins C dx [])) (λv H2=>v=.non∧Q (.ref x) H2) E) :
  wpAny ↥2 X.A (call (.ref C) us) ↑57 X.xe s:=by
 have hq:=h ↑32 s.heap.objs.size (I.hok.fresh (Nat.le_succ _)) (I.hok.fresh ↑11) (Nat.ne_of_lt (Nat.lt_succ_self _))
 have I2:=Inv.made (C:=C) I
 have r2:zcn (V.ref ↑32 :: (vs++dvs)) (Value.ref ↑32 :: (us++ds)):=.cons rfl (r.append hd)
 have hl:(Value.ref ↑32 :: us++ds).length=ps.length:=by
  have e:=r2.length
  rw [F.len _ _ _ _ hq] at e
  exact e.symm
 refine wpAny_call (zpg (f:=f) I.kIn M.makes M.init (beq_iff_eq.mp M.fn) (codeAny_mono (F.run _ X.stack _ _ ⟨Value.ref ↑32 :: us,[]⟩ (Value.ref ↑32 :: (us++ds)) _ _ E (hr.make C us [])
  (I2.env0.make C us []) (hb _ (Value.ref ↑32 :: us) I2.kIn hl) r2 hq) λr s' hq'=>?_))
 cases r with
 | error e=>exact hx pins σ _ _ e s' I2 hq'
 | ok fl =>
  cases fl with
  | ret u =>
   obtain ⟨v,H',I3,rv,ev,q3⟩:=I2.after hq'
   subst ev
   exact ⟨rv,⟨V.ref ↑32,H',I3,rfl,q3⟩⟩
  | next=>exact False.elim hq'
  | brk=>exact False.elim hq'
  | cont=>exact False.elim hq'
theorem zi0 (M:Mk X.K C f) (F:FnOk X.prog X.w X.K X.mg X.base CX k f fd ps sp) (hr:Room (k+1) X.A) (hg:Gl X x) (hm:X.mg x=some (.ref C)) (hb:zgl X.K fd ps ds) (hd:zcn dvs ds) (hx:zgL CX X E)
  (ha:PA X (e::es) t) (hdb:↑45=false:=by decide) (he:starEach (e::es) X.env=(false,eval e X.env) :: starEach es X.env:=by rfl) (hpl:(↑66).any (·.1)=false:=by rfl) :
  PE X ↑164 (zqU C sp dvs E t):=by
 intro pins s σ H Q I h
 refine wpAny_Call_Name_kw (zhm I hg hm ?_ hdb)
 refine W.callWith_K (h₀:=X.base) I.ok.mod.kin M.kp (thn (ha pos pins s σ H _ I h) λus s1 ⟨vs,H1,I1,r,q⟩=>⟨I1.kIn,?_⟩) he hpl
 exact zpf M F hr hb hd hx I1 r q
end
section
variable {X:Cx} {CX:CXT} {k:Nat} {f C:Addr} {fd:FuncData} {ps ks:List Str} {sp:Sp} {E:XK} {x m:Str} {p pos apos kpos:Pos} {e o:Expr} {es:List Expr} {kws:List Keyword} {te ta:TE} {t tk:TA} {nm:Option Str}
structure KBinds (K:W.Frag) (fd:FuncData) (ps ks:List Str) (g:List Value->List Value->List Value) (gV:List V->List V->List V):Prop where
 to:∀ (s:Shared) (us ws:List Value),K.In s.heap->(g us ws).length=ps.length->BindsTo s fd ⟨us,ks.zip ws⟩ (ps.zip (g us ws))
 rel:∀ {vs:List V} {us:List Value} {zs:List V} {ws:List Value},zcn vs us->zcn zs ws->zcn (gV vs zs) (g us ws)
variable {g:List Value->List Value->List Value} {gV:List V->List V->List V}
end
structure FnScope (N P:List Str) (sc:Scope):Prop where
 kind:sc.kind=.function
 co:sc.isCoroutine=false
 gen:sc.isGenerator=false
 nd:N.Nodup
 pre:N.take P.length=P
 par:∀ x∈P,sc.names.lookup x=some .local∨sc.names.lookup x=some .cell
 nofree:∀ y∈sc.names,y.2≠.free
theorem zkq {kindOf:Str->Option NameKind} {x:Str}:∀ {binds:List (Str×Value)} {m:Str->Option Value},(∀ v,(x,v) ∉ binds)->bindL kindOf binds m x=m x
 | [],_,_=>rfl
 | (n,v) :: r,m,h=>by
  unfold bindL
  rw [zkq λw hw=>h w (List.mem_cons_of_mem _ hw)]
  split
  ·have:x≠n:=by rintro rfl;exact h v List.mem_cons_self
   simp [this]
  ·rfl
theorem zjP {kindOf:Str->Option NameKind} {x:Str}:∀ {binds:List (Str×Value)} {m:Str->Option Value},(∀ v,(x,v) ∉ binds)->bindC kindOf binds m x=m x
 | [],_,_=>rfl
 | (n,v) :: r,m,h=>by
  unfold bindC
  rw [zjP λw hw=>h w (List.mem_cons_of_mem _ hw)]
  split
  ·rfl
  ·have:x≠n:=by rintro rfl;exact h v List.mem_cons_self
   simp [this]
theorem zj2 {kindOf:Str->Option NameKind} {x:Str} {v:Value}:∀ {P:List Str} {vs:List Value} {i:Nat} {m:Str->Option Value},P.Nodup->P[i]?=some x->vs[i]?=some v->kindOf x=some .local →
  bindL kindOf (P.zip vs) m x=some v
 | [],_,_,_,_,h,_,_=>by simp at h
 | _ :: _,[],_,_,_,_,h,_=>by simp at h
 | p :: P,w :: vs,0,m,nd,h1,h2,hk=>by
  simp at h1 h2;subst h1;subst h2
  show bindL kindOf ((p,w)::P.zip vs) m p=_
  unfold bindL
  rw [zkq λv hv=>((List.nodup_cons.mp nd)).1 (List.of_mem_zip hv).1,if_pos hk]
  simp
 | p :: P,w :: vs,i+1,m,nd,h1,h2,hk=>by
  show bindL kindOf ((p,w)::P.zip vs) m x=_
  unfold bindL
  exact zj2 (i:=i) ((List.nodup_cons.mp nd)).2 (by simpa using h1) (by simpa using h2) hk
theorem zj6 {kindOf:Str->Option NameKind} {x:Str} {v:Value}:∀ {P:List Str} {vs:List Value} {i:Nat} {m:Str->Option Value},P.Nodup->P[i]?=some x->vs[i]?=some v->kindOf x≠some .local →
  bindC kindOf (P.zip vs) m x=some v
 | [],_,_,_,_,h,_,_=>by simp at h
 | _ :: _,[],_,_,_,_,h,_=>by simp at h
 | p :: P,w :: vs,0,m,nd,h1,h2,hk=>by
  simp at h1 h2;subst h1;subst h2
  show bindC kindOf ((p,w)::P.zip vs) m p=_
  unfold bindC
  rw [zjP λv hv=>((List.nodup_cons.mp nd)).1 (List.of_mem_zip hv).1,if_neg hk]
  simp
 | p :: P,w :: vs,i+1,m,nd,h1,h2,hk=>by
  show bindC kindOf ((p,w)::P.zip vs) m x=_
  unfold bindC
  exact zj6 (i:=i) ((List.nodup_cons.mp nd)).2 (by simpa using h1) (by simpa using h2) hk
def start (N:List Str) (vs:List V):St:=vs.map some++List.replicate (N.length-vs.length) none
def zkN (CX:CXT) (P:Program) (w:World) (K:W.Frag) (mg:Str->Option Value) (base:Heap) (N:List Str) (qual:Str) (scope:Scope) (f:Addr) (cd:Value) (A:Around) (outer:List Env) (s:Shared) (H:Hp) (E:XK):Cx where
 prog:=P
 w:=w
 K:=K
 mg:=mg
 base:=base
 A:=A.deeper ↑224
 N:=N
 s₀:=s
 H₀:=H
 env:=envOfC qual scope s.heap.objs.size f cd
 outer:=outer
 stack:=envOfC qual scope s.heap.objs.size f cd :: outer
 ex:=[]
 calm:=true
 fn:=λ_=>true
 pn:=[]
 xe:=λe s'=>wpAny (model P w) (A.deeper ↑224) (leaving ↑224 e) (λ_ s''=>CX outer H s E e s'') (λe' s''=>CX outer H s E e' s'') s'
theorem zlJ {sc:Scope} {n:Nat} {x:Str} (h:sc.names.lookup x=some .cell):∃ c,(cellsFrom n sc.names []).lookup x=some c:=by
 have q:=W.cellsFrom_some sc.names n [] (.inl h)
 exact Option.isSome_iff_exists.mp q
theorem zmO {CX:CXT} {P:Program} {w:World} {K:W.Frag} {mg:Str->Option Value} {base:Heap} {N ps:List Str} {qual:Str} {scope:Scope} {f:Addr} {cd:Value} {A:Around} {outer:List Env} {s s1:Shared} {H:Hp} {E:XK} {us:List Value} {vs:List V}
  (S:FnScope N ps scope) (hd:A.handled=none) (e0:Env0 P w K mg base A outer s H) (hl:vs.length=ps.length) (r:zcn vs us)
  (x:InCallC s s.heap.objs.size (bindL (↑224).kindOf (ps.zip us) λ_=>none) (cellsFrom ↑32 scope.names []) (bindC (↑224).kindOf (ps.zip us) λ_=>none) s1) :
  Inv (zkN CX P w K mg base N qual scope f cd A outer s H E) [] (start N vs) H s1:=by
 have hpl:ps.length≤N.length:=by have:=congrArg List.length S.pre;rw [List.length_take] at this;omega
 obtain ⟨h1,tk,rfl,hk⟩:=x.done
 have noA:∀ b:Addr,b ∉ ((zkN CX P w K mg base N qual scope f cd A outer s H E)).ex:=λb z=>absurd (show b∈([]:List Addr) from z) ↥5
 refine ⟨⟨e0.mod,S.kind,rfl,rfl,Nat.le_refl _,λy z c h1 h2=>?_,λy hy=>?_,λy c _ h=>?_,λ_=>hd,Around.frames_deeper e0.frames,.inr ⟨rfl,rfl⟩,λb z=>absurd z (noA b),e0.bs,e0.bsz,λb _ _=>noA b,λb z=>absurd z (noA b),e0.funs,e0.frf⟩,
  rfl,e0.bare,Un.kept hk,⟨_,x.toInCall.ns,λi y v h1 h2 h3=>?_⟩,λy c h=>⟨_,x.cell y c h⟩,e0.hok.fresh ↑11,λy c h=>?_,λp hp=>absurd (show p∈([]:List ⇑2) from hp) ↥5,e0.hok.kept hk,?_⟩
 ·exact name_of_addr x.apart (PySem.mem_of_lookup h1) (PySem.mem_of_lookup h2)
 ·have hy:scope.names.lookup y=some .cell∨scope.names.lookup y=some .free:=hy
  rcases hy with hy | hy
  ·exact zlJ hy
  ·exact absurd rfl (S.nofree _ (PySem.mem_of_lookup hy))
 ·exact Nat.le_of_lt (x.above y c (PySem.mem_of_lookup h))
 ·have hi:i<vs.length:=by
   unfold start at h2
   by_cases hi:i<vs.length
   ·exact hi
   ·rw [List.getElem?_append_right ↑56] at h2
    rw [List.getElem?_replicate] at h2
    split at h2<;>cases h2
  have ha:vs[i]?=some v:=by
   unfold start at h2
   rw [List.getElem?_append_left ↑56,List.getElem?_map] at h2
   cases e:vs[i]? with
   | none=>rw [e] at h2;cases h2
   | some a=>rw [e] at h2;cases h2;rfl
  obtain ⟨u,hu,rv⟩:=r.get ha
  have hp:ps[i]?=some y:=by
   rw [← S.pre,List.getElem?_take_of_lt ↑0];exact h1
  have ndP:ps.Nodup:=by rw [← S.pre];exact S.nd.sublist (List.take_sublist _ _)
  refine ⟨u,rv,?_⟩
  rcases S.par y (List.mem_of_getElem? hp) with k | k
  ·exact .inl ⟨k,zj2 ndP hp hu k⟩
  ·obtain ⟨c,e⟩:=zlJ (n:=s.heap.objs.size+1) k
   refine .inr ⟨.inl k,c,e,?_⟩
   have q:=x.cell y c e
   rw [zj6 ndP hp hu (by show scope.names.lookup y≠_;rw [k];decide)] at q
   exact q
 ·exact e0.hok.fresh (Nat.le_of_lt (x.above y c (PySem.mem_of_lookup h)))
 ·unfold start
  show _=N.length
  rw [List.length_append,List.length_map,List.length_replicate]
  omega
theorem zuv {CX:CXT} {P:Program} {w:World} {K:W.Frag} {mg:Str->Option Value} {base:Heap} {k:Nat} {f:Addr} {name qual:Str} {params:Arguments} {body:List Stmt} {scope:Scope} {dV kV doc pm cdv ct oc:Value} {an od:Option Addr}
  {osl:Array (Option Value)} {N ps:List Str} {sp:Sp} (lk:K.lookup f=some ⟨oc,od,.func (W.fnOf name qual params body scope dV kV doc pm an cdv ct),osl⟩) (hcd:W.codeIn K cdv qual=true) (S:FnScope N ps scope)
  (len:∀ vs H Q E,sp vs H Q E->vs.length=ps.length)
  (hbody:∀ (A:Around) (outer:List Env) (s:Shared) (H:Hp) (vs:List V) (Q:VK) (E:XK),Room k (A.deeper (envOfC qual scope s.heap.objs.size f cdv))->sp vs H Q E →
   ∃ t,PSs (zkN CX P w K mg base N qual scope f cdv A outer s H E) body t∧t { nx:=λ_ H'=>Q .non H',rt:=Q } (start N vs) H) :
  FnOk P w K mg base CX (k+1) f (W.fnOf name qual params body scope dV kV doc pm an cdv ct) ps sp:=by
 refine ⟨len,λA outer s H args us vs Q E hr e0 hb r hsp=>?_⟩
 have hl:=len _ _ _ _ hsp
 have KX:K.In s.heap:=e0.mod.kin.keeps λb o e=>(e0.bs b o e).1
 have lim:s.heap.NoLimit:=e0.mod.nolimit.keeps λb o e=>(e0.bs b o e).1
 have hkind:∀ y∈ps.zip us,scope.names.lookup y.1=some .local∨(scope.names.lookup y.1=some .cell∧((cellsFrom ↑32 scope.names []).lookup y.1).isSome=true):=λ⟨n,v⟩ hy=>by
  rcases S.par n (List.of_mem_zip hy).1 with q | q
  ·exact .inl q
  ·exact .inr ⟨q,W.cellsFrom_some _ _ _ (.inl q)⟩
 refine codeAny_call_function hr.depth (KX _ _ lk) rfl S.co S.gen rfl (W.codeRec_of KX hcd) (hb _ _ _ _ ?_)
 refine wpAny_newFunctionEnv_cells S.kind hkind λenv he s1 x=>?_
 subst he
 refine ⟨lim.keeps x.toInCall.keep,codeAny_func ?_⟩
 obtain ⟨t,ht,hq⟩:=hbody A outer s H vs Q E (hr.deeper _) hsp
 have I:Inv (zkN CX P w K mg base N qual scope f cdv A outer s H E) [] (start N vs) H s1:=zmO S hr.hd e0 hl r x
 refine wpAny_mono (ht [] s1 (start N vs) H _ I hq) (λfl s' hs=>?_) λe s' hs=>hs
 have fin:∀ {σ':St} {H':Hp} {v:V} {u:Value},Inv (zkN CX P w K mg base N qual scope f cdv A outer s H E) [] σ' H' s'->zdw v u->Q v H'->CE outer P w H s Q u s' :=
  λ{σ' H' v u} J rv q=>⟨v,H',J.os,J.bare,J.base,J.hok,rv,q⟩
 cases fl with
 | ret u =>
  obtain ⟨v,σ',H',J,rv,q⟩:=hs
  exact fin J rv q
 | next =>
  obtain ⟨σ',H',J,q⟩:=hs
  exact fin (v:=V.non) (u:=Value.none) J rfl q
 | brk =>
  obtain ⟨_,_,_,q⟩:=hs
  exact False.elim q
 | cont =>
  obtain ⟨_,_,_,q⟩:=hs
  exact False.elim q
end L2
namespace L2
open PySem PySem.Spec PyProof.Rows
section
variable {X:Cx} {x:Str} {p pos:Pos} {e:Expr} {es:List Expr} {t:TA} {id T:String} {r:List V->Hp->VK->Prop}
def tCB (r:List V->Hp->VK->Prop) (t:TA):TE:=λσ H Q=>t σ H λvs H1=>r vs H1 Q
theorem zal (hc:zfZ X (.builtin id) r) (hg:Gl X x) (hm:X.mg x=none) (hv:bootBuiltins x=some (.builtin id)) (ha:PA X (e::es) t) (hn:x≠"__name__":=by decide) (hdb:↑45=false:=by decide)
  (he:starEach (e::es) X.env=(false,eval e X.env) :: starEach es X.env:=by rfl) (hpl:(↑66).any (·.1)=false:=by rfl):PE X ↑164 (tCB r t):=by
 intro pins s σ H Q I h
 refine wpAny_Call_Name_kw (zim I hg hm hv ?_ hn hdb)
 exact PyProof.Rows.callWith_builtin1 (thn (ha pos pins s σ H _ I h) λus s1 ⟨vs,H1,I1,r1,q1⟩=>hc pins s1 σ H1 vs us Q I1 r1 q1) he hpl
theorem zcB (hc:zfZ X (.type T) r) (hg:Gl X x) (hm:X.mg x=none) (hv:bootBuiltins x=some (.type T)) (ha:PA X (e::es) t) (hn:x≠"__name__":=by decide) (hdb:↑45=false:=by decide)
  (he:starEach (e::es) X.env=(false,eval e X.env) :: starEach es X.env:=by rfl) (hpl:(↑66).any (·.1)=false:=by rfl):PE X ↑164 (tCB r t):=by
 intro pins s σ H Q I h
 refine wpAny_Call_Name_kw (zim I hg hm hv ?_ hn hdb)
 exact PyProof.Rows.callWith_type1 (thn (ha pos pins s σ H _ I h) λus s1 ⟨vs,H1,I1,r1,q1⟩=>hc pins s1 σ H1 vs us Q I1 r1 q1) he hpl
end
end L2
namespace HT
open PySem PyProof.Rows
section
open PySem.SeqAt
open PySem.AutoSeq1 (wpAny_loadPart')
open PySem.MeetsSeq PySem.MeetsSeq2 PySem.MeetsSeq3
end
section
variable {prog:Program} {w:World} {A:Around} {E:Value->Shared->Prop} {s:Shared}
def sIx (n d:Nat):Option Int->Nat
 | none=>d
 | some v=>if v<0 then (v+(n:Int)).toNat else min v.toNat n
theorem sIx_none (n d:Nat):sIx n d none=d:=rfl
theorem sIx_nat (n d k:Nat):sIx n d (some (k:Int))=min k n:=by
 show (if (k:Int)<0 then ((k:Int)+(n:Int)).toNat else min (k:Int).toNat n)=min k n
 rw [if_neg ↑0,Int.toNat_natCast]
end
end HT
namespace L2
open PySem PySem.Spec PyProof.Rows
abbrev TO:=St->Hp->(Option Int->Hp->Prop)->Prop
def PO (X:Cx) (e:Option Expr) (t:TO):Prop :=
 ∀ (pins:List ⇑2) (s:Shared) (σ:St) (H:Hp) (Q:Option Int->Hp->Prop),Inv X pins σ H s->t σ H Q →
  wpAny ↥2 X.A (evalPart e X.env) (λu s'=>∃ o H',Inv X pins σ H' s'∧IsPart u o∧Q o H') X.xe s
def zoo:TO:=λ_ H Q=>Q none H
def zty (t:TE):TO:=λσ H Q=>t σ H λx H1=>∃ i,x=.int i∧Q (some i) H1
section
variable {X:Cx} {e:Expr} {te:TE} {lo hi:Option Expr} {tl th:TO} {pos p2:Pos}
theorem zfC:PO X none zoo:=by
 intro pins s σ H Q I h
 rw [evalPart_none]
 exact wpAny_pure ⟨none,H,I,.none,h⟩
theorem zdS (h:PE X e te):PO X (some e) (zty te):=by
 intro pins s σ H Q I hw
 rw [evalPart_some]
 refine thn (h pins s σ H _ I hw) λu s1 ⟨x,H1,I1,r1,q1⟩=>?_
 obtain ⟨i,rfl,q⟩:=q1
 obtain ⟨t,rfl⟩:=r1
 exact ⟨some i,H1,I1,.int i t,q⟩
def SlR (X:Cx) (r:V->Option Int->Option Int->Hp->VK->Prop):Prop :=
 ∀ (pins:List ⇑2) (s:Shared) (σ:St) (H:Hp) (x:V) (v vl vu:Value) (lo hi:Option Int) (sl:Addr) (Q:VK),Inv X pins σ H s->zdw x v->s.heap.IsSliceOf sl vl vu .none->IsPart vl lo->IsPart vu hi->r x lo hi H Q →
  ∃ T id,typeLookup (.type T) "__getitem__"=pure (some (.builtin id))∧s.TypeIs v T∧wpAny ↥2 X.A (getItem v (.ref sl)) ↑57 X.xe s
def tSl (r:V->Option Int->Option Int->Hp->VK->Prop) (te:TE) (tl th:TO):TE:=λσ H Q=>te σ H λx H1=>tl σ H1 λl H2=>th σ H2 λu H3=>r x l u H3 Q
theorem zdI {r:V->Option Int->Option Int->Hp->VK->Prop} (hr:SlR X r) (he:PE X e te) (hl:PO X lo tl) (hu:PO X hi th):PE X (.Subscript e (.Slice lo hi none p2) pos) (tSl r te tl th):=by
 intro pins s σ H Q I h
 refine Subscript_ (thn ↑141 λv s1 ⟨x,H1,I1,r1,q1⟩=> ?_)
 refine wpAny_Slice (thn (hl pins s1 σ H1 _ I1 q1) λvl s2 ⟨l,H2,I2,pl,q2⟩=>thn (hu pins s2 σ H2 _ I2 q2) λvu s3 ⟨u,H3,I3,pu,q3⟩=>?_)
 rw [evalPart_none]
 refine wpAny_pure ?_
 have I4:Inv X pins σ H3 { s3 with heap:=s3.heap.push { cls:=.type "slice",data:=.fields #[vl,vu,.none] } }:=I3.kept (t':=s3.toks) λb ob q=>Heap.get?_push_of_some _ q
 obtain ⟨T,id,hT,ht,hg⟩:=hr pins { s3 with heap:=s3.heap.push { cls:=.type "slice",data:=.fields #[vl,vu,.none] } } σ H3 x v vl vu l u s3.heap.objs.size Q I4 r1 (Heap.IsSliceOf.new ..) pl pu q3
 show wpAny ↥2 X.A (subscriptTail e (.Slice lo hi none p2) v (.ref s3.heap.objs.size)) ↑57 X.xe { s3 with heap:=s3.heap.push { cls:=.type "slice",data:=.fields #[vl,vu,.none] } }
 exact tail_any (ops:=[.ref s3.heap.objs.size,v]) ht hT hg (by with_unfolding_all rfl)
def zsY (xs:List V) (lo hi:Option Int):List V:=(xs.drop (HT.sIx xs.length 0 lo)).take ↑269
theorem zkE (xs:List V) (lo hi:Option Int):(zsY xs lo hi).length≤xs.length:=by
 unfold zsY
 rw [List.length_take,List.length_drop]
 omega
end
end L2
namespace L2
open PySem PySem.Spec PyProof.Rows
def ixN (n:Nat) (i:Int):Option Nat:=if 0≤i then (if i<n then some i.toNat else none) else if -(n:Int)≤i then some (i+n).toNat else none
def atI {α:Type} (xs:List α) (i:Int):Option α:=(ixN xs.length i).bind λj=>xs[j]?
theorem znV {n:Nat} {i:Int} {j:Nat} (h:ixN n i=some j):seqIndex? i n=some j∧j<n∧-(n:Int)≤i∧i<n:=by
 unfold ixN at h
 by_cases h0:0≤i
 ·rw [if_pos h0] at h
  by_cases h1:i<n
  ·rw [if_pos h1] at h
   have e:i.toNat=j:=Option.some.inj h
   exact ⟨by rw [seqIndex_of h0 h1,e],by omega,by omega,h1⟩
  ·rw [if_neg h1] at h;cases h
 ·rw [if_neg h0] at h
  by_cases h1:-(n:Int)≤i
  ·rw [if_pos h1] at h
   have e:(i+n).toNat=j:=Option.some.inj h
   exact ⟨by rw [seqIndex_neg ↑0 h1,e],by omega,h1,by omega⟩
  ·rw [if_neg h1] at h;cases h
theorem znA {α:Type} {xs:List α} {i:Int} {v:α} (h:atI xs i=some v):∃ j,seqIndex? i xs.length=some j∧xs[j]?=some v∧j<xs.length∧-(xs.length:Int)≤i∧i<xs.length:=by
 unfold atI at h
 cases e:ixN xs.length i with
 | none=>rw [e] at h;cases h
 | some j =>
  rw [e] at h
  obtain ⟨h1,h2,h3,h4⟩:=znV e
  exact ⟨j,h1,h,h2,h3,h4⟩
def zq2 (b:Expr):Prop:=∀ o i,subscripted b false o i=operate [o,i] (getItem o i)
def IxR (X:Cx) (r:R2):Prop :=
 ∀ (value slice:Expr) (pins:List ⇑2) (s:Shared) (σ:St) (H:Hp) (x y:V) (v u:Value) (Q:VK),Inv X pins σ H s->zdw x v->zdw y u->r x y H Q →
  subscripted slice false v u=operate [v,u] (getItem v u)->wpAny ↥2 X.A (subscriptTail value slice v u) ↑57 X.xe s
def MtR (X:Cx) (id:String) (r:V->List V->Hp->VK->Prop):Prop :=
 ∀ (pins:List ⇑2) (s:Shared) (σ:St) (H:Hp) (x:V) (xs:List V) (v:Value) (us:List Value) (Q:VK),Inv X pins σ H s->zdw x v->zcn xs us->r x xs H Q →
  wpAny ↥2 X.A (call (.builtin id) (v :: us)) ↑57 X.xe s
section
variable {X:Cx} {a b:Expr} {ta tb:TE} {pos:Pos}
theorem za1 {r:R2} (hr:IxR X r) (ha:PE X a ta) (hb:PE X b tb) (hs:zq2 b):PE X (.Subscript a b pos) (tOp r ta tb):=by
 intro pins s σ H Q I h
 exact Subscript_ (zuH ha hb I h λv u s2 x y H2 I2 rx ry q=>hr a b pins s2 σ H2 x y v u Q I2 rx ry q (hs _ _))
def zq6 (K:W.Frag):R2:=λx y H Q=>∃ p xs i v,x=.ref p∧y=.int i∧SqL K H p xs∧atI xs i=some v∧Q v H
def zuq (K:W.Frag):R2:=λx y H Q=>∃ p xs i v,x=.ref p∧y=.int i∧SqT K H p xs∧atI xs i=some v∧Q v H
theorem zqO:IxR X (zq6 X.K):=by
 intro value slice pins s σ H x y v u Q I rx ry h hs
 obtain ⟨p,xs,i,z,rfl,rfl,hq,he,q⟩:=h
 cases rx
 obtain ⟨t,rfl⟩:=ry
 obtain ⟨its,r,pl,hz⟩:=I.list hq
 obtain ⟨j,h1,h2,h3,h4,h5⟩:=znA he
 obtain ⟨w,ew,rw'⟩:=r.get h2
 have hl:=r.length
 have hn:=zlj
 have fin:EP X pins σ Q w s:=⟨z,H,I,rw',q⟩
 by_cases h0:0≤i
 ·have hj:i.toNat=j:=by
   rw [seqIndex_of h0 h5] at h1
   exact Option.some.inj h1
  exact item_listR pl.isList h0 ↑0 (by rw [hj];simpa using ew) fin hs
 ·have hj:(i+(its.toArray.size:Int)).toNat=j:=by
   rw [seqIndex_neg ↑0 h4] at h1
   rw [List.size_toArray,← hl]
   exact Option.some.inj h1
  exact subscriptTail_builtinR (x:=w) pl.isList.typeIs slot_list_getitem.lookup
   (wpAny_getItem_list_neg (Q:=λr s'=>r=w∧EP X pins σ Q r s') pl.isList ↑0 (by rw [List.size_toArray]<;>omega) ↑0 (by rw [hj];simpa using ew) ⟨rfl,fin⟩) hs
theorem zsg:IxR X (zuq X.K):=by
 intro value slice pins s σ H x y v u Q I rx ry h hs
 obtain ⟨p,xs,i,z,rfl,rfl,hq,he,q⟩:=h
 cases rx
 obtain ⟨t,rfl⟩:=ry
 obtain ⟨its,r,pl,hz⟩:=I.tuple hq
 obtain ⟨j,h1,h2,h3,h4,h5⟩:=znA he
 obtain ⟨w,ew,rw'⟩:=r.get h2
 have hl:=r.length
 have hn:=zlj
 have fin:EP X pins σ Q w s:=⟨z,H,I,rw',q⟩
 exact subscriptTail_builtinR (x:=w) pl.typeIs slot_tuple_getitem.lookup
  (getItem_tuple (j:=j) (Q:=λr s'=>r=w∧EP X pins σ Q r s') pl ↑0 ↑0 (by rw [List.size_toArray,← hl];exact h1) (by simpa using ew) ⟨rfl,fin⟩) hs
theorem zmk (its:List Value) (n j:Nat) (u:Value):Obj.mapSeq (·.setIfInBounds j u) { cls:=.type "list",data:=.seq its.toArray n }={ cls:=.type "list",data:=.seq (its.set j u).toArray n }:=by
 simp [Obj.mapSeq]
theorem Inv.lst {pins:List ⇑2} {σ:St} {H:Hp} {s:Shared} {p:Addr} {xs:List V} (I:Inv X pins σ H s) (h:H p=some (.lst xs)) :
  ∃ (its:List Value) (n:Nat),zcn xs its∧s.heap.get? p=some { cls:=.type "list",data:=.seq its.toArray n }∧xs.length≤sizeLine:=by
 obtain ⟨z,its,n,r,e⟩:=I.hok p _ h
 exact ⟨its,n,r,e,z⟩
theorem Inv.lstUpd {pins:List ⇑2} {σ:St} {H:Hp} {s:Shared} {p:Addr} {xs ys:List V} {its its':List Value} {n n':Nat} {f:Obj->Obj} (I:Inv X pins σ H s) (h:H p=some (.lst xs))
  (ho:s.heap.get? p=some { cls:=.type "list",data:=.seq its.toArray n }) (hf:f { cls:=.type "list",data:=.seq its.toArray n }={ cls:=.type "list",data:=.seq its'.toArray n' }) (r:zcn ys its') (hz:ys.length≤sizeLine) (t:Nat) :
  Inv X pins σ (upd H p (.lst ys)) { s with heap:=s.heap.update p f,toks:=t }:=by
 have e:(s.heap.update p f).get? p=some { cls:=.type "list",data:=.seq its'.toArray n' }:=by
  rw [Heap.get?_update_self f ho (by rw [hf]<;>rfl),hf]
 refine I.write (x:=p) (e:=p) (by rw [h];trivial) ↑34 (λb u hb q=>(Heap.get?_update_other _ _ (Ne.symm hb)).trans q) ⟨_,e⟩ ?_
 exact ⟨hz,its',n',r,e⟩
def znd:V->V->V->Hp->(Hp->Prop)->Prop:=λo i v H Q=>∃ p xs k j,o=.ref p∧i=.int k∧H p=some (.lst xs)∧ixN xs.length k=some j∧Q (upd H p (.lst (xs.set j v)))
theorem zgS:zvb X znd:=by
 intro pins s σ H o i v ov iv u Q I ro ri rv h
 obtain ⟨p,xs,k,j,rfl,rfl,hp,hj,q⟩:=h
 cases ro
 obtain ⟨t,rfl⟩:=ri
 obtain ⟨its,n,r,ho,hz⟩:=I.lst hp
 obtain ⟨h1,h2,h3,h4⟩:=znV hj
 have hl:=r.length
 have hn:=zlj
 have I':Inv X pins σ (upd H p (.lst (xs.set j v))) { s with heap:=s.heap.update p (Obj.mapSeq (·.setIfInBounds j u)) } :=
  I.lstUpd hp ho (zmk its n j u) (r.set rv j) (by rw [List.length_set];exact hz) s.toks
 by_cases h0:0≤k
 ·have hk:k.toNat=j:=by
   rw [seqIndex_of h0 h4] at h1
   exact Option.some.inj h1
  exact W.ki_setAt ho h0 ↑0 (by rw [List.size_toArray,← hl];exact h4) (by rw [hk];exact ⟨_,I',q⟩)
 ·have hk:(k+(its.toArray.size:Int)).toNat=j:=by
   rw [seqIndex_neg ↑0 h3] at h1
   rw [List.size_toArray,← hl]
   exact Option.some.inj h1
  exact W.ki_setBack ho ↑0 (by rw [List.size_toArray,← hl];exact h3) ↑0 (by rw [hk];exact ⟨_,I',q⟩)
theorem zjG (lo hi:Option Int) (n:Nat):((sliceBounds lo hi none n)).1=((HT.sIx n 0 lo:Nat):Int)∧((sliceBounds lo hi none n)).2.1=((HT.sIx n n hi:Nat):Int)∧((sliceBounds lo hi none n)).2.2=1:=by
 refine ⟨?_,?_,rfl⟩
 ·cases lo with
  | none=>simp [sliceBounds,HT.sIx]
  | some i =>
   simp only [sliceBounds,HT.sIx,Option.getD_none,show (1:Int) > 0 by decide,if_true]
   by_cases h:i<0
   ·simp only [h,if_true]<;>omega
   ·simp only [h,if_false]<;>omega
 ·cases hi with
  | none=>simp [sliceBounds,HT.sIx]
  | some i =>
   simp only [sliceBounds,HT.sIx,Option.getD_none,show (1:Int) > 0 by decide,if_true]
   by_cases h:i<0
   ·simp only [h,if_true]<;>omega
   ·simp only [h,if_false]<;>omega
theorem zjf (its:List Value) (lo hi:Option Int):slicePick its.toArray lo hi none=((its.drop (HT.sIx its.length 0 lo)).take (HT.sIx its.length its.length hi-HT.sIx its.length 0 lo)).toArray:=by
 obtain ⟨h1,h2,h3⟩:=zjG lo hi its.toArray.size
 unfold slicePick
 rw [h1,h2,h3]
 simp only [sliceRange_one,pick_run,List.size_toArray]<;>rfl
def ztE (K:W.Frag):V->Option Int->Option Int->Hp->VK->Prop:=λx lo hi H Q=>∃ a xs,x=.ref a∧SqL K H a xs∧∀ p,H p=none->Q (.ref p) (upd H p (.lst (zsY xs lo hi)))
theorem zrC:SlR X (ztE X.K):=by
 intro pins s σ H x v vl vu lo hi sl Q I rx hs pl pu h
 obtain ⟨a,xs,rfl,hx,q⟩:=h
 cases rx
 obtain ⟨its,r,ht,hz⟩:=I.list hx
 have hlen:=r.length
 refine ⟨"list",_,slot_list_getitem.lookup,ht.isList.typeIs,?_⟩
 refine wpAny_getItem_list_slice ht.isList hs pl pu .none ↥5 ?_ (by rw [List.size_toArray]<;>omega)
 rw [zjf,← hlen]
 refine ⟨.ref s.heap.objs.size,_,I.laid (t':=s.toks) (o:=.lst (zsY xs lo hi)) (λb ob q=>Heap.get?_push_of_some _ q) ↑11 ?_,rfl,q _ (I.hok.fresh ↑11)⟩
 exact ⟨Nat.le_trans (zkE xs lo hi) hz,_,0,(r.drop (HT.sIx xs.length 0 lo)).take ↑269,Heap.get?_push_size _ rfl⟩
def zo0:V->Bool
 | .non=>true
 | .bl _=>true
 | .int _=>true
 | .str _=>true
 | _=>false
def eqV:V->V->Bool
 | .non,.non=>true
 | .bl a,.bl b=>a == b
 | .bl a,.int b=>(if a then 1 else 0) == b
 | .int a,.bl b=>a == (if b then 1 else 0)
 | .int a,.int b=>a == b
 | .str a,.str b=>a == b
 | _,_=>false
theorem zsw {A:Around} {s:Shared} {y x:V} {u v:Value} (ry:zdw y u) (rx:zdw x v) (fy:zo0 y=true) (fx:zo0 x=true):SeqAt.EqAt A s u v (eqV y x):=by
 cases y with
 | non =>
  cases ry
  cases x with
  | non=>cases rx;exact SeqAt.EqAt.same _
  | bl b=>cases rx;exact SeqAt.EqAt.none_bool b
  | int b=>obtain ⟨t,rfl⟩:=rx;exact SeqAt.EqAt.none_int b t
  | str b=>obtain ⟨t,rfl⟩:=rx;exact SeqAt.EqAt.none_str b t
  | _=>exact absurd (show false=true from fx) Bool.false_ne_true
 | bl a =>
  cases ry
  cases x with
  | non=>cases rx;exact SeqAt.EqAt.bool_none a
  | bl b=>cases rx;exact SeqAt.EqAt.bool_bool a b
  | int b=>obtain ⟨t,rfl⟩:=rx;exact SeqAt.EqAt.bool_int a b t
  | str b=>obtain ⟨t,rfl⟩:=rx;exact SeqAt.EqAt.bool_str a b t
  | _=>exact absurd (show false=true from fx) Bool.false_ne_true
 | int a =>
  obtain ⟨t',rfl⟩:=ry
  cases x with
  | non=>cases rx;exact SeqAt.EqAt.int_none a t'
  | bl b=>cases rx;exact SeqAt.EqAt.int_bool a t' b
  | int b=>obtain ⟨t,rfl⟩:=rx;exact SeqAt.EqAt.int_int a t' b t
  | str b=>obtain ⟨t,rfl⟩:=rx;exact SeqAt.EqAt.int_str a t' b t
  | _=>exact absurd (show false=true from fx) Bool.false_ne_true
 | str a =>
  obtain ⟨t',rfl⟩:=ry
  cases x with
  | non=>cases rx;exact SeqAt.EqAt.str_none a t'
  | bl b=>cases rx;exact SeqAt.EqAt.str_bool a t' b
  | int b=>obtain ⟨t,rfl⟩:=rx;exact SeqAt.EqAt.str_int a t' b t
  | str b=>obtain ⟨t,rfl⟩:=rx;exact SeqAt.EqAt.str_str a t' b t
  | _=>exact absurd (show false=true from fx) Bool.false_ne_true
 | _=>exact absurd (show false=true from fy) Bool.false_ne_true
theorem zjD:zfZ X (.builtin "len") (λxs H Q=>∃ p ys,xs=[.ref p]∧(SqL X.K H p ys∨SqT X.K H p ys)∧Q (.int ys.length) H):=by
 intro pins s σ H xs us Q I r h
 obtain ⟨p,ys,rfl,hq,q⟩:=h
 obtain ⟨u,rfl,rx⟩:=zkA r
 cases rx
 have hn:=zlj
 rcases hq with hq | hq
 ·obtain ⟨its,r',pl,hz⟩:=I.list hq
  have hlen:=r'.length
  exact Calls.call_len_list pl.isList ↑250 ⟨.int ys.length,H,I.tok _,⟨s.toks+1,by rw [List.size_toArray,hlen]⟩,q⟩
 ·obtain ⟨its,r',pl,hz⟩:=I.tuple hq
  have hlen:=r'.length
  exact len_tuple pl ↑250 ⟨.int ys.length,H,I.tok _,⟨s.toks+1,by rw [List.size_toArray,hlen]⟩,q⟩
theorem zjX:zfZ X (.type "list") (λxs H Q=>∃ p ys,xs=[.ref p]∧(SqL X.K H p ys∨SqT X.K H p ys)∧∀ l,H l=none->Q (.ref l) (upd H l (.lst ys))):=by
 intro pins s σ H xs us Q I r h
 obtain ⟨p,ys,rfl,hq,q⟩:=h
 obtain ⟨u,rfl,rx⟩:=zkA r
 cases rx
 have fin:∀ (its:List Value),zcn ys its->ys.length≤sizeLine->∀ (h':Heap) (c':Nat),(∀ b o',s.heap.get? b=some o'->h'.get? b=some o') →
   h'.get? s.heap.objs.size=some { cls:=.type "list",dict:=none,data:=.seq its.toArray c',slots:=#[] }->EP X pins σ Q (.ref s.heap.objs.size) { s with heap:=h' }:=λits r' hz h' c' kp e =>
  ⟨.ref s.heap.objs.size,_,I.laid (t':=s.toks) kp ↑11 (show zeq X.prog X.w _ h' _ (.lst ys) from ⟨hz,its,c',r',e⟩),rfl,q _ (I.hok.fresh ↑11)⟩
 rcases hq with hq | hq
 ·obtain ⟨its,r',pl,hz⟩:=I.list hq
  have hlen:=r'.length
  obtain ⟨o,ho,hc,n,hd⟩:=pl.isList
  exact call_list_seq p ↑34 ho hc hd (λh' c' kp e=>fin its r' hz h' c' kp e) ↑250
 ·obtain ⟨its,r',pl,hz⟩:=I.tuple hq
  have hlen:=r'.length
  obtain ⟨o,ho,hc,n,hd⟩:=pl
  exact call_list_seq p (.inr rfl) ho hc hd (λh' c' kp e=>fin its r' hz h' c' kp e) ↑250
def tyV (K:W.Frag) (T:String) (x:V) (H:Hp):Prop:=match x with
 | .str _=>T="str"
 | .int _=>T="int"
 | .ref p=>(T="list"∧∃ xs,SqL K H p xs)∨(T="tuple"∧∃ o,K.lookup p=some o∧o.cls=.type "tuple"∧o.dict=none) ∨
   (T="dict"∧((∃ kvs,H p=some (.dK kvs))∨∃ kvs,H p=some (.dT kvs)))∨(T="set"∧∃ S n,H p=some (.set S n))
 | _=>False
theorem zrS {pins:List ⇑2} {σ:St} {H:Hp} {s:Shared} {T:String} {x:V} {v:Value} (I:Inv X pins σ H s) (r:zdw x v) (ty:tyV X.K T x H) :
  s.TypeIs v T∧∀ a,v=.ref a->∃ ob,s.heap.get? a=some ob∧ob.dict=none:=by
 cases x with
 | str z =>
  obtain ⟨t,rfl⟩:=r
  cases (show T="str" from ty)
  exact ⟨typeIs_str s z t,λ_ e=>nomatch e⟩
 | int i =>
  obtain ⟨t,rfl⟩:=r
  cases (show T="int" from ty)
  exact ⟨typeIs_int s i t,λ_ e=>nomatch e⟩
 | ref p =>
  cases r
  rcases ty with ⟨rfl,xs,hq⟩ | ⟨rfl,o,hk,hc,hd⟩ | ⟨rfl,hk⟩ | ⟨rfl,S,n,hk⟩
  ·obtain ⟨its,_,pl,_⟩:=I.list hq
   refine ⟨pl.isList.typeIs,λa e=>?_⟩
   cases e
   obtain ⟨o,n,e,c,hd,_⟩:=pl
   exact ⟨o,e,hd⟩
  ·refine ⟨⟨o,I.kIn p o hk,hc⟩,λa e=>?_⟩
   cases e
   exact ⟨o,I.kIn _ o hk,hd⟩
  ·have z:∃ o,s.heap.get? p=some o∧o.ExactDict:=by
    rcases hk with ⟨kvs,hk⟩ | ⟨kvs,hk⟩
    ·obtain ⟨_,_,_,_,o,_,_,e,ex,_⟩:=I.hok p _ hk
     exact ⟨o,e,ex⟩
    ·obtain ⟨_,_,_,_,o,_,_,e,ex,_⟩:=I.hok p _ hk
     exact ⟨o,e,ex⟩
   obtain ⟨o,e,ex⟩:=z
   refine ⟨⟨o,e,ex.1⟩,λa e2=>?_⟩
   cases e2
   exact ⟨o,e,ex.2.1⟩
  ·obtain ⟨o,_,_,_,e,ex,_⟩:=I.hok p _ hk
   refine ⟨⟨o,e,ex.1⟩,λa e2=>?_⟩
   cases e2
   exact ⟨o,e,ex.2.1⟩
 | _=>exact False.elim ty
def tBM (K:W.Frag) (T:String) (r:V->List V->Hp->VK->Prop) (to:TE) (t:TA):TE:=λσ H Q=>to σ H λx H1=>tyV K T x H1∧t σ H1 λxs H2=>r x xs H2 Q
variable {o e:Expr} {es:List Expr} {to:TE} {t:TA} {name:Str} {apos cpos:Pos} {T id:String} {r:V->List V->Hp->VK->Prop}
theorem zuJ (pa:PlainAttrs T) (slot:Slot T name id) (hty:typeOf (.builtin id)=pure (.type "method_descriptor")) (hm:MtR X id r) (ho:PE X o to) (ha:PA X (e::es) t)
  (hbase:attributeBase o name X.env (eval o X.env)=eval o X.env:=by rfl)
  (hfew:((backTo cpos (starEach (e::es) X.env)).all (λx=>!x.1)&&((backToKw cpos (keywordEach [] X.env))).all (λx=>x.1.isSome)
   &&decide (((e::es)).length+([]:List Keyword).length+(if ([]:List Keyword).isEmpty then 0 else 1)<30))=true:=by rfl)
  (hline:(apos.endLine == cpos.line)=true:=by rfl) (hs:starEach (e::es) X.env=(false,eval e X.env) :: starEach es X.env:=by rfl) (hplain:(↑227).any (·.1)=false:=by rfl) :
  PE X (.Call (.Attribute o name apos) (e::es) [] cpos) (tBM X.K T r to t):=by
 intro pins s σ H Q I h
 refine wpAny_Call_method_late hbase hfew hline rfl (thn (ho pins s σ H _ I h) λv s1 ⟨x,H1,I1,r1,ty,q1⟩=>?_)
 obtain ⟨h1,h2⟩:=zrS I1 r1 ty
 refine ⟨T,id,pa,slot,hty,h1,h2,?_⟩
 have hA:=ha cpos pins s1 σ H1 _ I1 q1
 rw [hs] at hA ⊢
 refine Calls.callWith_builtin (by show (false||(↑227).any (·.1))=false;rw [hplain]<;>rfl) (Calls.evalArgs_plain ?_)
 exact thn hA λus s2 ⟨vs,H2,I2,r2,q2⟩=>hm pins s2 σ H2 x vs v us Q I2 r1 r2 q2
end
end L2
namespace L2
open PySem PySem.Spec PyProof.Rows
def MtM (X:Cx) (id:String) (r:V->List V->Hp->VK->Prop):Prop :=
 ∀ (pins:List ⇑2) (s:Shared) (σ:St) (H:Hp) (x:V) (xs:List V) (v:Value) (us:List Value) (Q:VK),Inv X pins σ H s->zdw x v->zcn xs us->r x xs H Q →
  wpAny ↥2 X.A (call (.builtin id) (v :: us)) ↑57 X.xe s
theorem zcn.one:∀ {x:V} {us:List Value},zcn [x] us->∃ u,us=[u]∧zdw x u
 | _,_,.cons r .nil=>⟨_,rfl,r⟩
theorem zcn.two:∀ {x y:V} {us:List Value},zcn [x,y] us->∃ u v,us=[u,v]∧zdw x u∧zdw y v
 | _,_,_,.cons r (.cons q .nil)=>⟨_,_,rfl,r,q⟩
theorem zcn.zero:∀ {us:List Value},zcn [] us->us=[]
 | _,.nil=>rfl
theorem zcn.dropLast {xs:List V} {us:List Value} (h:zcn xs us):zcn xs.dropLast us.dropLast:=by
 induction h with
 | nil=>exact .nil
 | cons r t ih =>
  cases t with
  | nil=>exact .nil
  | cons q t'=>exact .cons r ih
theorem zcn.reverse {xs:List V} {us:List Value} (h:zcn xs us):zcn xs.reverse us.reverse:=by
 induction h with
 | nil=>exact .nil
 | cons r t ih=>rw [List.reverse_cons,List.reverse_cons];exact zcn.append ih (.cons r .nil)
theorem zcn.rep {xs:List V} {us:List Value} (h:zcn xs us):∀ k:Nat,zcn (List.replicate k xs).flatten (List.replicate k us).flatten
 | 0=>.nil
 | k+1=>by
  rw [List.replicate_succ,List.replicate_succ,List.flatten_cons,List.flatten_cons]
  exact zcn.append h (zcn.rep h k)
theorem zkg (its:List Value):∀ (k:Nat) (acc:List Value),
  List.foldl (λx1 x2=>x1++x2) acc.toArray (List.replicate k its.toArray)=(acc++(List.replicate k its).flatten).toArray
 | 0,acc=>by simp
 | k+1,acc=>by
  have e:acc.toArray++its.toArray=(acc++its).toArray:=by simp
  have e2:(acc++its)++(List.replicate k its).flatten=acc++(List.replicate (k+1) its).flatten:=by
   rw [List.replicate_succ,List.flatten_cons,List.append_assoc]
  rw [← e2,← zkg its k (acc++its),← e,List.replicate_succ,List.foldl_cons]
section
variable {X:Cx} {pins:List ⇑2} {σ:St} {H:Hp} {s:Shared} {l b:Addr} {xs ys zs:List V}
theorem Inv.lset {its its':List Value} {n:Nat} {f:Array Value->Array Value} {t':Nat} (I:Inv X pins σ H s) (hH:H l=some (.lst xs))
  (e:s.heap.get? l=some { cls:=.type "list",data:=.seq its.toArray n }) (hf:f its.toArray=its'.toArray) (hv:zcn ys its') (hz:ys.length≤sizeLine) :
  Inv X pins σ (upd H l (.lst ys)) { s with heap:=s.heap.update l (Obj.mapSeq f),toks:=t' }:=by
 have q:=PySem.IsL.update e f
 rw [hf] at q
 refine I.write (x:=l) (e:=l) (by rw [hH];exact trivial) ↑34 (λb' u hb hu=>(Heap.get?_update_other s.heap (Obj.mapSeq f) (Ne.symm hb)).trans hu) ⟨_,q⟩ ?_
 exact ⟨hz,its',_,hv,q⟩
theorem Inv.lnew {its:List Value} {t':Nat} (I:Inv X pins σ H s) (hv:zcn ys its) (hz:ys.length≤sizeLine) :
  Inv X pins σ (upd H s.heap.objs.size (.lst ys)) { s with heap:=s.heap.push { cls:=.type "list",data:=.seq its.toArray },toks:=t' } :=
 I.laid (λ_ _ q=>Heap.get?_push_of_some _ q) ↑11 ⟨hz,its,0,hv,Heap.get?_push_size _ rfl⟩
theorem Inv.fresh (I:Inv X pins σ H s):H s.heap.objs.size=none:=I.hok.fresh ↑11
theorem Inv.lstM (I:Inv X pins σ H s) (hH:H l=some (.lst xs)):xs.length≤sizeLine∧∃ (its:List Value) (n:Nat),zcn xs its∧xs.length=its.length∧s.heap.get? l=some { cls:=.type "list",data:=.seq its.toArray n }:=by
 obtain ⟨z,its,n,r,e⟩:=I.hok l _ hH
 exact ⟨z,its,n,r,r.length,e⟩
theorem zlO {n:Nat} (h:n≤sizeLine):Builtin.List.listTooLong n=false:=by
 unfold Builtin.List.listTooLong
 exact decide_eq_false ↑0
end
section
variable {X:Cx}
def zgw:V->List V->Hp->VK->Prop:=λx vs H Q=>∃ l xs y,x=.ref l∧vs=[y]∧H l=some (.lst xs)∧xs.length<sizeLine∧Q .non (upd H l (.lst (xs++[y])))
theorem zjF:MtM X "list.append" zgw:=by
 intro pins s σ H x vs v us Q I rx rv h
 obtain ⟨l,xs,y,rfl,rfl,hH,hz,q⟩:=h
 cases rx
 obtain ⟨u,rfl,ru⟩:=rv.one
 obtain ⟨z,its,n,r,hl,e⟩:=I.lstM hH
 refine call_meets F.slot_list_append ⟨_,e,rfl⟩ F.entry_list_append (F.args_list_append_2 _ _) (PySem.list_append l its.toArray n u (by rw [List.size_toArray];omega)) ⟨e,?_⟩
 refine ⟨.non,_,I.lset (its':=its++[u]) hH e ↥5 (r.append (.cons ru .nil)) ?_,rfl,q⟩
 rw [List.length_append,List.length_singleton]
 omega
def zqs:V->List V->Hp->VK->Prop:=λx vs H Q=>∃ l b xs zs,x=.ref l∧vs=[.ref b]∧H l=some (.lst xs)∧H b=some (.lst zs)∧xs.length+zs.length≤sizeLine∧Q .non (upd H l (.lst (xs++zs)))
theorem zsC:MtM X "list.extend" zqs:=by
 intro pins s σ H x vs v us Q I rx rv h
 obtain ⟨l,b,xs,zs,rfl,rfl,hH,hB,hz,q⟩:=h
 cases rx
 obtain ⟨u,rfl,ru⟩:=rv.one
 cases ru
 obtain ⟨z,its,n,r,hl,e⟩:=I.lstM hH
 obtain ⟨z2,its2,n2,r2,hl2,e2⟩:=I.lstM hB
 have hsz:its.toArray.size+its2.toArray.size≤sizeLine:=by rw [List.size_toArray,List.size_toArray];omega
 have hlong:¬ (!its.toArray.isEmpty&&Builtin.List.listTooLong (its.toArray.size+its2.toArray.size))=true:=by
  rw [zlO hsz,Bool.and_false]
  exact Bool.false_ne_true
 refine call_meets F.slot_list_extend ⟨_,e,rfl⟩ F.entry_list_extend (F.args_list_extend_2 _ _)
  (AutoSeq1.list_extend_list_list_0 l its.toArray n b its2.toArray n2 hlong (by rw [List.size_toArray];omega) ↑0) ⟨e,e2,?_⟩
 refine ⟨.non,_,I.lset (its':=its++its2) hH e ↥5 (r.append r2) ?_,rfl,q⟩
 rw [List.length_append]
 omega
def zt0:R2:=λx y H Q=>∃ l b xs zs,x=.ref l∧y=.ref b∧H l=some (.lst xs)∧H b=some (.lst zs)∧xs.length+zs.length≤sizeLine∧∀ p,H p=none->Q (.ref p) (upd H p (.lst (xs++zs)))
theorem zdE:OpR X (binaryOp .Add) zt0:=by
 intro pins s σ H x y v u Q I rx ry h
 obtain ⟨l,b,xs,zs,rfl,rfl,hH,hB,hz,q⟩:=h
 cases rx
 cases ry
 obtain ⟨z,its,n,r,hl,e⟩:=I.lstM hH
 obtain ⟨z2,its2,n2,r2,hl2,e2⟩:=I.lstM hB
 refine PySem.P.add_list e e2 ?_ (by rw [List.size_toArray,List.size_toArray];omega)
 have ea:its.toArray++its2.toArray=(its++its2).toArray:=by simp
 rw [ea]
 exact ⟨.ref _,_,I.lnew (t':=s.toks) (r.append r2) (by rw [List.length_append];omega),rfl,q _ I.fresh⟩
def zt8:R2:=λx y H Q=>∃ l k xs,x=.ref l∧y=.int k∧H l=some (.lst xs)∧-(2^63)≤k∧k<2^63∧xs.length*k.toNat≤sizeLine ∧
 ∀ p,H p=none->Q (.ref p) (upd H p (.lst (List.replicate k.toNat xs).flatten))
theorem zrv {α:Type} (xs:List α) (k:Nat):(List.replicate k xs).flatten.length=k*xs.length:=by
 induction k with
 | zero=>simp
 | succ k ih=>rw [List.replicate_succ,List.flatten_cons,List.length_append,ih,Nat.succ_mul,Nat.add_comm]
theorem zik:OpR X (binaryOp .Mult) zt8:=by
 intro pins s σ H x y v u Q I rx ry h
 obtain ⟨l,k,xs,rfl,rfl,hH,h1,h2,hz,q⟩:=h
 cases rx
 obtain ⟨t,rfl⟩:=ry
 obtain ⟨z,its,n,r,hl,e⟩:=I.lstM hH
 have hlen:its.toArray.size*k.toNat≤sizeLine:=by rw [List.size_toArray,← hl];exact hz
 have hcap:¬ its.toArray.size*k.toNat > (2^63-1)/8:=by
  have:(sizeLine:Nat)≤(2^63-1)/8:=by decide
  omega
 have hfit:¬ (!Builtin.List.listFitsIndex k)=true:=by
  rw [fitsIndex_both h1 h2]
  exact Bool.false_ne_true
 have hlong:¬ Builtin.List.listTooLong (its.toArray.size*k.toNat)=true:=by
  rw [zlO hlen]
  exact Bool.false_ne_true
 have hnew:List.foldl (λx1 x2=>x1++x2) #[] (List.replicate (if its.toArray.isEmpty=true then 0 else k.toNat) its.toArray)=(List.replicate k.toNat its).flatten.toArray:=by
  have f0:∀ m:Nat,List.foldl (λx1 x2=>x1++x2) #[] (List.replicate m its.toArray)=(List.replicate m its).flatten.toArray:=λm=>by
   have:=zkg its m []
   rw [List.nil_append] at this
   exact this
  rw [f0]
  cases its with
  | nil=>simp
  | cons a r'=>rw [if_neg ↥5]
 refine wpAny_binaryOp_repeat_ref (T:="list") (U:="int") ⇑1 ⟨_,e,rfl⟩ (λs'=>typeIs_int s' k t) noFill_list_mul F.fills_int_mul F.slot_int_rmul repeat_list F.slot_int_index.lookup
  (call_meets F.slot_int_rmul (typeIs_int s k t) F.entry_int_rmul (F.args_int_rmul_2 _ _) (int___rmul___int_list k t l its.toArray n)
   ⟨e,rfl,⟨_,e,rfl⟩,call_meets F.slot_list_mul ⟨_,e,rfl⟩ F.entry_list_mul (F.args_list_mul_2 _ _) (AutoListH.list___mul___list_int_3 l its.toArray n k t hfit hcap hlong) ⟨e,?_⟩⟩)
 rw [hnew]
 exact ⟨.ref _,_,I.lnew (t':=s.toks) (r.rep k.toNat) (by rw [zrv,Nat.mul_comm];exact hz),rfl,q _ I.fresh⟩
end
section
variable {prog:Program} {w:World} {A:Around} {E:Value->Shared->Prop} {s:Shared}
end
section
variable {X:Cx}
end
end L2
namespace Att
open PySem PySem.W PySem.Calls PyProof.Rows
theorem zh5 {P:Params} {h:Heap}:∀ (ns:Ji) (vs:List Value),WellAll P h vs (ns.map WData.int)->IntsAre vs ns:=by
 intro ns
 induction ns with
 | nil =>
  intro vs w
  rw [List.map_nil] at w
  cases w
  exact .nil
 | cons n ns ih =>
  intro vs w
  rw [List.map_cons] at w
  cases w with
  | cons a b =>
   cases a
   exact .cons _ _ (ih _ b)
theorem zmw {l:OpenLaw} {n:Nat} (hn:l.most=some n) {P:Params} {h:Heap} {args:List WData} {vals:List Value}
  (hpre:l.row.toRowW.claim.pre args=true) (hwl:WellAll P h vals args) :
  ∃ a vs ns,vals=[Value.ref a]∧args=[WData.list (ns.map WData.int)]∧h.get? a=some { cls:=.type "list",data:=.seq vs.toArray }∧IntsAre vs ns∧ns.length≤n:=by
 have hsh:WShape.hasAll [] args [.list .int]=true:=(pre_splitW hpre).1
 have hc:l.pre.holds [] { args:=args }=true:=(pre_splitW hpre).2
 obtain ⟨d,r,rfl,h1,h2⟩:=hasAllW_cons hsh
 obtain rfl:=hasAllW_nil h2
 obtain ⟨xs,rfl,h3⟩:=hasW_list h1
 obtain ⟨ns,rfl⟩:=items_int h3
 have hlen:ns.length≤n:=by
  unfold OpenLaw.pre at hc
  have h4:(WTm.not (.lt (.lit (.int (n:Int))) (.len (.arg 0)))).holds [] { args:=[.list (ns.map .int)] }=true:=by
   have h4:=(holds_andW hc).1
   rw [hn] at h4
   exact h4
  have h5:=condW_of h4 (w_not (w_lt w_lit (w_len_list (w_arg rfl))))
  rw [List.length_map] at h5
  refine Nat.le_of_not_lt λq=>?_
  have q':(n:Int)<((ns.length:Nat):Int):=by omega
  first
   | (rw [decide_eq_true q'] at h5;exact absurd h5 ⇑1)
   | (simp at h5;omega)
 cases hwl with
 | cons w1 w2 =>
  cases w2
  cases w1 with
  | list ho hall=>exact ⟨_,_,ns,rfl,rfl,ho,zh5 ns _ hall,hlen⟩
theorem zos (l:OpenLaw) (args:List WData):l.row.toRowW.claim.post args (.bool true) args=true :=
 postW_of (r:=l.row.toRowW) (X:=(true == true))
  (show WShape.has [] (.bool true) .bool=true by first | rfl | decide | simp [WShape.has,WShape.arms,WShape.armsAll])
  (show (WTm.eq .res (.lit (.bool true))).value [] { args:=args,res:=some (.bool true),after:=args }=some (.bool (true == true)) from w_eq_bool (w_res rfl) w_lit) rfl
theorem attach_call {l:OpenLaw} {n:Nat} {q:Program} {loose:List Str} {XP:(Str->Option Value)->Heap->Prop} {YP:World->Heap->Prop} {d:DefRec}
  (hn:l.most=some n) (hdf:d.params.defaults=[])
  (call:∀ (w:World) (s₀ s₁:Shared) (mg mb:Str->Option Value) (fa:Addr) (o:Obj) (pm cd doc:Value) (a:Addr) (vs:List Value) (ns:Ji),
   Ground q loose [] XP w s₀ mg mb s₁.heap->YP w s₁.heap →
   s₁.heap.get? fa=some o->o.data=.func (docDef d.name d.params d.body d.scope pm cd doc)->s₁.heap.CodeRec cd d.name->mg d.name=some (.ref fa) →
   s₁.heap.get? a=some { cls:=.type "list",data:=.seq vs.toArray }->IntsAre vs ns->ns.length≤n->s₁.gens=#[] →
   codeAny (model l.prog w) callerA (.call (.ref fa) ⟨[.ref a],[]⟩) ↑264 s₁) :
  WalkO q loose XP YP l.row.toRowW d [] (λf vs=>PySem.call f vs):=by
 intro w s₀ s₁ mg mb G Y fa o pm cd doc dV kV ho hd hcd hD hmg hg args vals as hpre hlay hrd hwl hlo
 obtain rfl:dV=.none:=Dflts.none hD hdf
 obtain rfl:kV=.none:=Dflts.noKw hD
 obtain ⟨a,vs,ns,rfl,rfl,hobj,hints,hlen⟩:=zmw hn hpre hwl
 refine enter_call (codeAny_mono (call w s₀ s₁ mg mb fa o pm cd doc a vs ns G Y ho (fd_plain hd) hcd hmg hobj hints hlen hg) λr s' hq=>?_)
 obtain ⟨rfl,h2,h3,h4⟩:=hq
 exact ⟨.inl ⟨.bool true,.bool true,[],rfl,λ_=>rfl,.bool true,zos l _,λ_=>⟨List.Pairwise.nil,λ_ hm=>(nomatch hm)⟩⟩,h2,h3,h4⟩
section
variable {prog:Program} {w:World} {A:Around} {E:Value->Shared->Prop} {s:Shared} {K:Frag}
end
end Att
namespace L2
open PySem PySem.Spec PyProof.Rows
theorem zki:∀ {vs:List Value} {ns:Ji},IntsAre vs ns->zcn ↑47 vs
 | _,_,.nil=>.nil
 | _,_,.cons n t h=>.cons ⟨t,rfl⟩ (zki h)
def zui (H:Hp):Prop:=∀ b,H b=none∨∃ o xs,H b=some (.frz o (.lst xs))
theorem zpn {P:Program} {w:World} {K:W.Frag} {mg mb:Str->Option Value} {CX:CXT} {k:Nat} {fa a:Addr} {fd:FuncData} {x:Str} {sp:Sp} {s₁:Shared} {vs:List Value} {ns:Ji}
  (KX:K.In s₁.heap) (hns:s₁.heap.Ns mainGlobals mg) (hb:s₁.heap.Ns builtinsNs mb) (hbb:∀ x:Str,x≠"__name__"->mb x=bootBuiltins x) (hlim:s₁.heap.NoLimit) (hg:s₁.gens=#[])
  (ha:s₁.heap.get? a=some { cls:=.type "list",data:=.seq vs.toArray }) (hi:IntsAre vs ns) (hl:ns.length≤sizeLine) (hr:Room k callerA)
  (F:∀ base:Heap,K.In base->base.Ns mainGlobals mg->FnOk P w K mg base CX k fa fd [x] sp) (hbind:∀ (s:Shared) (u:Value),BindsTo s fd ⟨[u],[]⟩ [(x,u)])
  (hsp:∀ H:Hp,zui H->SqL K H a ↑47->sp [.ref a] H (λv _=>v=.bl true) λ_ _ _=>False)
  (hCX:∀ H e s',CX [] H s₁ (λ_ _ _=>False) e s'->False) :
  codeAny (model P w) callerA (.call (.ref fa) ⟨[.ref a],[]⟩) ↑264 s₁:=by
 have rv:=zki hi
 have lenV:=hi.length
 have core:∀ H:Hp,zui H->SqL K H a ↑47->HOk P w H s₁.heap->(∀ b,H b≠none->b=a)->(H a≠none->K.lookup a=none) →
   codeAny (model P w) callerA (.call (.ref fa) ⟨[.ref a],[]⟩) ↑264 s₁:=by
  intro H hO hS hok hA hK
  have base_of:∀ {b:Addr} {o:Obj},s₁.heap.get? b=some o->H b=none->((zpt s₁.heap H)).get? b=some o:=λe n=>zpk e n
  have noA:∀ {b:Addr} {o:Obj} {es:Array DictEntry} {ep:Nat},s₁.heap.get? b=some o->o.data=.dict es ep->H b=none:=λ{b o es ep} e d=>by
   cases q:H b with
   | none=>rfl
   | some u =>
    have e':b=a:=hA b (by rw [q];simp)
    subst e'
    rw [ha] at e;cases e
    have d':Data.seq vs.toArray _=Data.dict es ep:=d
    cases d'
  have nsK:∀ {b:Addr} {m:Str->Option Value},s₁.heap.Ns b m->((zpt s₁.heap H)).Ns b m:=λ{b m} ⟨o,es,ep,e,d,r⟩=>⟨o,es,ep,base_of e (noA e d),d,r⟩
  have hKb:K.In (zpt s₁.heap H):=λb o e=>base_of (KX b o e) (by
   cases q:H b with
   | none=>rfl
   | some u =>
    have e':b=a:=hA b (by rw [q];simp)
    subst e'
    rw [hK (by rw [q];simp)] at e;cases e)
  have hM:Mod K mg (zpt s₁.heap H):=⟨hKb,nsK hns,⟨mb,nsK hb,hbb⟩,let ⟨mc,h1,h2⟩:=hlim;⟨mc,nsK h1,h2⟩⟩
  have e0:Env0 P w K mg (zpt s₁.heap H) callerA [] s₁ H:=⟨rfl,hM,λb o e=>zry e,Nat.le_of_eq (zng _ _),trivial,λb hb=>absurd (show b∈([]:List Addr) from hb) ↥5,hok,.of_eq hg⟩
  refine codeAny_mono ((F _ hKb (nsK hns)).run callerA [] s₁ H ⟨[.ref a],[]⟩ [.ref a] [.ref a] _ _ hr e0 (hbind s₁ (.ref a)) (.cons rfl .nil) (hsp H hO hS)) λr s' h=>?_
  cases r with
  | error e=>exact (hCX H e s' h).elim
  | ok fl =>
   cases fl with
   | next=>exact False.elim h
   | brk=>exact False.elim h
   | cont=>exact False.elim h
   | ret u =>
    obtain ⟨v,H',os,bare,un,hok',r',q⟩:=h
    have q':v=.bl true:=q
    subst q'
    obtain rfl:u=Value.bool true:=r'
    refine ⟨rfl,OldK.of_keep λb o e=>?_,os,bare⟩
    cases q:H b with
    | none=>exact un.keep b o e q (by intro z;exact absurd (show b∈([]:List Addr) from z) ↥5) ↥5
    | some u =>
     rcases hO b with z | ⟨ob,xs,z⟩
     ·rw [q] at z;cases z
     ·have z2:=un.frzs b ob _ z
      obtain ⟨e1,_⟩:=hok b _ z
      obtain ⟨e2,_⟩:=hok' b _ z2
      rw [e] at e1;cases e1
      exact e2
 cases hk:K.lookup a with
 | some o =>
  have e:=KX a o hk
  rw [ha] at e
  cases e
  refine core (λ_=>none) (λ_=>.inl rfl) (.inr ⟨_,vs.toArray,_,hk,rfl,rfl,rfl,by rw [List.size_toArray,lenV];exact hl,by simpa using rv⟩) (λb u z=>by have z':(none:Option HO)=some u:=z;cases z') (λb z=>absurd rfl z) λz=>absurd rfl z
 | none =>
  refine core (λb=>if b=a then some (.frz { cls:=.type "list",data:=.seq vs.toArray } (.lst ↑47)) else none) (λb=>?_) (.inl (.inr ⟨{ cls:=.type "list",data:=.seq vs.toArray },if_pos rfl⟩)) (λb u z=>?_) (λb z=>?_) λ_=>hk
  ·by_cases hb:b=a
   ·exact .inr ⟨_,_,if_pos hb⟩
   ·exact .inl (if_neg hb)
  ·by_cases hb:b=a
   ·have z':=(if_pos hb).symm.trans z
    cases z'
    subst hb
    exact ⟨ha,by rw [List.length_map];exact hl,vs,_,rv,ha⟩
   ·have z':=(if_neg hb).symm.trans z
    cases z'
  ·by_cases hb:b=a
   ·exact hb
   ·exact absurd (if_neg hb) z
end L2
namespace L2
open PySem PySem.Spec PyProof.Rows
theorem zqF {l:W.OpenLaw} {n k:Nat} {q:Program} {loose:List Str} {XP:(Str->Option Value)->Heap->Prop} {YP:World->Heap->Prop} {d:DefRec} {K:Params->W.Frag} {CX:World->CXT} {sp:World->Sp} {x:Str}
  (hn:l.most=some n) (hn2:n≤sizeLine) (hdf:d.params.defaults=[]) (hr:Room k callerA)
  (hY:∀ (w:World) (h:Heap),YP w h->(K w.params).In h)
  (F:∀ (w:World) (mg:Str->Option Value) (fa:Addr) (h:Heap),(K w.params).In h->h.Ns mainGlobals mg->mg d.name=some (.ref fa) →
   ∃ fd:FuncData,(∀ (s:Shared) (u:Value),BindsTo s fd ⟨[u],[]⟩ [(x,u)]) ∧
    ∀ base:Heap,(K w.params).In base->base.Ns mainGlobals mg->FnOk l.prog w (K w.params) mg base (CX w) k fa fd [x] (sp w))
  (hsp:∀ (w:World) (H:Hp) (a:Addr) (ns:Ji),ns.length≤n->zui H->SqL (K w.params) H a ↑47->sp w [.ref a] H (λv _=>v=.bl true) λ_ _ _=>False)
  (hCX:∀ (w:World) (H:Hp) (s:Shared) (e:Value) (s':Shared),CX w [] H s (λ_ _ _=>False) e s'->False) :
  W.WalkO q loose XP YP l.row.toRowW d [] (λf vs=>PySem.call f vs):=by
 refine Att.attach_call hn hdf λw s₀ s₁ mg mb fa o pm cd doc a vs ns G Y ho hd hcd hmg hobj hints hlen hg=>?_
 have KX:=hY w _ Y
 obtain ⟨fd,hb,hF⟩:=F w mg fa _ KX G.T.g hmg
 exact zpn KX G.T.g G.T.b G.T.builtins G.T.nolimit hg hobj hints (Nat.le_trans hlen hn2) hr hF hb (λH hO hS=>hsp w H a ns hlen hO hS) λH e s'=>hCX w H s₁ e s'
end L2
namespace L2
open PySem PySem.Spec PyProof.Rows
def zgt (s:Stmt) (j:Nat):Stmt:=match s with
 | .ClassDef _ _ _ body _ _ _ _ _ _ _=>body.getD j (.Pass ⟨0,0,0,0⟩)
 | _=>.Pass ⟨0,0,0,0⟩
def zaE (s:Stmt):Arguments:=match s with
 | .FunctionDef _ a _ _ _ _ _ _ _ _=>a
 | _=>{ posonlyargs:=[],args:=[],vararg:=none,kwonlyargs:=[],kw_defaults:=[],kwarg:=none,defaults:=[] }
def zaA (s:Stmt):List Stmt:=match s with
 | .FunctionDef _ _ b _ _ _ _ _ _ _=>b
 | _=>[]
def zad (s:Stmt):Scope:=match s with
 | .FunctionDef _ _ _ _ _ _ sc _ _ _=>sc
 | _=>{ kind:=.function,names:=[],isGenerator:=false,isCoroutine:=false }
abbrev E0:XK:=λ_ _ _=>False
structure Fun (K:W.Frag) (x qual:Str) (st:Stmt) (f:Addr) (fd:FuncData):Prop where
 ex:∃ (oc:Value) (od:Option Addr) (kV doc pm:Value) (an:Option Addr) (cdv ct:Value) (osl:Array (Option Value)),
  fd=W.fnOf x qual (zaE st) (zaA st) (zad st) .none kV doc pm an cdv ct∧K.lookup f=some ⟨oc,od,.func fd,osl⟩∧W.codeIn K cdv qual=true
 kp:W.keepIn K (.ref f)=true
section
variable {P:Program} {w:World} {K:W.Frag} {mg:Str->Option Value} {base:Heap}
theorem Fun.binds {x qual:Str} {st:Stmt} {f:Addr} {fd:FuncData} {ps:List Str} (F:Fun K x qual st f fd)
  (h:∀ (kV doc pm:Value) (an:Option Addr) (cdv ct:Value) (us:List Value),us.length=ps.length->bindArgs (W.fnOf x qual (zaE st) (zaA st) (zad st) .none kV doc pm an cdv ct) ⟨us,[]⟩=pure (ps.zip us)):zgl K fd ps []:=by
 obtain ⟨oc,od,kV,doc,pm,an,cdv,ct,osl,rfl,lk,hcd⟩:=F.ex
 exact .all (h kV doc pm an cdv ct)
theorem za0 {x qual:Str} {st:Stmt} {f:Addr} {oc:Value} {od an:Option Addr} {osl:Array (Option Value)} {kV doc pm cdv ct:Value} (l:K.lookup f=some ⟨oc,od,.func (W.fnOf x qual (zaE st) (zaA st) (zad st) .none kV doc pm an cdv ct),osl⟩)
  (c:W.codeIn K cdv qual=true) (k:W.keepIn K (.ref f)=true):Fun K x qual st f (W.fnOf x qual (zaE st) (zaA st) (zad st) .none kV doc pm an cdv ct):=⟨⟨oc,od,kV,doc,pm,an,cdv,ct,osl,rfl,l,c⟩,k⟩
end
section
variable {X:Cx}
theorem pv (i:Nat) {x:Str} {pos:Pos} (hN:X.N[i]?=some x:=by rfl) (hv:Vis X.env.scope x:=by first | exact Or.inl rfl | exact Or.inr ⇑0 | exact Or.inr ↥3) (hd:↑45=false:=by decide)
  (hcd:(x == ("__classdict__" :Str))=false:=by decide):PE X (.Name x pos) (zg1 i):=zpI hN hv hd hcd
end
def Same (H H':Hp):Prop:=∀ b o,H b=some o->H' b=some o
theorem Same.refl (H:Hp):Same H H:=λ_ _ h=>h
theorem Same.trans {H H1 H2:Hp} (a:Same H H1) (b:Same H1 H2):Same H H2:=λc o h=>b c o (a c o h)
theorem Same.free {H H':Hp} (e:Same H H') {l:Addr} (h:H' l=Option.none):H l=Option.none:=by
 cases q:H l with
 | none=>rfl
 | some o =>
  rw [e l o q] at h
  cases h
theorem Same.seq {K:W.Frag} {H H':Hp} {a:Addr} {xs:List V} (e:Same H H') (h:SqL K H a xs):SqL K H' a xs:=by
 rcases h with (h | ⟨o,h⟩) | h
 ·exact .inl (.inl (e _ _ h))
 ·exact .inl (.inr ⟨o,e _ _ h⟩)
 ·exact .inr h
end L2
namespace L2
open PySem PySem.Spec PyProof.Rows
theorem zg8 {env:Env}:∀ (names:List (Str×NameKind)) (acc:List ↑33),(∀ x∈names,x.2=.free->∃ c,env.cells.lookup x.1=some c) →
  ∃ cl:List ↑33,(forIn (m:=Sem) names acc λ(x:Str×NameKind) (cs:List ↑33)=>if (x.2 == NameKind.free)=true then (do let a ← cellOf env x.1;pure (ForInStep.yield ((x.1,a) :: cs))) else pure (ForInStep.yield cs))=pure cl ∧
   (∀ x c,cl.lookup x=some c->acc.lookup x=some c∨env.cells.lookup x=some c)∧(∀ x,((x,NameKind.free)∈names∨∃ c,acc.lookup x=some c)->∃ c,cl.lookup x=some c)
 | [],acc,_=>⟨acc,rfl,λ_ _ h=>.inl h,λx h=>by
   rcases h with h | h
   ·cases h
   ·exact h⟩
 | (n,k) :: r,acc,h=>by
  have hr:∀ x∈r,x.2=.free->∃ c,env.cells.lookup x.1=some c:=λx hx=>h x (List.mem_cons_of_mem _ hx)
  by_cases hk:k=.free
  ·subst hk
   obtain ⟨c,hc⟩:=h (n,.free) List.mem_cons_self rfl
   obtain ⟨cl,e,h1,h2⟩:=zg8 r ((n,c) :: acc) hr
   refine ⟨cl,?_,λx c' q=>?_,λx q=>?_⟩
   ·rw [List.forIn_cons]
    have e1:cellOf env n=pure c:=by unfold cellOf;rw [hc]
    simp only [beq_self_eq_true,if_true,e1]
    exact e
   ·rcases h1 x c' q with z | z
    ·rw [List.lookup_cons] at z
     cases hx:x == n with
     | true =>
      rw [hx] at z
      have z':some c=some c':=z
      cases z'
      have:x=n:=eq_of_beq hx
      subst this
      exact .inr hc
     | false=>rw [hx] at z;exact .inl z
    ·exact .inr z
   ·refine h2 x ?_
    by_cases hx:x=n
    ·subst hx
     exact .inr ⟨c,by rw [List.lookup_cons];simp⟩
    ·rcases q with q | ⟨c',q⟩
     ·rcases List.mem_cons.mp q with q | q
      ·exact absurd (congrArg Prod.fst q) hx
      ·exact .inl q
     ·refine .inr ⟨c',?_⟩
      have:(x == n)=false:=by simpa using hx
      rw [List.lookup_cons,this]
      exact q
  ·obtain ⟨cl,e,h1,h2⟩:=zg8 r acc hr
   refine ⟨cl,?_,h1,λx q=>h2 x ?_⟩
   ·rw [List.forIn_cons]
    have e1:(k == NameKind.free)=false:=by simpa using hk
    simp only [e1,Bool.false_eq_true,if_false]
    exact e
   ·rcases q with q | q
    ·rcases List.mem_cons.mp q with q | q
     ·exact absurd (congrArg Prod.snd q).symm hk
     ·exact .inl q
    ·exact .inr q
theorem zlW {scope:Scope} {env:Env} (h:∀ x∈scope.names,x.2=.free->∃ c,env.cells.lookup x.1=some c) :
  ∃ cl,closureFor scope env=pure cl∧(∀ x c,cl.lookup x=some c->env.cells.lookup x=some c)∧∀ x,(x,NameKind.free)∈scope.names->∃ c,cl.lookup x=some c:=by
 obtain ⟨cl,e,h1,h2⟩:=zg8 (env:=env) scope.names [] h
 refine ⟨cl,?_,λx c q=>(h1 x c q).elim (λz=>by cases z) id,λx q=>h2 x (.inl q)⟩
 have e2:closureFor scope env=(forIn (m:=Sem) scope.names [] λ(x:Str×NameKind) (cs:List ↑33)=>if (x.2 == NameKind.free)=true then (do let a ← cellOf env x.1;pure (ForInStep.yield ((x.1,a) :: cs))) else pure (ForInStep.yield cs)) >>= λr=>pure r:=by
  unfold closureFor
  rfl
 rw [e2,e]
 rfl
theorem zec {env:Env}:∀ {names:List (Str×NameKind)} {x:Str} {k:NameKind},
  (names.map λ(n,k)=>if (k==NameKind.free && env.scope.kind== .function && env.kindOf n==some .cell) then (n,NameKind.cell) else (n,k)).lookup x=some k →
   names.lookup x=some k∨(k=.cell∧names.lookup x=some .free)
 | [],_,_,h=>by simp at h
 | (n,k') :: r,x,k,h=>by
  have ih:=@zec env r x k
  have h:List.lookup x ((if ↑267=true then (n,NameKind.cell) else (n,k')) :: _)=some k:=h
  cases hx:x == n with
  | true =>
   by_cases hc:↑267=true
   ·rw [if_pos hc] at h
    simp only [List.lookup_cons,hx] at h
    cases h
    simp only [Bool.and_eq_true,beq_iff_eq] at hc
    refine .inr ⟨rfl,?_⟩
    simp [List.lookup_cons,hx,hc.1.1]
   ·rw [if_neg hc] at h
    simp only [List.lookup_cons,hx] at h
    cases h
    exact .inl (by simp [List.lookup_cons,hx])
  | false =>
   have h':(r.map λ(n,k)=>if (k==NameKind.free && env.scope.kind== .function && env.kindOf n==some .cell) then (n,NameKind.cell) else (n,k)).lookup x=some k:=by
    by_cases hc:↑267=true
    ·rw [if_pos hc] at h
     simpa only [List.lookup_cons,hx] using h
    ·rw [if_neg hc] at h
     simpa only [List.lookup_cons,hx] using h
   simpa only [List.lookup_cons,hx] using ih h'
theorem zgd:∀ (names:List (Str×NameKind)) (a:Nat) (acc:List ↑33) (x:Str) (c:Addr),((cellsFrom a names acc)).lookup x=some c->((x,NameKind.cell)∈names∧a≤c)∨((x,NameKind.cell) ∉ names∧acc.lookup x=some c)
 | [],_,_,_,_,h=>.inr ⟨by simp,h⟩
 | (n,k) :: r,a,acc,x,c,h=>by
  unfold cellsFrom at h
  by_cases hk:k=.cell
  ·subst hk
   rw [if_pos (by rfl)] at h
   rcases zgd r (a+1) ((n,a) :: acc) x c h with ⟨h1,h2⟩ | ⟨h1,h2⟩
   ·exact .inl ⟨List.mem_cons_of_mem _ h1,Nat.le_of_succ_le h2⟩
   ·rw [List.lookup_cons] at h2
    cases hx:x == n with
    | true =>
     rw [hx] at h2
     have h2:some a=some c:=h2
     cases h2
     rw [eq_of_beq hx]
     exact .inl ⟨List.mem_cons_self,Nat.le_refl _⟩
    | false =>
     rw [hx] at h2
     refine .inr ⟨λz=>?_,h2⟩
     rcases List.mem_cons.mp z with z | z
     ·have:=congrArg Prod.fst z
      have:x=n:=this
      rw [this] at hx
      simp at hx
     ·exact h1 z
  ·have hk':(k == NameKind.cell)=false:=by simpa using hk
   rw [hk',if_neg ↥5] at h
   rcases zgd r a acc x c h with ⟨h1,h2⟩ | ⟨h1,h2⟩
   ·exact .inl ⟨List.mem_cons_of_mem _ h1,h2⟩
   ·refine .inr ⟨λz=>?_,h2⟩
    rcases List.mem_cons.mp z with z | z
    ·exact hk (congrArg Prod.snd z).symm
    ·exact h1 z
theorem zh7:∀ (names:List (Str×NameKind)) (a:Nat) (acc:List ↑33) (x:Str),((x,NameKind.cell)∈names∨∃ c,acc.lookup x=some c)->∃ c,((cellsFrom a names acc)).lookup x=some c
 | [],_,_,_,h=>by
  rcases h with h | h
  ·simp at h
  ·exact h
 | (n,k) :: r,a,acc,x,h=>by
  unfold cellsFrom
  by_cases hk:k=.cell
  ·subst hk
   rw [if_pos (by rfl)]
   refine zh7 r (a+1) ((n,a) :: acc) x ?_
   by_cases hx:x=n
   ·subst hx
    exact .inr ⟨a,by rw [List.lookup_cons];simp⟩
   ·rcases h with h | ⟨c,h⟩
    ·rcases List.mem_cons.mp h with h | h
     ·exact absurd (congrArg Prod.fst h) hx
     ·exact .inl h
    ·refine .inr ⟨c,?_⟩
     have:(x == n)=false:=by simpa using hx
     rw [List.lookup_cons,this]
     exact h
  ·have hk':(k == NameKind.cell)=false:=by simpa using hk
   rw [hk',if_neg ↥5]
   refine zh7 r a acc x ?_
   rcases h with h | h
   ·rcases List.mem_cons.mp h with h | h
    ·exact absurd (congrArg Prod.snd h).symm hk
    ·exact .inl h
   ·exact .inr h
theorem zgR:∀ (names:List (Str×NameKind)) (a:Nat) (acc acc':List ↑33) (x:Str),((x,NameKind.cell)∈names∨acc.lookup x=acc'.lookup x)->((cellsFrom a names acc)).lookup x=(cellsFrom a names acc').lookup x
 | [],_,_,_,_,h=>by
  rcases h with h | h
  ·simp at h
  ·exact h
 | (n,k) :: r,a,acc,acc',x,h=>by
  unfold cellsFrom
  by_cases hk:k=.cell
  ·subst hk
   rw [if_pos (by rfl),if_pos (by rfl)]
   refine zgR r (a+1) _ _ x ?_
   by_cases hx:x=n
   ·subst hx
    exact .inr (by rw [List.lookup_cons,List.lookup_cons];simp)
   ·have hx':(x == n)=false:=by simpa using hx
    rcases h with h | h
    ·rcases List.mem_cons.mp h with h | h
     ·exact absurd (congrArg Prod.fst h) hx
     ·exact .inl h
    ·exact .inr (by rw [List.lookup_cons,List.lookup_cons,hx'];exact h)
  ·have hk':(k == NameKind.cell)=false:=by simpa using hk
   rw [hk',if_neg ↥5,if_neg ↥5]
   refine zgR r a _ _ x ?_
   rcases h with h | h
   ·rcases List.mem_cons.mp h with h | h
    ·exact absurd (congrArg Prod.snd h).symm hk
    ·exact .inl h
   ·exact .inr h
theorem zfk {M:Model} {A:Around} {E:Value->Shared->Prop} {s:Shared} {scope:Scope} {globals:Addr} {closure:List ↑33} {qual:Str} {func:Option Addr} {code:Value} {outer:Env} {builtins:Addr} {Q:Env->Shared->Prop}
  (hQ:∀ h',h'.Ns s.heap.objs.size (λ_=>none)->(∀ b o,s.heap.get? b=some o->h'.get? b=some o) →
   (∀ x c,(x,NameKind.cell)∈scope.names->(cellsFrom ↑32 scope.names closure).lookup x=some c->h'.IsCell c none) →
   Q (newEnv scope s.heap.objs.size globals (cellsFrom ↑32 scope.names closure) qual func code (some outer) builtins) { s with heap:=h' }) :
  wpAny M A (newFunctionEnv scope globals closure [] qual func code (some outer) builtins) Q E s:=by
 simp only [newFunctionEnv,Option.isSome_some,if_true]
 refine wpAny_bind (wpAny_alloc ?_)
 refine wpAny_bind (wpAny_layCells _ (λname kind cells=>by cases hkc:kind == NameKind.cell<;>simp [hkc]) _ _ _ _ ?_)
 have ok:=cellsFrom_ok scope.names (s.heap.push { cls:=.type "dict",data:=.dict #[] }) ↑32 [] ⟨λ_ _ hm=>(nomatch hm),List.Pairwise.nil⟩ (by rw [Heap.size_push];exact Nat.le_refl _)
 rw [Heap.size_push] at ok
 rw [show ({ s with heap:=s.heap.push { cls:=.type "dict",data:=.dict #[] } }:Shared).heap.objs.size=s.heap.objs.size+1 from Heap.size_push ..]
 simp only [List.forIn_nil]
 refine wpAny_bind (wpAny_pure (wpAny_pure (hQ _ ((Heap.Ns.new s.heap (.type "dict")).keeps (pushCells_keeps _ _)) (λb o e=>pushCells_keeps _ _ b o (Heap.get?_push_of_some _ e)) λx c hx hc=>?_)))
 rw [zgR _ _ closure [] x (.inl hx)] at hc
 exact (ok.empty x c (PySem.mem_of_lookup hc)).1
def zcw (X:Cx) (N':List Str) (scope:Scope) (cl:List ↑33) (C:Addr) (fp:List Addr) (s:Shared) (H:Hp):Cx where
 prog:=X.prog
 w:=X.w
 K:=X.K
 mg:=X.mg
 base:=X.base
 A:=X.A
 N:=N'
 s₀:=s
 H₀:=H
 env:=compEnvC scope cl C X.env
 outer:=X.stack
 stack:=X.stack
 ex:=fp
 fn:=λx=>scope.names.lookup x == some .cell
 calm:=true
 pn:=X.pn
 xe:=λ_ _=>False
def zh3 (own:Nat) (fv:List Nat) (σ:St):St:=List.replicate own none++fv.map λi=>(σ[i]?).join
structure BlkScope (X:Cx) (scope:Scope) (own fvn:List Str) (fv:List Nat):Prop where
 cell:∀ y∈scope.names,y.2=.cell->scope.names.lookup y.1=some .cell
 fre:∀ y∈scope.names,y.2=.free->scope.names.lookup y.1=some .free
 kind:scope.kind=.function
 names:∀ y∈scope.names,y.2=.local->scope.names.lookup y.1=some .local
 free:∀ y∈scope.names,y.2=.free->X.env.scope.names.lookup y.1=some .cell∨X.env.scope.names.lookup y.1=some .free
 map:fvn.map some=fv.map λi=>X.N[i]?
 vis:∀ x∈fvn,scope.names.lookup x=some .free
section
variable {X:Cx} {pins:List ⇑2} {σ:St} {H:Hp} {s:Shared}
def zpb (X:Cx) (scope:Scope) (cl:List ↑33) (C:Addr):Prop:=(∀ x c,cl.lookup x=some c->(X.env.cells.lookup x=some c∧scope.names.lookup x≠some .cell)∨(C<c∧scope.names.lookup x=some .cell)) ∧
 (∀ x y c,C<c->cl.lookup x=some c->cl.lookup y=some c->x=y)∧∀ x,((x,NameKind.free)∈scope.names∨(x,NameKind.cell)∈scope.names)->∃ c,cl.lookup x=some c
theorem zsm {scope:Scope} {own fvn:List Str} {fv:List Nat} {cl:List ↑33} {C:Addr} (B:BlkScope X scope own fvn fv) (h1:∀ x c,cl.lookup x=some c->X.env.cells.lookup x=some c) (h2:∀ x,(x,NameKind.free)∈scope.names->∃ c,cl.lookup x=some c)
  (hlt:∀ x c,X.env.cells.lookup x=some c->c≤C):zpb X scope (cellsFrom (C+1) scope.names cl) C:=by
 refine ⟨λx c e=>?_,λx y c hc e1 e2=>?_,λx hx=>?_⟩
 ·rcases zgd _ _ _ _ _ e with ⟨z1,z2⟩ | ⟨z1,z2⟩
  ·exact .inr ⟨z2,B.cell _ z1 rfl⟩
  ·exact .inl ⟨h1 x c z2,λq=>z1 (PySem.mem_of_lookup q)⟩
 ·have key:∀ x,(cellsFrom (C+1) scope.names cl).lookup x=some c->(x,c)∈cellsFrom (C+1) scope.names []:=λx e=>by
   rcases zgd _ _ _ _ _ e with ⟨z1,z2⟩ | ⟨z1,z2⟩
   ·rw [zgR _ _ cl [] x (.inl z1)] at e
    exact PySem.mem_of_lookup e
   ·exact absurd (hlt x c (h1 x c z2)) (Nat.not_le.mpr hc)
  have ap:∀ (names:List (Str×NameKind)) (a:Nat) (acc:List ↑33),(∀ e∈acc,e.2<a)->(acc.Pairwise λx y=>x.2≠y.2)->((cellsFrom a names acc)).Pairwise λx y=>x.2≠y.2:=by
   intro names
   induction names with
   | nil=>intro a acc _ h;exact h
   | cons nk r ih =>
    intro a acc h h'
    obtain ⟨n,k⟩:=nk
    unfold cellsFrom
    split
    ·refine ih (a+1) _ (λe he=>?_) (List.pairwise_cons.mpr ⟨λy hy=>Nat.ne_of_gt (h y hy),h'⟩)
     rcases List.mem_cons.mp he with rfl | he
     ·exact Nat.lt_succ_self _
     ·exact Nat.lt_succ_of_lt (h e he)
    ·exact ih a acc h h'
  exact PySem.name_of_addr (ap scope.names (C+1) [] ↥5 .nil) (key x e1) (key y e2)
 ·refine zh7 _ _ _ _ ?_
  rcases hx with hx | hx
  ·exact .inr (h2 x hx)
  ·exact .inl hx
theorem zpj {scope:Scope} {own fvn:List Str} {fv:List Nat} {cl:List ↑33} {C:Addr} {fp:List Addr} (I:Inv X pins σ H s) (B:BlkScope X scope own fvn fv) (hc:X.calm=true)
  (hb:zpb X scope cl C)
  (hC:s.heap.objs.size≤C) (hf:∀ b∈fp,zlq X pins H b) (hl:∀ b∈fp,b<s.heap.objs.size):(↑77).Ok where
 mod:=I.ok.mod
 kind:=B.kind
 glob:=I.ok.glob
 blt:=I.ok.blt
 above:=hC
 inj:=λx y c e1 e2=>by
  have lt:∀ z,X.env.cells.lookup z=some c->c<s.heap.objs.size:=λz e=>by obtain ⟨v,q⟩:=I.cell z c e;exact q.lt
  rcases hb.1 x c e1 with ⟨z1,_⟩ | ⟨z1,_⟩
  ·rcases hb.1 y c e2 with ⟨z2,_⟩ | ⟨z2,_⟩
   ·exact I.ok.inj x y c z1 z2
   ·exact absurd (Nat.lt_of_lt_of_le (lt x z1) hC) (Nat.not_lt.mpr (Nat.le_of_lt z2))
  ·exact hb.2.1 x y c z1 e1 e2
 has:=λx hx=>by
  have hx:(↑263).lookup x=some .cell ∨
   (↑263).lookup x=some .free:=hx
  refine hb.2.2 x ?_
  rcases hx with hx | hx
  ·rcases zec hx with z | ⟨_,z⟩
   ·exact .inr (PySem.mem_of_lookup z)
   ·exact .inl (PySem.mem_of_lookup z)
  ·rcases zec hx with z | ⟨z,_⟩
   ·exact .inl (PySem.mem_of_lookup z)
   ·cases z
 cab:=λx c h e=>by
  have h:(scope.names.lookup x == some NameKind.cell)=true:=h
  rcases hb.1 x c e with ⟨_,z⟩ | ⟨z,_⟩
  ·exact absurd (eq_of_beq h) z
  ·exact Nat.le_trans hC (Nat.le_of_lt z)
 hd:=λ_=>I.ok.hd hc
 frames:=I.ok.frames
 stk:=.inl rfl
 exf:=λb hb'=>⟨Nat.ne_of_lt (Nat.lt_of_lt_of_le (hl b hb') hC),λx c e=>by
  rcases hb.1 x c e with ⟨z,_⟩ | ⟨z,_⟩
  ·exact (hf b hb').2.2.2.2.1 x c z
  ·exact Nat.ne_of_gt (Nat.lt_trans (Nat.lt_of_lt_of_le (hl b hb') hC) z)⟩
 bs:=I.bs
 bsz:=Nat.le_trans I.ok.bsz I.sz
 noex:=λb o e hb=>by
  rcases (hf b hb).2.2.2.1 with z | z
  ·exact I.ok.noex b o e z
  ·exact absurd (Nat.lt_of_lt_of_le (Heap.lt_size ((I.ok.bs b o e)).1) z) ↑151
 exfs:=λb hb z=>by
  rcases List.mem_cons.mp (I.stkSub b z) with q | q
  ·exact (hf b hb).2.1 q
  ·exact (hf b hb).2.2.1 q
 funs:=I.stack
 frf:=I.stkFree
theorem zqw {own:List Str} {fvn:List Str} {fv:List Nat} {i:Nat} {x:Str} {v:V} (hm:fvn.map some=fv.map λi=>X.N[i]?) (h1:(own++fvn)[i]?=some x) (h2:((zh3 own.length fv σ))[i]?=some (some v)) :
  x∈fvn∧∃ j:Nat,X.N[j]?=some x∧σ[j]?=some (some v):=by
 unfold zh3 at h2
 by_cases hi:i<own.length
 ·rw [List.getElem?_append_left ↑56,List.getElem?_replicate] at h2
  split at h2<;>cases h2
 ·rw [List.getElem?_append_right ↑56,List.length_replicate,List.getElem?_map] at h2
  rw [List.getElem?_append_right ↑56] at h1
  have q:(fvn.map some)[i-own.length]?=(fv.map λi=>X.N[i]?)[i-own.length]?:=by rw [hm]
  rw [List.getElem?_map,List.getElem?_map,h1] at q
  cases e:fv[i-own.length]? with
  | none=>rw [e] at h2;cases h2
  | some j =>
   rw [e] at h2 q
   have q':X.N[j]?=some x:=(Option.some.inj q).symm
   have h2':(σ[j]?).join=some v:=Option.some.inj h2
   refine ⟨List.mem_of_getElem? h1,j,q',?_⟩
   cases e2:σ[j]? with
   | none=>rw [e2] at h2';cases h2'
   | some o =>
    rw [e2] at h2'
    have:o=some v:=h2'
    rw [this]
theorem zkx {scope:Scope} {own fvn:List Str} {fv:List Nat} {cl:List ↑33} {C D:Addr} {fp:List Addr} {h':Heap} {t':Nat} {m:Str->Option Value} (I:Inv X pins σ H s) (B:BlkScope X scope own fvn fv) (hc:X.calm=true)
  (hb:zpb X scope cl C) (hnew:∀ x c,C<c->cl.lookup x=some c->h'.IsCell c none)
  (hf:∀ b∈fp,zlq X pins H b) (hl:∀ b∈fp,b<s.heap.objs.size) (hD:s.heap.objs.size≤D) (hC:s.heap.objs.size≤C) (hDC:D<C)
  (k:∀ b o,s.heap.get? b=some o->h'.get? b=some o) (hn:h'.Ns C m) (ho:h'.get? D=some { cls:=.type "list",data:=.seq #[] 0 }) :
  Inv ↑77 pins (zh3 own.length fv σ) (upd H D (.lst [])) { s with heap:=h',toks:=t' }:=by
 have hDn:H D=none:=I.hok.fresh hD
 have hCn:H C=none:=I.hok.fresh hC
 have lt:∀ b o,s.heap.get? b=some o->b≠D:=λb o e=>Nat.ne_of_lt (Nat.lt_of_lt_of_le ↑104 hD)
 refine ⟨zpj I B hc hb hC hf hl,rfl,I.bare,Un.laid k hD hDn,⟨m,hn,λi x v e1 e2 e3=>?_⟩,λx c e=>?_,?_,λx c e=>?_,λp hp=>?_,?_,?_⟩
 ·obtain ⟨hx,j,e4,e5⟩:=zqw B.map e1 e2
  have hfr:=B.vis x hx
  obtain ⟨c,hcl⟩:=hb.2.2 x (.inl (PySem.mem_of_lookup hfr))
  have h1x:X.env.cells.lookup x=some c:=by
   rcases hb.1 x c hcl with ⟨z,_⟩ | ⟨_,z⟩
   ·exact z
   ·rw [hfr] at z;cases z
  obtain ⟨m0,hn0,hl0⟩:=I.loc
  have ok:=B.free _ (PySem.mem_of_lookup hfr) rfl
  have hv:Vis X.env.scope x:=by
   rcases ok with z | z
   ·exact .inr (.inl z)
   ·exact .inr (.inr z)
  obtain ⟨u,r,l⟩:=hl0 j x v e4 e5 hv
  refine ⟨u,r,.inr ⟨?_,c,hcl,?_⟩⟩
  ·rcases e3 with z | z | z
   ·have z':(↑263).lookup x=some .local:=z
    rcases zec z' with y | ⟨y,_⟩
    ·rw [hfr] at y;cases y
    ·cases y
   ·exact .inl z
   ·exact .inr z
  ·rcases l with ⟨k0,_⟩ | ⟨_,c',e6,o,ho',hd⟩
   ·have k0':X.env.scope.names.lookup x=some .local:=k0
    rcases ok with z | z<;>(rw [k0'] at z;cases z)
   ·rw [h1x] at e6
    cases e6
    exact ⟨o,k _ _ ho',hd⟩
 ·rcases hb.1 x c e with ⟨z,_⟩ | ⟨z,_⟩
  ·obtain ⟨v,o,ho',hd⟩:=I.cell x c z
   exact ⟨v,o,k _ _ ho',hd⟩
  ·exact ⟨none,hnew x c z e⟩
 ·show upd H D (.lst []) C=none
  rw [zaq (Nat.ne_of_gt hDC)];exact hCn
 ·rcases hb.1 x c e with ⟨z,_⟩ | ⟨z,_⟩
  ·obtain ⟨v,o,ho',hd⟩:=I.cell x c z
   rw [zaq (lt _ _ ho')]
   exact I.freeC x c z
  ·rw [zaq (Nat.ne_of_gt (Nat.lt_trans hDC z))]
   exact I.hok.fresh (Nat.le_trans hC (Nat.le_of_lt z))
 ·obtain ⟨e,n,ne,nf,d⟩:=I.pin p hp
  refine ⟨k _ _ e,?_,Nat.ne_of_lt (Nat.lt_of_lt_of_le ↑104 hC),λz=>?_,d⟩
  ·rw [zaq (lt _ _ e)];exact n
  ·rcases List.mem_cons.mp (I.stkSub _ z) with q | q
   ·exact ne q
   ·exact nf q
 ·exact I.hok.laid k hD ⟨Nat.zero_le _,[],0,.nil,ho⟩
 ·have hm:=congrArg List.length B.map
  rw [List.length_map,List.length_map] at hm
  show ((zh3 own.length fv σ)).length=(own++fvn).length
  unfold zh3
  rw [List.length_append,List.length_append,List.length_replicate,List.length_map,hm]
theorem zmS {scope:Scope} {N':List Str} {cl:List ↑33} {C:Addr} {fp:List Addr} {σ':St} {H':Hp} {s':Shared} (I:Inv X pins σ H s) (hC:s.heap.objs.size≤C) (hf:∀ b∈fp,zlq X pins H b)
  (J:Inv (zcw X N' scope cl C fp s H) pins σ' H' s'):Inv X pins σ H' s'∧zlq X pins H' C:=by
 have I':Inv X pins σ H' s':=I.call' (ch:=fp) J.os J.base J.hok J.bare λb hb=>⟨(hf b hb).2.2.2.1,(hf b hb).2.1,(hf b hb).2.2.2.2.1,(hf b hb).2.2.2.2.2⟩
 refine ⟨I',J.free,Nat.ne_of_gt (Nat.lt_of_lt_of_le I.lt hC),I.nofs hC,.inr (Nat.le_trans I.sz hC),λx c e z=>?_,λp hp z=>?_⟩
 ·obtain ⟨v,q⟩:=I.cell x c e
  exact absurd (Nat.lt_of_lt_of_le q.lt (by rw [z];exact hC)) ↑151
 ·exact absurd (Nat.lt_of_lt_of_le (Heap.lt_size (I.pin p hp).1) (by rw [z];exact hC)) ↑151
end
section
variable {prog:Program} {w:World} {A:Around} {R:Result->Shared->Prop} {s:Shared}
theorem znB {elt target iter:Expr} {ifs:List Expr} {scope:Scope} {pos:Pos} {it acc:Value} {env:Env} (I:Nat->Shared->Prop)
  (turn:∀ n s,I n s->wpAny ↑26 A (pyNext it) (λr s₁=>match r with
   | none=>R (.ok .next) s₁
   | some v=>wpAny ↑26 A (letOwnedTupleGo target it v) (λ_ s₁'=>wpAny ↑26 A (assign target env v) (λ_ s₂ =>
     wpAny ↑26 A (forIn ifs true λc r=>if r=true then do let ok ← isTrue c env (eval c env);pure (ForInStep.yield ok) else pure (ForInStep.yield r)) (λok s₃ =>
      if ok=true then wpAny ↑26 A (eval elt env) (λx s₄ =>
       wpAny ↑26 A (call (.builtin "list.append") [acc,x]) (λ_ s₅=>∃ m,m<n∧I m s₅) (λ_ _=>False) s₄) (λ_ _=>False) s₃
      else ∃ m,m<n∧I m s₃) (λ_ _=>False) s₂) (λ_ _=>False) s₁') (λ_ _=>False) s₁) (λ_ _=>False) s)
  (n:Nat) (h:I n s) :
  codeAny ↑26 A (.compLoop (.ListComp elt [⟨target,iter,ifs,0⟩] scope pos) 0 it acc env) R s:=by
 refine codeAny_loop rfl I (λn s hI=>?_) n h
 show wpAny _ A ((compTurn (.ListComp elt [⟨target,iter,ifs,0⟩] scope pos) 0 it acc env).onRaise (λx=>do noteFrame x env;theTreesLotGoes x)) _ _ s
 refine wpAny_noted ?_
 rw [compTurn_list]
 refine wpAny_bind (wpAny_standAt (wpAny_bind (wpAny_mono (turn n s hI) (λr s₁ h₁=>?_) λ_ _ h'=>h'.elim)))
 cases r with
 | none=>exact wpAny_pure h₁
 | some v =>
  refine wpAny_bind (wpAny_mono h₁ (λ_ s₁' h₁'=>?_) λ_ _ h'=>h'.elim)
  refine wpAny_bind (wpAny_mono h₁' (λ_ s₂ h₂=>wpAny_bind (wpAny_mono h₂ (λok s₃ h₃=>?_) λ_ _ h'=>h'.elim)) λ_ _ h'=>h'.elim)
  cases ok with
  | false=>exact wpAny_pure ⟨rfl,h₃⟩
  | true =>
   exact wpAny_bind (wpAny_bind (wpAny_mono h₃ (λx s₄ h₄=>wpAny_bind (wpAny_mono h₄ (λ_ s₅ h₅=>wpAny_pure (wpAny_pure ⟨rfl,h₅⟩)) λ_ _ h'=>h'.elim)) λ_ _ h'=>h'.elim))
end
abbrev TTs:=St->Hp->(Bool->Hp->Prop)->Prop
def PTs (X:Cx) (ifs:List Expr) (t:TTs):Prop :=
 ∀ (pins:List ⇑2) (s:Shared) (σ:St) (H:Hp) (Q:Bool->Hp->Prop),Inv X pins σ H s->t σ H Q →
  wpAny ↥2 X.A (forIn ifs true λc r=>if r=true then do let ok ← isTrue c X.env (eval c X.env);pure (ForInStep.yield ok) else pure (ForInStep.yield r)) (TP X pins σ Q) X.xe s
def zo1:TTs:=λ_ H Q=>Q true H
theorem za5 {X:Cx}:PTs X [] zo1:=λ_ _ _ H _ I h=>wpAny_tests_nil ⟨H,I,h⟩
theorem zrq {X:Cx} {c:Expr} {t:TT} (h:PT X c t):PTs X [c] t:=λpins s σ H Q I hw=>wpAny_tests_one (h pins s σ H Q I hw)
def zmG (own:Nat) (fv:List Nat) (wi:TI) (g:TG) (tt:TTs) (te:TE):TE:=λσ H Q=>wi σ H λJ H1=>∀ D,H1 D=none →
 ∃ W:Nat->Nat->List V->St->Hp->Prop,(∃ m,W 0 m [] (zh3 own fv σ) (upd H1 D (.lst [])))∧∀ i m ys σb H,W i m ys σb H->H D=some (.lst ys) ∧
  ((J.stop i H∧Q (.ref D) H)∨(J.go i H∧∀ x H',J.yld i H x H'->g x σb H' λσ2 H2=>tt σ2 H2 λok H3=>if ok=true then te σ2 H3 λy H4=>H4 D=some (.lst ys)∧ys.length<sizeLine∧∃ m',m'<m∧W (i+1) m' (ys++[y]) σ2 (upd H4 D (.lst (ys++[y])))
   else ∃ m',m'<m∧W (i+1) m' ys σ2 H3))
section
variable {X:Cx} {tg iter elt:Expr} {ifs:List Expr} {scope:Scope} {pos:Pos} {wi:TI} {g:TG} {tt:TTs} {te:TE} {own fvn:List Str} {fv:List Nat}
theorem zlH {pins:List ⇑2} {σ:St} {s:Shared} {Q:VK} {E:Value->Shared->Prop} {cl:List ↑33} {RR:Value->Addr->Result->Shared->Prop} {itv:Value}
  (hc:X.calm=true) (B:BlkScope X scope own fvn fv) (h1:∀ x c,cl.lookup x=some c->X.env.cells.lookup x=some c) (h2:∀ x,(x,NameKind.free)∈scope.names->∃ c,cl.lookup x=some c)
  (hb:∀ (cl:List ↑33) (C:Addr) (fp:List Addr) (s:Shared) (H:Hp),PG ↑77 tg g∧PTs ↑77 ifs tt∧PE ↑77 elt te)
  (P:PIE X pins σ tg (λJ H1=>∀ D,H1 D=none →
   ∃ W:Nat->Nat->List V->St->Hp->Prop,(∃ m,W 0 m [] (zh3 own.length fv σ) (upd H1 D (.lst [])))∧∀ i m ys σb H,W i m ys σb H->H D=some (.lst ys) ∧
    ((J.stop i H∧Q (.ref D) H)∨(J.go i H∧∀ x H',J.yld i H x H'->g x σb H' λσ2 H2=>tt σ2 H2 λok H3=>if ok=true then te σ2 H3 λy H4=>H4 D=some (.lst ys)∧ys.length<sizeLine∧∃ m',m'<m∧W (i+1) m' (ys++[y]) σ2 (upd H4 D (.lst (ys++[y])))
     else ∃ m',m'<m∧W (i+1) m' ys σ2 H3))) itv s)
  (hRR:∀ D C s' H' m,Inv X pins σ H' s'->s'.heap.Ns C m->zlq X pins H' C->Q (.ref D) H'->RR (.ref D) C (.ok .next) s') :
  wpAny ↥2 X.A (newList []) (λacc s₃=>wpAny ↥2 X.A (newFunctionEnv scope X.env.globals cl [] X.env.qual none .none (some X.env)) (λcenv s₄ =>
   codeAny ↥2 X.A (.compStart ↑179 0 itv acc { cenv with scope:=relabel scope X.env }) (RR acc cenv.locals) s₄) E s₃) E s:=by
 obtain ⟨it,fp,tn,J,H2,rfl,I2,T,st2,f2,hW⟩:=P
 have hl:∀ b∈fp,b<s.heap.objs.size:=λb hb=>by
  obtain ⟨o,e,_⟩:=T.obj _ _ st2 b hb
  exact Heap.lt_size e
 refine wpAny_newObj_type (zfk (λh₁ hns₁ hsb₁ hcl₁=>?_))
 dsimp only at hns₁ hsb₁ hcl₁ ⊢
 generalize hH2:s.heap.push { cls:=.type "list",dict:=none,data:=.seq ([]:List Value).toArray }=G2 at hns₁ hsb₁ hcl₁ ⊢
 have hC:G2.objs.size=s.heap.objs.size+1:=by rw [← hH2,Heap.size_push]
 have hDC:s.heap.objs.size<G2.objs.size:=by rw [hC];exact Nat.lt_succ_self _
 have hCle:s.heap.objs.size≤G2.objs.size:=by rw [hC];exact Nat.le_succ _
 have old:∀ b o,s.heap.get? b=some o->h₁.get? b=some o:=λb o e=>hsb₁ b o (hH2 ▸ Heap.get?_push_of_some _ e)
 have hacc:h₁.get? s.heap.objs.size=some { cls:=.type "list",data:=.seq #[] 0 }:=hsb₁ _ _ (hH2 ▸ Heap.get?_push_size _ rfl)
 have hbc:zpb X scope (cellsFrom (G2.objs.size+1) scope.names cl) G2.objs.size:=zsm B h1 h2 λx c e=>by
  obtain ⟨v,q⟩:=I2.cell x c e
  exact Nat.le_trans (Nat.le_of_lt q.lt) hCle
 have hnew:∀ x c,G2.objs.size<c->((cellsFrom (G2.objs.size+1) scope.names cl)).lookup x=some c->h₁.IsCell c none:=λx c hc' e=>by
  rcases hbc.1 x c e with ⟨z,_⟩ | ⟨_,z⟩
  ·obtain ⟨v,q⟩:=I2.cell x c z
   exact absurd (Nat.lt_of_lt_of_le q.lt hCle) (Nat.not_lt.mpr (Nat.le_of_lt hc'))
  ·exact hcl₁ x c (PySem.mem_of_lookup z) e
 generalize cellsFrom (G2.objs.size+1) scope.names cl=cl' at hbc hnew ⊢
 clear h1 h2 hcl₁
 obtain ⟨W,⟨m0,w0⟩,turn⟩:=hW s.heap.objs.size (I2.hok.fresh ↑11)
 have J0:∀ t',Inv ↑157 pins (zh3 own.length fv σ) (upd H2 s.heap.objs.size (.lst [])) { s with heap:=h₁,toks:=t' }:=λt' =>
  zkx I2 B hc hbc hnew f2 hl ↑11 hCle hDC old hns₁ hacc
 obtain ⟨hpg,hpt,hpe⟩:=hb cl' G2.objs.size fp s H2
 have stat:∀ {H':Hp},(∀b∈fp,H' b=none)->∀ b∈fp,zlq ↑157 pins H' b:=λhn b hb =>
  ⟨hn b hb,Nat.ne_of_lt (Nat.lt_of_lt_of_le (hl b hb) hCle),λz=>by
   rcases List.mem_cons.mp (I2.stkSub b z) with q | q
   ·exact (f2 b hb).2.1 q
   ·exact (f2 b hb).2.2.1 q,.inl hb,λx c e=>(by
    rcases hbc.1 x c e with ⟨z,_⟩ | ⟨z,_⟩
    ·exact (f2 b hb).2.2.2.2.1 x c z
    ·exact Nat.ne_of_gt (Nat.lt_trans (Nat.lt_of_lt_of_le (hl b hb) hCle) z)),(f2 b hb).2.2.2.2.2⟩
 have st1:tn 0 h₁:=T.keep _ _ _ st2 λb hb o e=>old b o e
 have fr1:∀ b∈fp,upd H2 s.heap.objs.size (.lst []) b=none:=λb hb=>by
  rw [zaq (Nat.ne_of_lt (hl b hb))];exact (f2 b hb).1
 have loop:∀ s₃:Shared,s₃={ s with heap:=h₁ } →
   codeAny ↥2 X.A (.compLoop ↑179 0 (.ref it) (.ref s.heap.objs.size) (compEnvC scope cl' G2.objs.size X.env)) (RR (.ref s.heap.objs.size) G2.objs.size) s₃:=by
  rintro s₃ rfl
  refine znB (λn s'=>∃ i ys σ' H',Inv ↑157 pins σ' H' s'∧tn i s'.heap∧(∀b∈fp,H' b=none)∧W i n ys σ' H') ?_ m0 ⟨0,[],_,_,J0 s.toks,st1,fr1,w0⟩
  rintro n s3 ⟨i,ys,σ3,H3,I3,st3,fr3,w3⟩
  obtain ⟨hD,w3⟩:=turn i n ys σ3 H3 w3
  rcases w3 with ⟨stop,qn⟩ | ⟨go,step⟩
  ·refine thn (T.done ↑157 rfl rfl rfl rfl i pins s3 σ3 H3 _ I3 (stat fr3) st3 stop) λr s4 ⟨hr,I4⟩=>?_
   subst hr
   obtain ⟨I5,fC⟩:=zmS I2 hCle f2 I4
   obtain ⟨m,hn,_⟩:=I4.loc
   exact hRR _ _ s4 H3 m I5 hn fC qn
  ·refine thn (T.item ↑157 rfl rfl rfl rfl i pins s3 σ3 H3 _ I3 (stat fr3) st3 go) λr s4 ⟨u,hr,h4⟩=>?_
   subst hr
   refine thn h4 λ_ s5 ⟨x,H5,I5,r5,y5,st5,fr5⟩=>?_
   have I5':=I5.pinned (stat fr5) (T.obj _ _ st5)
   refine thn (hpg _ s5 σ3 H5 x u _ I5' r5 (step x H5 y5)) λ_ s6 ⟨σ6,H6,I6,q6⟩=>?_
   refine thn (hpt _ s6 σ6 H6 _ I6 q6) λok s7 ⟨H7,I7,q7⟩=>?_
   have again:∀ {s8:Shared} {σ8:St} {H8:Hp} {ys':List V} {m':Nat},Inv ↑157 (pins++zko fp s5.heap) σ8 H8 s8->m'<n->W (i+1) m' ys' σ8 H8 →
     ∃ m,m<n∧∃ i ys σ' H',Inv ↑157 pins σ' H' s8∧tn i s8.heap∧(∀b∈fp,H' b=none)∧W i m ys σ' H':=λ{s8 σ8 H8 ys' m'} I8 hm w8=>by
    refine ⟨m',hm,i+1,ys',σ8,H8,I8.unpinned,T.keep _ _ _ st5 λb hb o e=>(I8.pin (b,o) ↑243).1,λb hb=>?_,w8⟩
    obtain ⟨o,e,d⟩:=T.obj _ _ st5 b hb
    exact (I8.pin (b,o) ↑243).2.1
   cases ok with
   | false =>
    rw [if_neg Bool.false_ne_true] at q7 ⊢
    obtain ⟨m',hm,w8⟩:=q7
    exact again I7 hm w8
   | true =>
    rw [if_pos rfl] at q7 ⊢
    refine thn (hpe _ s7 σ6 H7 _ I7 q7) λyv s8 ⟨y,H8,I8,r8,hD8,hz8,m',hm,w8⟩=>?_
    refine thn (zjF _ s8 σ6 H8 (.ref s.heap.objs.size) [y] _ [yv] (λ_ H9=>H9=upd H8 s.heap.objs.size (.lst (ys++[y]))) I8 rfl (.cons r8 .nil) ⟨_,ys,y,rfl,rfl,hD8,hz8,rfl⟩) λ_ s9 ⟨_,H9,I9,_,e9⟩=>?_
    subst e9
    exact again I9 hm w8
 exact codeAny_compStart_list (loop _ rfl) (T.self _ 0 _ _ _ st1 (loop _ rfl))
theorem zhT (B:BlkScope X scope own fvn fv) (ok:X.Ok):∃ cl,closureFor scope X.env=pure cl∧(∀ x c,cl.lookup x=some c->X.env.cells.lookup x=some c)∧∀ x,(x,NameKind.free)∈scope.names->∃ c,cl.lookup x=some c :=
 zlW λx hx hk=>ok.has x.1 (B.free x hx hk)
theorem zbZ (hc:X.calm=true) (B:BlkScope X scope own fvn fv) (hi:PI X tg iter wi)
  (hb:∀ (cl:List ↑33) (C:Addr) (fp:List Addr) (s:Shared) (H:Hp),PG ↑77 tg g∧PTs ↑77 ifs tt∧PE ↑77 elt te)
  (hs:∀ x,foldedSetIterable iter X.env x=pure x:=by intro _;rfl):PE X ↑179 (zmG own.length fv wi g tt te):=by
 intro pins s σ H Q I h
 obtain ⟨cl,hcl,h1,h2⟩:=zhT B I.ok
 rw [eval_ListComp]
 refine wpAny_comprehension_free (use:=none) rfl hs hcl B.kind B.names (thn (hi pins s σ H _ I h) λv s1 q1=>thn q1 λitv s2 q2=> ?_)
 refine zlH (RR:=λacc C=>compPost ↥2 X.A X.xe none ↑57 acc C) hc B h1 h2 hb q2 λD C s' H' m I' hn fC q=>?_
 exact ⟨m,hn,λh' hs'=>⟨.ref D,H',I'.turned (t':=s'.toks) (λb o hb e=>(hs'.2 b hb).trans e) fC.1 fC.2.1 fC.2.2.2.1 fC.2.2.2.2.1 fC.2.2.2.2.2,rfl,q⟩⟩
theorem zfe {i:Nat} {x:Str} {pos' spos:Pos} (hc:X.calm=true) (hN:X.N.Nodup) (hix:X.N[i]?=some x) (hx:X.env.scope.names.lookup x=some .local) (B:BlkScope X scope own fvn fv) (hi:PI X tg iter wi)
  (hb:∀ (cl:List ↑33) (C:Addr) (fp:List Addr) (s:Shared) (H:Hp),PG ↑77 tg g∧PTs ↑77 ifs tt∧PE ↑77 elt te)
  (hsw:swapsWith ↑179 (some (.Name x pos')) spos.line X.env=pure true:=by rfl)
  (hs:∀ x,foldedSetIterable iter X.env x=pure x:=by intro _;rfl) :
  PS X (.Assign [.Name x pos'] ↑179 spos) (zjt (zmG own.length fv wi g tt te) (zdk i)):=by
 intro pins s σ H D I h
 obtain ⟨cl,hcl,h1,h2⟩:=zhT B I.ok
 rw [exec_Assign_Name_used _ _ _ _ hsw]
 refine wpAny_bind (wpAny_standAt (wpAny_bind ?_))
 show wpAny _ _ (do let _ ← comprehension ↑179 scope X.env _ (newList []) false (eval iter X.env) (some (assign (.Name x pos') X.env))) _ _ s
 refine wpAny_bind (wpAny_mono (wpAny_comprehension_free (use:=some (assign (.Name x pos') X.env)) (Q:=λ_ s'=>SP X pins D .next s') rfl hs hcl B.kind B.names
  (thn (hi pins s σ H _ I h) λv s1 q1=>thn q1 λitv s2 q2=> ?_)) (λ_ s' hq=>wpAny_pure (wpAny_pure hq)) λ_ _ e=>e)
 refine zlH (Q:=λv H1=>zdk i v σ H1 D.nx) (RR:=λacc C=>compPost ↥2 X.A X.xe (some (assign (.Name x pos') X.env)) (λ_ s'=>SP X pins D .next s') acc C) hc B h1 h2 hb q2 λDa C s' H' m I' hn fC q=>?_
 show wpAny _ _ (assign (.Name x pos') X.env (.ref Da)) _ _ _
 refine wpAny_assign_Name (zjU I' hN hix (.inl hx) (v:=.ref Da) rfl (λs'' I'' ⟨a,hsb,ha⟩=>?_) (.inr hx))
 have hCa:C≠a:=by
  rcases ha with z | z
  ·rw [z];exact fC.2.1
  ·exact Ne.symm (fC.2.2.2.2.1 x a z)
 refine ⟨m,hn.sameBut hsb hCa,λh'' hs''=>⟨_,H',I''.turned (t':=s''.toks) (λb o hb e=>(hs''.2 b hb).trans e) fC.1 fC.2.1 fC.2.2.2.1 fC.2.2.2.2.1 fC.2.2.2.2.2,q⟩⟩
end
end L2
namespace L2
open PySem PySem.Spec PyProof.Rows
section
variable {X:Cx} {pins:List ⇑2} {σ:St} {H:Hp} {s:Shared} {h':Heap}
theorem Inv.turnedNew {t':Nat} {ch:List Addr} {T:Addr} {o:HO} (I:Inv X pins σ H s) (hf:∀ b∈ch,zlq X pins H b) (k:∀ b u,b ∉ ch->s.heap.get? b=some u->h'.get? b=some u) (hT:s.heap.objs.size≤T)
  (new:zeq X.prog X.w (upd H T o) h' T o):Inv X pins σ (upd H T o) { s with heap:=h',toks:=t' }:=by
 have hn:H T=none:=I.hok.fresh hT
 have lt:∀ b u,s.heap.get? b=some u->b≠T:=λb u e=>Nat.ne_of_lt (Nat.lt_of_lt_of_le ↑104 hT)
 refine I.step (g':=s.gens) (d':=s.drawn) (ch:=ch) (λb hb=>⟨(hf b hb).2.2.2.1,(hf b hb).2.1,(hf b hb).2.2.2.2.1,(hf b hb).2.2.2.2.2⟩) (λb u _ _ hc e _=>k b u hc e) (λb u _ _ hc e _=>⟨u.slots,k b u hc e⟩)
  (λb u _ e n=>by rw [zaq (lt b u e)];exact n) (λb u hc e=>⟨u,k b u hc e⟩) (λb xs e=>by rw [zaq (zaV e hn)];exact e) (λb u xs e=>by rw [zaq (zaV e hn)];exact e)
  (λb ps e=>⟨#[],by rw [zaq (zaV e hn),e];simp⟩) (λm hm=>?_) (λb u e=>?_) I.bare
 ·obtain ⟨o,es,ep,ho,r⟩:=hm
  exact ⟨o,es,ep,k _ o (λz=>(hf _ z).2.1 rfl) ho,r⟩
 ·by_cases hb:b=T
  ·subst hb;rw [zaD] at e;cases e;exact new
  ·rw [zaq hb] at e
   refine (I.hok b u e).stay (λc v hc q=>k c v (λz=>?_) q) (λc q=>by rw [zaq (zaV q hn)];exact q) λc xs q=>by rw [zaq (zaV q hn)];exact q
   have z':=(hf c z).1
   rcases hc with hc | hc
   ·rw [hc,e] at z';cases z'
   ·rw [hc] at z';cases z'
theorem Inv.turnedL {t':Nat} {ch:List Addr} (I:Inv X pins σ H s) (hf:∀ b∈ch,zlq X pins H b) (k:∀ b u,b ∉ ch->s.heap.get? b=some u->h'.get? b=some u):Inv X pins σ H { s with heap:=h',toks:=t' }:=by
 refine I.step (g':=s.gens) (d':=s.drawn) (ch:=ch) (λb hb=>⟨(hf b hb).2.2.2.1,(hf b hb).2.1,(hf b hb).2.2.2.2.1,(hf b hb).2.2.2.2.2⟩) (λb u _ _ hc e _=>k b u hc e) (λb u _ _ hc e _=>⟨u.slots,k b u hc e⟩)
  (λb u _ e n=>n) (λb u hc e=>⟨u,k b u hc e⟩) (λb xs e=>e) (λb u xs e=>e) (λb ps e=>⟨#[],by rw [e];simp⟩) (λm hm=>?_) (λb u e=>?_) I.bare
 ·obtain ⟨o,es,ep,ho,r⟩:=hm
  exact ⟨o,es,ep,k _ o (λz=>(hf _ z).2.1 rfl) ho,r⟩
 ·refine (I.hok b u e).stay (λc v hc q=>k c v (λz=>?_) q) (λc q=>q) λc xs q=>q
  have z':=(hf c z).1
  rcases hc with hc | hc
  ·rw [hc,e] at z';cases z'
  ·rw [hc] at z';cases z'
end
def Itz (K:W.Frag) (a b:Addr):It :=
 ⟨λi H=>∃ xs ys x y,SqL K H a xs∧SqL K H b ys∧xs[i]?=some x∧ys[i]?=some y,
  λi H v H'=>∃ p x y,v=.ref p∧H p=none∧H'=upd H p (.tup [x,y])∧∀ xs ys,SqL K H a xs->SqL K H b ys->xs[i]?=some x∧ys[i]?=some y,
  λi H=>∃ xs ys,SqL K H a xs∧SqL K H b ys∧(xs.length≤i∨ys.length≤i)⟩
theorem zpa {P:Program} {w:World} {K:W.Frag} {elts:List Expr} {x1:Nat} {tp:Pos} {a b z TI TO i1 i2:Addr} (D:ZipApart z TI TO i1 i2 a b) :
  Turn P w K (.Tuple elts x1 tp) (Itz K a b) [z,TI,TO,i1,i2] z
   (λi h=>IsZip h z TI TO .none∧IsPair h TI (.ref i1) (.ref i2)∧(∃ p q,IsPair h TO p q)∧h.IsListIter i1 a i∧h.IsListIter i2 b i) where
 mem:=by simp
 obj:=λi h st c hc=>by
  obtain ⟨hz,hTI,⟨p,q,hTO⟩,⟨o1,e1,_,d1⟩,⟨o2,e2,_,d2⟩⟩:=st
  simp only [List.mem_cons,List.not_mem_nil,or_false] at hc
  rcases hc with rfl | rfl | rfl | rfl | rfl
  ·exact ⟨_,hz,λv z=>by cases z⟩
  ·exact ⟨_,hTI,λv z=>by cases z⟩
  ·exact ⟨_,hTO,λv z=>by cases z⟩
  ·exact ⟨o1,e1,λv z=>by rw [d1] at z;cases z⟩
  ·exact ⟨o2,e2,λv z=>by rw [d2] at z;cases z⟩
 keep:=λi h h' st k=>by
  obtain ⟨hz,hTI,⟨p,q,hTO⟩,h1,h2⟩:=st
  exact ⟨k z ↥5 _ hz,k TI ↥5 _ hTI,⟨p,q,k TO ↥5 _ hTO⟩,h1.at λo e=>k i1 ↥5 o e,h2.at λo e=>k i2 ↥5 o e⟩
 item:=by
  intro X hP hw hK hc i pins s σ H E I hf st hg
  subst hP hw hK
  obtain ⟨xs,ys,x,y,hxs,hys,hx,hy⟩:=hg
  obtain ⟨itx,rx,px,hzx⟩:=I.list hxs
  obtain ⟨ity,ry,py,hzy⟩:=I.list hys
  obtain ⟨u,hu,ru⟩:=rx.get hx
  obtain ⟨v,hv,rv⟩:=ry.get hy
  obtain ⟨hz,hTI,⟨p,q,hTO⟩,h1,h2⟩:=st
  refine wpAny_pyNext_zip_item (x:=u) (y:=v) D hz hTI hTO h1 h2 px.isList py.isList (by simpa using hu) (by simpa using hv) λh' a1 a2 a3 a4 a5 a6 hk=>?_
  refine ⟨_,rfl,wpAny_letOwnedTupleGo_zip a1 λh'' b1 b2=>?_⟩
  have zlt:z<s.heap.objs.size:=Heap.lt_size hz
  have lt:∀ c∈[z,TI,TO,i1,i2],c<s.heap.objs.size:=λc hc=>by
   simp only [List.mem_cons,List.not_mem_nil,or_false] at hc
   rcases hc with rfl | rfl | rfl | rfl | rfl
   ·exact zlt
   ·exact Heap.lt_size hTI
   ·exact Heap.lt_size hTO
   ·obtain ⟨_,e,_⟩:=h1;exact Heap.lt_size e
   ·obtain ⟨_,e,_⟩:=h2;exact Heap.lt_size e
  have tup:IsPair h'' s.heap.objs.size u v:=b2.extBut _ _ (Nat.ne_of_gt zlt) a5
  have I1:Inv X pins σ (upd H s.heap.objs.size (.tup [x,y])) { s with heap:=h'' }:=by
   refine I.turnedNew (t':=s.toks) (ch:=[z,TO,i1,i2]) (λc hc=>hf c ?_) (λc ob hc e=>?_) ↑11 ?_
   ·simp only [List.mem_cons,List.not_mem_nil,or_false] at hc ⊢
    rcases hc with z | z | z | z<;>simp [z]
   ·simp only [List.mem_cons,List.not_mem_nil,or_false,not_or] at hc
    exact b2.extBut _ _ hc.1 (hk c ob hc.1 hc.2.1 hc.2.2.1 hc.2.2.2 e)
   ·exact ⟨by show 2≤sizeLine;decide,[u,v],.cons ru (.cons rv .nil),⟨_,tup,rfl,_,rfl⟩⟩
  refine ⟨.ref s.heap.objs.size,_,I1,rfl,⟨_,x,y,rfl,I.hok.fresh ↑11,rfl,λxs' ys' q1 q2=>?_⟩,⟨b1,?_,⟨_,_,b2.extBut _ _ D.TOz a2⟩,a3.extBut b2.extBut D.i1z,a4.extBut b2.extBut D.i2z⟩,λc hc=>?_⟩
  ·rw [I.list_inj q1 hxs,I.list_inj q2 hys];exact ⟨hx,hy⟩
  ·exact b2.extBut _ _ D.TIz (hk _ _ D.TIz D.TITO D.TIi1 D.TIi2 hTI)
  ·rw [zaq (Nat.ne_of_lt (lt c hc))];exact (hf c hc).1
 done:=by
  intro X hP hw hK hc i pins s σ H E I hf st hg
  subst hP hw hK
  obtain ⟨xs,ys,hxs,hys,hend⟩:=hg
  obtain ⟨itx,rx,px,hzx⟩:=I.list hxs
  obtain ⟨ity,ry,py,hzy⟩:=I.list hys
  obtain ⟨hz,hTI,⟨p,q,hTO⟩,h1,h2⟩:=st
  have lx:=rx.length
  have ly:=ry.length
  refine wpAny_pyNext_zip_end (I.ok.hd hc) D hz hTI hTO h1 h2 px.isList py.isList ?_ λh' hk=>⟨rfl,?_⟩
  ·rcases hend with e | e
   ·exact .inl ↑61
   ·exact .inr ↑61
  ·refine I.turnedL (t':=s.toks) (ch:=[z,TO,i1,i2]) (λc hc=>hf c ?_) (λc ob hc e=>?_)
   ·simp only [List.mem_cons,List.not_mem_nil,or_false] at hc ⊢
    rcases hc with z | z | z | z<;>simp [z]
   ·simp only [List.mem_cons,List.not_mem_nil,or_false,not_or] at hc
    exact hk c ob hc.1 hc.2.1 hc.2.2.1 hc.2.2.2 e
 self:=λ_ _ _ _ _ st h=>wpAny_pyIter_zip st.1 h
section
variable {X:Cx}
def ztP (K:W.Frag) (ta:TA):TI:=λσ H R=>ta σ H λvs H1=>∃ a b,vs=[.ref a,.ref b]∧(∃xs,SqL K H1 a xs)∧(∃ ys,SqL K H1 b ys)∧R (Itz K a b) H1
theorem zsR {a b:Expr} {ta:TA} {p pos tp:Pos} {elts:List Expr} {x1:Nat} (hg:Gl X "zip") (hm:X.mg "zip"=none) (ha:PA X [a,b] ta) (hs:starEach [a,b] X.env=[(false,eval a X.env),(false,eval b X.env)]:=by rfl) (hs2:starEach [b] X.env=[(false,eval b X.env)]:=by rfl) :
  PI X (.Tuple elts x1 tp) (.Call (.Name "zip" p) [a,b] [] pos) (ztP X.K ta):=by
 intro pins s σ H R I h
 refine Call_ (zim I hg hm boot_zip (PyProof.Rows.callWith_type1 ↑242 (by rw [hs,hs2]) (by rw [hs2];rfl)))
 obtain ⟨l1,l2,e,⟨xs,hx⟩,⟨ys,hy⟩,q⟩:=q1
 subst e
 cases r1 with
 | cons r rr =>
  cases rr with
  | cons r' rr =>
   cases rr
   cases r
   cases r'
   obtain ⟨itx,rx,px,hzx⟩:=I1.list hx
   obtain ⟨ity,ry,py,hzy⟩:=I1.list hy
   have lt1:@LT.lt Nat _ l1 s1.heap.objs.size:=by obtain ⟨o,e,_⟩:=px.isList;exact Heap.lt_size e
   have lt2:@LT.lt Nat _ l2 s1.heap.objs.size:=by obtain ⟨o,e,_⟩:=py.isList;exact Heap.lt_size e
   refine call_zip_2 px.isList py.isList λh' hz hTI hTO h1 h2 hsz hk=>?_
   refine wpAny_pyIter_zip hz ?_
   have D:ZipApart (s1.heap.objs.size+4) (s1.heap.objs.size+2) (s1.heap.objs.size+3) s1.heap.objs.size (s1.heap.objs.size+1) l1 l2:=by
    constructor<;>(show @Ne Nat _ _;omega)
   refine ⟨s1.heap.objs.size+4,[s1.heap.objs.size+4,s1.heap.objs.size+2,s1.heap.objs.size+3,s1.heap.objs.size,s1.heap.objs.size+1],_,Itz X.K l1 l2,H1,rfl,I1.kept (t':=s1.toks) hk,zpa D,⟨hz,hTI,⟨_,_,hTO⟩,h1,h2⟩,λc hc=>?_,q⟩
   have hle:@LE.le Nat _ s1.heap.objs.size c:=by
    simp only [List.mem_cons,List.not_mem_nil,or_false] at hc
    rcases hc with rfl | rfl | rfl | rfl | rfl<;>omega
   exact I1.fpOk hle (I1.hok.fresh hle)
end
theorem preSum_list:∀ (ns:Ji) (k:Nat),k≤ns.length->preSum (λi=>(ns[i]?).getD 0) k=(ns.take k).sum
 | _,0,_=>by simp [preSum]
 | ns,k+1,h=>by
  have ih:=preSum_list ns k ↑0
  have hk:k<ns.length:=by omega
  have e1:preSum (λi=>(ns[i]?).getD 0) (k+1)=preSum (λi=>(ns[i]?).getD 0) k+(ns[k]?).getD 0:=rfl
  have e2:ns.take (k+1)=ns.take k++[ns[k]]:=by rw [List.take_add_one,List.getElem?_eq_getElem hk];rfl
  rw [e1,ih,e2,List.sum_append,List.getElem?_eq_getElem hk]
  simp
section
variable {X:Cx}
theorem zmL (hc:X.calm=true):zfZ X (.builtin "sum") (λxs H Q=>∃ (a:Addr) (ns:Ji),xs=[.ref a]∧SqL X.K H a ↑47∧Q (.int ns.sum) H):=by
 intro pins s σ H xs us Q I r h
 obtain ⟨a,ns,rfl,hq,q⟩:=h
 obtain ⟨u,rfl,rx⟩:=zkA r
 cases rx
 obtain ⟨its,rv,p,hz⟩:=I.list hq
 have hl:=rv.length
 rw [List.length_map] at hl
 have alt:a<s.heap.objs.size:=by obtain ⟨o,e,_⟩:=p.isList;exact Heap.lt_size e
 have hl1:((s.heap.push {cls:= .type "list_iterator",data:= .fields #[.ref a,.int 0 0]})).IsList a its.toArray:=Heap.IsList.push p.isList _
 refine call_sum_walkG (wpAny_pyIter_list p.isList ?_)
 refine ⟨s.heap.objs.size,[s.heap.objs.size,a],[s.heap.objs.size],its.toArray.size,_,_,λi=>(ns[i]?).getD 0,rfl,Walks.list (A:=X.A.in1) (I.ok.hd hc) s.heap.objs.size a (Nat.ne_of_lt alt) its.toArray,⟨⟨_,Heap.get?_push_size _ rfl,rfl,rfl⟩,hl1⟩,λb hb=>?_,λi v hv=>?_,λh' tk t' hk=>?_⟩
 ·show b<(s.heap.push _).objs.size
  rw [Heap.size_push]
  simp only [List.mem_cons,List.not_mem_nil,or_false] at hb
  rcases hb with rfl | rfl
  ·exact Nat.lt_succ_self _
  ·exact Nat.lt_succ_of_lt alt
 ·have hv':its[i]?=some v:=by simpa using hv
  have hi:i<its.length:=(List.getElem?_eq_some_iff.mp hv').1
  obtain ⟨u,hu,ru⟩:=rv.get (i:=i) (x:=.int (ns[i]' ↑0)) (by rw [List.getElem?_map,List.getElem?_eq_getElem ↑0];rfl)
  rw [hv'] at hu
  cases hu
  obtain ⟨t,rfl⟩:=ru
  have e:(ns[i]?).getD 0=ns[i]' ↑0:=by rw [List.getElem?_eq_getElem (show i<ns.length by omega)];rfl
  exact ⟨t,congrArg (λz=>Value.int z t) e.symm⟩
 ·have e:preSum (λi=>(ns[i]?).getD 0) its.toArray.size=ns.sum:=by
   rw [List.size_toArray,← hl,preSum_list ns _ ↑11,List.take_length]
  rw [e]
  exact ⟨.int ns.sum,H,I.kept (h':=h') (t':=tk) λb o e=>hk b o (by simp only [List.mem_singleton];exact Nat.ne_of_lt ↑104) (Heap.get?_push_of_some _ e),⟨t',rfl⟩,q⟩
theorem znF (hc:X.calm=true):zfZ X (.builtin "all") (λxs H Q=>∃ (a:Addr) (bs:List Bool),xs=[.ref a]∧SqL X.K H a (bs.map V.bl)∧Q (.bl (bs.all id)) H):=by
 intro pins s σ H xs us Q I r h
 obtain ⟨a,bs,rfl,hq,q⟩:=h
 obtain ⟨u,rfl,rx⟩:=zkA r
 cases rx
 obtain ⟨its,rv,p,hz⟩:=I.list hq
 have hl:=rv.length
 rw [List.length_map] at hl
 have alt:a<s.heap.objs.size:=by obtain ⟨o,e,_⟩:=p.isList;exact Heap.lt_size e
 have hl1:((s.heap.push {cls:= .type "list_iterator",data:= .fields #[.ref a,.int 0 0]})).IsList a its.toArray:=Heap.IsList.push p.isList _
 refine call_all_walk (wpAny_pyIter_list p.isList ?_)
 refine ⟨s.heap.objs.size,[s.heap.objs.size,a],[s.heap.objs.size],its.toArray.size,_,_,λi=>(bs[i]?).getD true,rfl,Walks.list (A:=X.A.in1) (I.ok.hd hc) s.heap.objs.size a (Nat.ne_of_lt alt) its.toArray,⟨⟨_,Heap.get?_push_size _ rfl,rfl,rfl⟩,hl1⟩,λi v s' Q' E' hv hQ'=>?_,λh' tk hk=>?_⟩
 ·have hv':its[i]?=some v:=by simpa using hv
  have hi:i<its.length:=(List.getElem?_eq_some_iff.mp hv').1
  obtain ⟨u,hu,ru⟩:=rv.get (i:=i) (x:=.bl (bs[i]' ↑0)) (by rw [List.getElem?_map,List.getElem?_eq_getElem ↑0];rfl)
  rw [hv'] at hu
  cases hu
  cases ru
  have e:(bs[i]?).getD true=bs[i]' ↑0:=by rw [List.getElem?_eq_getElem (show i<bs.length by omega)];rfl
  have hQ2:Q' ((bs[i]?).getD true) s':=hQ'
  rw [e] at hQ2
  exact wpAny_truthy_bool hQ2
 ·have e:(List.range its.toArray.size).all (λi=>(bs[i]?).getD true)=bs.all id:=by
   rw [List.size_toArray,← hl,Bool.eq_iff_iff,List.all_eq_true,List.all_eq_true]
   constructor
   ·intro z x hx
    obtain ⟨i,hi,rfl⟩:=List.getElem_of_mem hx
    have:=z i (List.mem_range.mpr hi)
    rw [List.getElem?_eq_getElem hi] at this
    exact this
   ·intro z i hi
    have hi':=List.mem_range.mp hi
    rw [List.getElem?_eq_getElem hi']
    exact z _ (List.getElem_mem hi')
  rw [e]
  exact ⟨.bl (bs.all id),H,I.kept (h':=h') (t':=tk) λb o e=>hk b o (by simp only [List.mem_singleton];exact Nat.ne_of_lt ↑104) (Heap.get?_push_of_some _ e),rfl,q⟩
def zue (K:W.Frag):List V->Hp->VK->Prop:=λxs H Q=>∃ x t b,((∃ n,xs=[x,.ty n]∧W.kitOne K t (.type n)=some b)∨(∃ C,xs=[x,.ref C]∧W.kitOne K t (.ref C)=some b))∧TyOf K H x t∧Q (.bl b) H
theorem zpl:zfZ X (.builtin "isinstance") (zue X.K):=by
 intro pins s σ H xs us Q I r h
 obtain ⟨x,t,b,hx,ty,q⟩:=h
 rcases hx with ⟨n,rfl,e⟩ | ⟨C,rfl,e⟩
 ·obtain ⟨u,w',rfl,rx,ry⟩:=zoT r
  cases ry
  exact zke I rx ty e λtk=>⟨.bl b,H,I.tok _,rfl,q⟩
 ·obtain ⟨u,w',rfl,rx,ry⟩:=zoT r
  cases ry
  exact zke I rx ty e λtk=>⟨.bl b,H,I.tok _,rfl,q⟩
end
theorem kit_int_bool (K:W.Frag):W.kitOne K (.type "int") (.type "bool")=some false:=by with_unfolding_all rfl
inductive EqV (K:W.Frag) (H:Hp):Nat->V->V->Bool->Prop where
 | flat {n:Nat} {x y:V} (fx:zo0 x=true) (fy:zo0 y=true):EqV K H n x y (eqV x y)
 | same {n:Nat} {a:Addr}:EqV K H n (.ref a) (.ref a) true
 | lists {n:Nat} {a b:Addr} {xs ys:List V} {e:Nat->Bool} (ne:a≠b) (ha:SqL K H a xs) (hb:SqL K H b ys) (hl:xs.length=ys.length)
   (he:∀ (j:Nat) (x y:V),xs[j]?=some x->ys[j]?=some y->EqV K H n x y (e j)):EqV K H (n+1) (.ref a) (.ref b) ((↑203).all e)
 | lens {n:Nat} {a b:Addr} {xs ys:List V} (ne:a≠b) (ha:SqL K H a xs) (hb:SqL K H b ys) (hl:xs.length≠ys.length):EqV K H (n+1) (.ref a) (.ref b) false
theorem EqV.at {X:Cx} {pins:List ⇑2} {σ:St} {H:Hp} {s:Shared} (I:Inv X pins σ H s) {n:Nat} {x y:V} {k:Bool} (h:EqV X.K H n x y k) :
  ∀ {A:Around} {u v:Value},zdw x u->zdw y v->A.units+n<cLine->SeqAt.EqAt A s u v k:=by
 induction h with
 | flat fx fy=>intro A u v rx ry _;exact zsw rx ry fx fy
 | same=>intro A u v rx ry _;cases rx;cases ry;exact SeqAt.EqAt.same _
 | @lists n a b xs ys e ne ha hb hl he ih =>
  intro A u v rx ry hu
  cases rx
  cases ry
  obtain ⟨ita,ra,pa,za⟩:=I.list ha
  obtain ⟨itb,rb,pb,zb⟩:=I.list hb
  have la:=ra.length
  have lb:=rb.length
  have q:=SeqAt.RcAt.lists (A:=A) (e:=e) pa.isList pb.isList ↑61 ↑0 λj h1 h2=>?_
  ·rw [List.size_toArray,← la] at q
   exact SeqAt.EqAt.of_refs ne q
  ·have h1':j<ita.length:=by simpa using h1
   have h2':j<itb.length:=by simpa using h2
   obtain ⟨u',hu',ru⟩:=ra.get (i:=j) (x:=xs[j]' ↑0) ↑132
   obtain ⟨v',hv',rv⟩:=rb.get (i:=j) (x:=ys[j]' ↑0) ↑132
   have eu:ita.toArray[j]=u':=by
    rw [List.getElem?_eq_getElem h1'] at hu'
    simpa using hu'
   have ev:itb.toArray[j]=v':=by
    rw [List.getElem?_eq_getElem h2'] at hv'
    simpa using hv'
   rw [eu,ev]
   exact ih j _ _ ↑132 ↑132 ru rv (by show A.units+1+n<cLine;omega)
 | @lens n a b xs ys ne ha hb hl =>
  intro A u v rx ry hu
  cases rx
  cases ry
  obtain ⟨ita,ra,pa,za⟩:=I.list ha
  obtain ⟨itb,rb,pb,zb⟩:=I.list hb
  have la:=ra.length
  have lb:=rb.length
  exact SeqAt.EqAt.of_refs ne (SeqAt.RcAt.lists_lengths pa.isList pb.isList ↑61 ↑0)
def zoV (K:W.Frag) (neg:Bool):R2:=λx y H Q=>∃ a b n xs ys,x=.ref a∧y=.ref b∧SqL K H a xs∧SqL K H b ys∧n≤50 ∧
 ((xs.length≠ys.length∧Q (.bl neg) H)∨∃ e:Nat->Bool,xs.length=ys.length∧(∀ (j:Nat) (x y:V),xs[j]?=some x->ys[j]?=some y->EqV K H n x y (e j))∧Q (.bl (if neg then !(↑203).all e else (↑203).all e)) H)
section
variable {X:Cx}
theorem zj1 {pins:List ⇑2} {σ:St} {H:Hp} {s:Shared} (I:Inv X pins σ H s) {n:Nat} {xs ys:List V} {ita itb:List Value} {e:Nat->Bool} (ra:zcn xs ita) (rb:zcn ys itb) (he:∀ (j:Nat) (x y:V),xs[j]?=some x->ys[j]?=some y->EqV X.K H n x y (e j))
  {A:Around} (hu:A.units+1+n<cLine):∀ j (h1:j<ita.toArray.size) (h2:j<itb.toArray.size),SeqAt.EqAt A.in1 s ita.toArray[j] itb.toArray[j] (e j):=λj h1 h2=>by
 have la:=ra.length
 have lb:=rb.length
 have h1':j<ita.length:=by simpa using h1
 have h2':j<itb.length:=by simpa using h2
 obtain ⟨u',hu',ru⟩:=ra.get (i:=j) (x:=xs[j]' ↑0) ↑132
 obtain ⟨v',hv',rv⟩:=rb.get (i:=j) (x:=ys[j]' ↑0) ↑132
 have eu:ita.toArray[j]=u':=by
  rw [List.getElem?_eq_getElem h1'] at hu'
  simpa using hu'
 have ev:itb.toArray[j]=v':=by
  rw [List.getElem?_eq_getElem h2'] at hv'
  simpa using hv'
 rw [eu,ev]
 exact (he j _ _ ↑132 ↑132).at I ru rv hu
theorem zsk (hu:X.A.units+64<cLine):OpR X (compareOp .Eq) (zoV X.K false):=by
 intro pins s σ H x y v u Q I rx ry h
 obtain ⟨a,b,n,xs,ys,rfl,rfl,ha,hb,hn,h⟩:=h
 cases rx
 cases ry
 obtain ⟨ita,ra,pa,za⟩:=I.list ha
 obtain ⟨itb,rb,pb,zb⟩:=I.list hb
 have la:=ra.length
 have lb:=rb.length
 rcases h with ⟨hl,q⟩ | ⟨e,hl,he,q⟩
 ·exact SeqAt.eq_list_lengthsAt pa.isList pb.isList ↑61 ↑0 ⟨.bl false,H,I,rfl,q⟩
 ·refine SeqAt.eq_listAt (e:=e) pa.isList pb.isList ↑61 ↑0 (zj1 I ra rb he ↑0) ?_
  rw [List.size_toArray,← la]
  exact ⟨.bl _,H,I,rfl,q⟩
theorem ztk (hu:X.A.units+64<cLine):OpR X (compareOp .NotEq) (zoV X.K true):=by
 intro pins s σ H x y v u Q I rx ry h
 obtain ⟨a,b,n,xs,ys,rfl,rfl,ha,hb,hn,h⟩:=h
 cases rx
 cases ry
 obtain ⟨ita,ra,pa,za⟩:=I.list ha
 obtain ⟨itb,rb,pb,zb⟩:=I.list hb
 have la:=ra.length
 have lb:=rb.length
 rcases h with ⟨hl,q⟩ | ⟨e,hl,he,q⟩
 ·exact SeqAt.RcNeAt.lists_lengths pa.isList pb.isList ↑61 ↑0 _ _ _ _ ⟨.bl true,H,I,rfl,q⟩
 ·refine SeqAt.RcNeAt.lists (e:=e) pa.isList pb.isList ↑61 ↑0 (zj1 I ra rb he ↑0) _ _ _ _ ?_
  rw [List.size_toArray,← la]
  exact ⟨.bl _,H,I,rfl,q⟩
end
theorem all_eq {α:Type} [DecidableEq α] {xs ys:List α} (h:xs.length=ys.length):(↑203).all (λj=>decide (xs[j]?=ys[j]?))=decide (xs=ys):=by
 rw [Bool.eq_iff_iff,List.all_eq_true,decide_eq_true_iff]
 constructor
 ·intro z
  refine List.ext_getElem? λi=>?_
  by_cases hi:i<xs.length
  ·exact of_decide_eq_true (z i (List.mem_range.mpr hi))
  ·rw [List.getElem?_eq_none ↑0,List.getElem?_eq_none ↑0]
 ·rintro rfl i _
  exact decide_eq_true rfl
theorem zoV.ints {K:W.Frag} {neg:Bool} {H:Hp} {Q:VK} {a b:Addr} {ns ms:Ji} (ha:SqL K H a ↑47) (hb:SqL K H b (ms.map V.int)) (q:Q (.bl (if neg then !decide (ns=ms) else decide (ns=ms))) H) :
  zoV K neg (.ref a) (.ref b) H Q:=by
 refine ⟨a,b,0,_,_,rfl,rfl,ha,hb,by omega,?_⟩
 by_cases hl:ns.length=ms.length
 ·refine .inr ⟨λj=>decide (ns[j]?=ms[j]?),by simp [hl],λj x y hx hy=>?_,?_⟩
  ·rw [List.getElem?_map] at hx hy
   cases e1:ns[j]? with
   | none=>rw [e1] at hx;cases hx
   | some i =>
    cases e2:ms[j]? with
    | none=>rw [e2] at hy;cases hy
    | some k =>
     rw [e1] at hx
     rw [e2] at hy
     cases hx
     cases hy
     have q:=EqV.flat (K:=K) (H:=H) (n:=0) (x:=.int i) (y:=.int k) rfl rfl
     have e:eqV (.int i) (.int k)=decide (some i=some k):=by
      show (i == k)=_
      rw [Bool.beq_eq_decide_eq]
      simp
     rw [e] at q
     show EqV K H 0 (V.int i) (V.int k) (decide (ns[j]?=ms[j]?))
     rw [e1,e2]
     exact q
  ·rw [List.length_map,all_eq hl]
   exact q
 ·refine .inl ⟨by simpa using hl,?_⟩
  have e:decide (ns=ms)=false:=decide_eq_false (λz=>hl (by rw [z]))
  rw [e] at q
  cases neg<;>exact q
def Rows (K:W.Frag) (H:Hp) (a:Addr) (xss:Jq):Prop :=
 ∃ as:List Addr,SqL K H a (as.map V.ref)∧as.length=xss.length∧∀ (j:Nat) (p:Addr) (ns:Ji),as[j]?=some p->xss[j]?=some ns->H p=some (.lst ↑47)
theorem zkM {ns ms:Ji} (h:ns.map V.int=ms.map V.int):ns=ms:=by
 induction ns generalizing ms with
 | nil=>cases ms with
  | nil=>rfl
  | cons _ _=>cases h
 | cons x r ih=>cases ms with
  | nil=>cases h
  | cons y s =>
   injection h with h1 h2
   injection h1 with h1
   rw [h1,ih h2]
theorem EqV.ints {K:W.Frag} {H:Hp} {n:Nat} {a b:Addr} {ns ms:Ji} (ha:H a=some (.lst ↑47)) (hb:H b=some (.lst (ms.map V.int))):EqV K H (n+1) (.ref a) (.ref b) (decide (ns=ms)):=by
 by_cases hab:a=b
 ·subst hab
  rw [ha] at hb
  have e:ns=ms:=zkM (by injection hb with hb;injection hb)
  rw [decide_eq_true e]
  exact .same
 ·by_cases hl:ns.length=ms.length
  ·have q:=EqV.lists (K:=K) (H:=H) (n:=n) (e:=λj=>decide (ns[j]?=ms[j]?)) hab (SqL.of ha) (SqL.of hb) (by simp [hl]) λj x y hx hy=>?_
   ·rw [List.length_map,all_eq hl] at q
    exact q
   ·rw [List.getElem?_map] at hx hy
    cases e1:ns[j]? with
    | none=>rw [e1] at hx;cases hx
    | some i =>
     cases e2:ms[j]? with
     | none=>rw [e2] at hy;cases hy
     | some k =>
      rw [e1] at hx
      rw [e2] at hy
      cases hx
      cases hy
      have q:=EqV.flat (K:=K) (H:=H) (n:=n) (x:=.int i) (y:=.int k) rfl rfl
      have e:eqV (.int i) (.int k)=decide (some i=some k):=by
       show (i == k)=_
       rw [Bool.beq_eq_decide_eq]
       simp
      rw [e] at q
      exact q
  ·rw [decide_eq_false (λz=>hl (by rw [z]))]
   exact .lens hab (SqL.of ha) (SqL.of hb) (by simpa using hl)
theorem zoV.rows {K:W.Frag} {neg:Bool} {H:Hp} {Q:VK} {a b:Addr} {xss yss:Jq} (ha:Rows K H a xss) (hb:Rows K H b yss) (q:Q (.bl (if neg then !decide (xss=yss) else decide (xss=yss))) H) :
  zoV K neg (.ref a) (.ref b) H Q:=by
 obtain ⟨as,hsa,hla,hra⟩:=ha
 obtain ⟨bs,hsb,hlb,hrb⟩:=hb
 refine ⟨a,b,1,_,_,rfl,rfl,hsa,hsb,by omega,?_⟩
 by_cases hl:xss.length=yss.length
 ·refine .inr ⟨λj=>decide (xss[j]?=yss[j]?),by simp;omega,λj x y hx hy=>?_,?_⟩
  ·rw [List.getElem?_map] at hx hy
   cases e1:as[j]? with
   | none=>rw [e1] at hx;cases hx
   | some p =>
    cases e2:bs[j]? with
    | none=>rw [e2] at hy;cases hy
    | some p2 =>
     rw [e1] at hx
     rw [e2] at hy
     cases hx
     cases hy
     have h1:j<xss.length:=by have:=(List.getElem?_eq_some_iff.mp e1).1;omega
     have h2:j<yss.length:=by omega
     have q:=EqV.ints (K:=K) (n:=0) (hra j p _ e1 (List.getElem?_eq_getElem h1)) (hrb j p2 _ e2 (List.getElem?_eq_getElem h2))
     show EqV K H 1 (V.ref p) (V.ref p2) (decide (xss[j]?=yss[j]?))
     rw [List.getElem?_eq_getElem h1,List.getElem?_eq_getElem h2]
     have e:decide (xss[j]=yss[j])=decide (some xss[j]=some yss[j]):=by simp
     rw [e] at q
     exact q
  ·rw [List.length_map,hla,all_eq hl]
   exact q
 ·refine .inl ⟨by simp;omega,?_⟩
  have e:decide (xss=yss)=false:=decide_eq_false (λz=>hl (by rw [z]))
  rw [e] at q
  cases neg<;>exact q
section
variable {X:Cx}
theorem zmQ {n k m:Nat} (h:n<2^k) (hk:k≤m) (hm:0<m):n.log2<m:=by
 by_cases hn:n=0
 ·subst hn
  exact Nat.lt_of_le_of_lt (by decide:Nat.log2 0≤0) hm
 ·exact Nat.lt_of_lt_of_le ((Nat.log2_lt hn).mpr h) hk
theorem zoc {i:Int} {k:Nat} (h:i.natAbs.log2<k):Builtin.Int.intBits i≤k:=by
 unfold Builtin.Int.intBits
 split
 ·exact Nat.zero_le _
 ·omega
def zgy (i j:Int):Prop:=0<j∧j.natAbs.log2<9000
theorem zb7:OpR X (binaryOp .FloorDiv) (rI zgy λi j=>.int (i/j)):=opI λi j _ _ _ _ _ hc q=>by
 have hj:j≠0:=by have:=hc.1;omega
 have e:i.fdiv j=i/j:=Int.fdiv_eq_ediv_of_nonneg _ (by have:=hc.1;omega)
 exact floordiv_int hj (by rw [e];exact q) (.inl (PyProof.noPylong_of_log2 hc.2))
end
end L2
namespace L2
open PySem PySem.Spec PyProof.Rows
def zpv (scope osc:Scope) (N own fvn:List Str) (fv:List Nat):Bool :=
 (scope.names.all λy=>y.2 != .cell||scope.names.lookup y.1 == some .cell)&&(scope.names.all λy=>y.2 != .free||scope.names.lookup y.1 == some .free)&&(scope.kind == .function)&&(scope.names.all λy=>y.2 != .local||scope.names.lookup y.1 == some .local) &&
 (scope.names.all λy=>y.2 != .free||osc.names.lookup y.1 == some .cell||osc.names.lookup y.1 == some .free)&&(fvn.map some == fv.map λi=>N[i]?)&&(fvn.all λx=>scope.names.lookup x == some .free)
theorem BlkScope.of {X:Cx} {scope osc:Scope} {N own fvn:List Str} {fv:List Nat} (hX:X.env.scope=osc) (hN:X.N=N) (h:zpv scope osc N own fvn fv=true):BlkScope X scope own fvn fv:=by
 subst hX hN
 unfold zpv at h
 simp only [Bool.and_eq_true,List.all_eq_true,bne_iff_ne,beq_iff_eq,Bool.or_eq_true] at h
 obtain ⟨⟨⟨⟨⟨⟨h1,h1'⟩,h2⟩,h3⟩,h4⟩,h5⟩,h6⟩:=h
 refine ⟨λy hy e=>?_,λy hy e=>?_,h2,λy hy e=>?_,λy hy e=>?_,h5,h6⟩
 ·rcases h1 y hy with z | z
  ·exact absurd e z
  ·exact z
 ·rcases h1' y hy with z | z
  ·exact absurd e z
  ·exact z
 ·rcases h3 y hy with z | z
  ·exact absurd e z
  ·exact z
 ·rcases h4 y hy with (z | z) | z
  ·exact absurd e z
  ·exact .inl z
  ·exact .inr z
theorem Same.new {H:Hp} {p:Addr} (h:H p=none) (o:HO):Same H (upd H p o):=λb u q=>by rw [zaq (zaV q h)];exact q
theorem Same.tup {K:W.Frag} {H H':Hp} {a:Addr} {xs:List V} (e:Same H H') (h:SqT K H a xs):SqT K H' a xs:=by
 rcases h with (h | ⟨o,h⟩) | h
 ·exact .inl (.inl (e _ _ h))
 ·exact .inl (.inr ⟨o,e _ _ h⟩)
 ·exact .inr h
theorem Same.rows {K:W.Frag} {H H':Hp} {a:Addr} {xss:Jq} (e:Same H H') (h:Rows K H a xss):Rows K H' a xss:=by
 obtain ⟨as,h1,h2,h3⟩:=h
 exact ⟨as,e.seq h1,h2,λj p ns q1 q2=>e _ _ (h3 j p ns q1 q2)⟩
structure Callee (P:Program) (w:World) (K:W.Frag) (mg:Str->Option Value) (base:Heap) (CX:CXT) (k:Nat) (x:Str) (ps:List Str) (sp:Sp):Prop where
 ex:∃ f fd,FnOk P w K mg base CX k f fd ps sp∧mg x=some (.ref f)∧W.keepIn K (.ref f)=true∧zgl K fd ps []
section
variable {X:Cx} {CX:CXT} {k:Nat} {ps:List Str} {sp:Sp} {E:XK} {x:Str} {p pos:Pos} {e:Expr} {es:List Expr} {t:TA}
theorem zaO (F:Callee X.prog X.w X.K X.mg X.base CX k x ps sp) (hr:Room k X.A) (hg:Gl X x) (hx:zgL CX X E)
  (ha:PA X (e::es) t) (hdb:↑45=false:=by decide) (he:starEach (e::es) X.env=(false,eval e X.env) :: starEach es X.env:=by rfl) (hpl:(↑66).any (·.1)=false:=by rfl) :
  PE X ↑164 (tCall sp [] E t):=by
 obtain ⟨f,fd,G,hm,hk,hb⟩:=F.ex
 exact zqz G hr hg hm hk hb .nil hx ha hdb he hpl
end
section
variable {X:Cx} {K:W.Frag}
theorem zat (hK:X.K=K):zfZ X (.builtin "len") ↑214:=by subst hK;exact zjD
theorem zcc (hK:X.K=K):zfZ X (.type "list") (λxs H Q=>∃p ys,xs=[.ref p]∧(SqL K H p ys∨SqT K H p ys)∧∀l,H l=none->Q (.ref l) (upd H l (.lst ys))):=by subst hK;exact zjX
theorem zmm (hK:X.K=K):zfZ X (.builtin "isinstance") (zue K):=by subst hK;exact zpl
theorem zmf (hK:X.K=K) (hc:X.calm=true):zfZ X (.builtin "sum") (λxs H Q=>∃(a:Addr) (ns:Ji),xs=[.ref a]∧SqL K H a ↑47∧Q (.int ns.sum) H):=by subst hK;exact zmL hc
theorem ziR (hK:X.K=K) (hc:X.calm=true):zfZ X (.builtin "all") (λxs H Q=>∃(a:Addr) (bs:List Bool),xs=[.ref a]∧SqL K H a (bs.map V.bl)∧Q (.bl (bs.all id)) H):=by subst hK;exact znF hc
theorem zaB (hK:X.K=K):IxR X (zq6 K):=by subst hK;exact zqO
theorem zaN (hK:X.K=K):IxR X (zuq K):=by subst hK;exact zsg
theorem zcN (hK:X.K=K):SlR X (ztE K):=by subst hK;exact zrC
theorem znz (hK:X.K=K) (hu:X.A.units+64<cLine):OpR X (compareOp .Eq) (zoV K false):=by subst hK;exact zsk hu
theorem zjp (hK:X.K=K) (hu:X.A.units+64<cLine):OpR X (compareOp .NotEq) (zoV K true):=by subst hK;exact ztk hu
theorem zaU {e:Expr} {f:Str} {pos:Pos} {ta:TE} (hK:X.K=K) (he:PE X e ta) (hb:attributeBase e f X.env (eval e X.env)=eval e X.env):PE X (.Attribute e f pos) (tFld K ta f):=by subst hK;exact zs3 he hb
theorem za3 {tg l:Expr} {tl:TE} (hK:X.K=K) (hl:PE X l tl):PI X tg l (zoL K tl):=by subst hK;exact zrg hl
theorem zb8 {a b:Expr} {ta:TA} {p pos tp:Pos} {elts:List Expr} {x1:Nat} (hK:X.K=K) (hg:Gl X "zip") (hm:X.mg "zip"=none) (ha:PA X [a,b] ta) (hs:starEach [a,b] X.env=[(false,eval a X.env),(false,eval b X.env)]:=by rfl) (hs2:starEach [b] X.env=[(false,eval b X.env)]:=by rfl) :
  PI X (.Tuple elts x1 tp) (.Call (.Name "zip" p) [a,b] [] pos) (ztP K ta):=by subst hK;exact zsR hg hm ha hs hs2
theorem zba {es:List Expr} {k:Nat} {t:TGs} {n:Nat} {pos:Pos} (hK:X.K=K) (hc:X.calm=true) (h:PGs X es t)
  (hn:((assignEach es X.env)).length=n:=by rfl) (hst:((assignEach es X.env)).findIdx? (·.1)=none:=by rfl):PG X (.Tuple es k pos) (zow K n t):=by subst hK;exact ztn hc h hn hst
theorem zbO {o e:Expr} {to:TE} {t:TA} {apos cpos:Pos} (hK:X.K=K) (ho:PE X o to) (ha:PA X [e] t)
  (hbase:attributeBase o "append" X.env (eval o X.env)=eval o X.env:=by rfl)
  (hfew:((backTo cpos (starEach [e] X.env)).all (λx=>!x.1)&&((backToKw cpos (keywordEach [] X.env))).all (λx=>x.1.isSome)
   &&decide (([e]:List Expr).length+([]:List Keyword).length+(if ([]:List Keyword).isEmpty then 0 else 1)<30))=true:=by rfl)
  (hline:(apos.endLine == cpos.line)=true:=by rfl) (hs:starEach [e] X.env=(false,eval e X.env) :: starEach [] X.env:=by rfl) (hplain:(backTo cpos (starEach [] X.env)).any (·.1)=false:=by rfl) :
  PE X (.Call (.Attribute o "append" apos) [e] [] cpos) (tBM K "list" zgw to t):=by
 subst hK
 exact zuJ PySem.F.plainAttrs_list PySem.F.slot_list_append PySem.F.type_list_append zjF ho ha hbase hfew hline hs hplain
end
end L2
namespace L2
open PySem PySem.Spec PyProof.Rows
theorem zan {n:Nat} (h:n≤10000):n≤sizeLine:=Nat.le_trans h ⇑1
end L2
namespace L2
open PySem PySem.Spec PyProof.Rows
theorem ziz (o:Obj) (f:Array Value->Array Value):(o.mapFields f).dict=o.dict:=by
 obtain ⟨c,d,dt,sl⟩:=o
 cases dt<;>rfl
section
variable {M:Model} {A:Around} {E:Value->Shared->Prop} {s:Shared}
theorem zok {base:Heap} {env:Env} {outer:List Env} {L e:Addr} {oe:Obj} {vs:Array Value} {head:Value} {hadNext:Bool} {Q:Unit->Shared->Prop}
  (hfr:A.frames=some (env :: outer)) (hl:s.heap.FunFrames base (env :: outer)) (hf:env.frame=some L) (he:s.heap.get? e=some oe) (hd:oe.data=.fields vs) (hsz:1<vs.size)
  (h:∀ (h':Heap) (T:Addr) (oT:Obj) (ts:Array Value),(∀ b o,b ∉ frs (env :: outer)->b≠e->s.heap.get? b=some o->h'.get? b=some o)->(∀ b o,b≠e->s.heap.get? b=some o->∃ sl,h'.get? b=some { o with slots:=sl }) →
   h'.get? e=some (oe.mapFields (·.setIfInBounds 1 (.ref T)))->s.heap.objs.size≤T->h'.get? T=some oT->oT.data=.fields ts->ts[3]?=some (rawInt L)->Q () { s with heap:=h' }) :
  wpAny M A (do let a ← frameOf env;let pl ← entryPlaceOf L hadNext;let b ← EntryCells.newEntry head a .none (rawInt L) .none pl;setField (.ref e) 1 b) Q E s:=by
 have hene:e ∉ (env :: outer).filterMap (·.frame):=λhm=>by
  obtain ⟨_,o,ho,hnf⟩:=hl.mem hm
  rw [he] at ho;injection ho with ho;subst ho;exact hnf vs hd
 refine wpAny_bind (wpAny_frameOf_fun hfr hl hf λh₁ hs₁=>?_)
 refine wpAny_bind (wpAny_entryPlaceOf λpl hpl=>?_)
 unfold EntryCells.newEntry newFields
 refine wpAny_bind (wpAny_newObj_type ?_ (hpl.sizeOk5 _ _ _ _ _))
 have he₁:h₁.get? e=some oe:=(hs₁.2.1 e hene).trans he
 have he₂:=Heap.get?_push_of_some (h:=h₁) { cls:=.type "traceback",dict:=none,data:=.fields (([head,.ref L,.none,rawInt L,.none]++(if pl.isEmpty then List.replicate 6 Value.none else pl))).toArray } he₁
 refine wpAny_setField he₂ hd hsz ?_
 have hTe:h₁.objs.size≠e:=Nat.ne_of_gt (Heap.lt_size he₁)
 have hd₃:=Obj.data_mapFields hd (·.setIfInBounds 1 (Value.ref h₁.objs.size))
 have he₃:=Heap.get?_update_self (Obj.mapFields (·.setIfInBounds 1 (Value.ref h₁.objs.size))) he₂ (Obj.isFreed_of_fields hd₃)
 have hT₃:=(Heap.get?_update_other (h₁.push { cls:=.type "traceback",dict:=none,data:=.fields (([head,.ref L,.none,rawInt L,.none]++(if pl.isEmpty then List.replicate 6 Value.none else pl))).toArray })
  (Obj.mapFields (·.setIfInBounds 1 (Value.ref h₁.objs.size))) (Ne.symm hTe)).trans (Heap.get?_push_size h₁ rfl)
 refine h _ h₁.objs.size _ _ (λb o hb hbe e1=>?_) (λb o hbe e1=>?_) he₃ (Nat.le_of_eq hs₁.1.symm) hT₃ rfl (by first | (simp;done) | (rcases hpl with rfl | ⟨_,_,_,_,_,_,_,rfl⟩<;>simp))
 ·rw [Heap.get?_update_other _ _ (Ne.symm hbe)]
  exact Heap.get?_push_of_some _ ((hs₁.2.1 b hb).trans e1)
 ·obtain ⟨sl,e2⟩:=hs₁.2.2 b o e1
  exact ⟨sl,by rw [Heap.get?_update_other _ _ (Ne.symm hbe)];exact Heap.get?_push_of_some _ e2⟩
end
def ExcAt (h:Heap) (H:Hp) (Fz:Addr->Prop) (L e:Addr) (cls:Value) (dct:Option Addr):Prop :=
 ∃ oe vs a0,h.get? e=some oe∧oe.cls=cls∧oe.dict=dct∧oe.data=.fields vs∧vs[0]?=some a0∧1<vs.size∧H e=none∧Fz e ∧
  (vs[1]?=some .none∨∃ T oT ts,vs[1]?=some (.ref T)∧T≠e∧h.get? T=some oT∧oT.data=.fields ts∧(ts[3]?=some .none∨ts[3]?=some (rawInt L))∧H T=none∧Fz T)
def zjl (h:Heap) (H:Hp) (Fz:Addr->Prop) (fl:Value) (e:Addr) (cls:Value) (dct:Option Addr):Prop :=
 ∃ oe vs a0,h.get? e=some oe∧oe.cls=cls∧oe.dict=dct∧oe.data=.fields vs∧vs[0]?=some a0∧1<vs.size∧H e=none∧Fz e ∧
  ∃ T oT ts,vs[1]?=some (.ref T)∧T≠e∧h.get? T=some oT∧oT.data=.fields ts∧ts[3]?=some fl∧H T=none∧Fz T
theorem zjl.atN {h:Heap} {H:Hp} {Fz:Addr->Prop} {L e:Addr} {cls:Value} {dct:Option Addr} (x:zjl h H Fz .none e cls dct):ExcAt h H Fz L e cls dct:=by
 obtain ⟨oe,vs,a0,h1,h2,h3,h4,h5,h6,h7,h8,T,oT,ts,t1,t2,t3,t4,t5,t6,t7⟩:=x
 exact ⟨oe,vs,a0,h1,h2,h3,h4,h5,h6,h7,h8,.inr ⟨T,oT,ts,t1,t2,t3,t4,.inl t5,t6,t7⟩⟩
theorem zjl.imp {h:Heap} {H:Hp} {Fz Fz':Addr->Prop} {e:Addr} {fl cls:Value} {dct:Option Addr} (x:zjl h H Fz fl e cls dct) (k:∀ b,Fz b->Fz' b):zjl h H Fz' fl e cls dct:=by
 obtain ⟨oe,vs,a0,h1,h2,h3,h4,h5,h6,h7,h8,T,oT,ts,t1,t2,t3,t4,t5,t6,t7⟩:=x
 exact ⟨oe,vs,a0,h1,h2,h3,h4,h5,h6,h7,k _ h8,T,oT,ts,t1,t2,t3,t4,t5,t6,k _ t7⟩
structure Own (X:Cx):Prop where
 stk:X.stack=X.env :: X.outer
 fr:X.env.frame=some X.env.locals
 ex:X.ex=[]
theorem zeq.there {P:Program} {w:World} {H:Hp} {h:Heap} {a:Addr} {o:HO} (x:zeq P w H h a o):∃ ob,h.get? a=some ob:=by
 cases o with
 | lst xs=>obtain ⟨_,_,_,_,e⟩:=x;exact ⟨_,e⟩
 | tup xs=>obtain ⟨_,_,_,o,e,_⟩:=x;exact ⟨_,e⟩
 | dK kvs=>obtain ⟨_,_,_,_,o,_,_,e,_⟩:=x;exact ⟨_,e⟩
 | dT kvs=>obtain ⟨_,_,_,_,o,_,_,e,_⟩:=x;exact ⟨_,e⟩
 | set S n=>obtain ⟨o,_,_,_,e,_⟩:=x;exact ⟨_,e⟩
 | ins C dx fs=>obtain ⟨_,_,_,e,_⟩:=x;exact ⟨_,e⟩
 | own y=>obtain ⟨_,e⟩:=x;exact ⟨_,e⟩
 | xd fs=>obtain ⟨_,⟨_,_,_,e,_⟩,_⟩:=x;exact ⟨_,e⟩
 | rng lo hi=>obtain ⟨_,_,_,e⟩:=x;exact ⟨_,e⟩
 | frz ob u=>obtain ⟨e,_⟩:=x;exact ⟨_,e⟩
 | tbl ps=>exact ⟨_,(show h.get? a=some _ from x)⟩
 | met f y=>exact ⟨_,(show h.get? a=some _ from x)⟩
 | ext φ=>obtain ⟨_,e,_⟩:=x;exact e
section
variable {X:Cx} {pins:List ⇑2} {σ:St} {H:Hp} {s:Shared} {h':Heap}
theorem Inv.recs {t':Nat} {ch:List Addr} (I:Inv X pins σ H s) (hch:∀ b∈ch,H b=none∧X.s₀.heap.get? b=none∧b≠X.env.locals∧↑184∧∀ p∈X.pn++pins,p.1≠b)
  (hex:X.ex=[]) (k:∀ b o,b ∉ frs X.stack->b ∉ ch->s.heap.get? b=some o->h'.get? b=some o) (ks:∀ b o,b ∉ ch->s.heap.get? b=some o->∃ sl,h'.get? b=some { o with slots:=sl }) :
  Inv X pins σ H { s with heap:=h',toks:=t' }:=by
 have sub:=I.stkSub
 have nfr:∀ b,b≠X.env.locals->b ∉ X.fs->b ∉ frs X.stack:=λb h1 h2 z=>by
  rcases List.mem_cons.mp (sub b z) with q | q
  ·exact h1 q
  ·exact h2 q
 have cl:∀ x c,X.env.cells.lookup x=some c->c≠X.env.locals:=I.cne
 refine ⟨I.ok,I.os,I.bare,⟨λb o e n hb hx=>?_,λb o e n hb hx=>?_,I.base.free,λb o e hx=>?_,I.base.tups,I.base.frzs,I.base.tbls⟩,?_,λx c e=>?_,I.free,I.freeC,λp hp=>?_,λb u e=>?_,I.len⟩
 ·have nc:b ∉ ch:=λz=>by rw [(hch b z).2.1] at e;cases e
  exact k b o (nfr b (Nat.ne_of_lt ↑178) hb) nc ↑229
 ·have nc:b ∉ ch:=λz=>by rw [(hch b z).2.1] at e;cases e
  obtain ⟨sl,e1⟩:=I.base.slot b o e n hb hx
  obtain ⟨sl',e2⟩:=ks b _ nc e1
  exact ⟨sl',e2⟩
 ·have nc:b ∉ ch:=λz=>by rw [(hch b z).2.1] at e;cases e
  obtain ⟨o',e1⟩:=I.base.there b o e hx
  obtain ⟨sl',e2⟩:=ks b _ nc e1
  exact ⟨_,e2⟩
 ·obtain ⟨m,⟨o,es,ep,ho,hd,r⟩,hl⟩:=I.loc
  have nc:X.env.locals ∉ ch:=λz=>(hch _ z).2.2.1 rfl
  obtain ⟨sl,e1⟩:=ks _ _ nc ho
  refine ⟨m,⟨_,es,ep,e1,hd,r⟩,λi x v e1 e2 e3=>?_⟩
  obtain ⟨u,ru,l⟩:=hl i x v e1 e2 e3
  refine ⟨u,ru,?_⟩
  rcases l with l | ⟨kk,c,e,oc,hoc,hcd⟩
  ·exact .inl l
  ·obtain ⟨sl',e4⟩:=ks c oc (λz=>(hch c z).2.2.2.1 x c e rfl) hoc
   exact .inr ⟨kk,c,e,_,e4,hcd⟩
 ·obtain ⟨v,oc,hoc,hcd⟩:=I.cell x c e
  obtain ⟨sl',e4⟩:=ks c oc (λz=>(hch c z).2.2.2.1 x c e rfl) hoc
  exact ⟨v,_,e4,hcd⟩
 ·obtain ⟨e,n,ne,nf,d⟩:=I.pin p hp
  exact ⟨k _ _ (nfr _ ne nf) (λz=>(hch _ z).2.2.2.2 p hp rfl) e,n,ne,nf,d⟩
 ·refine (I.hok b u e).stay (λc v hc q=>?_) (λ_ q=>q) λ_ _ q=>q
  have trk:∃ u',H c=some u':=by
   rcases hc with z | z
   ·rw [z];exact ⟨u,e⟩
   ·exact ⟨_,z⟩
  obtain ⟨u',hu'⟩:=trk
  refine k c v (λz=>?_) (λz=>?_) q
  ·rw [I.stkFree c z] at hu';cases hu'
  ·rw [(hch c z).1] at hu';cases hu'
def Fz (X:Cx) (pins:List ⇑2) (b:Addr):Prop:=X.s₀.heap.get? b=none∧∀ p∈X.pn++pins,p.1≠b
theorem Inv.fz (I:Inv X pins σ H s) (hex:X.ex=[]) {b:Addr} (h:s.heap.get? b=none):Fz X pins b:=by
 refine ⟨?_,λp hp z=>?_⟩
 ·cases q:X.s₀.heap.get? b with
  | none=>rfl
  | some o =>
   obtain ⟨o',e⟩:=I.base.there b o q (by rw [hex];simp)
   rw [h] at e;cases e
 ·rw [← z,(I.pin p hp).1] at h;cases h
theorem Inv.tfree (I:Inv X pins σ H s) {b:Addr} (h:s.heap.get? b=none):H b=none:=by
 cases q:H b with
 | none=>rfl
 | some u =>
  have:=(I.hok b u q).lt
  cases e:s.heap.get? b with
  | none =>
   obtain ⟨o,e'⟩:=zeq.there (I.hok b u q)
   rw [h] at e';cases e'
  | some o=>rw [h] at e;cases e
theorem zgJ (I:Inv X pins σ H s) {b:Addr} {o:Obj} {vs:Array Value} (e:s.heap.get? b=some o) (hd:o.data=.fields vs) (hn:H b=none) (hF:Fz X pins b) :
  H b=none∧X.s₀.heap.get? b=none∧b≠X.env.locals∧↑184∧∀ p∈X.pn++pins,p.1≠b:=by
 refine ⟨hn,hF.1,λz=>?_,λx c ec z=>?_,hF.2⟩
 ·obtain ⟨m,⟨o',es,ep,ho',hd',_⟩,_⟩:=I.loc
  rw [← z,e] at ho';cases ho';rw [hd] at hd';cases hd'
 ·obtain ⟨v,oc,hoc,hcd⟩:=I.cell x c ec
  rw [z,e] at hoc;cases hoc;rw [hd] at hcd;cases hcd
theorem zlB {M:Model} {E:Value->Shared->Prop} {e:Addr} {cls:Value} {dct:Option Addr} {Q:Unit->Shared->Prop} (O:Own X) (I:Inv X pins σ H s) (x:ExcAt s.heap H (Fz X pins) X.env.locals e cls dct)
  {A:Around} (hA:A.frames=X.A.frames) (hQ:∀ s',Inv X pins σ H s'->zjl s'.heap H (Fz X pins) (rawInt X.env.locals) e cls dct->Q () s'):wpAny M A (noteFrame (.ref e) X.env) Q E s:=by
 obtain ⟨oe,vs,a0,h1,h2,h3,h4,h5,h6,h7,h8,h9⟩:=x
 have hfr:A.frames=some (X.env :: X.outer):=by rw [hA,I.ok.frames,O.stk]
 have hfun:s.heap.FunFrames X.base (X.env :: X.outer):=by have:=I.stack;rw [O.stk] at this;exact this
 have ae:=zgJ I h1 h4 h7 h8
 have newE:∀ (s1:Shared) (head:Value) (hadNext:Bool),Inv X pins σ H s1->s1.heap.get? e=some oe->(∀ b,b∈X.env :: X.outer->True) →
   wpAny M A (do let a ← frameOf X.env;let pl ← entryPlaceOf X.env.locals hadNext;let b ← EntryCells.newEntry head a .none (rawInt X.env.locals) .none pl;setField (.ref e) 1 b) Q E s1:=λs1 head hadNext I1 e1 _=>by
  have hfun1:s1.heap.FunFrames X.base (X.env :: X.outer):=by have:=I1.stack;rw [O.stk] at this;exact this
  refine zok hfr hfun1 O.fr e1 h4 h6 λh' T oT ts k ks he hT hgT hdT ht3=>?_
  have hTn:s1.heap.get? T=none:=Heap.get?_none_of_le hT
  have I2:Inv X pins σ H { s1 with heap:=h' }:=by
   refine I1.recs (t':=s1.toks) (ch:=[e]) (λb hb=>?_) O.ex (λb o hb hc q=>?_) (λb o hc q=>?_)
   ·rw [List.mem_singleton.mp hb];exact ae
   ·rw [O.stk] at hb
    exact k b o hb ↑176 q
   ·exact ks b o ↑176 q
  refine hQ _ I2 ⟨_,_,a0,he,(Obj.cls_mapFields _ _).trans h2,(ziz _ _).trans h3,Obj.data_mapFields h4 _,?_,?_,h7,h8,T,oT,ts,?_,?_,hgT,hdT,ht3,I1.tfree hTn,I1.fz O.ex hTn⟩
  ·rw [Array.getElem?_setIfInBounds_ne ⇑1];exact h5
  ·rw [Array.size_setIfInBounds];exact h6
  ·rw [Array.getElem?_setIfInBounds_self_of_lt h6]
  ·intro z;rw [z,e1] at hTn;cases hTn
 unfold noteFrame
 simp only [O.fr]
 rcases h9 with h9 | ⟨T,oT,ts,t1,t2,t3,t4,t5,t6,t7⟩
 ·refine wpAny_bind (wpAny_field h1 h4 h9 ?_)
  rw [if_neg ⇑1]
  exact newE s _ _ I h1 (λ_ _=>trivial)
 ·refine wpAny_bind (wpAny_field h1 h4 t1 ?_)
  rw [if_pos (show (Value.ref T !=Value.none)=true from by simp)]
  rcases t5 with t5 | t5
  ·refine wpAny_bind (wpAny_field t3 t4 t5 ?_)
   rw [if_neg (show ¬ ((Value.none == rawInt X.env.locals)=true) from by simp [rawInt])]
   refine wpAny_bind (wpAny_setField t3 t4 (Array.getElem?_eq_some_iff.mp t5).1 ?_)
   have aT:=zgJ I t3 t4 t6 t7
   have other:∀ b,b≠T->(s.heap.update T (Obj.mapFields (·.setIfInBounds 3 Value.none))).get? b=s.heap.get? b:=λb hb=>Heap.get?_update_other _ _ (Ne.symm hb)
   have I1:Inv X pins σ H { s with heap:=s.heap.update T (Obj.mapFields (·.setIfInBounds 3 Value.none)) }:=by
    refine I.recs (t':=s.toks) (ch:=[T]) (λb hb=>?_) O.ex (λb o _ hc q=>?_) (λb o hc q=>⟨o.slots,?_⟩)
    ·rw [List.mem_singleton.mp hb];exact aT
    ·exact (other b ↑176).trans q
    ·exact (other b ↑176).trans q
   exact newE _ _ _ I1 ((other e (Ne.symm t2)).trans h1) (λ_ _=>trivial)
  ·refine wpAny_bind (wpAny_field t3 t4 t5 ?_)
   rw [if_pos (show (rawInt X.env.locals == rawInt X.env.locals)=true from by simp)]
   exact wpAny_pure (hQ s I ⟨oe,vs,a0,h1,h2,h3,h4,h5,h6,h7,h8,T,oT,ts,t1,t2,t3,t4,t5,t6,t7⟩)
theorem zha {M:Model} {A:Around} {E:Value->Shared->Prop} {e:Addr} {fl cls:Value} {dct:Option Addr} {fr:Option Addr} {Q:Unit->Shared->Prop} (O:Own X) (I:Inv X pins σ H s) (x:zjl s.heap H (Fz X pins) fl e cls dct)
  (hQ:∀ s',Inv X pins σ H s'->zjl s'.heap H (Fz X pins) (fr.elim .none λf=>rawInt f) e cls dct->Q () s'):wpAny M A (setFlight (.ref e) fr) Q E s:=by
 obtain ⟨oe,vs,a0,h1,h2,h3,h4,h5,h6,h7,h8,T,oT,ts,t1,t2,t3,t4,t5,t6,t7⟩:=x
 have h3s:3<ts.size:=(Array.getElem?_eq_some_iff.mp t5).1
 have aT:=zgJ I t3 t4 t6 t7
 have other:∀ b,b≠T->(s.heap.update T (Obj.mapFields (·.setIfInBounds 3 (fr.elim Value.none λf=>rawInt f)))).get? b=s.heap.get? b:=λb hb=>Heap.get?_update_other _ _ (Ne.symm hb)
 unfold setFlight
 refine wpAny_bind (wpAny_field h1 h4 t1 ?_)
 rw [if_pos (show (Value.ref T !=Value.none)=true from by simp)]
 refine wpAny_setField t3 t4 h3s (hQ _ ?_ ?_)
 ·refine I.recs (t':=s.toks) (ch:=[T]) (λb hb=>?_) O.ex (λb o _ hc q=>?_) (λb o hc q=>⟨o.slots,?_⟩)
  ·rw [List.mem_singleton.mp hb];exact aT
  ·exact (other b ↑176).trans q
  ·exact (other b ↑176).trans q
 ·exact ⟨oe,vs,a0,(other e (Ne.symm t2)).trans h1,h2,h3,h4,h5,h6,h7,h8,T,_,_,t1,t2,Heap.get?_update_self _ t3 (Obj.isFreed_of_fields (Obj.data_mapFields t4 _)),Obj.data_mapFields t4 _,by rw [Array.getElem?_setIfInBounds_self_of_lt h3s],t6,t7⟩
end
theorem exc_obj {K:W.Frag} {h:Heap} {C:Addr} {bmB:List Value} {newId:String} (X:K.In h) (q:W.excIn K C bmB newId=true) :
  ∃ bm N nm qn bs hdct sn sub ab col dd k0 k1 k2 k3 k5 mN,h.get? C=some (excClassObj nm qn C N bs bm hdct sn sub ab col dd k0 k1 k2 k3 k5 newId)∧h.Ns N mN∧mN "__init__"=none∧OwnTail h bmB bm:=by
 unfold W.excIn at q
 split at q
 ·rename_i dd cd sl ho
  split at q
  ·rename_i C' bm k0 k1 k2 k3 n k5 hm hs
   simp only [Bool.and_eq_true,beq_iff_eq,Bool.not_eq_true'] at q
   obtain ⟨⟨⟨⟨⟨rfl,rfl⟩,hdel⟩,ht⟩,hok⟩,hni⟩:=q
   obtain ⟨nm,bs,mro,ns,qn,hd,sn,sub,ab,col,del⟩:=cd
   dsimp only at hm hdel hok hni
   subst hm hdel
   have hsl:sl=#[k0,k1,k2,k3,some (.builtin n),k5]:=by
    obtain ⟨l⟩:=sl
    simp only at hs
    rw [hs]
   subst hsl
   exact ⟨bm,ns,nm,qn,bs,hd,sn,sub,ab,col,dd,k0,k1,k2,k3,k5,_,X _ _ ho,.of_isNs (W.isNs_of_in X hok),W.nsMap_none_of_in X hok hni,W.tail_of_in X ht⟩
  ·cases q
 ·cases q
end L2
namespace L2
open PySem PySem.Spec PyProof.Rows
def XP (X:Cx) (pins:List ⇑2) (σ:St) (E:XK) (ev:Value) (s':Shared):Prop :=
 ∃ e cls dct H',ev=.ref e∧Inv X pins σ H' s'∧ExcAt s'.heap H' (Fz X pins) X.env.locals e cls dct∧E cls dct H'
abbrev XS:=St->XK
def XPs (X:Cx) (pins:List ⇑2) (E:XS) (ev:Value) (s':Shared):Prop:=∃ σ',XP X pins σ' (E σ') ev s'
def CXE (P:Program) (w:World):CXT:=λouter H s E ev s'=>∃ e cls dct H',ev=.ref e∧s'.os=s.os∧AllBare s'.gens∧Un (frs outer) [] H H' s.heap s'.heap∧HOk P w H' s'.heap ∧
 zjl s'.heap H' (λb=>s.heap.get? b=none) .none e cls dct∧E cls dct H'
theorem zaK {P:Program} {w:World} {X:Cx}:zgL ↑1 X E0:=λ_ _ _ _ _ _ _ h=>by
 obtain ⟨_,_,_,_,_,_,_,_,_,_,f⟩:=h
 exact False.elim f
abbrev TEX:=St->Hp->VK->XK->Prop
def PEX (X:Cx) (e:Expr) (t:TEX):Prop :=
 ∀ (pins:List ⇑2) (s:Shared) (σ:St) (H:Hp) (Q:VK) (E:XK),Inv X pins σ H s->t σ H Q E->wpAny ↥2 X.A (eval e X.env) ↑57 (XP X pins σ E) s
abbrev TSX:=Ends->XS->St->Hp->Prop
def PSX (X:Cx) (st:Stmt) (t:TSX):Prop :=
 ∀ (pins:List ⇑2) (s:Shared) (σ:St) (H:Hp) (D:Ends) (E:XS),Inv X pins σ H s->t D E σ H->wpAny ↥2 X.A (exec st X.env) (SP X pins D) (XPs X pins E) s
def zkt (X:Cx) (st:List Stmt) (t:TSX):Prop :=
 ∀ (pins:List ⇑2) (s:Shared) (σ:St) (H:Hp) (D:Ends) (E:XS),Inv X pins σ H s->t D E σ H->wpAny ↥2 X.A (execs st X.env) (SP X pins D) (XPs X pins E) s
section
variable {X:Cx} {e:Expr} {st:Stmt} {rest:List Stmt} {pos:Pos}
theorem zo7 {t:TS} (h:PS X.nox st t):PSX X st (λD _ σ H=>t D σ H):=λpins s σ H D E I hw =>
 wpAny_mono (h pins s σ H D (I.wish _) hw) (λ_ _ q=>SP.unwish q) λ_ _ f=>f.elim
theorem zjS {sts:List Stmt} {t:TS} (h:PSs X.nox sts t):zkt X sts (λD _ σ H=>t D σ H):=λpins s σ H D E I hw =>
 wpAny_mono (h pins s σ H D (I.wish _) hw) (λ_ _ q=>SP.unwish q) λ_ _ f=>f.elim
theorem zpd:zkt X [] (λD _ σ H=>D.nx σ H):=λ_ _ σ H _ _ I h=>wpAny_execs_nil ⟨σ,H,I,h⟩
theorem zne {t u:TSX} (h1:PSX X st t) (h2:zkt X rest u):zkt X (st :: rest) (λD E σ H=>t { D with nx:=u D E } E σ H):=by
 intro pins s σ H D E I h
 refine wpAny_execs_cons (thn (h1 pins s σ H { D with nx:=u D E } E I h) λf s1 q=>?_)
 cases f with
 | next =>
  obtain ⟨σ',H',I',q⟩:=q
  exact h2 pins s1 σ' H' D E I' q
 | ret v=>exact q
 | brk=>exact q
 | cont=>exact q
theorem ztA {c:Expr} {a b:List Stmt} {tc:TT} {t u:TSX} (hc:PT X.nox c tc) (ha:zkt X a t) (hb:zkt X b u):PSX X (.If c a b pos) (λD E σ H=>tc σ H λk H1=>if k=true then t D E σ H1 else u D E σ H1):=by
 intro pins s σ H D E I h
 refine wpAny_If (wpAny_mono (hc pins s σ H _ (I.wish _) h) (λd s1 ⟨H1,I1,q1⟩=>?_) λ_ _ f=>f.elim)
 cases d with
 | true=>exact ha pins s1 σ H1 D E I1.unwish q1
 | false=>exact hb pins s1 σ H1 D E I1.unwish q1
theorem zoU {te:TEX} (he:PEX X e te) (hs:swapsWith e none pos.line X.env=pure false:=by rfl):PSX X (.Expr e pos) (λD E σ H=>te σ H (λ_ H1=>D.nx σ H1) (E σ)):=by
 intro pins s σ H D E I h
 exact wpAny_Expr_any (wpAny_mono (he pins s σ H _ _ I h) (λv s1 ⟨x,H1,I1,r1,q1⟩=>⟨σ,H1,I1,q1⟩) λ_ _ q=>⟨σ,q⟩) I.quiet hs
theorem zqv {i:Nat} {x:Str} {te:TEX} {pos':Pos} (hN:X.N.Nodup) (hi:X.N[i]?=some x) (hx:Loc X.env.scope x) (he:PEX X e te) (hs:swapsWith e (some (.Name x pos')) pos.line X.env=pure false:=by rfl)
  (hf:X.fn x=true∨X.env.scope.names.lookup x=some .local:=by first | exact .inl rfl | exact .inr rfl | assumption) :
  PSX X (.Assign [.Name x pos'] e pos) (λD E σ H=>te σ H (λv H1=>D.nx ↑144 H1) (E σ)):=by
 intro pins s σ H D E I h
 refine wpAny_Assign_Name (wpAny_mono (he pins s σ H _ _ I h) (λv s1 ⟨y,H1,I1,r1,q1⟩=>?_) λ_ _ q=>⟨σ,q⟩) hs
 exact zfK I1 hN hi hx r1 (λs2 I2=>⟨_,H1,I2,q1⟩) hf
end
section
variable {X:Cx} {k:Nat} {ps:List Str} {sp:Sp} {x:Str} {p pos:Pos} {e:Expr} {es:List Expr} {t:TA}
theorem zkk {pins:List ⇑2} {σ:St} {H:Hp} {s s':Shared} {E:XK} {ev:Value} (O:Own X) (I:Inv X pins σ H s) (h:CXE X.prog X.w X.stack H s E ev s'):XP X pins σ E ev s':=by
 obtain ⟨a,cls,dct,H',rfl,ho,hb,u,hok,x,q⟩:=h
 have I':Inv X pins σ H' s':=I.call' (ch:=[]) ho u hok hb λb hb=>by cases hb
 exact ⟨a,cls,dct,H',rfl,I',(x.imp λb hb=>I.fz O.ex hb).atN,q⟩
theorem zuE (O:Own X) (F:Callee X.prog X.w X.K X.mg X.base (CXE X.prog X.w) k x ps sp) (hr:Room k X.A) (hg:Gl X x)
  (ha:PA X.nox (e::es) t) (hdb:↑45=false:=by decide) (he:starEach (e::es) X.env=(false,eval e X.env) :: starEach es X.env:=by rfl) (hpl:(↑66).any (·.1)=false:=by rfl) :
  PEX X ↑164 (λσ H Q E=>t σ H λvs H1=>sp (vs++[]) H1 Q E):=by
 obtain ⟨f,fd,G,hm,hk,hb⟩:=F.ex
 intro pins s σ H Q E I h
 refine wpAny_Call_Name_kw (zhm I hg hm ?_ hdb)
 refine W.callWith_K (h₀:=X.base) I.ok.mod.kin hk (wpAny_mono (ha pos pins s σ H _ (I.wish _) h) (λus s1 ⟨vs,H1,I1,r,q⟩=>⟨I1.unwish.kIn,?_⟩) λ_ _ f=>f.elim) he hpl
 have I2:=I1.unwish
 have r2:zcn (vs++[]) (us++[]):=r.append .nil
 have hl:(us++[]).length=ps.length:=by rw [← r2.length];exact G.len _ _ _ _ q
 refine wpAny_call (codeAny_mono (G.run X.A X.stack s1 H1 ⟨us,[]⟩ (us++[]) (vs++[]) Q E hr I2.env0 (hb s1 us I2.kIn hl) r2 q) λr s' hq=>?_)
 cases r with
 | error e=>exact zkk O I2 hq
 | ok fl =>
  cases fl with
  | ret u=>exact I2.after hq
  | next=>exact False.elim hq
  | brk=>exact False.elim hq
  | cont=>exact False.elim hq
theorem zm1 {C:Addr} {B newId initId:String} {bmB:List Value} {np cpos:Pos} (O:Own X) (hc:X.calm=true) (hg:Gl X x) (hm:X.mg x=some (.ref C)) (hK:W.excIn X.K C bmB newId=true) (FB:ExcBaseFacts B newId initId bmB)
  (ha:PA X.nox (e::es) t) (hdb:↑45=false:=by decide) (he:starEach (e::es) X.env=(false,eval e X.env) :: starEach es X.env:=by rfl) (hpl:(↑227).any (·.1)=false:=by rfl) :
  PSX X (.Raise (some (.Call (.Name x np) (e::es) [] cpos)) none pos) (λ_ E σ H=>t σ H λvs H1=>vs.length≤sizeLine∧E σ (.ref C) none H1):=by
 intro pins s σ H D E I h
 obtain ⟨tl,N,nm,q,bs,hdct,sn,sub,ab,col,dd,k0,k1,k2,k3,k5,mN,hC,hN,hni,T⟩:=exc_obj I.ok.mod.kin hK
 refine wpAny_Raise_call_subT (C:=C) (nm:=nm) (q:=q) (N:=N) (bs:=bs) (bm:=tl) (hdct:=hdct) (sn:=sn) (sub:=sub) (ab:=ab) (col:=col) (dd:=dd) (k0:=k0) (k1:=k1) (k2:=k2) (k3:=k3) (k5:=k5)
  FB (mN:=mN) (T.hasType FB.hasBase) (I.ok.hd hc) (by rw [he];show (false||(↑227).any (·.1))=false;rw [hpl];rfl) hni (zhm I hg hm ⟨rfl,?_⟩ hdb)
 have hA:=ha cpos pins s σ H _ (I.wish _) h
 rw [he] at hA ⊢
 refine Calls.evalArgs_plain (wpAny_mono hA (λus s1 ⟨vs,H1,I1,r,hz,qE⟩=>⟨rfl,?_,?_⟩) λ_ _ f=>f.elim)
 ·show us.length≤sizeLine
  rw [← r.length];exact hz
 ·have I2:=I1.unwish
  refine ⟨I2.bk _ _ hC,hN.keeps I2.bk,T.keeps I2.bk,λh' ea hx=>?_⟩
  obtain ⟨tp,hea,_,_⟩:=hx.there
  refine ⟨σ,ea,.ref C,none,H1,rfl,I2.kept (t':=s1.toks) hx.keeps,⟨_,_,_,hea,rfl,rfl,rfl,rfl,by show 1<6;decide,I2.tfree hx.new,I2.fz O.ex hx.new,.inl rfl⟩,qE⟩
end
section
variable {P:Program} {w:World} {K:W.Frag} {mg:Str->Option Value} {base:Heap}
theorem zot {N:List Str} {qual:Str} {scope:Scope} {f:Addr} {cd:Value} {A:Around} {outer:List Env} {s:Shared} {H:Hp} {E:XK} {pins:List ⇑2} {ev:Value} {s':Shared}
  (h:XPs (zkN ↑1 P w K mg base N qual scope f cd A outer s H E) pins (λ_=>E) ev s'):((zkN ↑1 P w K mg base N qual scope f cd A outer s H E)).xe ev s':=by
 obtain ⟨σ',e,cls,dct,H',rfl,I,x,q⟩:=h
 have O:Own (zkN ↑1 P w K mg base N qual scope f cd A outer s H E):=⟨rfl,rfl,rfl⟩
 show wpAny _ _ (leaving _ (.ref e)) _ _ s'
 unfold leaving
 refine wpAny_bind (zlB O I x rfl λs1 I1 x1=>?_)
 refine zha (fr:=none) O I1 x1 λs2 I2 x2=>?_
 exact ⟨e,cls,dct,H',rfl,I2.os,I2.bare,I2.base,I2.hok,x2.imp (λb hb=>hb.1),q⟩
theorem Fun.okX {x qual:Str} {st:Stmt} {f:Addr} {fd:FuncData} {N ps:List Str} {k:Nat} {sp:Sp} (F:Fun K x qual st f fd) (S:FnScope N ps (zad st)) (len:∀ vs H Q E,sp vs H Q E->vs.length=ps.length)
  (hbody:∀ (cdv:Value) (A:Around) (outer:List Env) (s:Shared) (H:Hp) (vs:List V) (Q:VK) (E:XK),Room k ↑218->sp vs H Q E →
   ∃ t,zkt ↑155 (zaA st) t∧t { nx:=λ_ H'=>Q .non H',rt:=Q } (λ_=>E) (start N vs) H):FnOk P w K mg base ↑1 (k+1) f fd ps sp:=by
 obtain ⟨oc,od,kV,doc,pm,an,cdv,ct,osl,rfl,lk,hcd⟩:=F.ex
 refine zuv lk hcd S len λA outer s H vs Q E hr hsp=>?_
 obtain ⟨t,h,q⟩:=hbody cdv A outer s H vs Q E hr hsp
 exact ⟨λD σ H=>t D (λ_=>E) σ H,λpins s1 σ H1 D I hw=>wpAny_mono (h pins s1 σ H1 D _ I hw) (λ_ _ q=>q) λ_ _ q=>zot q,q⟩
end
end L2
namespace L2
open PySem PySem.Spec PyProof.Rows
structure Ds where
 pr:Hp->V->Prop
 up:∀ {H H':Hp} {v:V},Same H H'->pr H v->pr H' v
theorem zdx {ds:List Ds} {H H':Hp} (e:Same H H'):∀ {vs:List V} {ds:List Ds},Paired ↑117 vs ds->Paired (λv (d:Ds)=>d.pr H' v) vs ds
 | _,_,.nil=>.nil
 | _,_,.cons (b:=d) h t=>.cons (d.up e h) (zdx (ds:=[]) e t)
theorem zb2 {α β:Type} {R S:α->β->Prop} (h:∀ a b,R a b->S a b):∀ {xs:List α} {ys:List β},Paired R xs ys->Paired S xs ys
 | _,_,.nil=>.nil
 | _,_,.cons q t=>.cons (h _ _ q) (zb2 h t)
theorem zbn {α β:Type} {R:α->β->Prop}:∀ {xs:List α} {ys:List β} {i:Nat} {y:β},Paired R xs ys->ys[i]?=some y->∃ x,xs[i]?=some x∧R x y
 | _,_,_,_,.nil,e=>by simp at e
 | _,_,0,_,.cons r _,e=>by simp at e;subst e;exact ⟨_,rfl,r⟩
 | _,_,i+1,y,.cons _ t,e=>by
  obtain ⟨u,h1,h2⟩:=zbn (i:=i) (y:=y) t ↑149
  exact ⟨u,by simpa using h1,h2⟩
theorem zc3 {α β:Type} {R:α->β->Prop}:∀ {xs xs':List α} {ys ys':List β},Paired R xs ys->Paired R xs' ys'->Paired R (xs++xs') (ys++ys')
 | _,_,_,_,.nil,s=>s
 | _,_,_,_,.cons r t,s=>.cons r (zc3 t s)
theorem ziE {α β:Type} {R:α->β->Prop} {x:α} {y:β} (r:R x y):∀ {xs:List α} {ys:List β} (i:Nat),Paired R xs ys->Paired R (xs.set i x) (ys.set i y)
 | _,_,_,.nil=>.nil
 | _,_,0,.cons _ t=>.cons r t
 | _,_,i+1,.cons q t=>.cons q (ziE r i t)
theorem zii {α β:Type} {R:α->β->Prop}:∀ {xs:List α} {ys:List β} (n:Nat),Paired R xs ys->Paired R (xs.take n) (ys.take n)
 | _,_,0,_=>.nil
 | _,_,_+1,.nil=>.nil
 | _,_,n+1,.cons r t=>.cons r (zii n t)
theorem zio {α β:Type} {R:α->β->Prop}:∀ {xs:List α} {ys:List β} (n:Nat),Paired R xs ys->Paired R (xs.drop n) (ys.drop n)
 | _,_,0,r=>r
 | _,_,_+1,.nil=>.nil
 | _,_,n+1,.cons _ t=>zio n t
theorem ziH {α β:Type} {R:α->β->Prop} {xs:List α} {ys:List β} (h:Paired R xs ys):∀ n:Nat,Paired R (List.replicate n xs).flatten (List.replicate n ys).flatten
 | 0=>.nil
 | n+1=>by
  rw [List.replicate_succ,List.replicate_succ,List.flatten_cons,List.flatten_cons]
  exact zc3 h (ziH h n)
abbrev dV (v:V):Ds:=⟨λ_ u=>u=v,λ_ h=>h⟩
abbrev dI (n:Int):Ds:=dV (.int n)
abbrev dB (b:Bool):Ds:=dV (.bl b)
abbrev dN:Ds:=dV .non
abbrev dS (x:Str):Ds:=dV (.str x)
def dL (ds:List Ds):Ds:=⟨λH v=>∃ p vs,v=.ref p∧H p=some (.lst vs)∧Paired ↑117 vs ds,λe ⟨p,vs,h1,h2,h3⟩=>⟨p,vs,h1,e _ _ h2,zdx (ds:=[]) e h3⟩⟩
def dQ (K:W.Frag) (ds:List Ds):Ds:=⟨λH v=>∃ p vs,v=.ref p∧SqL K H p vs∧Paired ↑117 vs ds,λe ⟨p,vs,h1,h2,h3⟩=>⟨p,vs,h1,e.seq h2,zdx (ds:=[]) e h3⟩⟩
def dT (ds:List Ds):Ds:=⟨λH v=>∃ p vs,v=.ref p∧H p=some (.tup vs)∧Paired ↑117 vs ds,λe ⟨p,vs,h1,h2,h3⟩=>⟨p,vs,h1,e _ _ h2,zdx (ds:=[]) e h3⟩⟩
def dO (C:Addr) (fs:List (Str×Ds)):Ds:=⟨λH v=>∃ p dx vs,v=.ref p∧H p=some (.ins C dx vs)∧H dx=some (.own p)∧Paired (λ(a:Str×V) (b:Str×Ds)=>a.1=b.1∧b.2.pr H a.2) vs fs,
 λe ⟨p,dx,vs,h1,h2,h3,h4⟩=>⟨p,dx,vs,h1,e _ _ h2,e _ _ h3,zb2 (λ_ b q=>⟨q.1,b.2.up e q.2⟩) h4⟩⟩
class Enc (α:Type) where
 d:α->Ds
instance:Enc Int:=⟨dI⟩
instance:Enc Bool:=⟨dB⟩
instance:Enc Unit:=⟨λ_=>dN⟩
instance:Enc Str:=⟨dS⟩
instance {α:Type} [Enc α]:Enc (List α):=⟨λxs=>dL (xs.map Enc.d)⟩
instance {α β:Type} [Enc α] [Enc β]:Enc (α×β):=⟨λp=>dT [Enc.d p.1,Enc.d p.2]⟩
instance {α:Type} [Enc α]:Enc (Option α):=⟨λo=>match o with | none=>dN | some x=>Enc.d x⟩
structure T3 (α β γ:Type) where
 a:α
 b:β
 c:γ
instance {α β γ:Type} [Enc α] [Enc β] [Enc γ]:Enc (T3 α β γ):=⟨λp=>dT [Enc.d p.a,Enc.d p.b,Enc.d p.c]⟩
structure Grow (F H F' H':Hp):Prop where
 f:Same F F'
 fh:Same F' H'
 h:Same H H'
 no:∀ a,H a≠none->F a=none->F' a=none
theorem Grow.refl {F H:Hp} (e:Same F H):Grow F H F H:=⟨Same.refl _,e,Same.refl _,λ_ _ h=>h⟩
theorem Same.some {H H':Hp} (e:Same H H') {a:Addr} (h:H a≠none):H' a≠none:=by
 cases q:H a with
 | none=>exact absurd q h
 | some o=>rw [e _ _ q];simp
theorem Grow.trans {F H F' H' F'' H'':Hp} (g:Grow F H F' H') (k:Grow F' H' F'' H''):Grow F H F'' H'' :=
 ⟨g.f.trans k.f,k.fh,g.h.trans k.h,λa h1 h2=>k.no a (g.h.some h1) (g.no a h1 h2)⟩
theorem Grow.new {F H F' H':Hp} (g:Grow F H F' H') {p:Addr} {o:HO} (hp:H' p=none):Grow F H (upd F' p o) (upd H' p o):=by
 have hf:F' p=none:=by
  cases q:F' p with
  | none=>rfl
  | some u=>rw [g.fh _ _ q] at hp;cases hp
 refine ⟨g.f.trans (Same.new hf _),λa u q=>?_,g.h.trans (Same.new hp _),λa h1 h2=>?_⟩
 ·by_cases e:a=p
  ·subst e;rw [zaD] at q ⊢;exact q
  ·rw [zaq e] at q ⊢;exact g.fh _ _ q
 ·have:a≠p:=λe=>by subst e;exact (g.h.some h1) hp
  rw [zaq this];exact g.no a h1 h2
theorem Grow.newH {F H F' H':Hp} (g:Grow F H F' H') {p:Addr} {o:HO} (hp:H' p=none):Grow F H F' (upd H' p o) :=
 ⟨g.f,g.fh.trans (Same.new hp _),g.h.trans (Same.new hp _),g.no⟩
theorem Grow.setH {F H F' H':Hp} (g:Grow F H F' H') {p:Addr} {o:HO} (hf:F' p=none) (hp:H p=none):Grow F H F' (upd H' p o) :=
 ⟨g.f,λa u q=>by rw [zaq (zaV q hf)];exact g.fh _ _ q,λa u q=>by rw [zaq (zaV q hp)];exact g.h _ _ q,g.no⟩
theorem Grow.take {F H F' H':Hp} (g:Grow F H F' H') {p:Addr} {o:HO} (hp:H p=none) (e:H' p=some o):Grow F H (upd F' p o) H':=by
 refine ⟨λa u q=>?_,λa u q=>?_,g.h,λa h1 h2=>?_⟩
 ·by_cases z:a=p
  ·subst z
   have:=g.fh _ _ (g.f _ _ q)
   rw [e] at this;cases this;exact zaD
  ·rw [zaq z];exact g.f _ _ q
 ·by_cases z:a=p
  ·subst z;rw [zaD] at q;cases q;exact e
  ·rw [zaq z] at q;exact g.fh _ _ q
 ·have:a≠p:=λz=>by subst z;exact h1 hp
  rw [zaq this];exact g.no a h1 h2
def off (F Hb:Hp):Hp:=λa=>match Hb a with | none=>F a | some _=>none
theorem zb4 {F Hb:Hp} {a:Addr} {o:HO}:off F Hb a=some o ↔ Hb a=none∧F a=some o:=by
 unfold off
 cases q:Hb a with
 | none=>simp
 | some u=>simp
theorem zni {F F' Hb:Hp} (e:Same F F'):Same (off F Hb) (off F' Hb):=λa o q=>by
 rw [zb4] at q ⊢;exact ⟨q.1,e _ _ q.2⟩
theorem zi7 {F Hb:Hp}:Same (off F Hb) F:=λa o q=>(zb4.mp q).2
theorem zkD {F Hb Hc:Hp} (e:Same Hb Hc):Same (off F Hc) (off F Hb):=λa o q=>by
 rw [zb4] at q ⊢
 refine ⟨?_,q.2⟩
 cases z:Hb a with
 | none=>rfl
 | some u=>rw [e _ _ z] at q;cases q.1
def part (m:Bool) (F Hb:Hp):Hp:=match m with | true=>off F Hb | false=>F
theorem zbg {m:Bool} {F F' Hb:Hp} (e:Same F F'):Same (part m F Hb) (part m F' Hb):=by
 cases m with
 | true=>exact zni e
 | false=>exact e
theorem za9 {m:Bool} {F Hb:Hp}:Same (part m F Hb) F:=by
 cases m with
 | true=>exact zi7
 | false=>exact Same.refl _
theorem ze2 {m:Bool} {F Hb:Hp} {p:Addr} {o:HO} (hb:Hb p=none) (hp:F p=some o):part m F Hb p=some o:=by
 cases m with
 | true=>exact zb4.mpr ⟨hb,hp⟩
 | false=>exact hp
inductive Slot where
 | no
 | va (m:Bool) (d:Ds)
 | ow (m:Bool) (ds:List Ds)
 | ob (m:Bool) (C p dx:Addr) (fs:List (Str×Ds))
 | tl (d:Ds)
 | ol (p:Addr) (ds:List Ds)
abbrev Ctx:=List Slot
def zgH (Hb F H:Hp) (own:Nat->Option Addr) (i:Nat) (v:Option V):Slot->Prop
 | .tl d=>∃ x R,v=some x∧Same R H∧(∀ a o,R a=some o->F a=none∧Hb a=none)∧(∀ j p,own j=some p->R p=none)∧d.pr R x
 | .no=>True
 | .va m d=>∃ x,v=some x∧d.pr (part m F Hb) x
 | .ow m ds=>∃ p vs,v=some (.ref p)∧own i=some p∧F p=none∧Hb p=none∧H p=some (.lst vs)∧Paired ↑193 vs ds
 | .ol p ds=>∃ vs,v=some (.ref p)∧own i=some p∧F p=none∧Hb p=none∧H p=some (.lst vs)∧Paired ↑172 vs ds
 | .ob m C p dx fs=>∃ vs,v=some (.ref p)∧own i=some p∧(F p=none∧F dx=none)∧(Hb p=none∧Hb dx=none)∧(H p=some (.ins C dx vs)∧H dx=some (.own p))∧Paired (λ(a:Str×V) (b:Str×Ds)=>a.1=b.1∧b.2.pr (part m F Hb) a.2) vs fs
structure At (F0 Hb F H:Hp) (σ:St) (own:Nat->Option Addr) (Γ:Ctx):Prop where
 g:Grow F0 Hb F H
 inj:∀ i j p,own i=some p->own j=some p->i=j
 liv:∀ i p,own i=some p->H p≠none
 sl:∀ i s,Γ[i]?=some s->zgH Hb F H own i (σ[i]?).join s
 len:σ.length=Γ.length
theorem zgH.grow {Hb F H F' H':Hp} {own:Nat->Option Addr} {i:Nat} {v:Option V} {s:Slot} (h:zgH Hb F H own i v s) (g:Grow F H F' H'):zgH Hb F' H' own i v s:=by
 cases s with
 | no=>trivial
 | tl d =>
  obtain ⟨x,R,e,h1,h2,h3,h4⟩:=h
  exact ⟨x,R,e,h1.trans g.h,λa o q=>⟨g.no a (by rw [h1 _ _ q];simp) (h2 a o q).1,(h2 a o q).2⟩,h3,h4⟩
 | va m d=>obtain ⟨x,e,q⟩:=h;exact ⟨x,e,d.up (zbg g.f) q⟩
 | ow m ds =>
  obtain ⟨p,vs,e,ho,hf,hb,hp,q⟩:=h
  exact ⟨p,vs,e,ho,g.no p (by rw [hp];simp) hf,hb,g.h _ _ hp,zdx (ds:=[]) (zbg g.f) q⟩
 | ol p ds =>
  obtain ⟨vs,e,ho,hf,hb,hp,q⟩:=h
  exact ⟨vs,e,ho,g.no p (by rw [hp];simp) hf,hb,g.h _ _ hp,zdx (ds:=[]) g.f q⟩
 | ob m C p dx fs =>
  obtain ⟨vs,e,ho,hf,hb,hp,q⟩:=h
  exact ⟨vs,e,ho,⟨g.no p (by rw [hp.1];simp) hf.1,g.no dx (by rw [hp.2];simp) hf.2⟩,hb,⟨g.h _ _ hp.1,g.h _ _ hp.2⟩,zb2 (λ_ b z=>⟨z.1,b.2.up (zbg g.f) z.2⟩) q⟩
theorem At.grow {F0 Hb F H F' H':Hp} {σ:St} {own:Nat->Option Addr} {Γ:Ctx} (a:At F0 Hb F H σ own Γ) (g:Grow F H F' H'):At F0 Hb F' H' σ own Γ :=
 ⟨a.g.trans g,a.inj,λi p e=>g.h.some (a.liv i p e),λi s e=>(a.sl i s e).grow g,a.len⟩
theorem At.fh {F0 Hb F H:Hp} {σ:St} {own:Nat->Option Addr} {Γ:Ctx} (a:At F0 Hb F H σ own Γ):Same F H:=a.g.fh
theorem zew {σ:St} {i:Nat} {x:Option V} (h:i<σ.length):((σ.set i x)[i]?).join=x:=by
 rw [List.getElem?_set_self h];rfl
theorem zfF {σ:St} {i j:Nat} {x:Option V} (h:i≠j):((σ.set i x)[j]?).join=(σ[j]?).join:=by
 rw [List.getElem?_set_ne h]
theorem At.set {F0 Hb F H:Hp} {σ:St} {own:Nat->Option Addr} {Γ:Ctx} (a:At F0 Hb F H σ own Γ) (i:Nat) {m:Bool} {d:Ds} {v:V} (h:d.pr (part m F Hb) v) :
  At F0 Hb F H ↑144 own (Γ.set i (.va m d)):=by
 refine ⟨a.g,a.inj,a.liv,λj s e=>?_,by simp [a.len]⟩
 by_cases z:i=j
 ·subst z
  have hi:i<Γ.length:=by
   have:=(↑35).1
   simpa using this
  rw [List.getElem?_set_self hi] at e
  cases e
  rw [zew (by rw [a.len];exact hi)]
  exact ⟨v,rfl,h⟩
 ·rw [List.getElem?_set_ne z] at e
  rw [zfF z]
  exact a.sl j s e
theorem At.setOwn {F0 Hb F1 H1 F H:Hp} {σ:St} {own:Nat->Option Addr} {Γ:Ctx} (a1:At F0 Hb F1 H1 σ own Γ) (g:Grow F1 H1 F H) (i:Nat) {m:Bool} {ds:List Ds} {p:Addr} {vs:List V} (h1:H1 p=none) (hf:F p=none) (hp:H p=some (.lst vs))
  (h:Paired ↑193 vs ds):At F0 Hb F H (σ.set i (some (.ref p))) (λj=>if j=i then some p else own j) (Γ.set i (.ow m ds)):=by
 have a:=a1.grow g
 have hb:Hb p=none:=a1.g.h.free h1
 have ho:∀ j,own j≠some p:=λj e=>a1.liv j p e h1
 refine ⟨a.g,λj k q e1 e2=>?_,λj q e=>?_,λj s e=>?_,by simp [a.len]⟩
 ·skip
  split at e1<;>split at e2
  ·omega
  ·cases e1;exact absurd e2 (ho k)
  ·cases e2;exact absurd e1 (ho j)
  ·exact a.inj j k q e1 e2
 ·skip
  split at e
  ·cases e;rw [hp];simp
  ·exact a.liv j q e
 ·by_cases z:i=j
  ·subst z
   have hi:i<Γ.length:=by
    have:=(↑35).1
    simpa using this
   rw [List.getElem?_set_self hi] at e
   cases e
   rw [zew (by rw [a.len];exact hi)]
   exact ⟨p,vs,rfl,by simp,hf,hb,hp,h⟩
  ·rw [List.getElem?_set_ne z] at e
   rw [zfF z]
   have z':¬ j=i:=Ne.symm z
   cases s with
   | tl d =>
    obtain ⟨x,R,q1,q2,q3,q4,q5⟩:=a1.sl j _ e
    refine ⟨x,R,q1,q2.trans g.h,λb o w=>⟨g.no b (by rw [q2 _ _ w];simp) (q3 b o w).1,(q3 b o w).2⟩,λk q w=>?_,q5⟩
    dsimp only at w
    split at w
    ·cases w;exact q2.free h1
    ·exact q4 k q w
   | no=>trivial
   | va m d=>exact a.sl j _ e
   | ow m ds =>
    obtain ⟨q,us,w1,w2,w3⟩:=a.sl j _ e
    exact ⟨q,us,w1,(if_neg z').trans w2,w3⟩
   | ol q ds =>
    obtain ⟨us,w1,w2,w3⟩:=a.sl j _ e
    exact ⟨us,w1,(if_neg z').trans w2,w3⟩
   | ob m C q dx fs =>
    obtain ⟨us,w1,w2,w3⟩:=a.sl j _ e
    exact ⟨us,w1,(if_neg z').trans w2,w3⟩
theorem At.turn {F0 Hb F H:Hp} {σ:St} {own:Nat->Option Addr} {Γ:Ctx} (a:At F0 Hb F H σ own Γ) {i:Nat} {m n:Bool} {ds es:List Ds} {p:Addr} {ws:List V} (e:Γ[i]?=some (.ow m ds)) (ep:σ[i]?=some (some (.ref p)))
  (h:Paired (λv (d:Ds)=>d.pr (part n F Hb) v) ws es):At F0 Hb F (upd H p (.lst ws)) σ own (Γ.set i (.ow n es)):=by
 obtain ⟨p',vs,e1,e2,hf,hb,hp,_⟩:=a.sl i _ e
 rw [ep] at e1
 have e1':p=p':=by
  have:some (V.ref p)=some (V.ref p'):=e1
  cases this;rfl
 subst e1'
 refine ⟨a.g.setH hf hb,a.inj,λj q ej=>?_,λj s es'=>?_,by simp [a.len]⟩
 ·by_cases z:q=p
  ·subst z;rw [zaD];simp
  ·rw [zaq z];exact a.liv j q ej
 ·by_cases z:i=j
  ·subst z
   have hi:i<Γ.length:=(↑35).1
   rw [List.getElem?_set_self hi] at es'
   cases es'
   exact ⟨p,ws,by rw [ep];rfl,e2,hf,hb,zaD,h⟩
  ·rw [List.getElem?_set_ne z] at es'
   have:=a.sl j s es'
   cases s with
   | no=>trivial
   | tl d =>
    obtain ⟨x,R,q1,q2,q3,q4,q5⟩:=this
    exact ⟨x,R,q1,λb o w=>by rw [zaq (zaV w (q4 i p e2))];exact q2 b o w,q3,q4,q5⟩
   | va m d=>exact this
   | ow m ds =>
    obtain ⟨q,us,h1,h2,h3,h4,h5,h6⟩:=this
    have:q≠p:=λw=>by subst w;exact z ↑69
    exact ⟨q,us,h1,h2,h3,h4,by rw [zaq this];exact h5,h6⟩
   | ol q ds =>
    obtain ⟨us,h1,h2,h3,h4,h5,h6⟩:=this
    have:q≠p:=λw=>by subst w;exact z ↑69
    exact ⟨us,h1,h2,h3,h4,by rw [zaq this];exact h5,h6⟩
   | ob m C q dx fs =>
    obtain ⟨us,h1,h2,h3,h4,h5,h6⟩:=this
    have n1:q≠p:=λw=>by subst w;exact z ↑69
    have n2:dx≠p:=zjd h5.2 hp ↑94
    exact ⟨us,h1,h2,h3,h4,⟨by rw [zaq n1];exact h5.1,by rw [zaq n2];exact h5.2⟩,h6⟩
theorem At.turnOb {F0 Hb F H:Hp} {σ:St} {own:Nat->Option Addr} {Γ:Ctx} (a:At F0 Hb F H σ own Γ) {i:Nat} {m n:Bool} {C p dx:Addr} {fs gs:List (Str×Ds)} {ws:List (Str×V)} (e:Γ[i]?=some (.ob m C p dx fs))
  (h:Paired (λ(a:Str×V) (b:Str×Ds)=>a.1=b.1∧b.2.pr (part n F Hb) a.2) ws gs):At F0 Hb F (upd H p (.ins C dx ws)) σ own (Γ.set i (.ob n C p dx gs)):=by
 obtain ⟨vs,e1,e2,hf,hb,hp,_⟩:=a.sl i _ e
 have ndp:dx≠p:=zjd hp.2 hp.1 ↑94
 refine ⟨a.g.setH hf.1 hb.1,a.inj,λj q ej=>?_,λj s es'=>?_,by simp [a.len]⟩
 ·by_cases z:q=p
  ·subst z;rw [zaD];simp
  ·rw [zaq z];exact a.liv j q ej
 ·by_cases z:i=j
  ·subst z
   have hi:i<Γ.length:=(↑35).1
   rw [List.getElem?_set_self hi] at es'
   cases es'
   exact ⟨ws,e1,e2,hf,hb,⟨zaD,by rw [zaq ndp];exact hp.2⟩,h⟩
  ·rw [List.getElem?_set_ne z] at es'
   have:=a.sl j s es'
   cases s with
   | no=>trivial
   | tl d =>
    obtain ⟨x,R,q1,q2,q3,q4,q5⟩:=this
    exact ⟨x,R,q1,λb o w=>by rw [zaq (zaV w (q4 i p e2))];exact q2 b o w,q3,q4,q5⟩
   | va m d=>exact this
   | ow m ds =>
    obtain ⟨q,us,h1,h2,h3,h4,h5,h6⟩:=this
    have:q≠p:=λw=>by subst w;exact z ↑69
    exact ⟨q,us,h1,h2,h3,h4,by rw [zaq this];exact h5,h6⟩
   | ol q ds =>
    obtain ⟨us,h1,h2,h3,h4,h5,h6⟩:=this
    have:q≠p:=λw=>by subst w;exact z ↑69
    exact ⟨us,h1,h2,h3,h4,by rw [zaq this];exact h5,h6⟩
   | ob m C q dy fs =>
    obtain ⟨us,h1,h2,h3,h4,h5,h6⟩:=this
    have n1:q≠p:=λw=>by subst w;exact z ↑69
    have n2:dy≠p:=zjd h5.2 hp.1 ↑94
    exact ⟨us,h1,h2,h3,h4,⟨by rw [zaq n1];exact h5.1,by rw [zaq n2];exact h5.2⟩,h6⟩
inductive Wk:Ctx->Ctx->Prop where
 | nil:Wk [] []
 | eq {s Γ Δ}:Wk Γ Δ->Wk (s :: Γ) (s :: Δ)
 | no {s Γ Δ}:Wk Γ Δ->Wk (s :: Γ) (.no :: Δ)
 | old {m d Γ Δ}:Wk Γ Δ->Wk (.va m d :: Γ) (.va false d :: Δ)
 | oldL {m d Γ Δ}:Wk Γ Δ->Wk (.ow m d :: Γ) (.ow false d :: Δ)
theorem Wk.refl:∀ Γ:Ctx,Wk Γ Γ
 | []=>.nil
 | _ :: Γ=>.eq (Wk.refl Γ)
theorem Wk.len {Γ Δ:Ctx} (h:Wk Γ Δ):Γ.length=Δ.length:=by
 induction h<;>simp_all
theorem Wk.slot {Γ Δ:Ctx} (h:Wk Γ Δ):∀ {i:Nat} {s:Slot},Δ[i]?=some s->∃ r,Γ[i]?=some r∧∀ {Hb F H:Hp} {own:Nat->Option Addr} {j:Nat} {v:Option V},zgH Hb F H own j v r->zgH Hb F H own j v s:=by
 induction h with
 | nil=>intro i s e;simp at e
 | eq _ ih =>
  intro i s e
  cases i with
  | zero=>simp at e;subst e;exact ⟨_,rfl,λh=>h⟩
  | succ i=>simpa using ih (i:=i) (s:=s) ↑149
 | no _ ih =>
  intro i s e
  cases i with
  | zero=>simp at e;subst e;exact ⟨_,rfl,λ_=>trivial⟩
  | succ i=>simpa using ih (i:=i) (s:=s) ↑149
 | old _ ih =>
  intro i s e
  cases i with
  | zero=>simp at e;subst e;exact ⟨_,rfl,λ⟨x,h1,h2⟩=>⟨x,h1,Ds.up _ za9 h2⟩⟩
  | succ i=>simpa using ih (i:=i) (s:=s) ↑149
 | oldL _ ih =>
  intro i s e
  cases i with
  | zero=>simp at e;subst e;exact ⟨_,rfl,λ⟨p,vs,h1,h2,h3,h4,h5,h6⟩=>⟨p,vs,h1,h2,h3,h4,h5,zdx (ds:=[]) za9 h6⟩⟩
  | succ i=>simpa using ih (i:=i) (s:=s) ↑149
theorem At.wk {F0 Hb F H:Hp} {σ:St} {own:Nat->Option Addr} {Γ Δ:Ctx} (a:At F0 Hb F H σ own Γ) (w:Wk Γ Δ):At F0 Hb F H σ own Δ :=
 ⟨a.g,a.inj,a.liv,λi s e=>by
  obtain ⟨r,e1,h⟩:=w.slot e
  exact h (a.sl i r e1),by rw [a.len,w.len]⟩
theorem At.share {F0 Hb F H:Hp} {σ:St} {own:Nat->Option Addr} {Γ:Ctx} (a:At F0 Hb F H σ own Γ) {i:Nat} {m:Bool} {ds:List Ds} (e:Γ[i]?=some (.ow m ds)) :
  ∃ F' own',Grow F0 Hb F' H∧At F0 Hb F' H σ own' (Γ.set i (.va m (dL ds))):=by
 obtain ⟨p,vs,e1,e2,hf,hb,hp,hq⟩:=a.sl i _ e
 have g:=a.g.take hb hp
 have fs:Same F (upd F p (.lst vs)):=Same.new hf _
 refine ⟨upd F p (.lst vs),λj=>if j=i then none else own j,g,g,λj k q h1 h2=>?_,λj q h1=>?_,λj s es=>?_,by simp [a.len]⟩
 ·skip
  split at h1
  ·cases h1
  ·split at h2
   ·cases h2
   ·exact a.inj j k q h1 h2
 ·skip
  split at h1
  ·cases h1
  ·exact a.liv j q h1
 ·by_cases z:i=j
  ·subst z
   have hi:i<Γ.length:=(↑35).1
   rw [List.getElem?_set_self hi] at es
   cases es
   exact ⟨.ref p,e1,p,vs,rfl,ze2 hb zaD,zdx (ds:=[]) (zbg fs) hq⟩
  ·rw [List.getElem?_set_ne z] at es
   have z':¬ j=i:=Ne.symm z
   have:=a.sl j s es
   cases s with
   | no=>trivial
   | tl d =>
    obtain ⟨x,R,q1,q2,q3,q4,q5⟩:=this
    refine ⟨x,R,q1,q2,λb o w=>⟨by rw [zaq (zaV w (q4 i p e2))];exact (q3 b o w).1,(q3 b o w).2⟩,λk q w=>?_,q5⟩
    dsimp only at w
    split at w
    ·cases w
    ·exact q4 k q w
   | va m d=>obtain ⟨x,h1,h2⟩:=this;exact ⟨x,h1,d.up (zbg fs) h2⟩
   | ow m ds =>
    obtain ⟨q,us,h1,h2,h3,h4,h5,h6⟩:=this
    have:q≠p:=λw=>by subst w;exact z ↑69
    exact ⟨q,us,h1,(if_neg z').trans h2,by rw [zaq this];exact h3,h4,h5,zdx (ds:=[]) (zbg fs) h6⟩
   | ol q ds =>
    obtain ⟨us,h1,h2,h3,h4,h5,h6⟩:=this
    have:q≠p:=λw=>by subst w;exact z ↑69
    exact ⟨us,h1,(if_neg z').trans h2,by rw [zaq this];exact h3,h4,h5,zdx (ds:=[]) fs h6⟩
   | ob m C q dx gs =>
    obtain ⟨us,h1,h2,h3,h4,h5,h6⟩:=this
    have n1:q≠p:=λw=>by subst w;exact z ↑69
    have n2:dx≠p:=zjd h5.2 hp ↑94
    exact ⟨us,h1,(if_neg z').trans h2,⟨by rw [zaq n1];exact h3.1,by rw [zaq n2];exact h3.2⟩,h4,h5,zb2 (λ_ b z=>⟨z.1,b.2.up (zbg fs) z.2⟩) h6⟩
end L2
namespace L2
open PySem PySem.Spec PyProof.Rows
def Ev (Γ:Ctx) (t:TE) (m:Bool) (d:Ds):Prop:=∀ (F0 Hb F H:Hp) (σ:St) (own:Nat->Option Addr) (Q:VK),At F0 Hb F H σ own Γ →
 (∀ v F' H',Grow F H F' H'->d.pr (part m F' Hb) v->Q v H')->t σ H Q
def EvO (Γ:Ctx) (t:TE) (m:Bool) (ds:List Ds):Prop:=∀ (F0 Hb F H:Hp) (σ:St) (own:Nat->Option Addr) (Q:VK),At F0 Hb F H σ own Γ →
 (∀ p vs F' H',Grow F H F' H'->H p=none->F' p=none->H' p=some (.lst vs)->Paired (λv (d:Ds)=>d.pr (part m F' Hb) v) vs ds->Q (.ref p) H')->t σ H Q
def EvT (Γ:Ctx) (t:TT) (b:Bool):Prop:=∀ (F0 Hb F H:Hp) (σ:St) (own:Nat->Option Addr) (Q:Bool->Hp->Prop),At F0 Hb F H σ own Γ →
 (∀ F' H',Grow F H F' H'->Q b H')->t σ H Q
def EvA (Γ:Ctx) (t:TA) (m:Bool) (ds:List Ds):Prop:=∀ (F0 Hb F H:Hp) (σ:St) (own:Nat->Option Addr) (Q:List V->Hp->Prop),At F0 Hb F H σ own Γ →
 (∀ vs F' H',Grow F H F' H'->Paired (λv (d:Ds)=>d.pr (part m F' Hb) v) vs ds->Q vs H')->t σ H Q
def EvP (Γ:Ctx) (t:TO) (i:Option Int):Prop:=∀ (F0 Hb F H:Hp) (σ:St) (own:Nat->Option Addr) (Q:Option Int->Hp->Prop),At F0 Hb F H σ own Γ →
 (∀ F' H',Grow F H F' H'->Q i H')->t σ H Q
theorem At.free {F0 Hb F H:Hp} {σ:St} {own:Nat->Option Addr} {Γ:Ctx} (a:At F0 Hb F H σ own Γ) {F' H':Hp} (g:Grow F H F' H') {p:Addr} (h:H' p=none):H p=none∧F' p=none∧Hb p=none:=by
 have h1:=g.h.free h
 exact ⟨h1,g.fh.free h,a.g.h.free h1⟩
section
variable {Γ:Ctx} {t ta tb:TE} {m n:Bool} {d e:Ds} {ds es:List Ds} {K:W.Frag}
theorem Ev.old (h:Ev Γ t m d):Ev Γ t false d:=λF0 Hb F H σ own Q a k=>h F0 Hb F H σ own Q a λv F' H' g q=>k v F' H' g (d.up za9 q)
theorem Ev.conv (h:Ev Γ t m d) (e':d=e):Ev Γ t m e:=e' ▸ h
theorem EvO.conv (h:EvO Γ t m ds) (e':ds=es):EvO Γ t m es:=e' ▸ h
theorem EvT.conv {t:TT} {b c:Bool} (h:EvT Γ t b) (e':b=c):EvT Γ t c:=e' ▸ h
theorem EvO.ev (h:EvO Γ t m ds):Ev Γ t m (dL ds):=λF0 Hb F H σ own Q a k=>h F0 Hb F H σ own Q a λp vs F' H' g h1 h2 h3 q=>by
 have fs:Same F' (upd F' p (.lst vs)):=Same.new h2 _
 exact k (.ref p) (upd F' p (.lst vs)) H' (g.take h1 h3) ⟨p,vs,rfl,ze2 (a.g.h.free h1) zaD,zdx (ds:=[]) (zbg fs) q⟩
theorem Ev.weak (h:Ev Γ t m (dL ds)):Ev Γ t m (dQ K ds):=λF0 Hb F H σ own Q a k=>h F0 Hb F H σ own Q a λv F' H' g ⟨p,vs,h1,h2,h3⟩=>k v F' H' g ⟨p,vs,h1,SqL.of h2,h3⟩
theorem zaa {i:Nat} (h:Γ[i]?=some (.va m d)):Ev Γ (zg1 i) m d:=λF0 Hb F H σ own Q a k=>by
 obtain ⟨x,e,q⟩:=a.sl i _ h
 have hi:i<σ.length:=by rw [a.len];exact ((List.getElem?_eq_some_iff.mp h)).1
 rw [List.getElem?_eq_getElem hi] at e
 have e':σ[i]=some x:=e
 exact ⟨x,by rw [List.getElem?_eq_getElem hi,e'],k x F H (Grow.refl a.fh) q⟩
theorem zaG {v:V}:Ev Γ (tC v) m (dV v):=λF0 Hb F H σ own Q a k=>k v F H (Grow.refl a.fh) rfl
theorem zaQ {g:Int->Int->V} {x y:Int} (h1:Ev Γ ta false (dI x)) (h2:Ev Γ tb false (dI y)):Ev Γ (tOp (rI0 g) ta tb) m (dV (g x y)):=λF0 Hb F H σ own Q a k =>
 h1 F0 Hb F H σ own _ a λu F1 H1 g1 q1=>h2 F0 Hb F1 H1 σ own _ ↑16 λv F2 H2 g2 q2=>⟨x,y,q1,q2,k _ F2 H2 ↑44 rfl⟩
theorem zaH {C:Int->Int->Prop} {g:Int->Int->V} {x y:Int} (h1:Ev Γ ta false (dI x)) (h2:Ev Γ tb false (dI y)) (c:C x y):Ev Γ (tOp (rI C g) ta tb) m (dV (g x y)):=λF0 Hb F H σ own Q a k =>
 h1 F0 Hb F H σ own _ a λu F1 H1 g1 q1=>h2 F0 Hb F1 H1 σ own _ ↑16 λv F2 H2 g2 q2=>⟨x,y,q1,q2,c,k _ F2 H2 ↑44 rfl⟩
theorem zoI {g:Int->V} {x:Int} (h1:Ev Γ ta false (dI x)):Ev Γ (tUn (rU g) ta) m (dV (g x)):=λF0 Hb F H σ own Q a k =>
 h1 F0 Hb F H σ own _ a λu F1 H1 g1 q1=>⟨x,q1,k _ F1 H1 g1 rfl⟩
theorem zsv {v w:V} (h1:Ev Γ ta false (dV v)) (h2:Ev Γ tb false (dV w)) (hs:scal v w=true):Ev Γ (tOp rEq ta tb) m (dB (decide (v=w))):=λF0 Hb F H σ own Q a k =>
 h1 F0 Hb F H σ own _ a λu F1 H1 g1 q1=>h2 F0 Hb F1 H1 σ own _ ↑16 λv F2 H2 g2 q2=>by
  cases q1;cases q2;exact ⟨hs,k _ F2 H2 ↑44 rfl⟩
theorem zuA {v w:V} (h1:Ev Γ ta false (dV v)) (h2:Ev Γ tb false (dV w)) (hs:scal v w=true):Ev Γ (tOp rNe ta tb) m (dB (!decide (v=w))):=λF0 Hb F H σ own Q a k =>
 h1 F0 Hb F H σ own _ a λu F1 H1 g1 q1=>h2 F0 Hb F1 H1 σ own _ ↑16 λv F2 H2 g2 q2=>by
  cases q1;cases q2;exact ⟨hs,k _ F2 H2 ↑44 rfl⟩
theorem zm5 (x y:Int):decide (V.int x=V.int y)=decide (x=y):=by simp
theorem zeZ {x y:Int} (h1:Ev Γ ta false (dI x)) (h2:Ev Γ tb false (dI y)):Ev Γ (tOp rEq ta tb) m (dB (decide (x=y))):=(zsv h1 h2 rfl).conv (by rw [zm5])
theorem zdH {x y:Int} (h1:Ev Γ ta false (dI x)) (h2:Ev Γ tb false (dI y)):Ev Γ (tOp rNe ta tb) m (dB (!decide (x=y))):=(zuA h1 h2 rfl).conv (by rw [zm5])
theorem zqg (x y:Str):decide (V.str x=V.str y)=decide (x=y):=by simp
theorem zsc {x y:Str} (h1:Ev Γ ta false (dS x)) (h2:Ev Γ tb false (dS y)):Ev Γ (tOp rEq ta tb) m (dB (decide (x=y))):=(zsv h1 h2 rfl).conv (by rw [zqg])
theorem zav {b:Bool} (h:Ev Γ t false (dB b)):EvT Γ (zsJ t) b:=λF0 Hb F H σ own Q a k=>h F0 Hb F H σ own _ a λv F' H' g q=>⟨b,q,k F' H' g⟩
theorem zh6 {b:Bool} (h:Ev Γ t false (dB b)):EvT Γ (tB t) b:=λF0 Hb F H σ own Q a k=>h F0 Hb F H σ own _ a λv F' H' g q=>⟨b,q,k F' H' g⟩
theorem zh0 {t:TT} {b:Bool} (h:EvT Γ t b):EvT Γ (zu5 t) (!b):=λF0 Hb F H σ own Q a k=>h F0 Hb F H σ own _ a λF' H' g=>k F' H' g
theorem zh8 {t u:TT} {b c:Bool} (h:EvT Γ t b) (h2:b=true->EvT Γ u c):EvT Γ (zuS t u) (b&&c):=λF0 Hb F H σ own Q a k=>h F0 Hb F H σ own _ a λF' H' g=>by
 cases b with
 | true=>exact h2 rfl F0 Hb F' H' σ own Q ↑22 λF2 H2 g2=>k F2 H2 (g.trans g2)
 | false=>exact k F' H' g
theorem zhS {t u:TT} {b c:Bool} (h:EvT Γ t b) (h2:b=false->EvT Γ u c):EvT Γ (tOr t u) (b||c):=λF0 Hb F H σ own Q a k=>h F0 Hb F H σ own _ a λF' H' g=>by
 cases b with
 | false=>exact h2 rfl F0 Hb F' H' σ own Q ↑22 λF2 H2 g2=>k F2 H2 (g.trans g2)
 | true=>exact k F' H' g
theorem znb {b c:Bool} (h:Ev Γ ta false (dB b)) (h2:b=true->Ev Γ tb false (dB c)):Ev Γ (zsx ta tb) m (dB (b&&c)):=λF0 Hb F H σ own Q a k=>h F0 Hb F H σ own _ a λv F' H' g q=>⟨b,q,by
 cases b with
 | true=>exact h2 rfl F0 Hb F' H' σ own Q ↑22 λv F2 H2 g2 q2=>k v F2 H2 (g.trans g2) q2
 | false=>exact k _ F' H' g rfl⟩
theorem ztb {b:Bool} (h:Ev Γ ta false (dB b)):Ev Γ (ztc ta) m (dB (!b)):=λF0 Hb F H σ own Q a k=>h F0 Hb F H σ own _ a λv F' H' g q=>⟨b,q,k _ F' H' g rfl⟩
theorem ztY {tc:TT} {α:Type} {b:Bool} {x y:α} (f:α->Ds) (h:EvT Γ tc b) (h1:b=true->Ev Γ ta m (f x)) (h2:b=false->Ev Γ tb m (f y)):Ev Γ (tIf tc ta tb) m (f (bif b then x else y)):=λF0 Hb F H σ own Q a k=>h F0 Hb F H σ own _ a λF' H' g=>by
 cases b with
 | true=>exact h1 rfl F0 Hb F' H' σ own Q ↑22 λv F2 H2 g2 q2=>k v F2 H2 (g.trans g2) q2
 | false=>exact h2 rfl F0 Hb F' H' σ own Q ↑22 λv F2 H2 g2 q2=>k v F2 H2 (g.trans g2) q2
theorem zag:EvA Γ tNil m []:=λF0 Hb F H σ own Q a k=>k [] F H (Grow.refl a.fh) .nil
theorem zab {tr:TA} (h:Ev Γ ta m d) (h2:EvA Γ tr m ds):EvA Γ (tCons ta tr) m (d :: ds):=λF0 Hb F H σ own Q a k =>
 h F0 Hb F H σ own _ a λv F1 H1 g1 q1=>h2 F0 Hb F1 H1 σ own _ ↑16 λvs F2 H2 g2 q2=>k _ F2 H2 ↑44 (.cons (d.up (zbg g2.f) q1) q2)
theorem zbV {tr:TA} (h:EvA Γ tr m ds) (hz:ds.length≤sizeLine):EvO Γ (zuC tr) m ds:=λF0 Hb F H σ own Q a k =>
 h F0 Hb F H σ own _ a λvs F1 H1 g1 q1=>⟨by rw [Paired.length q1];exact hz,λp hp=>by
  obtain ⟨h1,h2,h3⟩:=a.free g1 hp
  exact k p vs F1 _ (g1.newH hp) h1 h2 zaD q1⟩
theorem zgo {tr:TA} (h:EvA Γ tr m ds) (hz:ds.length≤sizeLine):Ev Γ (zuW tr) m (dT ds):=λF0 Hb F H σ own Q a k =>
 h F0 Hb F H σ own _ a λvs F1 H1 g1 q1=>⟨by rw [Paired.length q1];exact hz,λp hp=>by
  obtain ⟨h1,h2,h3⟩:=a.free g1 hp
  exact k (.ref p) _ _ (g1.new hp) ⟨p,vs,rfl,ze2 h3 zaD,zdx (ds:=[]) (zbg (Same.new h2 _)) q1⟩⟩
theorem zdF {tr:TA} (h:EvA Γ tr m []):EvO Γ (zuC tr) m []:=zbV h (Nat.zero_le _)
theorem zhn {R:V->Ds->Prop} {vs:List V} {ds:List Ds} {i:Int} {d:Ds} (h:Paired R vs ds) (e:atI ds i=some d):∃ v,atI vs i=some v∧R v d:=by
 unfold atI at e ⊢
 rw [Paired.length h]
 cases q:ixN ds.length i with
 | none=>rw [q] at e;cases e
 | some j =>
  rw [q] at e
  obtain ⟨v,e1,r⟩:=zbn h (show ds[j]?=some d from e)
  exact ⟨v,e1,r⟩
theorem znW {α β:Type} {f:α->β} {xs:List α} {i:Int} {x:α} (e:atI xs i=some x):atI ↑13 i=some (f x):=by
 unfold atI at e ⊢
 rw [List.length_map]
 cases q:ixN xs.length i with
 | none=>rw [q] at e;cases e
 | some j =>
  rw [q] at e
  have e':xs[j]?=some x:=e
  show (↑13)[j]?=_
  rw [List.getElem?_map,e']
  rfl
theorem zuh {i:Int} (h1:Ev Γ ta m (dQ K ds)) (h2:Ev Γ tb false (dI i)) (e:atI ds i=some d):Ev Γ (tOp (zq6 K) ta tb) m d:=λF0 Hb F H σ own Q a k =>
 h1 F0 Hb F H σ own _ a λu F1 H1 g1 ⟨p,vs,e1,e2,e3⟩=>h2 F0 Hb F1 H1 σ own _ ↑16 λv F2 H2 g2 q2=>by
  obtain ⟨x,ex,rx⟩:=zhn e3 e
  exact ⟨p,vs,i,x,e1,q2,((za9.trans (g2.f.trans g2.fh))).seq e2,ex,k x F2 H2 ↑44 (d.up (zbg g2.f) rx)⟩
theorem zbw {i:Int} (h1:Ev Γ ta m (dT ds)) (h2:Ev Γ tb false (dI i)) (e:atI ds i=some d):Ev Γ (tOp (zuq K) ta tb) m d:=λF0 Hb F H σ own Q a k =>
 h1 F0 Hb F H σ own _ a λu F1 H1 g1 ⟨p,vs,e1,e2,e3⟩=>h2 F0 Hb F1 H1 σ own _ ↑16 λv F2 H2 g2 q2=>by
  obtain ⟨x,ex,rx⟩:=zhn e3 e
  exact ⟨p,vs,i,x,e1,q2,.inl (.inl ((za9.trans (g2.f.trans g2.fh)) _ _ e2)),ex,k x F2 H2 ↑44 (d.up (zbg g2.f) rx)⟩
theorem ztB {t:TE} (h1:Ev Γ t false (dQ K ds)):Ev Γ (tCB ↑214 (tCons t tNil)) m (dI ds.length):=λF0 Hb F H σ own Q a k =>
 h1 F0 Hb F H σ own _ a λu F1 H1 g1 ⟨p,vs,e1,e2,e3⟩=>⟨p,vs,by rw [e1],.inl (g1.fh.seq e2),k _ F1 H1 g1 (by show V.int _=_;rw [Paired.length e3])⟩
theorem zfg {t:TE} (h1:Ev Γ t m (dQ K ds)):EvO Γ (tCB (λxs H Q=>∃p ys,xs=[.ref p]∧(SqL K H p ys∨SqT K H p ys)∧∀l,H l=none->Q (.ref l) (upd H l (.lst ys))) (tCons t tNil)) m ds:=λF0 Hb F H σ own Q a k =>
 h1 F0 Hb F H σ own _ a λu F1 H1 g1 ⟨p,vs,e1,e2,e3⟩=>⟨p,vs,by rw [e1],.inl (((za9.trans g1.fh)).seq e2),λl hl=>by
  obtain ⟨h1,h2,h3⟩:=a.free g1 hl
  exact k l vs F1 _ (g1.newH hl) h1 h2 zaD e3⟩
theorem zex:EvP Γ zoo none:=λF0 Hb F H σ own Q a k=>k F H (Grow.refl a.fh)
theorem zc1 {i:Int} (h:Ev Γ t false (dI i)):EvP Γ (zty t) (some i):=λF0 Hb F H σ own Q a k=>h F0 Hb F H σ own _ a λv F' H' g q=>⟨i,q,k F' H' g⟩
def cutD {α:Type} (xs:List α) (lo hi:Option Int):List α:=(xs.drop (HT.sIx xs.length 0 lo)).take ↑269
theorem zoY {α β:Type} {f:α->β} {xs:List α} {lo hi:Option Int}:(cutD xs lo hi).map f=cutD ↑13 lo hi:=by
 unfold cutD;rw [List.map_take,List.map_drop,List.length_map]
theorem zsb {tl th:TO} {lo hi:Option Int} (h1:Ev Γ t m (dQ K ds)) (h2:EvP Γ tl lo) (h3:EvP Γ th hi):EvO Γ (tSl (ztE K) t tl th) m (cutD ds lo hi):=λF0 Hb F H σ own Q a k =>
 h1 F0 Hb F H σ own _ a λu F1 H1 g1 ⟨p,vs,e1,e2,e3⟩=>h2 F0 Hb F1 H1 σ own _ ↑16 λF2 H2 g2=>h3 F0 Hb F2 H2 σ own _ ((↑16).grow g2) λF3 H3 g3 =>
  ⟨p,vs,e1,(za9.trans (g1.fh.trans (g2.h.trans g3.h))).seq e2,λl hl=>by
   have g:=g1.trans (g2.trans g3)
   obtain ⟨h1,h2,h3⟩:=a.free g hl
   refine k l _ F3 _ (g.newH hl) h1 h2 zaD ?_
   unfold zsY cutD
   rw [Paired.length e3]
   exact zii _ (zio _ (zdx (ds:=[]) (zbg (g2.f.trans g3.f)) e3))⟩
theorem zts {es:List Ds} (h1:Ev Γ ta m (dL ds)) (h2:Ev Γ tb m (dL es)) (hz:ds.length+es.length≤sizeLine):EvO Γ (tOp zt0 ta tb) m (ds++es):=λF0 Hb F H σ own Q a k =>
 h1 F0 Hb F H σ own _ a λu F1 H1 g1 ⟨p,vs,e1,e2,e3⟩=>h2 F0 Hb F1 H1 σ own _ ↑16 λv F2 H2 g2 ⟨q,ws,f1,f2,f3⟩ =>
  ⟨p,q,vs,ws,e1,f1,(za9.trans (g2.f.trans g2.fh)) _ _ e2,(za9.trans g2.fh) _ _ f2,by rw [Paired.length e3,Paired.length f3];exact hz,λl hl=>by
   have g:=g1.trans g2
   obtain ⟨h1,h2,h3⟩:=a.free g hl
   exact k l _ F2 _ (g.newH hl) h1 h2 zaD (zc3 (zdx (ds:=[]) (zbg g2.f) e3) f3)⟩
theorem zrX {n:Int} (h1:Ev Γ ta m (dL ds)) (h2:Ev Γ tb false (dI n)) (hn:-(2^63)≤n∧n<2^63) (hz:ds.length*n.toNat≤sizeLine):EvO Γ (tOp zt8 ta tb) m (List.replicate n.toNat ds).flatten:=λF0 Hb F H σ own Q a k =>
 h1 F0 Hb F H σ own _ a λu F1 H1 g1 ⟨p,vs,e1,e2,e3⟩=>h2 F0 Hb F1 H1 σ own _ ↑16 λv F2 H2 g2 q2 =>
  ⟨p,n,vs,e1,q2,(za9.trans (g2.f.trans g2.fh)) _ _ e2,hn.1,hn.2,by rw [Paired.length e3];exact hz,λl hl=>by
   have g:=g1.trans g2
   obtain ⟨h1,h2,h3⟩:=a.free g hl
   exact k l _ F2 _ (g.newH hl) h1 h2 zaD (ziH (zdx (ds:=[]) (zbg g2.f) e3) _)⟩
theorem zqp {d:Ds} {b:Bool} (h1:Ev Γ ta false d) (h2:Ev Γ tb false dN) (hb:∀ H v,d.pr H v->decide (v=V.non)=b):Ev Γ (tOp (λx y H Q=>y= .non∧Q (.bl (!decide (x= .non))) H) ta tb) m (dB (!b)):=λF0 Hb F H σ own Q a k =>
 h1 F0 Hb F H σ own _ a λu F1 H1 g1 q1=>h2 F0 Hb F1 H1 σ own _ ↑16 λv F2 H2 g2 q2=>⟨q2,k _ F2 H2 ↑44 (by show V.bl _=_;rw [hb _ _ q1])⟩
theorem zpw {x y:Int} {tr:TA} (h:EvA Γ tr false [dI x,dI y]):Ev Γ (tCB (λxs H Q=>∃i j,xs=[.int i,.int j]∧Q (.int (if j>i then j else i)) H) tr) m (dI (max x y)):=λF0 Hb F H σ own Q a k =>
 h F0 Hb F H σ own _ a λvs F1 H1 g1 q=>by
  cases q with | cons q1 q=>cases q with | cons q2 q=>cases q;cases q1;cases q2;exact ⟨x,y,rfl,k _ F1 H1 g1 (by show V.int _=V.int _;congr 1;omega)⟩
theorem znQ {b:Bool} {tr:TA} (h:EvA Γ tr false [dB b]):Ev Γ (tCB (λxs H Q=>(∃i,xs=[.int i]∧Q (.int i) H)∨∃k,xs=[.bl k]∧Q (.int (if k then 1 else 0)) H) tr) m (dI (if b then 1 else 0)):=λF0 Hb F H σ own Q a k =>
 h F0 Hb F H σ own _ a λvs F1 H1 g1 q=>by
  cases q with | cons q1 q=>cases q;cases q1;exact .inr ⟨b,rfl,k _ F1 H1 g1 rfl⟩
theorem zgA {f:α->V} {R:Hp} {xs:List α}:∀ {vs:List V},Paired (λv (d:Ds)=>d.pr R v) vs (xs.map λx=>dV (f x))->vs=xs.map f:=by
 induction xs with
 | nil=>intro vs h;cases h;rfl
 | cons x xs ih=>intro vs h;cases h with | cons h1 h2=>rw [ih h2,h1];rfl
theorem zsh {xs:Ji} {t:TE} (h1:Ev Γ t false (dQ K (xs.map dI))):Ev Γ (tCB (λxs H Q=>∃(a:Addr) (ns:Ji),xs=[.ref a]∧SqL K H a ↑47∧Q (.int ns.sum) H) (tCons t tNil)) m (dI xs.sum):=λF0 Hb F H σ own Q a k =>
 h1 F0 Hb F H σ own _ a λu F1 H1 g1 ⟨p,vs,e1,e2,e3⟩=>⟨p,xs,by rw [e1],by rw [←zgA e3];exact g1.fh.seq e2,k _ F1 H1 g1 rfl⟩
theorem zpY {xs:List Bool} {t:TE} (h1:Ev Γ t false (dQ K (xs.map dB))):Ev Γ (tCB (λxs H Q=>∃(a:Addr) (bs:List Bool),xs=[.ref a]∧SqL K H a (bs.map V.bl)∧Q (.bl (bs.all id)) H) (tCons t tNil)) m (dB (xs.all id)):=λF0 Hb F H σ own Q a k =>
 h1 F0 Hb F H σ own _ a λu F1 H1 g1 ⟨p,vs,e1,e2,e3⟩=>⟨p,xs,by rw [e1],by rw [←zgA e3];exact g1.fh.seq e2,k _ F1 H1 g1 rfl⟩
theorem zgZ {H:Hp} {f:Str} {d:Ds}:∀ {vs:List (Str×V)} {fs:List (Str×Ds)},Paired (λ(a:Str×V) (b:Str×Ds)=>a.1=b.1∧b.2.pr H a.2) vs fs->fs.lookup f=some d->∃ v,vs.lookup f=some v∧d.pr H v
 | _,_,.nil,e=>by cases e
 | _,_,.cons (a:=(x,v)) (b:=(y,d')) ⟨h1,h2⟩ t,e=>by
  have h1:x=y:=h1
  subst h1
  simp only [List.lookup_cons] at e ⊢
  cases q:f == x with
  | true=>rw [q] at e;cases e;exact ⟨v,rfl,h2⟩
  | false=>rw [q] at e;exact zgZ t e
theorem zbU {C:Addr} {fs:List (Str×Ds)} {f:Str} (h1:Ev Γ ta m (dO C fs)) (c:Cls K C) (nf:NoAttr K C f) (e:fs.lookup f=some d):Ev Γ (tFld K ta f) m d:=λF0 Hb F H σ own Q a k =>
 h1 F0 Hb F H σ own _ a λu F1 H1 g1 ⟨p,dx,vs,e1,e2,e3,e4⟩=>by
  obtain ⟨v,ev,qv⟩:=zgZ e4 e
  exact ⟨p,C,dx,vs,v,e1,(za9.trans g1.fh) _ _ e2,c,nf,ev,k v F1 H1 g1 qv⟩
inductive Rs where
 | va (m:Bool) (d:Ds)
 | ow (m:Bool) (ds:List Ds)
 | ex (C:Addr)
def Spv {ι:Type} (args:ι->List Ds) (pre:ι->Prop) (res:ι->Rs):Sp:=λvs H Q E=>∃ (x:ι) (F:Hp),Same F H∧Paired ↑172 vs (args x)∧pre x∧match res x with
 | .ex C=>∀ dct F' H',Grow F H F' H'->E (.ref C) dct H'
 | .va m d=>∀ v F' H',Grow F H F' H'->d.pr (part m F' H) v->Q v H'
 | .ow m ds=>∀ p ws F' H',Grow F H F' H'->H p=none->F' p=none->H' p=some (.lst ws)->Paired (λv (d:Ds)=>d.pr (part m F' H) v) ws ds->Q (.ref p) H'
theorem zga {m:Bool} {F Hb H:Hp} (e:Same Hb H):Same (part m F H) (part m F Hb):=by
 cases m with
 | true=>exact zkD e
 | false=>exact Same.refl _
theorem zau {ι:Type} {args:ι->List Ds} {pre:ι->Prop} {res:ι->Rs} {tr:TA} {E:XK} (x:ι) (h:EvA Γ tr false ds) (ha:ds=args x) (hp:pre x) (hr:res x=.va m d):Ev Γ (tCall (Spv args pre res) [] E tr) m d:=λF0 Hb F H σ own Q a k=>by
 subst ha
 refine h F0 Hb F H σ own _ a λvs F1 H1 g1 q1=>⟨x,F1,g1.fh,by rw [List.append_nil];exact q1,hp,?_⟩
 rw [hr]
 exact λv F' H' g q=>k v F' H' (g1.trans g) (d.up (zga (a.g.h.trans g1.h)) q)
theorem zb5 {ι:Type} {args:ι->List Ds} {pre:ι->Prop} {res:ι->Rs} {tr:TA} {E:XK} (x:ι) (h:EvA Γ tr false es) (ha:es=args x) (hp:pre x) (hr:res x=.ow m ds):EvO Γ (tCall (Spv args pre res) [] E tr) m ds:=λF0 Hb F H σ own Q a k=>by
 subst ha
 refine h F0 Hb F H σ own _ a λvs F1 H1 g1 q1=>⟨x,F1,g1.fh,by rw [List.append_nil];exact q1,hp,?_⟩
 rw [hr]
 exact λp ws F' H' g h1 h2 h3 q=>k p ws F' H' (g1.trans g) (g1.h.free h1) h2 h3 (zdx (ds:=[]) (zga (a.g.h.trans g1.h)) q)
end
end L2
namespace L2
open PySem PySem.Spec PyProof.Rows
def zuc:List Nat->List V->St->St
 | j :: js,v :: vs,σ=>zuc js vs (σ.set j (some v))
 | _,_,σ=>σ
def zmr:List Nat->List Ds->Bool->Ctx->Ctx
 | j :: js,d :: ds,m,Γ=>zmr js ds m (Γ.set j (.va m d))
 | _,_,_,Γ=>Γ
theorem At.setMany {F0 Hb F H:Hp} {own:Nat->Option Addr} {m:Bool}:∀ {js:List Nat} {vs:List V} {ds:List Ds} {σ:St} {Γ:Ctx},At F0 Hb F H σ own Γ->Paired ↑193 vs ds →
  At F0 Hb F H (zuc js vs σ) own (zmr js ds m Γ)
 | [],_,_,_,_,a,.nil=>a
 | [],_,_,_,_,a,.cons _ _=>a
 | _ :: _,_,_,_,_,a,.nil=>a
 | j :: js,_,_,_,_,a,.cons h t=>At.setMany (js:=js) (a.set j h) t
theorem At.unset {F0 Hb F H:Hp} {own:Nat->Option Addr} {σ:St} {Γ:Ctx} {j:Nat} {s:Slot} (a:At F0 Hb F H σ own (Γ.set j s)) (h:Γ[j]?=some .no):At F0 Hb F H σ own Γ :=
 ⟨a.g,a.inj,a.liv,λi r e=>by
  by_cases z:j=i
  ·subst z;rw [h] at e;cases e;trivial
  ·exact a.sl i r (by rw [List.getElem?_set_ne z];exact e),by rw [a.len];simp⟩
theorem At.unsetMany {F0 Hb F H:Hp} {own:Nat->Option Addr} {σ:St} {m:Bool}:∀ {js:List Nat} {ds:List Ds} {Γ:Ctx},At F0 Hb F H σ own (zmr js ds m Γ)->(∀ j∈js,Γ[j]?=some .no)->js.Nodup->At F0 Hb F H σ own Γ
 | [],[],_,a,_,_=>a
 | [],_ :: _,_,a,_,_=>a
 | _ :: _,[],_,a,_,_=>a
 | j :: js,d :: ds,Γ,a,h,hn=>by
  have hn:=List.nodup_cons.mp hn
  refine At.unset (At.unsetMany (js:=js) (ds:=ds) (Γ:=Γ.set j (.va m d)) a (λi hi=>?_) hn.2) (h j List.mem_cons_self)
  rw [List.getElem?_set_ne (λ(z:j=i)=>hn.1 (by rw [z];exact hi))]
  exact h i (List.mem_cons_of_mem _ hi)
def ztj {γ:Type} (Hb F:Hp) (J:It) (g:TG) (js:List Nat) (xs:List γ) (bds:γ->List Ds) (m:Bool):Prop:=∀ H,Same F H->J.stop xs.length H∧∀ i x,xs[i]?=some x->J.go i H ∧
 ∀ v H',J.yld i H v H'->Grow F H F H'∧∀ (σ:St) (Q:St->Hp->Prop),(∀ vs,Paired ↑193 vs (bds x)->Q (zuc js vs σ) H')->g v σ H' Q
def Iv {γ:Type} (Γ:Ctx) (wi:TI) (g:TG) (js:List Nat) (xs:List γ) (bds:γ->List Ds) (m:Bool):Prop:=∀ (F0 Hb F H:Hp) (σ:St) (own:Nat->Option Addr) (R:It->Hp->Prop),At F0 Hb F H σ own Γ →
 (∀ J F' H',Grow F H F' H'->ztj Hb F' J g js xs bds m->R J H')->wi σ H R
section
variable {Γ:Ctx} {m:Bool} {K:W.Frag} {γ δ:Type}
theorem ztj.up {Hb F F':Hp} {J:It} {g:TG} {js:List Nat} {xs:List γ} {bds:γ->List Ds} (h:ztj Hb F J g js xs bds m) (e:Same F F'):ztj Hb F' J g js xs bds m:=λH hs=>by
 obtain ⟨h1,h2⟩:=h H (e.trans hs)
 refine ⟨h1,λi x ex=>?_⟩
 obtain ⟨h3,h4⟩:=h2 i x ex
 refine ⟨h3,λv H' y=>?_⟩
 obtain ⟨h5,h6⟩:=h4 v H' y
 exact ⟨⟨Same.refl _,hs.trans h5.h,h5.h,λ_ _ z=>z⟩,λσ Q k=>h6 σ Q λvs q=>k vs (zdx (ds:=[]) (zbg e) q)⟩
theorem zbY {tl:TE} {j:Nat} {xs:List γ} (f:γ->Ds) (h:Ev Γ tl m (dQ K ↑13)):Iv Γ (zoL K tl) (zdk j) [j] xs (λx=>[f x]) m:=λF0 Hb F H σ own R a k =>
 h F0 Hb F H σ own _ a λu F1 H1 g1 ⟨p,vs,e1,e2,e3⟩=>by
  have e2':SqL K F1 p vs:=za9.seq e2
  refine ⟨p,e1,⟨vs,g1.fh.seq e2'⟩,k _ F1 H1 g1 λH hs=>⟨⟨vs,hs.seq e2',by rw [Paired.length e3,List.length_map];exact Nat.le_refl _⟩,λi x ex=>?_⟩⟩
  obtain ⟨v,ev,qv⟩:=zbn e3 (show (↑13)[i]?=some (f x) by rw [List.getElem?_map,ex];rfl)
  refine ⟨⟨vs,v,hs.seq e2',ev⟩,λw H' y=>?_⟩
  obtain ⟨rfl,y⟩:=y
  have:=y vs (hs.seq e2')
  rw [ev] at this
  cases this
  exact ⟨Grow.refl hs,λσ Q k=>k [v] (.cons qv .nil)⟩
def zbo (lo:Int) (n:Nat):Ji:=(List.range n).map λ(i:Nat)=>lo+(i:Int)
theorem zaT {lo:Int} {n:Nat}:(zbo lo n).length=n:=by simp [zbo]
theorem zbi {lo:Int} {n i:Nat} {x:Int} (h:(zbo lo n)[i]?=some x):i<n∧x=lo+i:=by
 unfold zbo at h
 rw [List.getElem?_map] at h
 by_cases z:i<n
 ·rw [List.getElem?_range z] at h
  exact ⟨z,(Option.some.inj h).symm⟩
 ·rw [List.getElem?_eq_none ↑61] at h;cases h
theorem zlL {lo:Int} {n:Nat} {x:Int}:x∈zbo lo n ↔ lo≤x∧x<lo+n:=by
 unfold zbo
 rw [List.mem_map]
 constructor
 ·rintro ⟨i,hi,rfl⟩;have:=List.mem_range.mp hi;omega
 ·intro h;exact ⟨(x-lo).toNat,List.mem_range.mpr ↑0,by omega⟩
theorem zsu {Hb F:Hp} {lo:Int} {n j:Nat}:ztj Hb F (Itr lo n) (zdk j) [j] (zbo lo n) (λx=>[dI x]) m:=λH hs =>
 ⟨by show n≤_;rw [zaT];exact Nat.le_refl _,λi x ex=>by
  obtain ⟨hi,rfl⟩:=zbi ex
  refine ⟨hi,λv H' y=>?_⟩
  obtain ⟨rfl,rfl⟩:=y
  exact ⟨Grow.refl hs,λσ Q k=>k [_] (.cons rfl .nil)⟩⟩
theorem zdG {t:TE} {j:Nat} {n:Int} (h:Ev Γ t false (dI n)) (hn:-(2^62)≤n∧n<2^62):Iv Γ (zr3 (tCons t tNil)) (zdk j) [j] (zbo 0 n.toNat) (λx=>[dI x]) m:=λF0 Hb F H σ own R a k =>
 h F0 Hb F H σ own _ a λu F1 H1 g1 q1=>⟨n,by rw [q1],hn.1,hn.2,k _ F1 H1 g1 zsu⟩
theorem zbL {α β:Type} {xs:List α} {ys:List β} {i:Nat} {p:α×β} (h:(xs.zip ys)[i]?=some p):xs[i]?=some p.1∧ys[i]?=some p.2:=by
 rw [List.getElem?_zip_eq_some] at h;exact h
theorem zen {ta tb:TE} {j1 j2:Nat} {xs:List γ} {ys:List δ} (f1:γ->Ds) (f2:δ->Ds) (h1:Ev Γ ta m (dQ K (xs.map f1))) (h2:Ev Γ tb m (dQ K (ys.map f2))) :
  Iv Γ (ztP K (tCons ta (tCons tb tNil))) (zow K 2 (zgk (zdk j1) (zgk (zdk j2) zpz))) [j1,j2] (xs.zip ys) (λx=>[f1 x.1,f2 x.2]) m:=λF0 Hb F H σ own R a k =>
 h1 F0 Hb F H σ own _ a λu F1 H1 g1 ⟨p,vs,e1,e2,e3⟩=>h2 F0 Hb F1 H1 σ own _ ↑16 λu' F2 H2 g2 ⟨q,ws,d1,d2,d3⟩=>by
  have e2':SqL K F2 p vs:=g2.f.seq (za9.seq e2)
  have d2':SqL K F2 q ws:=za9.seq d2
  have e3':=zdx (ds:=[]) (zbg (m:=m) (Hb:=Hb) g2.f) e3
  have le:=Paired.length e3
  have ld:=Paired.length d3
  rw [List.length_map] at le ld
  refine ⟨p,q,by rw [e1,d1],⟨vs,g2.fh.seq e2'⟩,⟨ws,g2.fh.seq d2'⟩,k _ F2 H2 ↑44 λH hs=>⟨⟨vs,ws,hs.seq e2',hs.seq d2',by rw [le,ld,List.length_zip];omega⟩,λi x ex=>?_⟩⟩
  obtain ⟨x1,x2⟩:=zbL ex
  obtain ⟨v,ev,qv⟩:=zbn e3' (show (xs.map f1)[i]?=some (f1 x.1) by rw [List.getElem?_map,x1];rfl)
  obtain ⟨w,ew,qw⟩:=zbn d3 (show (ys.map f2)[i]?=some (f2 x.2) by rw [List.getElem?_map,x2];rfl)
  refine ⟨⟨vs,ws,v,w,hs.seq e2',hs.seq d2',ev,ew⟩,λz H' y=>?_⟩
  obtain ⟨r,x',y',rfl,hr,rfl,hxy⟩:=y
  obtain ⟨hx,hy⟩:=hxy vs ws (hs.seq e2') (hs.seq d2')
  rw [ev] at hx;rw [ew] at hy
  cases hx;cases hy
  exact ⟨(Grow.refl hs).newH hr,λσ Q k=>⟨r,_,rfl,.inl (.inl zaD),rfl,_,_,rfl,_,_,rfl,rfl,k [v,w] (.cons qv (.cons qw .nil))⟩⟩
def ztG:Option Slot->Slot
 | some (.va m d)=>.va m d
 | _=>.no
def zks (own:Nat) (fv:List Nat) (Γ:Ctx):Ctx:=List.replicate own .no++fv.map λi=>ztG Γ[i]?
theorem At.block {F0 Hb F H:Hp} {own:Nat->Option Addr} {σ:St} (a:At F0 Hb F H σ own Γ) (k:Nat) (fv:List Nat):At F0 Hb F H (zh3 k fv σ) (λ_=>none) (zks k fv Γ):=by
 refine ⟨a.g,λ_ _ _ h=>(by cases h),λ_ _ h=>(by cases h),λi s e=>?_,?_⟩
 ·unfold zks at e
  unfold zh3
  by_cases hi:i<k
  ·rw [List.getElem?_append_left ↑56,List.getElem?_replicate,if_pos hi] at e
   cases e;trivial
  ·rw [List.getElem?_append_right ↑56,List.length_replicate,List.getElem?_map] at e
   rw [List.getElem?_append_right ↑56,List.length_replicate,List.getElem?_map]
   cases q:fv[i-k]? with
   | none=>rw [q] at e;cases e
   | some j =>
    rw [q] at e
    have e':ztG Γ[j]?=s:=Option.some.inj e
    subst e'
    show zgH Hb F H (λ_=>none) _ ((σ[j]?).join) (ztG Γ[j]?)
    cases z:Γ[j]? with
    | none=>trivial
    | some r =>
     cases r with
     | no=>trivial
     | va m d=>exact (show zgH Hb F H own j _ (.va m d) from a.sl j _ z)
     | ow m ds=>trivial
     | ob m C p dx fs=>trivial
     | ol p ds=>trivial
     | tl d=>trivial
 ·unfold zh3 zks;simp
theorem zmB {k:Nat} {fv:List Nat} {j:Nat} {d:Ds} (e:(zks k fv Γ)[j]?=some (.tl d)):False:=by
 unfold zks at e
 have:=List.mem_of_getElem? e
 rcases List.mem_append.mp this with q | q
 ·cases (List.mem_replicate.mp q).2
 ·obtain ⟨l,_,q⟩:=List.mem_map.mp q
  unfold ztG at q
  split at q<;>cases q
theorem zlz:EvT Γ zo1 true:=λF0 Hb F H σ own Q a k=>k F H (Grow.refl a.fh)
theorem zjN {xs:List γ} {i:Nat} {x:γ} (h:xs[i]?=some x):xs.take (i+1)=xs.take i++[x]:=by
 rw [List.take_succ,h];rfl
theorem zop {own:Nat} {fv:List Nat} {wi:TI} {tg:TG} {tt:TTs} {te:TE} {js:List Nat} {xs:List γ} {bds:γ->List Ds} {mi:Bool} {c:γ->Bool} {g:γ->Ds} (it:Iv Γ wi tg js xs bds mi) (hz:xs.length≤sizeLine) (hj:(∀ j∈js,j<own)∧js.Nodup)
  (ht:∀ (i:Nat) (x:γ),xs[i]?=some x->EvT (zmr js (bds x) mi (zks own fv Γ)) tt (c x)) (he:∀ (i:Nat) (x:γ),xs[i]?=some x->c x=true->Ev (zmr js (bds x) mi (zks own fv Γ)) te m (g x)):EvO Γ (zmG own fv wi tg tt te) m ((xs.filter c).map g):=λF0 Hb F H σ ow Q a k =>
 it F0 Hb F H σ ow _ a λJ F1 H1 g1 ok D hD=>by
  have hno:∀ j∈js,((zks own fv Γ))[j]?=some .no:=λj hj'=>by
   have:=hj.1 j hj'
   unfold zks
   rw [List.getElem?_append_left (by simpa using this),List.getElem?_replicate,if_pos this]
  obtain ⟨hD0,hDF,hDb⟩:=a.free g1 hD
  refine ⟨λi mm ys σb H2=>mm=xs.length-i∧i≤xs.length∧ys.length≤i∧∃ F2,Grow F1 H1 F2 H2∧F2 D=none∧H2 D=some (.lst ys)∧Paired (λv (d:Ds)=>d.pr (part m F2 Hb) v) ys (((xs.take i).filter c).map g)∧At F0 Hb F2 H2 σb (λ_=>none) (zks own fv Γ),
   ⟨_,rfl,Nat.zero_le _,Nat.zero_le _,F1,((Grow.refl g1.fh)).newH hD,hDF,zaD,by simpa using Paired.nil,((↑16).block own fv).grow (((Grow.refl g1.fh)).newH hD)⟩,?_⟩
  rintro i mm ys σb H2 ⟨rfl,hi,hy,F2,g2,hF2,hH2,hP,a2⟩
  refine ⟨hH2,?_⟩
  obtain ⟨hstop,hitem⟩:=ok.up g2.f H2 g2.fh
  by_cases hlt:i<xs.length
  ·obtain ⟨go,yl⟩:=hitem i xs[i] (List.getElem?_eq_getElem hlt)
   refine .inr ⟨go,λx H' y=>?_⟩
   obtain ⟨g3,bind⟩:=yl x H' y
   refine bind σb _ λvs hvs=>?_
   have a3:=(a2.grow g3).setMany (js:=js) hvs
   have hx:xs[i]?=some xs[i]:=List.getElem?_eq_getElem hlt
   refine ht i _ hx F0 Hb F2 H' _ _ _ a3 λF4 H4 g4=>?_
   have tk:=zjN hx
   have gD:∀ {F5 H5:Hp},Grow F2 H2 F5 H5->F5 D=none∧H5 D=some (.lst ys):=λg=>⟨g.no D (by rw [hH2];simp) hF2,g.h _ _ hH2⟩
   cases hc:c xs[i] with
   | true =>
    rw [if_pos rfl]
    refine he i _ hx hc F0 Hb F4 H4 _ _ _ (a3.grow g4) λv F5 H5 g5 q5=>?_
    have g25:=g3.trans (g4.trans g5)
    obtain ⟨n1,n2⟩:=gD g25
    have sD:Same H5 H5:=Same.refl _
    have n3:H1 D=none:=hD
    refine ⟨n2,by omega,xs.length-(i+1),by omega,rfl,hlt,by simp;omega,F5,?_,n1,zaD,?_,?_⟩
    ·exact (g2.trans g25).setH n1 n3
    ·rw [tk,List.filter_append,List.map_append]
     refine zc3 (zdx (ds:=[]) (zbg g25.f) hP) ?_
     rw [List.filter_cons,hc]
     exact .cons q5 .nil
    ·have a5:=((a3.grow g4).grow g5).unsetMany hno hj.2
     refine ⟨a5.g.setH n1 hDb,a5.inj,λ_ _ h=>(nomatch h),λj s es=>?_,a5.len⟩
     ·have:=a5.sl j s es
      cases s with
      | no=>trivial
      | va m d=>exact this
      | ow m ds=>obtain ⟨_,_,_,h,_⟩:=this;exact (nomatch h)
      | ob m C p dx fs=>obtain ⟨_,_,h,_⟩:=this;exact (nomatch h)
      | ol p ds=>obtain ⟨_,_,h,_⟩:=this;exact (nomatch h)
      | tl d=>exact (zmB es).elim
   | false =>
    rw [if_neg Bool.false_ne_true]
    have g25:=g3.trans g4
    obtain ⟨n1,n2⟩:=gD g25
    refine ⟨xs.length-(i+1),by omega,rfl,hlt,by omega,F4,g2.trans g25,n1,n2,?_,(a3.grow g4).unsetMany hno hj.2⟩
    rw [tk,List.filter_append,List.map_append,List.filter_cons,hc]
    simpa using zdx (ds:=[]) (zbg g25.f) hP
  ·have e:i=xs.length:=by omega
   subst e
   rw [List.take_length] at hP
   exact .inl ⟨hstop,k D ys F2 H2 ↑44 hD0 hF2 hH2 hP⟩
theorem zbW {own:Nat} {fv:List Nat} {wi:TI} {tg:TG} {te:TE} {js:List Nat} {xs:List γ} {bds:γ->List Ds} {mi:Bool} {g:γ->Ds} (it:Iv Γ wi tg js xs bds mi) (hz:xs.length≤sizeLine) (hj:(∀ j∈js,j<own)∧js.Nodup)
  (he:∀ (i:Nat) (x:γ),xs[i]?=some x->Ev (zmr js (bds x) mi (zks own fv Γ)) te m (g x)):EvO Γ (zmG own fv wi tg zo1 te) m (xs.map g):=by
 have:=zop (c:=λ_=>true) it hz hj (λ_ _ _=>zlz) (λi x hx _=>he i x hx)
 rwa [show xs.filter (λ_=>true)=xs from List.filter_eq_self.mpr λ_ _=>rfl] at this
end
inductive Oc where
 | nx (Γ:Ctx)
 | rt (m:Bool) (d:Ds)
 | rl (m:Bool) (ds:List Ds)
 | bk (Γ:Ctx)
 | ct (Γ:Ctx)
 | ex (C:Addr) (Γ:Ctx)
 | rw (Γ:Ctx) (d:Ds)
def zhB (E:XS) (F0 Hb:Hp) (D:Ends):Oc->Prop
 | .ex C Γ=>∀ dct F H σ own,At F0 Hb F H σ own Γ->E σ (.ref C) dct H
 | .rw Γ d=>∀ v F H σ own,At F0 Hb F H σ own Γ->d.pr F v->D.rt v H
 | .nx Γ=>∀ F H σ own,At F0 Hb F H σ own Γ->D.nx σ H
 | .bk Γ=>∀ F H σ own,At F0 Hb F H σ own Γ->D.bk σ H
 | .ct Γ=>∀ F H σ own,At F0 Hb F H σ own Γ->D.ct σ H
 | .rt m d=>∀ v F H,Grow F0 Hb F H->d.pr (part m F Hb) v->D.rt v H
 | .rl m ds=>∀ p vs F H,Grow F0 Hb F H->Hb p=none->F p=none->H p=some (.lst vs)->Paired ↑193 vs ds->D.rt (.ref p) H
def Run (E:XS) (Γ:Ctx) (t:TS) (o:Oc):Prop:=∀ (F0 Hb F H:Hp) (σ:St) (own:Nat->Option Addr) (D:Ends),At F0 Hb F H σ own Γ->zhB E F0 Hb D o->t D σ H
def Let {α:Type} {β:Type} (a:α) (k:α->β):β:=k a
def zcm {σ:Type} {γ:Type} {β:Type} (f:σ->γ->σ ⊕ β):σ->List γ->σ ⊕ β
 | s,[]=>.inl s
 | s,x :: xs=>match f s x with | .inl s'=>zcm f s' xs | .inr b=>.inr b
section
variable {E:XS} {Γ Δ:Ctx} {m:Bool} {K:W.Frag} {γ β:Type} {te:TE} {t u:TS} {d:Ds} {ds:List Ds} {o:Oc} {i:Nat}
theorem zap (w:Wk Γ Δ):Run E Γ zoj (.nx Δ):=λF0 Hb F H σ own D a k=>k F H σ own (a.wk w)
theorem zaC (h:Ev Γ te m d):Run E Γ (zou te) (.rt m d):=λF0 Hb F H σ own D a k=>h F0 Hb F H σ own _ a λv F' H' g q=>k v F' H' (a.g.trans g) q
theorem zhK (h:EvO Γ te m ds):Run E Γ (zou te) (.rl m ds):=λF0 Hb F H σ own D a k=>h F0 Hb F H σ own _ a λp vs F' H' g h1 h2 h3 q=>k p vs F' H' (a.g.trans g) (a.g.h.free h1) h2 h3 q
theorem ziU (e:Γ[i]?=some (.ow m ds)):Run E Γ (zou (zg1 i)) (.rl m ds):=λF0 Hb F H σ own D a k=>by
 obtain ⟨p,vs,e1,e2,e3,e4,e5,e6⟩:=a.sl i _ e
 have hi:i<σ.length:=by rw [a.len];exact (↑35).1
 rw [List.getElem?_eq_getElem hi] at e1
 have e':σ[i]=some (.ref p):=e1
 exact ⟨_,by rw [List.getElem?_eq_getElem hi,e'],k p vs F H a.g e4 e3 e5 e6⟩
theorem zie (h:Run E Γ (zou te) o) (ho:∀ F0 Hb D D',D.rt=D'.rt->zhB E F0 Hb D o->zhB E F0 Hb D' o):Run E Γ (tSeq (zou te) u) o:=λF0 Hb F H σ own D a k=>h F0 Hb F H σ own _ a (ho F0 Hb D { D with nx:=u D } rfl k)
theorem zaj (h:Run E Γ (zou te) (.rt m d)):Run E Γ (tSeq (zou te) u) (.rt m d):=zie h λ_ _ _ _ e q v F H g p=>e ▸ q v F H g p
theorem zeK (h:Run E Γ (zou te) (.rl m ds)):Run E Γ (tSeq (zou te) u) (.rl m ds):=zie h λ_ _ _ _ e q p vs F H g h1 h2 h3 h4=>e ▸ q p vs F H g h1 h2 h3 h4
theorem zcg (h:Ev Γ te m d) (k:Run E (Γ.set i (.va m d)) u o):Run E Γ ↑202 o:=λF0 Hb F H σ own D a q =>
 h F0 Hb F H σ own _ a λv F' H' g p=>k F0 Hb F' H' _ own D ((↑22).set i p) q
theorem zfx (h:EvO Γ te m ds) (k:Run E (Γ.set i (.ow m ds)) u o):Run E Γ ↑202 o:=λF0 Hb F H σ own D a q =>
 h F0 Hb F H σ own _ a λp vs F' H' g h1 h2 h3 h4=>k F0 Hb F' H' _ _ D (a.setOwn g i h1 h2 h3 h4) q
theorem zam {α:Type} {x:α} (f:α->Ds) (fo:β->Oc) {kk:α->β} (h:Ev Γ te m (f x)) (k:∀ y,y=x->Run E (Γ.set i (.va m (f y))) u (fo (kk y))):Run E Γ ↑202 (fo (Let x kk)):=zcg h (k x rfl)
theorem zgK {α:Type} {x:α} (f:α->List Ds) (fo:β->Oc) {kk:α->β} (h:EvO Γ te m (f x)) (k:∀ y,y=x->Run E (Γ.set i (.ow m (f y))) u (fo (kk y))):Run E Γ ↑202 (fo (Let x kk)):=zfx h (k x rfl)
theorem zgY (h:Ev Γ te m d) (k:Run E Γ u o):Run E Γ (tSeq (zjB te) u) o:=λF0 Hb F H σ own D a q =>
 h F0 Hb F H σ own _ a λv F' H' g p=>k F0 Hb F' H' σ own D ↑22 q
theorem zda (e:Γ[i]?=some (.ow m ds)) (k:Run E (Γ.set i (.va m (dL ds))) t o):Run E Γ t o:=λF0 Hb F H σ own D a q=>by
 obtain ⟨F',own',_,a'⟩:=a.share e
 exact k F0 Hb F' H σ own' D a' q
theorem zaS {α:Type} {tc:TT} {b:Bool} {x y:α} {r:TS} (fo:α->Oc) (h:EvT Γ tc b) (h1:b=true->Run E Γ (tSeq t r) (fo x)) (h2:b=false->Run E Γ (tSeq u r) (fo y)):Run E Γ (tSeq (zs0 tc t u) r) (fo (bif b then x else y)):=λF0 Hb F H σ own D a q =>
 h F0 Hb F H σ own _ a λF' H' g=>by
  cases b with
  | true=>rw [if_pos rfl];exact h1 rfl F0 Hb F' H' σ own D ↑22 q
  | false=>rw [if_neg Bool.false_ne_true];exact h2 rfl F0 Hb F' H' σ own D ↑22 q
theorem zca {tc:TT} {r:TS} (h:EvT Γ tc false) (h1:Run E Γ (tSeq u r) o):Run E Γ (tSeq (zs0 tc t u) r) o:=λF0 Hb F H σ own D a q=>h F0 Hb F H σ own _ a λF' H' g=>by
 rw [if_neg Bool.false_ne_true];exact h1 F0 Hb F' H' σ own D ↑22 q
theorem zed {tc:TT} {b:Bool} {r:TS} (G:Bool->Ctx) (h:EvT Γ tc b) (h1:b=true->Run E Γ t (.nx (G true))) (h2:b=false->Run E Γ u (.nx (G false))) (k:Run E (G b) r o):Run E Γ (tSeq (zs0 tc t u) r) o:=λF0 Hb F H σ own D a q =>
 h F0 Hb F H σ own _ a λF' H' g=>by
  cases b with
  | true=>rw [if_pos rfl];exact h1 rfl F0 Hb F' H' σ own _ ↑22 λF H σ own a'=>k F0 Hb F H σ own D a' q
  | false=>rw [if_neg Bool.false_ne_true];exact h2 rfl F0 Hb F' H' σ own _ ↑22 λF H σ own a'=>k F0 Hb F H σ own D a' q
theorem zar (k:Run E Γ u o):Run E Γ (tSeq zoj u) o:=λF0 Hb F H σ own D a q=>k F0 Hb F H σ own D a q
theorem zmu {Δ:Ctx} (h:Run E Γ t (.nx Δ)) (k:Run E Δ u o):Run E Γ (tSeq t u) o:=λF0 Hb F H σ own D a q=>h F0 Hb F H σ own _ a λF H σ own a'=>k F0 Hb F H σ own D a' q
theorem zax {r:TS} (h:Run E Γ (tSeq t (tSeq u r)) o):Run E Γ (tSeq (tSeq t u) r) o:=λF0 Hb F H σ own D a q=>h F0 Hb F H σ own D a q
theorem ziT {F0 Hb F H:Hp} {σ:St} {own:Nat->Option Addr} (a:At F0 Hb F H σ own Γ) (e:Γ[i]?=some (.ow m ds)) :
  ∃ p vs,σ[i]?=some (some (.ref p))∧own i=some p∧F p=none∧Hb p=none∧H p=some (.lst vs)∧Paired ↑193 vs ds:=by
 obtain ⟨p,vs,e1,e2,e3,e4,e5,e6⟩:=a.sl i _ e
 have hi:i<σ.length:=by rw [a.len];exact (↑35).1
 rw [List.getElem?_eq_getElem hi] at e1
 have e':σ[i]=some (.ref p):=e1
 exact ⟨p,vs,by rw [List.getElem?_eq_getElem hi,e'],e2,e3,e4,e5,e6⟩
theorem zl1 {te:TE} (e:Γ[i]?=some (.ow m ds)) (h:Ev Γ te m d) (hz:ds.length<sizeLine) (k:Run E (Γ.set i (.ow m (ds++[d]))) u o):Run E Γ (tSeq (zjB (tBM K "list" zgw (zg1 i) (tCons te tNil))) u) o:=λF0 Hb F H σ own D a q=>by
 obtain ⟨p,vs,e1,e2,e3,e4,e5,e6⟩:=ziT a e
 refine ⟨_,e1,.inl ⟨rfl,_,SqL.of e5⟩,?_⟩
 refine h F0 Hb F H σ own _ a λv F' H' g qv=>?_
 obtain ⟨p',vs',f1,f2,f3,f4,f5,f6⟩:=ziT ↑22 e
 rw [e1] at f1
 cases f1
 exact ⟨p,vs',v,rfl,rfl,f5,by rw [Paired.length f6];exact hz,k F0 Hb F' _ σ own D ((↑22).turn e e1 (zc3 f6 (.cons qv .nil))) q⟩
theorem zpm {tb:TE} {n:Bool} {j:Int} (e:Γ[i]?=some (.ow m ds)) (h2:Ev Γ tb false (dI j)) (ej:atI ds j=some d):Ev Γ (tOp (zq6 K) (zg1 i) tb) m d:=λF0 Hb F H σ own Q a k=>by
 obtain ⟨p,vs,e1,e2,e3,e4,e5,e6⟩:=ziT a e
 refine ⟨_,e1,h2 F0 Hb F H σ own _ a λv F' H' g qv=>?_⟩
 obtain ⟨x,ex,rx⟩:=zhn e6 ej
 exact ⟨p,vs,j,x,rfl,qv,SqL.of (g.h _ _ e5),ex,k x F' H' g (d.up (zbg g.f) rx)⟩
theorem zn4 {n:Bool} (e:Γ[i]?=some (.ow m ds)):Ev Γ (tCB ↑214 (tCons (zg1 i) tNil)) n (dI ds.length):=λF0 Hb F H σ own Q a k=>by
 obtain ⟨p,vs,e1,e2,e3,e4,e5,e6⟩:=ziT a e
 exact ⟨_,e1,p,vs,rfl,.inl (SqL.of e5),k _ F H (Grow.refl a.fh) (by show V.int _=_;rw [Paired.length e6])⟩
theorem zmN {te tj:TE} {j:Int} {n:Nat} (e:Γ[i]?=some (.ow m ds)) (h:Ev Γ te m d) (hj:Ev Γ tj false (dI j)) (ej:ixN ds.length j=some n) (k:Run E (Γ.set i (.ow m (ds.set n d))) u o):Run E Γ (tSeq (zjt te (zso (zg1 i) tj znd)) u) o:=λF0 Hb F H σ own D a q=>by
 refine h F0 Hb F H σ own _ a λv F' H' g qv=>?_
 obtain ⟨p,vs,e1,e2,e3,e4,e5,e6⟩:=ziT ↑22 e
 refine ⟨_,e1,hj F0 Hb F' H' σ own _ ↑22 λw F2 H2 g2 qw=>?_⟩
 obtain ⟨p',vs',f1,f2,f3,f4,f5,f6⟩:=ziT ((↑22).grow g2) e
 rw [e1] at f1
 cases f1
 exact ⟨p,vs',j,n,rfl,qw,f5,by rw [Paired.length f6];exact ej,k F0 Hb F2 _ σ own D (((↑22).grow g2).turn e e1 (ziE (R:=λv (d:Ds)=>d.pr (part m F2 Hb) v) (d.up (zbg g2.f) qv) n f6)) q⟩
theorem ziA {S:Type} (f:S->γ->S ⊕ β):∀ (xs:List γ) (s:S) (i:Nat) (s':S),zcm f s (xs.take i)=.inl s'->∀ x,xs[i]?=some x->zcm f s (xs.take (i+1))=f s' x
 | [],_,_,_,_,_,h=>by simp at h
 | y :: ys,s,0,s',e,x,h=>by
  simp at h;subst h
  have e':s=s':=by simpa [zcm] using e
  subst e'
  show zcm f s [y]=_
  simp only [zcm]
  cases f s y<;>rfl
 | y :: ys,s,i+1,s',e,x,h=>by
  simp only [List.take_succ_cons,zcm] at e ⊢
  cases q:f s y with
  | inl s1=>rw [q] at e;exact ziA f ys s1 i s' e x ↑102
  | inr b=>rw [q] at e;cases e
theorem ziP {S:Type} (f:S->γ->S ⊕ β):∀ (xs:List γ) (s:S) (i:Nat) (b:β),zcm f s (xs.take i)=.inr b->zcm f s xs=.inr b
 | [],s,i,b,e=>by simpa using e
 | y :: ys,s,0,b,e=>by simp [zcm] at e
 | y :: ys,s,i+1,b,e=>by
  simp only [List.take_succ_cons,zcm] at e ⊢
  cases q:f s y with
  | inl s1=>rw [q] at e;exact ziP f ys s1 i b e
  | inr b'=>rw [q] at e;exact e
def ziW {S:Type} (G:S->Ctx) (res:β->Oc):S ⊕ β->Oc
 | .inl s=>.nx (G s)
 | .inr b=>res b
theorem Grow.rebase {F0 Hb F1 H1 F H:Hp} (g1:Grow F0 Hb F1 H1) (g:Grow F0 Hb F H) (e:Same F1 F):Grow F1 Hb F H :=
 ⟨e,g.fh,g.h,λa h1 h2=>g.no a h1 (g1.f.free h2)⟩
theorem Grow.unbase {F0 Hb F1 H1 F H:Hp} (g1:Grow F0 Hb F1 H1) (g:Grow F1 Hb F H):Grow F0 Hb F H :=
 ⟨g1.f.trans g.f,g.fh,g.h,λa h1 h2=>g.no a h1 (g1.no a h1 h2)⟩
theorem At.rebase {F0 Hb F1 H1 F H:Hp} {σ:St} {own:Nat->Option Addr} (g1:Grow F0 Hb F1 H1) (a:At F0 Hb F H σ own Γ) (e:Same F1 F):At F1 Hb F H σ own Γ:=⟨g1.rebase a.g e,a.inj,a.liv,a.sl,a.len⟩
theorem At.unbase {F0 Hb F1 H1 F H:Hp} {σ:St} {own:Nat->Option Addr} (g1:Grow F0 Hb F1 H1) (a:At F1 Hb F H σ own Γ):At F0 Hb F H σ own Γ:=⟨g1.unbase a.g,a.inj,a.liv,a.sl,a.len⟩
theorem zhB.rebase {F0 Hb F1 H1:Hp} {D:Ends} (g1:Grow F0 Hb F1 H1) (h:zhB E F0 Hb D o):zhB E F1 Hb D o:=by
 cases o with
 | nx Γ=>exact λF H σ own a=>h F H σ own (a.unbase g1)
 | bk Γ=>exact λF H σ own a=>h F H σ own (a.unbase g1)
 | ct Γ=>exact λF H σ own a=>h F H σ own (a.unbase g1)
 | rt m d=>exact λv F H g q=>h v F H (g1.unbase g) q
 | rl m ds=>exact λp vs F H g h1 h2 h3 q=>h p vs F H (g1.unbase g) h1 h2 h3 q
 | ex C Γ=>exact λdct F H σ own a=>h dct F H σ own (a.unbase g1)
 | rw Γ d=>exact λv F H σ own a q=>h v F H σ own (a.unbase g1) q
theorem znT {S:Type} {wi:TI} {g:TG} {tb:TS} {js:List Nat} {xs:List γ} {bds:γ->List Ds} {mi:Bool} {s0:S} (G:S->Ctx) (res:β->Oc) (f:S->γ->S ⊕ β) (I:Nat->S->Prop) (it:Iv Γ wi g js xs bds mi) (w:Wk Γ (G s0)) (h0:I 0 s0)
  (hres:∀ (b:β) (F0 Hb:Hp) (D D':Ends),D.rt=D'.rt->zhB E F0 Hb D (res b)->zhB E F0 Hb D' (res b))
  (body:∀ (i:Nat) (x:γ) (s:S),xs[i]?=some x->I i s->(∀ s',f s x=.inl s'->I (i+1) s')∧Run E (zmr js (bds x) mi (G s)) tb (ziW G res (f s x))):Run E Γ (zrI wi g tb) (ziW G res (zcm f s0 xs)):=λF0 Hb F H σ own D a q =>
 it F0 Hb F H σ own _ a λJ F1 H1 g1 ok=>by
  have gb:Grow F0 Hb F1 H1:=a.g.trans g1
  refine ⟨λi mm σ H2=>mm=xs.length-i∧i≤xs.length∧∃ s F2 own2,zcm f s0 (xs.take i)=.inl s∧I i s∧At F1 Hb F2 H2 σ own2 (G s),⟨_,rfl,Nat.zero_le _,s0,F1,own,by simp [zcm],h0,((↑16).wk w).rebase gb (Same.refl _)⟩,?_⟩
  rintro i mm σ2 H2 ⟨rfl,hi,s,F2,own2,es,hI,a2⟩
  obtain ⟨hstop,hitem⟩:=ok.up a2.g.f H2 a2.fh
  by_cases hlt:i<xs.length
  ·have hx:xs[i]?=some xs[i]:=List.getElem?_eq_getElem hlt
   obtain ⟨go,yl⟩:=hitem i xs[i] hx
   obtain ⟨hI',hb⟩:=body i _ s hx hI
   have tk:=ziA f xs s0 i s es _ hx
   refine .inr ⟨go,λσ' H'=>∃ s' F3 own3,f s xs[i]=.inl s'∧At F1 Hb F3 H' σ' own3 (G s'),λσ' H' ⟨s',F3,own3,e3,a3⟩=>⟨xs.length-(i+1),by omega,rfl,hlt,s',F3,own3,by rw [tk,e3],hI' s' e3,a3⟩,λx H' y=>?_⟩
   obtain ⟨g3,bind⟩:=yl x H' y
   refine bind σ2 _ λvs hvs=>?_
   have a3:=(a2.grow g3).setMany (js:=js) hvs
   refine hb F1 Hb F2 H' _ own2 _ a3 ?_
   cases e3:f s xs[i] with
   | inl s'=>exact λF3 H3 σ3 own3 a4=>⟨s',F3,own3,rfl,a4⟩
   | inr b =>
    have:=ziP f xs s0 (i+1) b (by rw [tk,e3])
    rw [this] at q
    exact hres b F1 Hb D _ rfl (zhB.rebase (o:=res b) gb q)
  ·have e:i=xs.length:=by omega
   subst e
   rw [List.take_length] at es
   rw [es] at q
   exact .inl ⟨hstop,q F2 H2 σ2 own2 (a2.unbase gb)⟩
end
end L2
namespace L2
open PySem PySem.Spec PyProof.Rows
structure EqD {α:Type} [DecidableEq α] (K:W.Frag) (f:α->Ds) (n:Nat):Prop where
 eq:∀ H x y v w,(f x).pr H v->(f y).pr H w->EqV K H n v w (decide (x=y))
 inj:∀ H x y v,(f x).pr H v->(f y).pr H v->x=y
theorem EqD.int {K:W.Frag} {n:Nat}:EqD K dI n:=⟨λH x y v w h1 h2=>by
 cases h1;cases h2
 have:decide (x=y)=eqV (.int x) (.int y):=Bool.eq_iff_iff.mpr (by unfold eqV;simp)
 rw [this];exact .flat rfl rfl,λH x y v h1 h2=>by cases h1;cases h2;rfl⟩
theorem EqD.bool {K:W.Frag} {n:Nat}:EqD K dB n:=⟨λH x y v w h1 h2=>by
 cases h1;cases h2
 have:decide (x=y)=eqV (.bl x) (.bl y):=by cases x<;>cases y<;>rfl
 rw [this];exact .flat rfl rfl,λH x y v h1 h2=>by cases h1;cases h2;rfl⟩
theorem EqD.str {K:W.Frag} {n:Nat}:EqD K dS n:=⟨λH x y v w h1 h2=>by
 cases h1;cases h2
 have:decide (x=y)=eqV (.str x) (.str y):=Bool.eq_iff_iff.mpr (by unfold eqV;simp)
 rw [this];exact .flat rfl rfl,λH x y v h1 h2=>by cases h1;cases h2;rfl⟩
theorem zhh {α:Type} {f:α->Ds} {H:Hp} (h:∀ x y v,(f x).pr H v->(f y).pr H v->x=y):∀ {xs ys:List α} {vs:List V},Paired ↑117 vs ↑13->Paired ↑117 vs (ys.map f)->xs=ys
 | [],[],_,_,_=>rfl
 | [],_ :: _,_,.nil,h2=>by cases h2
 | _ :: _,[],_,h1,.nil=>by cases h1
 | x :: xs,y :: ys,_,.cons a s,.cons b t=>by rw [h x y _ a b,zhh h s t]
theorem znv {α:Type} [DecidableEq α] {xs ys:List α} (h:xs.length=ys.length):((↑203).all λj=>decide (xs[j]? =ys[j]?))=decide (xs=ys):=by
 by_cases e:xs=ys
 ·subst e;simp
 ·rw [decide_eq_false e]
  by_cases z:((↑203).all λj=>decide (xs[j]? =ys[j]?))=true
  ·exfalso
   apply e
   rw [List.all_eq_true] at z
   refine List.ext_getElem? λj=>?_
   by_cases hj:j<xs.length
   ·simpa using z j (List.mem_range.mpr hj)
   ·rw [List.getElem?_eq_none ↑0,List.getElem?_eq_none ↑0]
  ·simpa using z
theorem zlI {α:Type} [DecidableEq α] {K:W.Frag} {f:α->Ds} {n:Nat} (E:EqD K f n) {H:Hp} {xs ys:List α} {vs ws:List V} (h1:Paired ↑117 vs ↑13) (h2:Paired ↑117 ws (ys.map f)) (hl:xs.length=ys.length) :
  ∀ (j:Nat) (x y:V),vs[j]?=some x->ws[j]?=some y->EqV K H n x y (decide (xs[j]?=ys[j]?)):=λj x y e1 e2=>by
 have l1:=Paired.length h1
 have l2:=Paired.length h2
 rw [List.length_map] at l1 l2
 have hj:j<vs.length:=(List.getElem?_eq_some_iff.mp e1).1
 have q1:xs[j]?=some (xs[j]' ↑0):=List.getElem?_eq_getElem ↑0
 have q2:ys[j]?=some (ys[j]' ↑0):=List.getElem?_eq_getElem ↑0
 obtain ⟨v,ev,rv⟩:=zbn h1 (show (↑13)[j]?=some (f (xs[j]' ↑0)) by rw [List.getElem?_map,q1];rfl)
 obtain ⟨w,ew,rw'⟩:=zbn h2 (show (ys.map f)[j]?=some (f (ys[j]' ↑0)) by rw [List.getElem?_map,q2];rfl)
 rw [e1] at ev;rw [e2] at ew
 cases ev;cases ew
 have:=E.eq H _ _ _ _ rv rw'
 rw [q1,q2]
 simpa using this
theorem EqD.list {α:Type} [DecidableEq α] {K:W.Frag} {f:α->Ds} {n:Nat} (E:EqD K f n):EqD K (λxs:List α=>dL ↑13) (n+1):=⟨λH xs ys v w h1 h2=>by
 obtain ⟨p,vs,rfl,hp,qp⟩:=h1
 obtain ⟨q,ws,rfl,hq,qq⟩:=h2
 by_cases e:p=q
 ·subst e
  rw [hp] at hq
  cases hq
  rw [zhh (E.inj H) qp qq,decide_eq_true rfl]
  exact .same
 ·have l1:=Paired.length qp
  have l2:=Paired.length qq
  rw [List.length_map] at l1 l2
  by_cases hl:xs.length=ys.length
  ·rw [← znv hl,← l1]
   exact .lists e (SqL.of hp) (SqL.of hq) ↑0 (zlI E qp qq hl)
  ·have:decide (xs=ys)=false:=decide_eq_false λz=>hl (by rw [z])
   rw [this]
   exact .lens e (SqL.of hp) (SqL.of hq) ↑0,λH xs ys v h1 h2=>by
 obtain ⟨p,vs,rfl,hp,qp⟩:=h1
 obtain ⟨q,ws,e,hq,qq⟩:=h2
 cases e
 rw [hp] at hq
 cases hq
 exact zhh (E.inj H) qp qq⟩
theorem ziO {α:Type} [DecidableEq α] {K:W.Frag} {f:α->Ds} {n:Nat} (E:EqD K f n) {Γ:Ctx} {ta tb:TE} {m neg:Bool} {xs ys:List α} (h1:Ev Γ ta false (dQ K ↑13)) (h2:Ev Γ tb false (dQ K (ys.map f))) (hn:n≤50:=by decide) :
  Ev Γ (tOp (zoV K neg) ta tb) m (dB (bif neg then !decide (xs=ys) else decide (xs=ys))):=λF0 Hb F H σ own Q a k =>
 h1 F0 Hb F H σ own _ a λu F1 H1 g1 ⟨p,vs,e1,e2,e3⟩=>h2 F0 Hb F1 H1 σ own _ ↑16 λu' F2 H2 g2 ⟨q,ws,d1,d2,d3⟩=>by
  have e2':SqL K H2 p vs:=(g1.fh.trans g2.h).seq e2
  have d2':SqL K H2 q ws:=g2.fh.seq d2
  have e3':=zdx (ds:=[]) (g1.fh.trans g2.h) e3
  have d3':=zdx (ds:=[]) g2.fh d3
  have l1:=Paired.length e3'
  have l2:=Paired.length d3'
  rw [List.length_map] at l1 l2
  refine ⟨p,q,n,vs,ws,e1,d1,e2',d2',hn,?_⟩
  by_cases hl:xs.length=ys.length
  ·refine .inr ⟨_,by omega,zlI E e3' d3' hl,k _ F2 H2 ↑44 ?_⟩
   rw [l1,znv hl]
   cases neg<;>rfl
  ·refine .inl ⟨by omega,k _ F2 H2 ↑44 ?_⟩
   rw [show decide (xs=ys)=false from decide_eq_false λz=>hl (by rw [z])]
   cases neg<;>rfl
def zgm (N:List Str) (ds:List Ds):Ctx:=ds.map (.va false)++List.replicate (N.length-ds.length) .no
def zs9 (n:Nat):Rs->Oc
 | .va m d=>.rt m d
 | .ow m ds=>.rl m ds
 | .ex C=>.ex C (List.replicate n .no)
theorem zlN {F H:Hp} {N:List Str} {vs:List V} {ds:List Ds} (hF:Same F H) (hv:Paired ↑172 vs ds):At F H F H (start N vs) (λ_=>none) (zgm N ds):=by
 have hl:=Paired.length hv
 refine ⟨Grow.refl hF,λ_ _ _ h=>(nomatch h),λ_ _ h=>(nomatch h),λi s e=>?_,by unfold start zgm;simp [hl]⟩
 unfold zgm at e
 unfold start
 by_cases hi:i<ds.length
 ·rw [List.getElem?_append_left ↑56,List.getElem?_map] at e
  rw [List.getElem?_append_left (by simpa [hl] using hi),List.getElem?_map]
  obtain ⟨v,ev,rv⟩:=zbn hv (List.getElem?_eq_getElem hi)
  rw [List.getElem?_eq_getElem hi] at e
  have e':Slot.va false ds[i]=s:=Option.some.inj e
  subst e'
  exact ⟨v,by rw [ev];rfl,rv⟩
 ·rw [List.getElem?_append_right ↑56,List.getElem?_replicate] at e
  split at e
  ·cases e;trivial
  ·cases e
def zoP (H F:Hp) (Q:VK) (E:XK):Rs->Prop
 | .ex C=>∀ dct F' H',Grow F H F' H'->E (.ref C) dct H'
 | .va m d=>∀ v F' H',Grow F H F' H'->d.pr (part m F' H) v->Q v H'
 | .ow m ds=>∀ p ws F' H',Grow F H F' H'->H p=none->F' p=none->H' p=some (.lst ws)->Paired (λv (d:Ds)=>d.pr (part m F' H) v) ws ds->Q (.ref p) H'
theorem zn6 {E:XK} {F H:Hp} {N:List Str} {vs:List V} {ds:List Ds} {Q:VK} {t:TS} {r:Rs} (hF:Same F H) (hv:Paired ↑172 vs ds) (hq:zoP H F Q E r) (h:Run (λ_=>E) (zgm N ds) t (zs9 N.length r)):t { nx:=λ_ H'=>Q .non H',rt:=Q } (start N vs) H:=by
 refine h F H F H _ _ _ (zlN hF hv) ?_
 cases r with
 | va m d=>exact λv F' H' g q=>hq v F' H' g q
 | ow m ds=>exact λp ws F' H' g h1 h2 h3 q=>hq p ws F' H' g h1 h2 h3 q
 | ex C=>exact λdct F' H' σ own a=>hq dct F' H' a.g
theorem zlC {E:XK} {F H:Hp} {N:List Str} {vs:List V} {ds:List Ds} {Q:VK} {t:TS} {m:Bool} {Δ:Ctx} (hF:Same F H) (hv:Paired ↑172 vs ds) (hq:zoP H F Q E (.va m dN)) (h:Run (λ_=>E) (zgm N ds) t (.nx Δ)):t { nx:=λ_ H'=>Q .non H',rt:=Q } (start N vs) H :=
 h F H F H _ _ _ (zlN hF hv) λF' H' σ own a=>hq _ F' H' a.g rfl
section
variable {P:Program} {w:World} {K:W.Frag} {mg:Str->Option Value} {base:Heap} {x qual:Str} {st:Stmt} {f:Addr} {fd:FuncData} {N ps:List Str} {k:Nat}
theorem Fun.okV {ι:Type} {args:ι->List Ds} {pre:ι->Prop} {res:ι->Rs} (F:Fun K x qual st f fd) (S:FnScope N ps (zad st)) (hl:∀ i,(args i).length=ps.length)
  (hbody:∀ (cdv:Value) (A:Around) (outer:List Env) (s:Shared) (H:Hp) (E:XK) (i:ι),Room k ↑218->pre i →
   ∃ t,PSs (↑155).nox (zaA st) t∧(Run (λ_=>E) (zgm N (args i)) t (zs9 N.length (res i))∨∃ m Δ,res i=.va m dN∧Run (λ_=>E) (zgm N (args i)) t (.nx Δ))):FnOk P w K mg base ↑1 (k+1) f fd ps (Spv args pre res):=by
 refine F.okX S (λvs H Q E ⟨i,F',_,hv,_⟩=>by rw [Paired.length hv];exact hl i) λcdv A outer s H vs Q E hr ⟨i,F',hF,hv,hp,hq⟩=>?_
 obtain ⟨t,h1,h2⟩:=hbody cdv A outer s H E i hr hp
 have hq':zoP H F' Q E (res i):=by
  cases e:res i with
  | va m d=>rw [e] at hq;exact hq
  | ow m ds=>rw [e] at hq;exact hq
  | ex C=>rw [e] at hq;exact hq
 refine ⟨_,zjS h1,?_⟩
 rcases h2 with h2 | ⟨m,Δ,e,h2⟩
 ·exact zn6 hF hv hq' h2
 ·rw [e] at hq'
  exact zlC hF hv hq' h2
end
def putD (f:Str) (d:Ds):List (Str×Ds)->List (Str×Ds)
 | []=>[(f,d)]
 | (g,x) :: r=>if g=f then (g,d) :: r else (g,x) :: putD f d r
theorem ziJ {R:V->Ds->Prop} {f:Str} {v:V} {d:Ds} (h:R v d):∀ {vs:List (Str×V)} {fs:List (Str×Ds)},Paired (λ(a:Str×V) (b:Str×Ds)=>a.1=b.1∧R a.2 b.2) vs fs->Paired (λ(a:Str×V) (b:Str×Ds)=>a.1=b.1∧R a.2 b.2) (putF f v vs) (putD f d fs)
 | _,_,.nil=>.cons ⟨rfl,h⟩ .nil
 | _,_,.cons (a:=(x,u)) (b:=(y,e)) ⟨h1,h2⟩ t=>by
  have h1:x=y:=h1
  subst h1
  unfold putF putD
  split
  ·exact .cons ⟨rfl,h⟩ t
  ·exact .cons ⟨rfl,h2⟩ (ziJ h t)
theorem zqx {Γ:Ctx} {i:Nat} {m:Bool} {C p dx:Addr} {fs:List (Str×Ds)} {K:W.Frag} {tv:TE} {d:Ds} {f:Str} {u:TS} {o:Oc} {E:XS} (e:Γ[i]?=some (.ob m C p dx fs)) (h:Ev Γ tv m d) (c:Cls K C) (nf:NoAttr K C f) (hz:fs.length<1000) (k:Run E (Γ.set i (.ob m C p dx (putD f d fs))) u o):Run E Γ (tSeq (zuB K (zg1 i) tv f) u) o:=λF0 Hb F H σ own D a q=>by
 refine h F0 Hb F H σ own _ a λv F' H' g qv=>?_
 have a':=a.grow g
 obtain ⟨vs,e1,e2,e3,e4,e5,e6⟩:=a'.sl i _ e
 have hi:i<σ.length:=by rw [a.len];exact (↑35).1
 rw [List.getElem?_eq_getElem hi] at e1
 have e':σ[i]=some (.ref p):=e1
 have ei:σ[i]?=some (some (.ref p)):=by rw [List.getElem?_eq_getElem hi,e']
 exact ⟨_,ei,p,C,dx,vs,rfl,e5.1,c,nf,by rw [Paired.length e6];exact hz,k F0 Hb F' _ σ own D (a'.turnOb e (ziJ (R:=λv (d:Ds)=>d.pr (part m F' Hb) v) qv e6)) q⟩
def zp9 {ι:Type} (C:Addr) (args:ι->List Ds) (pre:ι->Prop) (m:Bool) (fs:ι->List (Str×Ds)):Sp:=λvs H Q _=>∃ (i:ι) (p dx:Addr) (ws:List V) (H1 F:Hp),vs=.ref p :: ws∧H1 p=none∧H1 dx=none∧dx≠p∧H=upd (upd H1 dx (.own p)) p (.ins C dx [])∧Same F H1 ∧
 Paired ↑172 ws (args i)∧pre i∧∀ us F' H',Grow F H1 F' H'->F' p=none->F' dx=none->H' p=some (.ins C dx us)->H' dx=some (.own p)->Paired (λ(a:Str×V) (b:Str×Ds)=>a.1=b.1∧b.2.pr (part m F' H1) a.2) us (fs i)->Q .non H'
def znE (m:Bool) (C p dx:Addr) (N:List Str) (ds:List Ds):Ctx:=.ob m C p dx [] :: (ds.map (.va false)++List.replicate (N.length-(ds.length+1)) .no)
section
variable {P:Program} {w:World} {K:W.Frag} {mg:Str->Option Value} {base:Heap} {x qual:Str} {st:Stmt} {f:Addr} {fd:FuncData} {N ps:List Str} {k:Nat}
theorem zn7 {m:Bool} {F H1:Hp} {C p dx:Addr} {N:List Str} {ws:List V} {ds:List Ds} (hF:Same F H1) (hv:Paired ↑172 ws ds) (h1:H1 p=none) (h2:H1 dx=none) (h3:dx≠p) :
  At F H1 F (upd (upd H1 dx (.own p)) p (.ins C dx [])) (start N (.ref p :: ws)) (λi=>if i=0 then some p else none) (znE m C p dx N ds):=by
 have hl:=Paired.length hv
 have n1:upd H1 dx (.own p) p=none:=by rw [zaq (Ne.symm h3)];exact h1
 have g:Grow F H1 F (upd (upd H1 dx (.own p)) p (.ins C dx [])):=((Grow.refl hF).newH h2).newH n1
 refine ⟨g,λi j q e1 e2=>?_,λi q e=>?_,λi s e=>?_,?_⟩
 ·split at e1
  ·split at e2
   ·omega
   ·cases e2
  ·cases e1
 ·split at e
  ·cases e;rw [zaD];simp
  ·cases e
 ·cases i with
  | zero =>
   have e':Slot.ob m C p dx []=s:=Option.some.inj e
   subst e'
   exact ⟨[],rfl,rfl,⟨hF.free h1,hF.free h2⟩,⟨h1,h2⟩,⟨zaD,by rw [zaq h3];exact zaD⟩,.nil⟩
  | succ i =>
   have e:(ds.map (Slot.va false)++List.replicate (N.length-(ds.length+1)) Slot.no)[i]?=some s:=e
   show zgH H1 F _ _ _ ((ws.map some++List.replicate (N.length-(ws.length+1)) none)[i]?).join s
   by_cases hi:i<ds.length
   ·rw [List.getElem?_append_left ↑56,List.getElem?_map] at e
    rw [List.getElem?_append_left (by simpa [hl] using hi),List.getElem?_map]
    obtain ⟨v,ev,rv⟩:=zbn hv (List.getElem?_eq_getElem hi)
    rw [List.getElem?_eq_getElem hi] at e
    have e':Slot.va false ds[i]=s:=Option.some.inj e
    subst e'
    exact ⟨v,by rw [ev];rfl,rv⟩
   ·rw [List.getElem?_append_right ↑56,List.getElem?_replicate] at e
    split at e
    ·cases e;trivial
    ·cases e
 ·unfold start znE;simp [hl]
theorem Fun.okI {ι:Type} {C:Addr} {args:ι->List Ds} {pre:ι->Prop} {m:Bool} {fs:ι->List (Str×Ds)} (F:Fun K x qual st f fd) (S:FnScope N ps (zad st)) (hl:∀ i,(args i).length+1=ps.length)
  (hbody:∀ (cdv:Value) (A:Around) (outer:List Env) (s:Shared) (H:Hp) (E:XK) (i:ι),Room k ↑218->pre i →
   ∃ t,PSs (↑155).nox (zaA st) t∧∀ p dx,∃ Δ,Run (λ_=>E) (znE m C p dx N (args i)) t (.nx Δ)∧Δ[0]?=some (.ob m C p dx (fs i))):FnOk P w K mg base ↑1 (k+1) f fd ps (zp9 C args pre m fs):=by
 refine F.okX S (λvs H Q E ⟨i,p,dx,ws,H1,F',e,_,_,_,_,_,hv,_⟩=>by rw [e,List.length_cons,Paired.length hv];exact hl i) λcdv A outer s H vs Q E hr ⟨i,p,dx,ws,H1,F',e,h1,h2,h3,h4,hF,hv,hp,hq⟩=>?_
 subst e h4
 obtain ⟨t,t1,t2⟩:=hbody cdv A outer s _ E i hr hp
 obtain ⟨Δ,t2,t3⟩:=t2 p dx
 refine ⟨_,zjS t1,?_⟩
 refine t2 F' H1 F' _ _ _ _ (zn7 hF hv h1 h2 h3) λF2 H2 σ2 own2 a2=>?_
 obtain ⟨us,e1,e2,e3,e4,e5,e6⟩:=a2.sl 0 _ t3
 exact hq us F2 H2 a2.g e3.1 e3.2 e5.1 e5.2 e6
end
section
variable {Γ:Ctx} {K:W.Frag} {ds:List Ds} {tr:TA} {E:XK}
theorem zk0 {ι:Type} {C:Addr} {args:ι->List Ds} {pre:ι->Prop} {m:Bool} {fs:ι->List (Str×Ds)} (i:ι) (h:EvA Γ tr false ds) (ha:ds=args i) (hp:pre i):Ev Γ (zqU C (zp9 C args pre m fs) [] E tr) m (dO C (fs i)):=λF0 Hb F H σ own Q a k=>by
 subst ha
 refine h F0 Hb F H σ own _ a λvs F1 H1 g1 q1 p dx h1 h2 h3=>⟨i,p,dx,vs,H1,F1,by rw [List.append_nil],h1,h2,h3,rfl,g1.fh,q1,hp,λus F' H' g n1 n2 e1 e2 e3=>⟨rfl,?_⟩⟩
 have g2:=g1.trans g
 obtain ⟨p0,_,pb⟩:=a.free g1 h1
 obtain ⟨d0,_,db⟩:=a.free g1 h2
 have g3:=(g2.take p0 e1).take d0 e2
 have s1:Same F' (upd F' p (.ins C dx us)):=Same.new n1 _
 have n3:upd F' p (.ins C dx us) dx=none:=by rw [zaq h3];exact n2
 have s2:Same F' (upd (upd F' p (.ins C dx us)) dx (.own p)):=s1.trans (Same.new n3 _)
 refine k _ _ _ g3 ⟨p,dx,us,rfl,ze2 pb (by rw [zaq (Ne.symm h3)];exact zaD),ze2 db zaD,?_⟩
 exact zb2 (λ_ b q=>⟨q.1,b.2.up (((zga (a.g.h.trans g1.h))).trans (zbg s2)) q.2⟩) e3
end
end L2
namespace L2
open PySem PySem.Spec PyProof.Rows
def Ite (K:W.Frag) (a:Addr):It :=
 ⟨λi H=>∃ xs x,SqL K H a xs∧xs[i]?=some x,
  λi H v H'=>∃ p x,v=.ref p∧H p=none∧H'=upd H p (.tup [.int (i:Int),x])∧∀ xs,SqL K H a xs->xs[i]?=some x,
  λi H=>∃ xs,SqL K H a xs∧xs.length≤i⟩
theorem znr {P:Program} {w:World} {K:W.Frag} {elts:List Expr} {x1:Nat} {tp:Pos} {a e it:Addr} (hne:e≠it) :
  Turn P w K (.Tuple elts x1 tp) (Ite K a) [e,it] e (λi h=>(∃ old,IsEnum h e it (i:Int) old)∧h.IsListIter it a i) where
 mem:=by simp
 obj:=λi h st c hc=>by
  obtain ⟨⟨old,he⟩,⟨o1,e1,_,d1⟩⟩:=st
  simp only [List.mem_cons,List.not_mem_nil,or_false] at hc
  rcases hc with rfl | rfl
  ·exact ⟨_,he,λv z=>by cases z⟩
  ·exact ⟨o1,e1,λv z=>by rw [d1] at z;cases z⟩
 keep:=λi h h' st k=>by
  obtain ⟨⟨old,he⟩,h1⟩:=st
  exact ⟨⟨old,k e ↥5 _ he⟩,h1.at λo q=>k it ↥5 o q⟩
 item:=by
  intro X hP hw hK hc i pins s σ H E I hf st hg
  subst hP hw hK
  obtain ⟨xs,x,hxs,hx⟩:=hg
  obtain ⟨itx,rx,px,hzx⟩:=I.list hxs
  obtain ⟨u,hu,ru⟩:=rx.get hx
  obtain ⟨⟨old,he⟩,h1⟩:=st
  refine wpAny_pyNext_enum_item (x:=u) he h1 px.isList (by simpa using hu) hne λh' a1 a2 a3 a4 hk=>?_
  refine ⟨_,rfl,wpAny_letOwnedTupleGo_enum a1 λh'' b1 b2=>?_⟩
  have elt:e<s.heap.objs.size:=Heap.lt_size he
  have itl:it<s.heap.objs.size:=by obtain ⟨_,q,_⟩:=h1;exact Heap.lt_size q
  have tup:h''.get? s.heap.objs.size=some { cls:=.type "tuple",data:=.seq #[.int i s.toks,u] }:=b2.extBut _ _ (Nat.ne_of_gt elt) a3
  have I1:Inv X pins σ (upd H s.heap.objs.size (.tup [.int (i:Int),x])) { s with heap:=h'',toks:=s.toks+1 }:=by
   refine I.turnedNew (t':=s.toks+1) (ch:=[e,it]) (λc hc=>hf c hc) (λc ob hc q=>?_) ↑11 ?_
   ·simp only [List.mem_cons,List.not_mem_nil,or_false,not_or] at hc
    exact b2.extBut _ _ hc.1 (hk c ob hc.1 hc.2 q)
   ·exact ⟨by show 2≤sizeLine;decide,[.int i s.toks,u],.cons ⟨_,rfl⟩ (.cons ru .nil),⟨_,tup,rfl,_,rfl⟩⟩
  refine ⟨.ref s.heap.objs.size,_,I1,rfl,⟨_,x,rfl,I.hok.fresh ↑11,rfl,λxs' q1=>?_⟩,⟨⟨u,?_⟩,a2.extBut b2.extBut (Ne.symm hne)⟩,λc hc=>?_⟩
  ·rw [I.list_inj q1 hxs];exact hx
  ·exact b1
  ·have:c≠s.heap.objs.size:=by
    simp only [List.mem_cons,List.not_mem_nil,or_false] at hc
    rcases hc with rfl | rfl
    ·exact Nat.ne_of_lt elt
    ·exact Nat.ne_of_lt itl
   rw [zaq this];exact (hf c hc).1
 done:=by
  intro X hP hw hK hc i pins s σ H E I hf st hg
  subst hP hw hK
  obtain ⟨xs,hxs,hend⟩:=hg
  obtain ⟨itx,rx,px,hzx⟩:=I.list hxs
  obtain ⟨⟨old,he⟩,h1⟩:=st
  have lx:=rx.length
  refine wpAny_pyNext_enum_end (I.ok.hd hc) he h1 px.isList ↑61 λh' hk=>⟨rfl,?_⟩
  refine I.turnedL (t':=s.toks) (ch:=[e,it]) (λc hc=>hf c hc) (λc ob hc q=>?_)
  simp only [List.mem_cons,List.not_mem_nil,or_false,not_or] at hc
  exact hk c ob hc.2 q
 self:=λ_ _ _ _ _ st h=>by obtain ⟨⟨old,he⟩,_⟩:=st;exact wpAny_pyIter_enum he h
section
variable {X:Cx} {K:W.Frag}
def zsa (K:W.Frag) (ta:TA):TI:=λσ H R=>ta σ H λvs H1=>∃ a,vs=[.ref a]∧(∃xs,SqL K H1 a xs)∧R (Ite K a) H1
theorem zjb {a:Expr} {ta:TA} {p pos tp:Pos} {elts:List Expr} {x1:Nat} (hK:X.K=K) (hg:Gl X "enumerate") (hm:X.mg "enumerate"=none) (ha:PA X [a] ta) (hs:starEach [a] X.env=[(false,eval a X.env)]:=by rfl) :
  PI X (.Tuple elts x1 tp) (.Call (.Name "enumerate" p) [a] [] pos) (zsa K ta):=by
 subst hK
 intro pins s σ H R I h
 refine Call_ (zim I hg hm boot_enumerate (PyProof.Rows.callWith_type1 ↑242 (by rw [hs];rfl) rfl))
 obtain ⟨l,e,⟨xs,hx⟩,q⟩:=q1
 subst e
 cases r1 with
 | cons r rr =>
  cases rr
  cases r
  obtain ⟨itx,rx,px,hzx⟩:=I1.list hx
  refine call_enumerate_list px.isList λh' he h1 hsz hk=>wpAny_pyIter_enum he ?_
  have hne:(s1.heap.objs.size+1:Nat)≠s1.heap.objs.size:=by omega
  refine ⟨s1.heap.objs.size+1,[s1.heap.objs.size+1,s1.heap.objs.size],_,Ite X.K l,H1,rfl,I1.kept (t':=s1.toks) hk,znr hne,⟨⟨_,he⟩,h1⟩,λc hc=>?_,q⟩
  have hle:@LE.le Nat _ s1.heap.objs.size c:=by
   simp only [List.mem_cons,List.not_mem_nil,or_false] at hc
   rcases hc with rfl | rfl<;>omega
  exact I1.fpOk hle (I1.hok.fresh hle)
end
def Itv (K:W.Frag) (a:Addr) (n:Nat):It :=
 ⟨λi H=>i<n∧∃ xs x,SqL K H a xs∧xs.length=n∧xs[n-1-i]?=some x,λi H x H'=>H'=H∧∀ xs,SqL K H a xs->xs[n-1-i]?=some x,λi _=>i=n⟩
theorem zoW {P:Program} {w:World} {K:W.Frag} {tg:Expr} (a it:Addr) (n:Nat):Turn P w K tg (Itv K a n) [it] it (λi h=>h.IsRevIter it a ((n:Int)-1-(i:Int))) where
 mem:=by simp
 obj:=λi h st b hb=>by
  have e:b=it:=by simpa using hb
  subst e
  obtain ⟨o,e,c,d⟩:=st
  exact ⟨o,e,λv z=>by rw [d] at z;cases z⟩
 keep:=λi h h' st k=>st.at λo e=>k it ↥5 o e
 item:=by
  intro X hP hw hK hc i pins s σ H E I hf st hg
  subst hP hw hK
  obtain ⟨hi,xs,x,hq,hn,hx⟩:=hg
  obtain ⟨its,rv,p,hz⟩:=I.list hq
  obtain ⟨u,hu,ru⟩:=rv.get hx
  obtain ⟨f0,f1,f2,f3,f4,f5⟩:=hf it ↥5
  have e1:(n:Int)-1-(i:Int)=((n-1-i:Nat):Int):=by omega
  have e2:((n-1-i:Nat):Int)-1=(n:Int)-1-((i+1:Nat):Int):=by omega
  rw [e1] at st
  refine wpAny_pyNext_rev_item st p.isList (x:=u) (by simpa using hu) λh' st' sb=>?_
  rw [e2] at st'
  have I1:Inv X pins σ H { s with heap:=h' }:=I.turned (t':=s.toks) (λb o hb e=>(sb.2 b hb).trans e) f0 f1 f3 f4 f5
  obtain ⟨o,e,c,d⟩:=id st'
  exact ⟨u,rfl,zqX (s:= {s with heap:=h'}) e c d ⇑1 ⟨x,H,I1,ru,⟨rfl,λys hy=>by rw [I.list_inj hy hq];exact hx⟩,st',λb hb=>(hf b hb).1⟩⟩
 done:=by
  intro X hP hw hK hc i pins s σ H E I hf st hg
  subst hP hw hK
  have hg:i=n:=hg
  subst hg
  obtain ⟨f0,f1,f2,f3,f4,f5⟩:=hf it ↥5
  have e1:(i:Int)-1-(i:Int)=-1:=by omega
  rw [e1] at st
  exact wpAny_pyNext_rev_end (I.ok.hd hc) st λh' eb=>⟨rfl,I.turned (t':=s.toks) (λb o hb e=>eb b o hb e) f0 f1 f3 f4 f5⟩
 self:=λ_ _ _ _ _ st h=>wpAny_pyIter_revIter st h
section
variable {X:Cx} {K:W.Frag}
def zu2 (K:W.Frag) (ta:TA):TI:=λσ H R=>ta σ H λvs H1=>∃ a xs,vs=[.ref a]∧SqL K H1 a xs∧R (Itv K a xs.length) H1
theorem zqa {a tg:Expr} {ta:TA} {p pos:Pos} (hK:X.K=K) (hg:Gl X "reversed") (hm:X.mg "reversed"=none) (ha:PA X [a] ta) (hs:starEach [a] X.env=[(false,eval a X.env)]:=by rfl) :
  PI X tg (.Call (.Name "reversed" p) [a] [] pos) (zu2 K ta):=by
 subst hK
 intro pins s σ H R I h
 refine Call_ (zim I hg hm boot_reversed (PyProof.Rows.callWith_type1 ↑242 (by rw [hs];rfl) rfl))
 obtain ⟨l,xs,e,hx,q⟩:=q1
 subst e
 cases r1 with
 | cons r rr =>
  cases rr
  cases r
  obtain ⟨itx,rx,px,hzx⟩:=I1.list hx
  have hl:=rx.length
  refine call_reversed_list px.isList ?_
  have ho:=Heap.get?_push_size s1.heap (o:=revObj l ((itx.toArray.size:Int)-1)) rfl
  have st:(s1.heap.push (revObj l ((itx.toArray.size:Int)-1))).IsRevIter s1.heap.objs.size l ((xs.length:Int)-1-((0:Nat):Int)):=⟨_,ho,rfl,by rw [List.size_toArray,← hl];simp [revObj]⟩
  refine wpAny_pyIter_revIter st ?_
  refine ⟨s1.heap.objs.size,[s1.heap.objs.size],_,Itv X.K l xs.length,H1,rfl,I1.kept (t':=s1.toks) (λb o e=>Heap.get?_push_of_some _ e),zoW l s1.heap.objs.size xs.length,st,λc hc=>?_,q⟩
  have hle:@LE.le Nat _ s1.heap.objs.size c:=by
   simp only [List.mem_cons,List.not_mem_nil,or_false] at hc
   rw [hc];exact Nat.le_refl _
  exact I1.fpOk hle (I1.hok.fresh hle)
end
section
variable {Γ:Ctx} {m:Bool} {K:W.Frag} {γ:Type}
def zhL {α:Type} (xs:List α):List (Int×α):=(zbo 0 xs.length).zip xs
theorem zj3 {α:Type} {xs:List α}:(zhL xs).length=xs.length:=by simp [zhL,List.length_zip,zaT]
theorem zfo {α:Type} {xs:List α} {i:Nat} {p:Int×α} (h:(zhL xs)[i]?=some p):i<xs.length∧p.1=i∧xs[i]?=some p.2:=by
 obtain ⟨h1,h2⟩:=zbL h
 obtain ⟨h3,h4⟩:=zbi h1
 exact ⟨h3,by rw [h4];omega,h2⟩
theorem zjs {tl:TE} {j1 j2:Nat} {xs:List γ} (f:γ->Ds) (h:Ev Γ tl m (dQ K ↑13)) :
  Iv Γ (zsa K (tCons tl tNil)) (zow K 2 (zgk (zdk j1) (zgk (zdk j2) zpz))) [j1,j2] (zhL xs) (λx=>[dI x.1,f x.2]) m:=λF0 Hb F H σ own R a k =>
 h F0 Hb F H σ own _ a λu F1 H1 g1 ⟨p,vs,e1,e2,e3⟩=>by
  have e2':SqL K F1 p vs:=za9.seq e2
  have le:=Paired.length e3
  rw [List.length_map] at le
  refine ⟨p,by rw [e1],⟨vs,g1.fh.seq e2'⟩,k _ F1 H1 g1 λH hs=>⟨⟨vs,hs.seq e2',by rw [le,zj3];exact Nat.le_refl _⟩,λi x ex=>?_⟩⟩
  obtain ⟨hi,x1,x2⟩:=zfo ex
  obtain ⟨v,ev,qv⟩:=zbn e3 (show (↑13)[i]?=some (f x.2) by rw [List.getElem?_map,x2];rfl)
  refine ⟨⟨vs,v,hs.seq e2',ev⟩,λz H' y=>?_⟩
  obtain ⟨r,x',rfl,hr,rfl,hxy⟩:=y
  have hx:=hxy vs (hs.seq e2')
  rw [ev] at hx
  cases hx
  exact ⟨(Grow.refl hs).newH hr,λσ Q k=>⟨r,_,rfl,.inl (.inl zaD),rfl,_,_,rfl,_,_,rfl,rfl,k [.int i,v] (.cons (by show V.int _=V.int _;rw [x1]) (.cons qv .nil))⟩⟩
theorem zpE {tl:TE} {j:Nat} {xs:List γ} (f:γ->Ds) (h:Ev Γ tl m (dQ K ↑13)):Iv Γ (zu2 K (tCons tl tNil)) (zdk j) [j] xs.reverse (λx=>[f x]) m:=λF0 Hb F H σ own R a k =>
 h F0 Hb F H σ own _ a λu F1 H1 g1 ⟨p,vs,e1,e2,e3⟩=>by
  have e2':SqL K F1 p vs:=za9.seq e2
  have le:=Paired.length e3
  rw [List.length_map] at le
  refine ⟨p,vs,by rw [e1],g1.fh.seq e2',k _ F1 H1 g1 λH hs=>⟨by show xs.reverse.length=vs.length;rw [List.length_reverse,le],λi x ex=>?_⟩⟩
  have hi:i<xs.length:=by simpa using (List.getElem?_eq_some_iff.mp ex).1
  rw [List.getElem?_reverse hi] at ex
  obtain ⟨v,ev,qv⟩:=zbn e3 (show (↑13)[xs.length-1-i]?=some (f x) by rw [List.getElem?_map,ex];rfl)
  rw [← le] at ev
  refine ⟨⟨by rw [le];exact hi,vs,v,hs.seq e2',rfl,ev⟩,λw H' y=>?_⟩
  obtain ⟨rfl,y⟩:=y
  have:=y vs (hs.seq e2')
  rw [ev] at this
  cases this
  exact ⟨Grow.refl hs,λσ Q k=>k [v] (.cons qv .nil)⟩
end
end L2
namespace L2
open PySem PySem.Spec PyProof.Rows
theorem Ev.any {Γ:Ctx} {t:TE} {m n:Bool} {v:V} (h:Ev Γ t m (dV v)):Ev Γ t n (dV v):=λF0 Hb F H σ own Q a k=>h F0 Hb F H σ own Q a λu F' H' g q=>k u F' H' g q
theorem zn8 {α:Type} {R R':Hp} {g:α->V} {vs:List V} {xs:List α} (h:Paired (λv (d:Ds)=>d.pr R v) vs (xs.map λx=>dV (g x))):Paired (λv (d:Ds)=>d.pr R' v) vs (xs.map λx=>dV (g x)):=by
 rw [zgA h]
 clear h
 induction xs with
 | nil=>exact .nil
 | cons x xs ih=>exact .cons rfl ih
theorem EvO.anyV {Γ:Ctx} {t:TE} {m n:Bool} {α:Type} {g:α->V} {xs:List α} (h:EvO Γ t m (xs.map λx=>dV (g x))):EvO Γ t n (xs.map λx=>dV (g x)):=λF0 Hb F H σ own Q a k=>h F0 Hb F H σ own Q a λp vs F' H' g h1 h2 h3 q=>k p vs F' H' g h1 h2 h3 (zn8 q)
theorem EvO.anyI {Γ:Ctx} {t:TE} {m n:Bool} {xs:Ji} (h:EvO Γ t m (xs.map dI)):EvO Γ t n (xs.map dI):=EvO.anyV h
theorem EvO.anyB {Γ:Ctx} {t:TE} {m n:Bool} {xs:List Bool} (h:EvO Γ t m (xs.map dB)):EvO Γ t n (xs.map dB):=EvO.anyV h
theorem EvO.anyS {Γ:Ctx} {t:TE} {m n:Bool} {xs:List Str} (h:EvO Γ t m (xs.map dS)):EvO Γ t n (xs.map dS):=EvO.anyV h
section
variable {X:Cx}
def zdK (i j:Int):Prop:=(-(2^64)<i∧i<2^64)∨(-(2^64)<j∧j<2^64)∨(i.natAbs.log2<60000000∧j.natAbs.log2<60000000)
theorem zmt {a b:Int} (ha:Builtin.Int.intBits a≤60000000) (hb:Builtin.Int.intBits b≤60000000):IntMulOk a b:=by
 have h:Builtin.Int.intTooBig (Builtin.Int.intBits a+Builtin.Int.intBits b)=false:=by
  unfold Builtin.Int.intTooBig bitsLine
  exact decide_eq_false ↑0
 unfold IntMulOk
 rw [h]
 simp
theorem zbA:OpR X (binaryOp .Mult) (rI zdK λi j=>.int (i*j)):=opI λ_ _ _ _ _ _ _ hc q=>mul_int q (by
 rcases hc with h | h | h
 ·exact .of_left (intBits_le_64 h.1 h.2)
 ·exact .of_right (intBits_le_64 h.1 h.2)
 ·exact zmt (zoc h.1) (zoc h.2))
end
def ixD {α:Type} [Inhabited α] (xs:List α) (i:Int):α:=(atI xs i).getD default
def InB (n:Nat) (i:Int):Prop:=-(n:Int)≤i∧i<n
theorem zjV {n:Nat} {i:Int} (h:InB n i):∃ j,ixN n i=some j∧j<n∧(0≤i->j=i.toNat):=by
 unfold InB at h
 unfold ixN
 by_cases h0:0≤i
 ·rw [if_pos h0,if_pos h.2];exact ⟨_,rfl,by omega,λ_=>rfl⟩
 ·rw [if_neg h0,if_pos h.1];exact ⟨_,rfl,by omega,λz=>absurd z h0⟩
theorem zn2 {α:Type} [Inhabited α] {xs:List α} {i:Int} (h:InB xs.length i):atI xs i=some (ixD xs i):=by
 obtain ⟨j,e,hj,_⟩:=zjV h
 unfold ixD atI
 rw [e]
 show xs[j]?=some (xs[j]?.getD default)
 rw [List.getElem?_eq_getElem hj];rfl
theorem zcr {α:Type} [Inhabited α] {xs:List α} {n:Nat} {x:α} (h:xs[n]?=some x):ixD xs (n:Int)=x:=by
 have hn:n<xs.length:=((List.getElem?_eq_some_iff.mp h)).1
 unfold ixD atI ixN
 rw [if_pos ↑0,if_pos ↑0]
 show (xs[(n:Int).toNat]?).getD default=x
 rw [Int.toNat_natCast,h];rfl
theorem zce {α:Type} [Inhabited α] {xs:List α} {i:Int} (h:InB xs.length i):ixD xs i∈xs:=by
 have:=zn2 h
 unfold atI at this
 obtain ⟨j,e,hj,_⟩:=zjV h
 rw [e] at this
 exact List.mem_of_getElem? this
def zdl {α:Type} (xs:List α) (i:Int) (x:α):List α:=match ixN xs.length i with
 | some n=>xs.set n x
 | none=>xs
theorem zf9 {α:Type} {xs:List α} {i:Int} {x:α}:(zdl xs i x).length=xs.length:=by
 unfold zdl;split<;>simp
def zd8 {α:Type} (n:Int) (xs:List α):List α:=(List.replicate n.toNat xs).flatten
def dOpt {α:Type} (f:α->Ds):Option α->Ds
 | none=>dN
 | some x=>f x
def NN {α:Type} (f:α->Ds):Prop:=∀ x H v,(f x).pr H v->v≠.non
theorem NN.tup {α:Type} {f:α->List Ds}:NN (λx=>dT (f x)):=λ_ _ _ ⟨_,_,e,_⟩=>by rw [e];simp
theorem NN.obj {α:Type} {C:Addr} {f:α->List (Str×Ds)}:NN (λx=>dO C (f x)):=λ_ _ _ ⟨_,_,_,e,_⟩=>by rw [e];simp
section
variable {E:XS} {Γ:Ctx} {m:Bool} {K:W.Frag} {α β γ:Type} {f:α->Ds} {t ta tb te:TE} {u r:TS} {o:Oc} {xs ys:List α} {i:Nat}
theorem zbP [Inhabited α] {j:Int} (h1:Ev Γ ta m (dQ K ↑13)) (h2:Ev Γ tb false (dI j)) (h:InB xs.length j):Ev Γ (tOp (zq6 K) ta tb) m (f (ixD xs j)):=zuh h1 h2 (znW (zn2 h))
theorem zaZ {n:Bool} (h1:Ev Γ t false (dQ K ↑13)):Ev Γ (tCB ↑214 (tCons t tNil)) n (dI (xs.length:Nat)):=(ztB h1).conv (by rw [List.length_map])
theorem zeN {tl th:TO} {lo hi:Option Int} (h1:Ev Γ t m (dQ K ↑13)) (h2:EvP Γ tl lo) (h3:EvP Γ th hi):EvO Γ (tSl (ztE K) t tl th) m ((cutD xs lo hi).map f):=(zsb h1 h2 h3).conv zoY.symm
theorem zcs (h1:Ev Γ ta m (dL ↑13)) (h2:Ev Γ tb m (dL (ys.map f))) (hz:xs.length+ys.length≤sizeLine):EvO Γ (tOp zt0 ta tb) m ((xs++ys).map f):=(zts h1 h2 (by rw [List.length_map,List.length_map];exact hz)).conv (List.map_append ..).symm
theorem zh9 {n:Nat}:(List.replicate n ↑13).flatten=((List.replicate n xs).flatten).map f:=by
 induction n with
 | zero=>rfl
 | succ n ih=>rw [List.replicate_succ,List.replicate_succ,List.flatten_cons,List.flatten_cons,List.map_append,ih]
theorem zgD {n:Int} (h1:Ev Γ ta m (dL ↑13)) (h2:Ev Γ tb false (dI n)) (hn:-(2^63)≤n∧n<2^63) (hz:xs.length*n.toNat≤sizeLine):EvO Γ (tOp zt8 ta tb) m ((zd8 n xs).map f):=(zrX h1 h2 hn (by rw [List.length_map];exact hz)).conv zh9
theorem zht {x:Option α} {n:Bool} (h1:Ev Γ ta false (dOpt f x)) (h2:Ev Γ tb false dN) (hf:NN f):Ev Γ (tOp (λx y H Q=>y= .non∧Q (.bl (!decide (x= .non))) H) ta tb) n (dB x.isSome):=(zqp (b:=x.isNone) h1 h2 λH v q=>by
 cases x with
 | none=>rw [show v=V.non from q];rfl
 | some x=>exact decide_eq_false (hf x H v q)).conv (by cases x<;>rfl)
theorem zft [Inhabited α] {j:Int} (e:Γ[i]?=some (.ow m ↑13)) (h2:Ev Γ tb false (dI j)) (h:InB xs.length j):Ev Γ (tOp (zq6 K) (zg1 i) tb) m (f (ixD xs j)):=zpm (n:=m) e h2 (znW (zn2 h))
theorem zg3 {n:Bool} (e:Γ[i]?=some (.ow m ↑13)):Ev Γ (tCB ↑214 (tCons (zg1 i) tNil)) n (dI (xs.length:Nat)):=(zn4 (n:=n) e).conv (by rw [List.length_map])
theorem zcU {x:α} (e:Γ[i]?=some (.ow m ↑13)) (h:Ev Γ te m (f x)) (hz:xs.length<sizeLine) (k:Run E (Γ.set i (.ow m ((xs++[x]).map f))) u o):Run E Γ (tSeq (zjB (tBM K "list" zgw (zg1 i) (tCons te tNil))) u) o :=
 zl1 e h (by rw [List.length_map];exact hz) (by rw [List.map_append] at k;exact k)
theorem zgb {tj:TE} {x:α} {j:Int} (e:Γ[i]?=some (.ow m ↑13)) (h:Ev Γ te m (f x)) (hj:Ev Γ tj false (dI j)) (hb:InB xs.length j) (k:Run E (Γ.set i (.ow m ((zdl xs j x).map f))) u o):Run E Γ (tSeq (zjt te (zso (zg1 i) tj znd)) u) o:=by
 obtain ⟨n,en,hn,_⟩:=zjV hb
 refine zmN (n:=n) e h hj (by rw [List.length_map];exact en) ?_
 unfold zdl at k
 rw [en] at k
 rw [← List.map_set]
 exact k
theorem zl8 {tj:TE} {x:α} {j:Int} (fo:β->Oc) {kk:List α->β} (e:Γ[i]?=some (.ow m ↑13)) (h:Ev Γ te m (f x)) (hj:Ev Γ tj false (dI j)) (hb:InB xs.length j) (k:∀ y,y=zdl xs j x->Run E (Γ.set i (.ow m (y.map f))) u (fo (kk y))):Run E Γ (tSeq (zjt te (zso (zg1 i) tj znd)) u) (fo (Let (zdl xs j x) kk)) :=
 zgb e h hj hb (k _ rfl)
theorem zkL {d1 d2:Ds} {i j:Nat} (h:Ev Γ te m (dT [d1,d2])) (k:Run E ((Γ.set i (.va m d1)).set j (.va m d2)) u o):Run E Γ ↑244 o:=λF0 Hb F H σ own D a q =>
 h F0 Hb F H σ own _ a λv F' H' g ⟨p,vs,e1,e2,e3⟩=>by
  cases e3 with | cons q1 t=>cases t with | cons q2 t=>cases t;exact ⟨p,_,e1,.inl (.inl ((za9.trans g.fh) _ _ e2)),rfl,_,_,rfl,_,_,rfl,rfl,k F0 Hb F' H' _ own D (((↑22).set i q1).set j q2) q⟩
theorem zep {x:α} (G:α->Ctx) (fo:β->Oc) {kk:α->β} (k:∀ y,y=x->Run E (G y) u (fo (kk y))):Run E (G x) u (fo (Let x kk)):=k x rfl
def zq7 (o:Oc):Prop:=(∃ m d,o=.rt m d)∨(∃ m ds,o=.rl m ds)∨∃ C Γ,o=.ex C Γ
theorem zq7.meets (h:zq7 o) {F0 Hb:Hp} {D D':Ends} (e:D.rt=D'.rt) (q:zhB E F0 Hb D o):zhB E F0 Hb D' o:=by
 rcases h with ⟨m,d,rfl⟩ | ⟨m,ds,rfl⟩ | ⟨C,Γ',rfl⟩
 ·exact λv F H g p=>e ▸ q v F H g p
 ·exact λp vs F H g h1 h2 h3 h4=>e ▸ q p vs F H g h1 h2 h3 h4
 ·exact q
def zmn {S:Type} (x:S ⊕ β) (k:S->α) (w:β->α):α:=match x with
 | .inl s=>k s
 | .inr b=>w b
theorem zlU {f:Str} {d:Ds}:∀ {fs:List (Str×Ds)} {ns:List Str},fs.map Prod.fst=ns->ns.contains f=false->putD f d fs=fs++[(f,d)]
 | [],_,_,_=>rfl
 | (g,e) :: r,_,rfl,h=>by
  have h':f≠g∧f ∉ r.map Prod.fst:=by simpa using h
  unfold putD
  rw [if_neg (Ne.symm h'.1),zlU rfl (by simpa using h'.2)]
  rfl
theorem ze1 {C p dx:Addr} {fs:List (Str×Ds)} {tv:TE} {d:Ds} {f:Str} (e:Γ[i]?=some (.ob m C p dx fs)) (h:Ev Γ tv m d) (c:Cls K C) (nf:NoAttr K C f) (ns:List Str) (hns:fs.map Prod.fst=ns) (hn:ns.contains f=false) (hz:ns.length<1000) (k:Run E (Γ.set i (.ob m C p dx (fs++[(f,d)]))) u o) :
  Run E Γ (tSeq (zuB K (zg1 i) tv f) u) o:=zqx e h c nf (by rw [← List.length_map (f:=Prod.fst),hns];exact hz) (by rw [zlU hns hn];exact k)
theorem ziS {S:Type} (f:S->γ->S):∀ (xs:List γ) (s:S),zcm (β:=Empty) (λs x=>.inl (f s x)) s xs=.inl (xs.foldl f s)
 | [],_=>rfl
 | x :: xs,s=>ziS f xs (f s x)
theorem zkh {S:Type} {f:S->γ->S} {I:Nat->S->Prop}:∀ {xs:List γ} {s:S} {n:Nat},I n s->(∀ (i:Nat) (x:γ) (s:S),xs[i]?=some x->I (n+i) s->I (n+i+1) (f s x))->I (n+xs.length) (xs.foldl f s)
 | [],s,n,h,_=>h
 | x :: xs,s,n,h,k=>by
  have h1:=k 0 x s rfl h
  have:=zkh (xs:=xs) (s:=f s x) (n:=n+1) h1 λi y s' e q=>by
   have:=k (i+1) y s' ↑149 (by rw [show n+(i+1)=n+1+i by omega];exact q)
   rw [show n+1+i+1=n+(i+1)+1 by omega];exact this
  rw [List.length_cons,show n+(xs.length+1)=n+1+xs.length by omega]
  exact this
theorem zbh {S:Type} {wi:TI} {g:TG} {tb:TS} {js:List Nat} {xs:List γ} {bds:γ->List Ds} {mi:Bool} {s0:S} (G:S->Ctx) (fo:β->Oc) {kk:S->β} (f:S->γ->S) (I:Nat->S->Prop) (it:Iv Γ wi g js xs bds mi) (w:Wk Γ (G s0)) (h0:I 0 s0)
  (body:∀ (i:Nat) (x:γ) (s:S),xs[i]?=some x->I i s->I (i+1) (f s x)∧Run E (zmr js (bds x) mi (G s)) tb (.nx (G (f s x)))) (k:∀ s,s=xs.foldl f s0->I xs.length s->Run E (G s) u (fo (kk s))):Run E Γ (tSeq (zrI wi g tb) u) (fo (Let (xs.foldl f s0) kk)):=by
 refine zmu (Δ:=G (xs.foldl f s0)) ?_ (k _ rfl (by simpa using zkh (n:=0) (I:=I) h0 λi x s e q=>by rw [Nat.zero_add] at q ⊢;exact ((body i x s e q)).1))
 have:=znT (β:=Empty) G (λz=>z.elim) (λs x=>.inl (f s x)) I it w h0 (λb=>b.elim) λi x s e q=>⟨λs' z=>by cases z;exact ((body i x s e q)).1,((body i x s e q)).2⟩
 rw [ziS] at this
 exact this
theorem zjL {S:Type} {f:S->γ->S ⊕ β} {I:Nat->S->Prop}:∀ {xs:List γ} {s s':S} {n:Nat},I n s->(∀ (i:Nat) (x:γ) (s:S),xs[i]?=some x->I (n+i) s->∀ s',f s x=.inl s'->I (n+i+1) s')->zcm f s xs=.inl s'->I (n+xs.length) s'
 | [],s,s',n,h,_,e=>by cases e;exact h
 | x :: xs,s,s',n,h,k,e=>by
  unfold zcm at e
  cases q:f s x with
  | inr b=>rw [q] at e;cases e
  | inl s1 =>
   rw [q] at e
   have h1:=k 0 x s rfl h s1 q
   have:=zjL (xs:=xs) (s:=s1) (n:=n+1) h1 (λi y s' e q=>by
    have:=k (i+1) y s' ↑149 (by rw [show n+(i+1)=n+1+i by omega];exact q)
    rw [show n+1+i+1=n+(i+1)+1 by omega];exact this) e
   rw [List.length_cons,show n+(xs.length+1)=n+1+xs.length by omega]
   exact this
theorem zhJ {S:Type} {wi:TI} {g:TG} {tb:TS} {js:List Nat} {xs:List γ} {bds:γ->List Ds} {mi:Bool} {s0:S} (G:S->Ctx) (fo:α->Oc) (wr:β->α) {kk:S->α} (f:S->γ->S ⊕ β) (I:Nat->S->Prop) (hres:∀ b,zq7 (fo (wr b))) (it:Iv Γ wi g js xs bds mi) (w:Wk Γ (G s0)) (h0:I 0 s0)
  (body:∀ (i:Nat) (x:γ) (s:S),xs[i]?=some x->I i s->(∀ s',f s x=.inl s'->I (i+1) s')∧Run E (zmr js (bds x) mi (G s)) tb (ziW G (λb=>fo (wr b)) (f s x))) (k:∀ s,zcm f s0 xs=.inl s->I xs.length s->Run E (G s) u (fo (kk s))):Run E Γ (tSeq (zrI wi g tb) u) (fo (zmn (zcm f s0 xs) kk wr)):=by
 have h:=znT G (λb=>fo (wr b)) f I it w h0 (λb F0 Hb D D' e q=>(hres b).meets e q) body
 cases e:zcm f s0 xs with
 | inl s =>
  rw [e] at h
  exact zmu h (k s e (by simpa using zjL (n:=0) h0 (λi x s e q=>by rw [Nat.zero_add] at q ⊢;exact ((body i x s e q)).1) e))
 | inr b =>
  rw [e] at h
  exact λF0 Hb F H σ own D a q=>h F0 Hb F H σ own _ a ((hres b).meets (D:=D) rfl (show zhB E F0 Hb D (fo (wr b)) from q))
end
end L2
namespace L2
open PySem PySem.Spec PyProof.Rows PySem.Builtin PySem.Builtin.Getset_descriptor
structure XCls (K:W.Frag) (C:Addr):Prop where
 ga:W.findIn K (.ref C) "__getattribute__"=some (some (.builtin "BaseException.__getattribute__"))
 gn:W.findIn K (.ref C) "__getattr__"=some none
 cl:W.findIn K (.ref C) "__class__"=some (some ↑113)
 ob:W.mroIn K C (.type "object")=some true
 be:W.mroIn K C (.type "BaseException")=some true
 gt:W.specialIn K ↑113 "__get__"=some (some ↑252)
 tk:W.takesIn K ↑113=some true
def XAt (h:Heap) (a C:Addr):Prop:=∃ o vs,h.get? a=some o∧o.cls=.ref C∧o.data=.fields vs
section
variable {prog:Program} {w:World} {A:Around} {E:Value->Shared->Prop} {K:W.Frag} {C a:Addr} {h:Heap} {g:Array GenState} {d:Drawn} {t:Nat} {os:OsState}
theorem XAt.ty {M:Model} (x:XAt h a C):W.Looks M h (typeOf (.ref a)) (.ref C):=by
 obtain ⟨o,vs,hx,hc,hd⟩:=x
 exact hc ▸ (W.Looks.ld hx).andThen .now
theorem zku {tp:Value} {R:Result->Shared->Prop} (X:K.In h) (c:XCls K C) (x:XAt h a C) (hr:R (.ok (.ret (.ref C))) ⟨h,g,d,t,os⟩) :
  codeAny ↑26 A (.call ↑252 ⟨[.builtin "object.__class__",.ref a,tp],[]⟩) R ⟨h,g,d,t,os⟩:=by
 have L0:=x.ty (M:=model prog w)
 have L1:=W.looks_mroIn (M:=model prog w) X c.ob
 refine codeAny_call_builtin W.KF.slot_gs.plain W.KF.entry_gs (W.KF.slot_gs.check _ _ _ _ _ _ _ _ W.KF.type_class (W.KF.args_gs _ _ _) ?_)
 unfold Builtin.«getset_descriptor.__get__»
 unfold descrGet
 rw [W.dga_obj]
 refine wpAny_bind (wpAny_pure ?_)
 unfold descrGetter
 unfold descrCheckInstance descrNameAndClass
 unfold isInstance
 simp only [W.KF.owner_class]
 repeat (any_goals (first | assumption | with_reducible refine wpAny_bind (L0.at ?_) | with_reducible refine wpAny_bind (L1.at ?_) | with_reducible refine L0.at ?_ | with_reducible refine L1.at ?_ | wp_step))
 refine ⟨Code.quiet_builtin _ ↑5,codeAny_builtin (W.KF.entry_class) ?_⟩
 unfold Builtin.«object.__class__»
 unfold shownTypeOf
 repeat (any_goals (first | assumption | with_reducible refine wpAny_bind (L0.at ?_) | with_reducible refine L0.at ?_ | wp_step))
theorem zmJ {tk:Tok} {Q:Fin->Shared->Prop} (X:K.In h) (c:XCls K C) (x:XAt h a C) (hq:Q (.done (.ret (.ref C))) ⟨h,g,d,t,os⟩) :
  wpAny ↑26 A (Builtin.«object.__getattribute__» ⟨[.ref a,.str "__class__" tk],[]⟩) Q E ⟨h,g,d,t,os⟩:=by
 have L0:=x.ty (M:=model prog w)
 have L1:=W.looks_findIn (M:=model prog w) X c.cl
 have L2:=W.looks_specialIn (M:=model prog w) X c.gt
 have L3:=W.looks_takesIn (M:=model prog w) X c.tk
 unfold Builtin.«object.__getattribute__»
 repeat (any_goals (first | assumption | with_reducible refine wpAny_bind (L0.at ?_) | with_reducible refine wpAny_bind (L1.at ?_) | with_reducible refine wpAny_bind (L2.at ?_) | with_reducible refine wpAny_bind (L3.at ?_) | wp_step))
 refine zku X c x ?_
 repeat (any_goals (first | assumption | wp_step))
theorem zog {nameV:Value} {Q:Unit->Shared->Prop} (X:K.In h) (c:XCls K C) (x:XAt h a C) (hq:Q () ⟨h,g,d,t,os⟩):wpAny ↑26 A (checkBuiltinCall "BaseException.__getattribute__" ⟨[.ref a,nameV],[]⟩) Q E ⟨h,g,d,t,os⟩:=by
 have hk:builtinKind "BaseException.__getattribute__"=some .slot:=by decide +kernel
 have hsplit:splitId "BaseException.__getattribute__"=some ("BaseException","__getattribute__"):=by decide +kernel
 have L0:=x.ty (M:=model prog w)
 have L1:=W.looks_mroIn (M:=model prog w) X c.be
 have LI:W.Looks ↑26 h (isInstance (.ref a) (.type "BaseException")) true:=L0.andThen L1
 have ha:=F.args_bexc_ga (.ref a) nameV
 simp only [checkBuiltinCall,hk,hsplit]
 refine wpAny_bind (LI.at ?_)
 repeat (any_goals (first | assumption | wp_step))
 all_goals (try exact hq)
theorem zsl {tk:Tok} {fill expr:Bool} {Q:Value->Shared->Prop} (X:K.In h) (c:XCls K C) (x:XAt h a C) (hq:Q (.ref C) ⟨h,g,d,t,os⟩) :
  wpAny ↑26 A (getAttrBy (.ref a) (.str "__class__" tk) fill expr) Q E ⟨h,g,d,t,os⟩:=by
 have L0:=x.ty (M:=model prog w)
 have L1:=W.looks_findIn (M:=model prog w) X c.ga
 have L2:=W.looks_findIn (M:=model prog w) X c.gn
 have f3:=(PySem.F.attr_ValueError.ga).bind (.ref a)
 have hx0:(expr&&onTheHeap (Value.builtin "BaseException.__getattribute__"))=false:=by cases expr<;>rfl
 have hx2:(Value.builtin "BaseException.__getattribute__" == Value.builtin "object.__getattribute__")=false:=by decide +kernel
 have hx1:(onTheHeap (Value.ref C)&&Value.builtin "BaseException.__getattribute__" == Value.builtin "object.__getattribute__")=false:=by rw [hx2];rfl
 unfold getAttrBy
 repeat (any_goals (first | assumption | with_reducible refine wpAny_bind (L0.at ?_) | with_reducible refine wpAny_bind (L1.at ?_) | with_reducible refine wpAny_bind (L2.at ?_) | wp_step))
 refine codeAny_call_builtin PySem.F.attr_ValueError.ga.plain F.entry_bexc_ga (zog X c x (zmJ X c x ?_))
 repeat (any_goals (first | assumption | wp_step))
theorem zpi {Q:Option Value->Shared->Prop} (X:K.In h) (c:XCls K C) (x:XAt h a C) (hq:Q (some (.ref C)) ⟨h,g,d,t+1,os⟩) :
  wpAny ↑26 A (getAttr? (.ref a) "__class__") Q E ⟨h,g,d,t,os⟩:=by
 unfold getAttr? getAttrBy?
 repeat (any_goals (first | assumption | with_reducible apply zsl X c x | wp_step))
end
theorem cls_at {K:W.Frag} {C:Addr} {T:Value} {r:Bool} (e:W.mroIn K C T=some r):∃ c d cd sl,K.lookup C=some ⟨c,d,.cls cd,sl⟩:=by
 obtain ⟨cd,hc,_⟩:=Option.bind_eq_some_iff.mp e
 unfold W.clsIn at hc
 split at hc
 ·exact ⟨_,_,_,_,by assumption⟩
 ·cases hc
theorem zoE {K:W.Frag} {a C:Addr} (c:XCls K C):W.KitX K (.ref a) (.ref C) (λh=>XAt h a C) where
 ty:=λ_ _ _ x=>x.ty
 it:=λM h X _=>by
  obtain ⟨c',d',cd',sl',ho⟩:=cls_at c.ob
  intro A' Q' E' s' k q
  unfold isType loadHead
  exact wpAny_bind (wpAny_loadPart (k _ _ (X _ _ ho)) (wpAny_pure q))
 ne:=λh tp dd its n sl X htp=>by
  obtain ⟨c',d',cd',sl',ho⟩:=cls_at c.ob
  refine Bool.eq_false_iff.mpr λq=>?_
  have e:C=tp:=Value.ref.inj (beq_iff_eq.mp q)
  subst e
  have z:=(X _ _ ho).symm.trans htp
  cases z
 ca:=λ{prog w A E Q s} X x k=>by
  obtain ⟨h,g,d,t,os⟩:=s
  exact zpi X c x k
def excO (a C:Addr) (fs:List (Str×V)):HO:=.ext λh=>∃ o vs,h.get? a=some o∧o.cls=.ref C∧o.data=.fields vs∧fs=[]
theorem zq4 {P:Program} {w:World} {H:Hp} {h:Heap} {a C:Addr} (x:XAt h a C):zeq P w H h a (excO a C []):=by
 obtain ⟨o,vs,hx,hc,hd⟩:=x
 refine ⟨⟨o,vs,hx,hc,hd,rfl⟩,⟨o,hx⟩,λh1 h2 ⟨o',vs',q1,q2,q3,q4⟩ k=>⟨o',vs',k _ q1,q2,q3,q4⟩⟩
section
variable {X:Cx} {K:W.Frag}
theorem zol (hK:X.K=K):zfZ X (.builtin "isinstance") (λxs H Q=>∃ a C c b,(xs=[.ref a,c])∧H a=some (excO a C [])∧XCls K C∧(∃u,zdw c u∧(∀u',zdw c u'->u'=u)∧W.kitOne K (.ref C) u=some b)∧Q (.bl b) H):=by
 subst hK
 intro pins s σ H xs us Q I r h
 obtain ⟨a,C,c,b,rfl,ha,hc,⟨u,hu,hu2,hk⟩,q⟩:=h
 obtain ⟨v,w',rfl,rx,ry⟩:=zoT r
 cases rx
 rw [hu2 w' ry]
 obtain ⟨⟨o,vs,h1,h2,h3,_⟩,_⟩:=(show zeq X.prog X.w H s.heap a (excO a C []) from I.hok a _ ha)
 exact W.kia_one (zoE hc) I.kIn ⟨o,vs,h1,h2,h3⟩ hk ↑73 λtk=>⟨.bl b,H,I.tok _,rfl,q⟩
end
end L2
namespace L2
open PySem PySem.Spec PyProof.Rows
section
variable {X:Cx} {pins:List ⇑2} {σ:St} {H:Hp} {s:Shared}
theorem Inv.locals {h':Heap} {t':Nat} {m':Str->Option Value} {σ':St} (I:Inv X pins σ H s) (hs:Heap.SameBut X.env.locals s.heap h') (hn':h'.Ns X.env.locals m')
  (hl:∀ (j:Nat) (y:Str) (v:V),X.N[j]?=some y->σ'[j]?=some (some v)->Vis X.env.scope y->∃ u,zdw v u∧zu7 X.env h' m' y u) (len:σ'.length=X.N.length):Inv X pins σ' H { s with heap:=h',toks:=t' }:=by
 have lt:∀ b o,X.s₀.heap.get? b=some o->b≠X.env.locals:=λb o e=>Nat.ne_of_lt ↑178
 refine ⟨I.ok,I.os,I.bare,⟨λb o e n hb hx=>(hs.2 b (lt b o e)).trans ↑229,λb o e n hb hx=>?_,I.base.free,λb o e hx=>?_,I.base.tups,I.base.frzs,I.base.tbls⟩,⟨m',hn',hl⟩,λy c e=>?_,I.free,I.freeC,λp hp=>?_,λb u e=>?_,len⟩
 ·obtain ⟨sl,q⟩:=I.base.slot b o e n hb hx
  exact ⟨sl,(hs.2 b (lt b o e)).trans q⟩
 ·obtain ⟨o',q⟩:=I.base.there b o e hx
  exact ⟨o',(hs.2 b (lt b o e)).trans q⟩
 ·obtain ⟨w',z⟩:=I.cell y c e
  exact ⟨w',z.sameBut hs (I.cne y c e)⟩
 ·obtain ⟨e,n,ne,nf,d⟩:=I.pin p hp
  exact ⟨(hs.2 p.1 ne).trans e,n,ne,nf,d⟩
 ·refine (I.hok b u e).stay (λc v hc q=>(hs.2 c ?_).trans q) (λ_ q=>q) λ_ _ q=>q
  intro z
  have z':=I.free
  rw [← z] at z'
  rcases hc with hc | hc
  ·rw [hc,e] at z';cases z'
  ·rw [hc] at z';cases z'
theorem zq3 {M:Model} {A:Around} {E:Value->Shared->Prop} {i:Nat} {n:Str} {pos:Pos} {Q:Unit->Shared->Prop} (I:Inv X pins σ H s) (hN:X.N.Nodup) (hi:X.N[i]?=some n) (hloc:X.env.scope.names.lookup n=some .local)
  (h:∀ s',Inv X pins (σ.set i none) H s'->Q () s'):wpAny M A (do bindName X.env n .none;unbindBehindTheSuite X.env n pos) Q E s:=by
 have hcls:(X.env.scope.kind== .class||(X.env.scope.kind== .module && X.env.locals !=X.env.globals))=false:=by rw [I.ok.kind];rfl
 have hk:X.env.kindOf n=some .local:=hloc
 have hiσ:i<σ.length:=by rw [I.len];exact ((List.getElem?_eq_some_iff.mp hi)).1
 refine wpAny_bind (wpAny_bindName (zfK I hN hi (.inl hloc) (v:=.non) (u:=.none) rfl (λs1 I1=>?_) (.inr hloc)))
 obtain ⟨m,hn,hl⟩:=id I1.loc
 have hm:m n=some .none:=by
  obtain ⟨u,r,q⟩:=hl i n .non hi (List.getElem?_set_self hiσ) (.inl hloc)
  have r:u=Value.none:=r
  subst r
  rcases q with ⟨_,e⟩ | ⟨k,_⟩
  ·exact e
  ·rw [hk] at k;rcases k with k | k<;>cases k
 unfold unbindBehindTheSuite
 refine wpAny_onRaise ?_
 unfold unbindName
 refine wpAny_bind (wpAny_point (wpAny_bind ?_))
 unfold deleteName
 simp only [hk,hcls]
 rw [if_neg ⇑1]
 refine wpAny_bind (wpAny_nsDel_keeps hn λh2 v hn2 hs2=>?_)
 rw [hm]
 simp only [Option.isSome_some,Bool.not_true,Bool.false_eq_true,if_false]
 refine wpAny_pure (wpAny_point (h { s1 with heap:=h2 } (I1.locals (t':=s1.toks) hs2 hn2 (λj y v' e1 e2 e3=>?_) (by simp [I.len]))))
 by_cases hj:i=j
 ·subst hj
  rw [List.getElem?_set_self hiσ] at e2;cases e2
 ·rw [List.getElem?_set_ne hj] at e2
  obtain ⟨u',r',q⟩:=hl j y v' e1 (by rw [List.getElem?_set_ne hj];exact e2) e3
  have hy:y≠n:=λe=>hj (zju hN hi (e ▸ e1))
  refine ⟨u',r',?_⟩
  rcases q with ⟨k,e⟩ | ⟨k,c,e,z⟩
  ·exact .inl ⟨k,by simp [hy,e]⟩
  ·exact .inr ⟨k,c,e,z.sameBut hs2 (I.cne y c e)⟩
theorem Inv.track {e C:Addr} (I:Inv X pins σ H s) (x:XAt s.heap e C) (hn:H e=none) (hF:Fz X pins e):Inv X pins σ (upd H e (excO e C [])) s:=by
 obtain ⟨o,vs,hx,hc,hd⟩:=id x
 obtain ⟨_,a2,a3,a4,a5⟩:=zgJ I hx hd hn hF
 refine ⟨I.ok,I.os,I.bare,⟨I.base.keep,I.base.slot,λb o' q n hx=>?_,I.base.there,λb xs q=>?_,λb o' u q=>?_,λb ps q=>?_⟩,I.loc,I.cell,?_,λy c q=>?_,λp hp=>?_,λb u q=>?_,I.len⟩
 ·have hb:b≠e:=λz=>by rw [z,a2] at q;cases q
  rw [zaq hb];exact I.base.free b o' q n hx
 ·have q1:=I.base.tups b xs q
  rw [zaq (zaV q1 hn)];exact q1
 ·have q1:=I.base.frzs b o' u q
  rw [zaq (zaV q1 hn)];exact q1
 ·obtain ⟨more,q1⟩:=I.base.tbls b ps q
  exact ⟨more,by rw [zaq (zaV q1 hn)];exact q1⟩
 ·rw [zaq (Ne.symm a3)];exact I.free
 ·rw [zaq (a4 y c q)];exact I.freeC y c q
 ·obtain ⟨q1,q2,q3,q4,q5⟩:=I.pin p hp
  exact ⟨q1,by rw [zaq (a5 p hp)];exact q2,q3,q4,q5⟩
 ·by_cases hb:b=e
  ·subst hb;rw [zaD] at q;cases q;exact zq4 x
  ·rw [zaq hb] at q
   exact (I.hok b u q).stay (λ_ _ _ z=>z) (λc z=>by rw [zaq (zaV z hn)];exact z) λc xs z=>by rw [zaq (zaV z hn)];exact z
abbrev Cx.marked (X:Cx) (e:Addr):Cx:={ X with A:=X.A.mark (some (.ref e)),calm:=false,xe:=λ_ _=>False }
theorem Inv.marked {e:Addr} (I:Inv X pins σ H s):Inv (X.marked e) pins σ H s :=
 ⟨⟨I.ok.mod,I.ok.kind,I.ok.glob,I.ok.blt,I.ok.above,I.ok.inj,I.ok.has,I.ok.cab,(λz=>(nomatch z)),I.ok.frames,I.ok.stk,I.ok.exf,I.ok.bs,I.ok.bsz,I.ok.noex,I.ok.exfs,I.ok.funs,I.ok.frf⟩,I.os,I.bare,I.base,I.loc,I.cell,I.free,I.freeC,I.pin,I.hok,I.len⟩
theorem Inv.unmarked {e:Addr} (I:Inv (X.marked e) pins σ H s) (ok:X.Ok):Inv X pins σ H s :=
 ⟨ok,I.os,I.bare,I.base,I.loc,I.cell,I.free,I.freeC,I.pin,I.hok,I.len⟩
end
section
variable {X:Cx} {K:W.Frag}
theorem zqS {body:List Stmt} {tb:TSX} {cn n x:Str} {CS:Addr} {i j:Nat} {p1 p2 p3 p4 p5 pos:Pos} (O:Own X) (hK:X.K=K) (hN:X.N.Nodup) (hn:X.N[i]?=some n) (hln:X.env.scope.names.lookup n=some .local) (hx:X.N[j]?=some x) (hlx:Loc X.env.scope x)
  (hfx:X.fn x=true∨X.env.scope.names.lookup x=some .local) (hg:Gl X cn) (hm:X.mg cn=some (.ref CS)) (hb:zkt X body tb) (hd:(n == ("__debug__" :Str))=false:=by decide) (hcd:(n == ("__classdict__" :Str))=false:=by decide)
  (hdb:(cn == ("__debug__" :Str))=false:=by decide) (hsw:swapsWith (.Name n p3) (some (.Name x p2)) p4.line X.env=pure false:=by rfl) :
  PSX X (.Try body [.ExceptHandler (some (.Name cn p1)) (some n) [.Assign [.Name x p2] (.Name n p3) p4] p5] [] [] pos)
   (λD _ σ H=>tb D (λσ' cls _ H'=>∃C,cls= .ref C∧W.exmOne K (.ref C) (.ref CS)=some true∧∀a,H' a=none->D.nx ((σ'.set j (some (.ref a))).set i none) (upd H' a (excO a C []))) σ H):=by
 subst hK
 intro pins s σ H D E I h
 refine wpAny_Try_except (wpAny_mono (hb pins s σ H D _ I h) (λf s1 q=>?_) λev s1 q=>?_)
 ·cases f with
  | next=>exact wpAny_execs_nil q
  | ret v=>exact q
  | brk=>exact q
  | cont=>exact q
 ·obtain ⟨σ',e,cls,dct,H',rfl,I1,x1,C,rfl,hC,q⟩:=q
  refine zlB O I1 x1 rfl λs2 I2 x2=>?_
  refine zha (fr:=none) O I2 x2 λs3 I3 x3=>?_
  obtain ⟨oe,vs,a0,y1,y2,y3,y4,y5,y6,y7,y8,_⟩:=id x3
  have xa:XAt s3.heap e C:=⟨oe,vs,y1,y2,y4⟩
  refine wpAny_handleBy_cons (codeAny_handlers_test ?_) ↑94
  refine zhm (X:=X.marked e) I3.marked hg hm ?_ hdb
  refine (W.exm_one I3.kIn xa.ty hC).at ?_
  refine codeAny_handlers_suite_as ?_
  refine zha (fr:=none) O I3 x3 λs4 I4 x4=>?_
  obtain ⟨oe,vs,a0,y1,y2,y3,y4,y5,y6,y7,y8,_⟩:=id x4
  have I5:=I4.track ⟨oe,vs,y1,y2,y4⟩ y7 y8
  refine zfK I5 hN hn (.inl hln) (v:=.ref e) rfl (λs6 I6=>?_) (.inr hln)
  have hset:PS (X.marked e) (.Assign [.Name x p2] (.Name n p3) p4) (zjt (zg1 i) (zdk j)):=zao hN hx hlx (zpI hn (.inl hln) hd hcd) hsw hfx
  have hiσ:i<σ'.length:=by rw [I1.len];exact (↑254).1
  refine wpAny_mono ((zrF hset) pins s6 _ _ { nx:=λσ'' H''=>σ''=(σ'.set i (some (.ref e))).set j (some (.ref e))∧H''=upd H' e (excO e C []),rt:=λ_ _=>False } I6.marked ⟨.ref e,List.getElem?_set_self hiσ,rfl,rfl⟩) (λf s7 q7=>?_) λ_ _ z=>z.elim
  cases f with
  | ret v=>obtain ⟨_,_,_,_,_,z⟩:=q7;exact z.elim
  | brk=>obtain ⟨_,_,_,z⟩:=q7;exact z.elim
  | cont=>obtain ⟨_,_,_,z⟩:=q7;exact z.elim
  | next =>
   obtain ⟨σ7,H7,I7,rfl,rfl⟩:=q7
   show wpAny _ _ _ _ _ s7
   refine zq3 (I7.unmarked I.ok) hN hn hln λs8 I8=>?_
   have eσ:((σ'.set i (some (V.ref e))).set j (some (.ref e))).set i none=(σ'.set j (some (.ref e))).set i none:=by
    by_cases hij:i=j
    ·subst hij;simp
    ·refine List.ext_getElem? λk=>?_
     by_cases h1:i=k
     ·subst h1
      rw [List.getElem?_set_self (by simpa using hiσ),List.getElem?_set_self (by simpa using hiσ)]
     ·rw [List.getElem?_set_ne h1,List.getElem?_set_ne h1]
      by_cases h2:j=k
      ·subst h2
       by_cases h3:j<σ'.length
       ·rw [List.getElem?_set_self (by simpa using h3),List.getElem?_set_self h3]
       ·rw [List.getElem?_eq_none ↑61,List.getElem?_eq_none ↑61]
      ·rw [List.getElem?_set_ne h2,List.getElem?_set_ne h2,List.getElem?_set_ne h1]
   rw [eσ] at I8
   exact ⟨_,_,I8,q e y7⟩
end
end L2
namespace L2
open PySem PySem.Spec PyProof.Rows
abbrev atE (E:XS) (t:TSX):TS:=λD σ H=>t D E σ H
abbrev ztv (t:TS):TSX:=λD _ σ H=>t D σ H
abbrev zvJ (t u:TSX):TSX:=λD E σ H=>tSeq (atE E t) (atE E u) D σ H
abbrev ifX (c:TT) (t u:TSX):TSX:=λD E σ H=>zs0 c (atE E t) (atE E u) D σ H
def zpu (ta:TA) (C:Addr) (E:XS):TS:=λ_ σ H=>ta σ H λvs H1=>vs.length≤sizeLine∧E σ (.ref C) none H1
def zpD (te:TEX) (E:XS):TS:=λD σ H=>te σ H (λ_ H1=>D.nx σ H1) (E σ)
def zsp (te:TEX) (i:Nat) (E:XS):TS:=λD σ H=>te σ H (λv H1=>D.nx ↑144 H1) (E σ)
def zsM (sp:Sp) (t:TA):TEX:=λσ H Q E=>t σ H λvs H1=>sp (vs++[]) H1 Q E
def ztV (K:W.Frag) (CS:Addr) (i j:Nat) (tb:TSX):TS:=λD σ H=>tb D (λσ' cls _ H'=>∃C,cls= .ref C∧W.exmOne K (.ref C) (.ref CS)=some true∧∀a,H' a=none->D.nx ((σ'.set j (some (.ref a))).set i none) (upd H' a (excO a C []))) σ H
section
variable {X:Cx} {K:W.Frag} {e:Expr} {st:Stmt} {rest:List Stmt} {pos:Pos}
theorem ziL:zkt X [] (ztv zoj):=zpd
theorem zeR {t u:TSX} (h1:PSX X st t) (h2:zkt X rest u):zkt X (st :: rest) (zvJ t u):=zne (t:=t) (u:=u) h1 h2
theorem zhe {t:TS} (h:PS X.nox st t):PSX X st (ztv t):=zo7 h
theorem zt9 {c:Expr} {a b:List Stmt} {tc:TT} {t u:TSX} (hc:PT X.nox c tc) (ha:zkt X a t) (hb:zkt X b u):PSX X (.If c a b pos) (ifX tc t u):=ztA (t:=t) (u:=u) hc ha hb
theorem zqd {te:TEX} (he:PEX X e te) (hs:swapsWith e none pos.line X.env=pure false:=by rfl):PSX X (.Expr e pos) (λD E σ H=>zpD te E D σ H):=zoU he hs
theorem zsG {i:Nat} {x:Str} {te:TEX} {pos':Pos} (hN:X.N.Nodup) (hi:X.N[i]?=some x) (hx:Loc X.env.scope x) (he:PEX X e te) (hs:swapsWith e (some (.Name x pos')) pos.line X.env=pure false:=by rfl)
  (hf:X.fn x=true∨X.env.scope.names.lookup x=some .local:=by first | exact .inl rfl | exact .inr rfl | assumption):PSX X (.Assign [.Name x pos'] e pos) (λD E σ H=>zsp te i E D σ H):=zqv hN hi hx he hs hf
theorem zuG {k:Nat} {ps:List Str} {sp:Sp} {x:Str} {p:Pos} {es:List Expr} {t:TA} (O:Own X) (F:Callee X.prog X.w X.K X.mg X.base (CXE X.prog X.w) k x ps sp) (hr:Room k X.A) (hg:Gl X x)
  (ha:PA X.nox (e::es) t) (hdb:↑45=false:=by decide) (he:starEach (e::es) X.env=(false,eval e X.env) :: starEach es X.env:=by rfl) (hpl:(↑66).any (·.1)=false:=by rfl) :
  PEX X ↑164 (zsM sp t):=zuE O F hr hg ha hdb he hpl
theorem zoB {C:Addr} {B newId initId:String} {bmB:List Value} {x:Str} {es:List Expr} {t:TA} {np cpos:Pos} (O:Own X) (hc:X.calm=true) (hg:Gl X x) (hm:X.mg x=some (.ref C)) (hK:W.excIn X.K C bmB newId=true) (FB:ExcBaseFacts B newId initId bmB)
  (ha:PA X.nox (e::es) t) (hdb:↑45=false:=by decide) (he:starEach (e::es) X.env=(false,eval e X.env) :: starEach es X.env:=by rfl) (hpl:(↑227).any (·.1)=false:=by rfl) :
  PSX X (.Raise (some (.Call (.Name x np) (e::es) [] cpos)) none pos) (λD E σ H=>zpu t C E D σ H):=zm1 O hc hg hm hK FB ha hdb he hpl
theorem zsF {body:List Stmt} {tb:TSX} {cn n x:Str} {CS:Addr} {i j:Nat} {p1 p2 p3 p4 p5:Pos} (O:Own X) (hK:X.K=K) (hN:X.N.Nodup) (hn:X.N[i]?=some n) (hln:X.env.scope.names.lookup n=some .local) (hx:X.N[j]?=some x) (hlx:Loc X.env.scope x)
  (hfx:X.fn x=true∨X.env.scope.names.lookup x=some .local) (hg:Gl X cn) (hm:X.mg cn=some (.ref CS)) (hb:zkt X body tb) (hd:(n == ("__debug__" :Str))=false:=by decide) (hcd:(n == ("__classdict__" :Str))=false:=by decide)
  (hdb:(cn == ("__debug__" :Str))=false:=by decide) (hsw:swapsWith (.Name n p3) (some (.Name x p2)) p4.line X.env=pure false:=by rfl) :
  PSX X (.Try body [.ExceptHandler (some (.Name cn p1)) (some n) [.Assign [.Name x p2] (.Name n p3) p4] p5] [] [] pos) (λD _ σ H=>ztV K CS i j tb D σ H):=zqS O hK hN hn hln hx hlx hfx hg hm hb hd hcd hdb hsw
end
def dE (C:Addr):Ds:=⟨λH v=>∃ a,v=.ref a∧H a=some (excO a C []),λe ⟨a,h1,h2⟩=>⟨a,h1,e _ _ h2⟩⟩
theorem NN.exc {ε:Type} {xc:ε->Addr}:NN (λe=>dE (xc e)):=λ_ _ _ ⟨_,h,_⟩=>by rw [h];simp
def zdJ {ε:Type} (f:ε->Bool) (x:Option ε):Bool:=match x with
 | none=>false
 | some e=>f e
def zmv (K:W.Frag):List V->Hp->VK->Prop:=λxs H Q=>zue K xs H Q∨∃ a C c b,(xs=[.ref a,c])∧H a=some (excO a C [])∧XCls K C∧(∃u,zdw c u∧(∀u',zdw c u'->u'=u)∧W.kitOne K (.ref C) u=some b)∧Q (.bl b) H
theorem zaX {X:Cx} {K:W.Frag} (hK:X.K=K):zfZ X (.builtin "isinstance") (zmv K):=λpins s σ H xs us Q I r h=>by
 rcases h with h | h
 ·exact zmm hK pins s σ H xs us Q I r h
 ·exact zol hK pins s σ H xs us Q I r h
section
variable {E:XS} {Γ Δ Γx:Ctx} {m:Bool} {K:W.Frag} {α β ε:Type} {u:TS} {o:Oc} {ds:List Ds}
theorem zcx {xc:ε->Addr} {x:Option ε} {ta:TE} {C:Addr} {f:ε->Bool} (h:Ev Γ ta false (dOpt (λe=>dE (xc e)) x)) (h0:W.kitOne K ↑6 (.ref C)=some false) (h1:∀ e,XCls K (xc e)∧W.kitOne K (.ref (xc e)) (.ref C)=some (f e)) :
  Ev Γ (tCB (zmv K) (tCons ta (tCons (tC (.ref C)) tNil))) m (dB (zdJ f x)):=λF0 Hb F H σ own Q a k =>
 h F0 Hb F H σ own _ a λv F1 H1 g1 q1=>by
  cases x with
  | none =>
   have q1:v=.non:=q1
   subst q1
   exact .inl ⟨.non,.type "NoneType",false,.inr ⟨C,rfl,h0⟩,.non,k _ F1 H1 g1 rfl⟩
  | some e =>
   obtain ⟨p,rfl,hp⟩:=q1
   exact .inr ⟨p,xc e,.ref C,f e,rfl,(za9.trans g1.fh) _ _ hp,(h1 e).1,⟨.ref C,rfl,λu' z=>z,(h1 e).2⟩,k _ F1 H1 g1 rfl⟩
theorem zoH {xc:ε->Addr} {x:Option ε} {ta:TE} {T:String} {f:ε->Bool} (h:Ev Γ ta false (dOpt (λe=>dE (xc e)) x)) (h0:W.kitOne K ↑6 (.type T)=some false) (h1:∀ e,XCls K (xc e)∧W.kitOne K (.ref (xc e)) (.type T)=some (f e)) :
  Ev Γ (tCB (zmv K) (tCons ta (tCons (tC (.ty T)) tNil))) m (dB (zdJ f x)):=λF0 Hb F H σ own Q a k =>
 h F0 Hb F H σ own _ a λv F1 H1 g1 q1=>by
  cases x with
  | none =>
   have q1:v=.non:=q1
   subst q1
   exact .inl ⟨.non,.type "NoneType",false,.inl ⟨T,rfl,h0⟩,.non,k _ F1 H1 g1 rfl⟩
  | some e =>
   obtain ⟨p,rfl,hp⟩:=q1
   exact .inr ⟨p,xc e,.ty T,f e,rfl,(za9.trans g1.fh) _ _ hp,(h1 e).1,⟨.type T,rfl,λu' z=>z,(h1 e).2⟩,k _ F1 H1 g1 rfl⟩
theorem zmX {v:V} {t:Value} {ta:TE} {T:String} {b:Bool} (ty:∀ H,TyOf K H v t) (h:Ev Γ ta false (dV v)) (hk:W.kitOne K t (.type T)=some b):Ev Γ (tCB (zmv K) (tCons ta (tCons (tC (.ty T)) tNil))) m (dB b):=λF0 Hb F H σ own Q a k =>
 h F0 Hb F H σ own _ a λv' F1 H1 g1 q1=>by
  cases q1
  exact .inl ⟨v,t,b,.inl ⟨T,rfl,hk⟩,ty H1,k _ F1 H1 g1 rfl⟩
theorem zmT {ta:TE} {T:String} {b:Bool} (h:Ev Γ ta false (dL ds)) (hk:W.kitOne K (.type "list") (.type T)=some b):Ev Γ (tCB (zmv K) (tCons ta (tCons (tC (.ty T)) tNil))) m (dB b):=λF0 Hb F H σ own Q a k =>
 h F0 Hb F H σ own _ a λv' F1 H1 g1 ⟨p,vs,e1,e2,e3⟩=>by
  subst e1
  exact .inl ⟨.ref p,_,b,.inl ⟨T,rfl,hk⟩,.lst (g1.fh _ _ e2),k _ F1 H1 g1 rfl⟩
def foX (xc:ε->Addr) (Γx:Ctx) (fo:β->Oc):Except ε β->Oc
 | .ok v=>fo v
 | .error e=>.ex (xc e) Γx
def zrK (r:Except ε α) (k:α->Except ε β):Except ε β:=match r with
 | .ok v=>k v
 | .error e=>.error e
theorem zmE {C:Addr} {ta:TA} (h:EvA Γ ta m ds) (hz:ds.length≤sizeLine) (w:Wk Γ Γx):Run E Γ (tSeq (zpu ta C E) u) (.ex C Γx):=λF0 Hb F H σ own D a q =>
 h F0 Hb F H σ own _ a λvs F1 H1 g1 q1=>⟨by rw [Paired.length q1];exact hz,q none F1 H1 σ own ((↑16).wk w)⟩
def zq1 (xc:ε->Addr) (m:Bool) (d:α->Ds):Except ε α->Rs
 | .ok v=>.va m (d v)
 | .error e=>.ex (xc e)
theorem zm9 {ι:Type} {args:ι->List Ds} {pre:ι->Prop} {res:ι->Rs} {tr:TA} {xc:ε->Addr} {d:α->Ds} {r:Except ε α} {kk:α->Except ε β} (fo:β->Oc) (x:ι) (h:EvA Γ tr false ds) (ha:ds=args x) (hp:pre x) (hr:res x=zq1 xc m d r) (w:Wk Γ Γx)
  (k:∀ v,r=.ok v->Run E Γ u (foX xc Γx fo (kk v))):Run E Γ (tSeq (zpD (zsM (Spv args pre res) tr) E) u) (foX xc Γx fo (zrK r kk)):=λF0 Hb F H σ own D a q=>by
 subst ha
 refine h F0 Hb F H σ own _ a λvs F1 H1 g1 q1=>⟨x,F1,g1.fh,by rw [List.append_nil];exact q1,hp,?_⟩
 rw [hr]
 cases r with
 | ok v=>exact λv' F' H' g _=>k v rfl F0 Hb F' H' σ own D (a.grow (g1.trans g)) q
 | error e=>exact λdct F' H' g=>q dct F' H' σ own ((a.grow (g1.trans g)).wk w)
theorem zqT {CS:Addr} {i j:Nat} {tb:TSX} {xc:ε->Addr} {r:Except ε α} (Gok:α->Ctx) (Gerr:Ctx) (Gj:Except ε α->Ctx) (hb:∀ E',Run E' Γ (atE E' tb) (foX xc Gerr (λv=>.nx (Gok v)) r))
  (w1:∀ v,r=.ok v->Wk (Gok v) (Gj r)) (w2:∀ e,r=.error e->W.exmOne K (.ref (xc e)) (.ref CS)=some true∧Wk (((Gerr.set j (.va true (dE (xc e))))).set i .no) (Gj r)) (k:Run E (Gj r) u o) :
  Run E Γ (tSeq (ztV K CS i j tb) u) o:=λF0 Hb F H σ own D a q=>by
 refine hb _ F0 Hb F H σ own { D with nx:=u D } a ?_
 cases r with
 | ok v=>exact λF1 H1 σ1 own1 a1=>k F0 Hb F1 H1 σ1 own1 D (a1.wk (w1 v rfl)) q
 | error e =>
  refine λdct F1 H1 σ1 own1 a1=>⟨xc e,rfl,(w2 e rfl).1,λx hx=>?_⟩
  obtain ⟨h1,h2,h3⟩:=a1.free (Grow.refl a1.fh) hx
  have g2:Grow F1 H1 (upd F1 x (excO x (xc e) [])) (upd H1 x (excO x (xc e) [])):=(Grow.refl a1.fh).new hx
  have a2:=(a1.grow g2).set j (m:=true) (d:=dE (xc e)) (v:=.ref x) ⟨x,rfl,ze2 h3 zaD⟩
  refine k F0 Hb (upd F1 x (excO x (xc e) [])) _ _ own1 D (At.wk ?_ (w2 e rfl).2) q
  exact ⟨a2.g,a2.inj,a2.liv,λl s es=>by
   by_cases z:i=l
   ·subst z
    have hi:i<((Gerr.set j (.va true (dE (xc e))))).length:=by simpa using (List.getElem?_eq_some_iff.mp es).1
    rw [List.getElem?_set_self hi] at es
    cases es;trivial
   ·rw [List.getElem?_set_ne z] at es
    have:=a2.sl l s es
    rw [List.getElem?_set_ne z]
    exact this,by simp [a1.len]⟩
end
section
variable {E:XS} {Γ:Ctx} {K:W.Frag} {α β ε:Type} {u:TS}
def okO (r:Except ε α):Option α:=match r with
 | .ok v=>some v
 | .error _=>none
def zuw (r:Except ε α):Option ε:=match r with
 | .ok _=>none
 | .error e=>some e
theorem zoF {CS:Addr} {i j:Nat} {tb:TSX} {xc:ε->Addr} {r:Except ε α} (Gok:α->Ctx) (Gerr:Ctx) (Gj:Except ε α->Ctx) (fo:β->Oc) {kk:Except ε α->β} (hb:∀ E',Run E' Γ (atE E' tb) (foX xc Gerr (λv=>.nx (Gok v)) r))
  (w1:∀ v,Wk (Gok v) (Gj (.ok v))) (w2:∀ e,W.exmOne K (.ref (xc e)) (.ref CS)=some true∧Wk (((Gerr.set j (.va true (dE (xc e))))).set i .no) (Gj (.error e))) (k:∀ y,y=r->Run E (Gj y) u (fo (kk y))) :
  Run E Γ (tSeq (ztV K CS i j tb) u) (fo (Let r kk)) :=
 zqT Gok Gerr Gj hb (λv e=>by rw [e];exact w1 v) (λe' e=>by rw [e];exact w2 e') (k r rfl)
theorem znk {xc:ε->Addr} {m:Bool} {d:α->Ds} {n:Nat} {r:Except ε α}:zs9 n (zq1 xc m d r)=foX xc (List.replicate n .no) (λv=>.rt m (d v)) r:=by cases r<;>rfl
end
theorem exm_of {K:W.Frag} {C CS:Addr} (h1:W.subIn K (.ref CS) (.type "BaseException")=some true) (h2:W.mroIn K CS (.type "object")=some true) (h3:W.typeIn K (.ref CS)=some (.type "type")) (h4:W.subIn K (.ref C) (.ref CS)=some true):W.exmOne K (.ref C) (.ref CS)=some true:=by
 unfold W.exmOne
 rw [h1,if_pos ↥5]
 unfold W.kitCls
 obtain ⟨cd,hc,_⟩:=Option.bind_eq_some_iff.mp h2
 dsimp only
 rw [hc,h3,if_pos ↥5,h4]
section
variable {P:Program} {w:World} {K:W.Frag} {mg:Str->Option Value} {base:Heap} {x qual:Str} {st:Stmt} {f:Addr} {fd:FuncData} {N ps:List Str} {k:Nat}
theorem Fun.okVX {ι:Type} {args:ι->List Ds} {pre:ι->Prop} {res:ι->Rs} (F:Fun K x qual st f fd) (S:FnScope N ps (zad st)) (hl:∀ i,(args i).length=ps.length)
  (hbody:∀ (cdv:Value) (A:Around) (outer:List Env) (s:Shared) (H:Hp) (E:XK) (i:ι),Room k ↑218->pre i->Own ↑155 →
   ∃ t,zkt ↑155 (zaA st) t∧(Run (λ_=>E) (zgm N (args i)) (atE (λ_=>E) t) (zs9 N.length (res i))∨∃ m Δ,(∀ C,res i≠.ex C)∧res i=.va m dN∧Run (λ_=>E) (zgm N (args i)) (atE (λ_=>E) t) (.nx Δ))) :
  FnOk P w K mg base ↑1 (k+1) f fd ps (Spv args pre res):=by
 refine F.okX S (λvs H Q E ⟨i,F',_,hv,_⟩=>by rw [Paired.length hv];exact hl i) λcdv A outer s H vs Q E hr ⟨i,F',hF,hv,hp,hq⟩=>?_
 obtain ⟨t,h1,h2⟩:=hbody cdv A outer s H E i hr hp ⟨rfl,rfl,rfl⟩
 have hq':zoP H F' Q E (res i):=by
  cases e:res i with
  | va m d=>rw [e] at hq;exact hq
  | ow m ds=>rw [e] at hq;exact hq
  | ex C=>rw [e] at hq;exact hq
 refine ⟨t,h1,?_⟩
 rcases h2 with h2 | ⟨m,Δ,_,e,h2⟩
 ·exact zn6 (t:=atE (λ_=>E) t) hF hv hq' h2
 ·rw [e] at hq'
  exact zlC (t:=atE (λ_=>E) t) hF hv hq' h2
theorem Fun.okVXN {ι ε:Type} {args:ι->List Ds} {pre:ι->Prop} {xc:ε->Addr} {r:ι->Except ε Unit} {m:Bool} (F:Fun K x qual st f fd) (S:FnScope N ps (zad st)) (hl:∀ i,(args i).length=ps.length)
  (hbody:∀ (cdv:Value) (A:Around) (outer:List Env) (s:Shared) (H:Hp) (E:XK) (i:ι),Room k ↑218->pre i->Own ↑155 →
   ∃ t Δ,zkt ↑155 (zaA st) t∧Run (λ_=>E) (zgm N (args i)) (atE (λ_=>E) t) (foX xc (List.replicate N.length .no) (λ_=>.nx Δ) (r i))) :
  FnOk P w K mg base ↑1 (k+1) f fd ps (Spv args pre λi=>zq1 xc m (λ_=>dN) (r i)):=by
 refine F.okVX S hl λcdv A outer s H E i hr hp O=>?_
 obtain ⟨t,Δ,h1,h2⟩:=hbody cdv A outer s H E i hr hp O
 refine ⟨t,h1,?_⟩
 cases q:r i with
 | ok v =>
  rw [q] at h2
  exact .inr ⟨m,Δ,λC z=>(by cases z),rfl,h2⟩
 | error e =>
  rw [q] at h2
  exact .inl h2
end
end L2
namespace L2
open PySem PySem.Spec PyProof.Rows
def EvN (Γ:Ctx) (t:TE) (d:Ds):Prop:=∀ (F0 Hb F H:Hp) (σ:St) (own:Nat->Option Addr) (Q:VK),At F0 Hb F H σ own Γ->(∀ v F' H',Grow F H F' H'->d.pr (off F' H) v->Q v H')->t σ H Q
def zuU:Slot->Slot
 | .va _ d=>.va false d
 | _=>.no
def zsU (Γ:Ctx):Ctx:=Γ.map zuU
theorem At.now {F0 Hb F H:Hp} {σ:St} {own:Nat->Option Addr} {Γ:Ctx} (a:At F0 Hb F H σ own Γ):At F H F H σ (λ_=>none) (zsU Γ):=by
 refine ⟨Grow.refl a.fh,λ_ _ _ h=>(nomatch h),λ_ _ h=>(nomatch h),λi s e=>?_,by unfold zsU;rw [List.length_map];exact a.len⟩
 unfold zsU at e
 rw [List.getElem?_map] at e
 cases q:Γ[i]? with
 | none=>rw [q] at e;cases e
 | some r =>
  rw [q] at e
  have e':zuU r=s:=Option.some.inj e
  subst e'
  have h:=a.sl i r q
  cases r with
  | va m d =>
   obtain ⟨x,h1,h2⟩:=h
   exact ⟨x,h1,d.up za9 h2⟩
  | no=>trivial
  | ow m ds=>trivial
  | ob m C p dx fs=>trivial
  | ol p ds=>trivial
  | tl d=>trivial
theorem zjR {Γ:Ctx} {t:TE} {d:Ds} (h:Ev (zsU Γ) t true d):EvN Γ t d:=λF0 Hb F H σ own Q a k=>h F H F H σ _ Q a.now λv F' H' g q=>k v F' H' g q
theorem At.setTl {F0 Hb F H F' H':Hp} {σ:St} {own:Nat->Option Addr} {Γ:Ctx} (a:At F0 Hb F H σ own Γ) (g:Grow F H F' H') (i:Nat) {d:Ds} {v:V} (h:d.pr (off F' H) v):At F0 Hb F H' ↑144 own (Γ.set i (.tl d)):=by
 have gF:Grow F H F H':=⟨Same.refl _,a.fh.trans g.h,g.h,λ_ _ z=>z⟩
 have a':=a.grow gF
 refine ⟨a'.g,a'.inj,a'.liv,λj s e=>?_,by simp [a.len]⟩
 by_cases z:i=j
 ·subst z
  have hi:i<Γ.length:=by simpa using (↑35).1
  rw [List.getElem?_set_self hi] at e
  cases e
  rw [zew (by rw [a.len];exact hi)]
  refine ⟨v,off F' H,rfl,zi7.trans g.fh,λb o q=>?_,λj p q=>?_,h⟩
  ·have hb:=(zb4.mp q).1
   exact ⟨a.fh.free hb,a.g.h.free hb⟩
  ·have:=a.liv j p q
   cases w:off F' H p with
   | none=>rfl
   | some o=>exact absurd (zb4.mp w).1 this
 ·rw [List.getElem?_set_ne z] at e
  rw [zfF z]
  exact a'.sl j s e
section
variable {E:XS} {Γ:Ctx} {te:TE} {u:TS} {o:Oc} {d d1 d2:Ds} {K:W.Frag} {i j:Nat}
theorem zox (h:EvN Γ te d) (k:Run E (Γ.set i (.tl d)) u o):Run E Γ ↑202 o:=λF0 Hb F H σ own D a q =>
 h F0 Hb F H σ own _ a λv F' H' g p=>k F0 Hb F H' _ own D (a.setTl g i p) q
theorem zi1 {α β:Type} {x:α} (f:α->Ds) (fo:β->Oc) {kk:α->β} (h:EvN Γ te (f x)) (k:∀ y,y=x->Run E (Γ.set i (.tl (f y))) u (fo (kk y))):Run E Γ ↑202 (fo (Let x kk)):=zox h (k x rfl)
theorem zkP (h:EvN Γ te (dT [d1,d2])) (k:Run E ((Γ.set i (.tl d1)).set j (.tl d2)) u o):Run E Γ ↑244 o:=λF0 Hb F H σ own D a q =>
 h F0 Hb F H σ own _ a λv F' H' g ⟨p,vs,e1,e2,e3⟩=>by
  cases e3 with | cons q1 t=>cases t with | cons q2 t =>
   cases t
   have a1:=a.setTl g i q1
   refine ⟨p,_,e1,.inl (.inl ((zi7.trans g.fh) _ _ e2)),rfl,_,_,rfl,_,_,rfl,rfl,k F0 Hb F H' _ own D ?_ q⟩
   refine ⟨a1.g,a1.inj,a1.liv,λl s e=>?_,by simp [a.len]⟩
   by_cases z:j=l
   ·subst z
    have hj:j<(Γ.set i (.tl d1)).length:=by simpa using (↑35).1
    rw [List.getElem?_set_self hj] at e
    cases e
    rw [zew (by simpa [a.len] using hj)]
    refine ⟨_,off F' H,rfl,zi7.trans g.fh,λb o q=>?_,λl p q=>?_,q2⟩
    ·have hb:=(zb4.mp q).1
     exact ⟨a.fh.free hb,a.g.h.free hb⟩
    ·have:=a.liv l p q
     cases w:off F' H p with
     | none=>rfl
     | some o=>exact absurd (zb4.mp w).1 this
   ·rw [List.getElem?_set_ne z] at e
    rw [zfF z]
    exact a1.sl l s e
end
def shS:Slot->Slot
 | .tl d=>.va true d
 | s=>s
def shC (Γ:Ctx):Ctx:=Γ.map shS
def zml (Γ:Ctx):Bool:=Γ.all λs=>match s with | .ob _ _ _ _ _=>false | _=>true
open Classical in
noncomputable def wide (F Hb H:Hp) (own:Nat->Option Addr):Hp:=λa=>match F a with
 | some o=>some o
 | none=>if Hb a=none∧∀ j,own j≠some a then H a else none
theorem ziI {F Hb H:Hp} {own:Nat->Option Addr}:Same F (wide F Hb H own):=λa o q=>by unfold wide;rw [q]
theorem zrU {F Hb H:Hp} {own:Nat->Option Addr} (e:Same F H):Same (wide F Hb H own) H:=λa o q=>by
 unfold wide at q
 cases z:F a with
 | some o'=>rw [z] at q;cases q;exact e _ _ z
 | none =>
  rw [z] at q
  dsimp only at q
  split at q
  ·exact q
  ·cases q
theorem At.wide {F0 Hb F H:Hp} {σ:St} {own:Nat->Option Addr} {Γ:Ctx} (a:At F0 Hb F H σ own Γ) (hno:zml Γ=true):At F0 Hb (wide F Hb H own) H σ own (shC Γ):=by
 refine ⟨⟨a.g.f.trans ziI,zrU a.fh,a.g.h,λb h1 h2=>?_⟩,a.inj,a.liv,λi s e=>?_,by unfold shC;rw [List.length_map];exact a.len⟩
 ·unfold L2.wide
  rw [a.g.no b h1 h2]
  dsimp only
  rw [if_neg (λz=>h1 z.1)]
 ·unfold shC at e
  rw [List.getElem?_map] at e
  cases q:Γ[i]? with
  | none=>rw [q] at e;cases e
  | some r =>
   rw [q] at e
   have e':shS r=s:=Option.some.inj e
   subst e'
   have h:=a.sl i r q
   cases r with
   | va m d =>
    obtain ⟨x,h1,h2⟩:=h
    exact ⟨x,h1,d.up (zbg ziI) h2⟩
   | no=>trivial
   | ow m ds =>
    obtain ⟨p,vs,h1,h2,h3,h4,h5,h6⟩:=h
    refine ⟨p,vs,h1,h2,?_,h4,h5,zdx (ds:=[]) (zbg ziI) h6⟩
    unfold L2.wide
    rw [h3]
    dsimp only
    rw [if_neg (λz=>z.2 i h2)]
   | ol p ds =>
    obtain ⟨vs,h1,h2,h3,h4,h5,h6⟩:=h
    refine ⟨vs,h1,h2,?_,h4,h5,zdx (ds:=[]) ziI h6⟩
    unfold L2.wide
    rw [h3]
    dsimp only
    rw [if_neg (λz=>z.2 i h2)]
   | ob m C p dx fs =>
    have:=List.all_eq_true.mp hno _ (List.mem_of_getElem? q)
    cases this
   | tl d =>
    obtain ⟨x,R,h1,h2,h3,h4,h5⟩:=h
    refine ⟨x,h1,d.up (λb o w=>?_) h5⟩
    refine zb4.mpr ⟨(h3 b o w).2,?_⟩
    unfold L2.wide
    rw [(h3 b o w).1]
    dsimp only
    rw [if_pos ⟨(h3 b o w).2,λj z=>by rw [h4 j b z] at w;cases w⟩]
    exact h2 b o w
section
variable {E:XS} {Γ:Ctx} {t:TE} {d:Ds} {m n:Bool} {u:TS} {o:Oc}
theorem Grow.only {F H H':Hp} (e:Same F H) (g:Same H H'):Grow F H F H':=⟨Same.refl _,e.trans g,g,λ_ _ z=>z⟩
theorem Ev.borrow {v:V} (hno:zml Γ=true) (h:Ev (shC Γ) t m (dV v)):Ev Γ t n (dV v):=λF0 Hb F H σ own Q a k =>
 h F0 Hb _ H σ own Q (a.wide hno) λx F' H' g q=>k x F H' (Grow.only a.fh g.h) q
theorem EvT.borrow {t:TT} {b:Bool} (hno:zml Γ=true) (h:EvT (shC Γ) t b):EvT Γ t b:=λF0 Hb F H σ own Q a k =>
 h F0 Hb _ H σ own Q (a.wide hno) λF' H' g=>k F H' (Grow.only a.fh g.h)
theorem EvN.ev (h:EvN Γ t d):Ev Γ t true d:=λF0 Hb F H σ own Q a k=>h F0 Hb F H σ own Q a λv F' H' g q=>k v F' H' g (d.up (zkD a.g.h) q)
theorem zhc {t:TS} (hno:zml Γ=true) (k:Run E (shC Γ) t o):Run E Γ t o:=λF0 Hb F H σ own D a q=>k F0 Hb _ H σ own D (a.wide hno) q
def unS:Slot->Slot
 | .tl _=>.no
 | s=>s
def unC (Γ:Ctx):Ctx:=Γ.map unS
theorem At.spoil {F0 Hb F H:Hp} {σ:St} {own:Nat->Option Addr} (a:At F0 Hb F H σ own Γ) (hno:zml Γ=true) {p:Addr} (w:HO) (h1:F p=none) (h2:Hb p=none) (h3:∀ j,own j≠some p):At F0 Hb F (upd H p w) σ own (unC Γ):=by
 refine ⟨a.g.setH h1 h2,a.inj,λj q e=>?_,λi s e=>?_,by unfold unC;rw [List.length_map];exact a.len⟩
 ·have:q≠p:=λz=>h3 j (z ▸ e)
  rw [zaq this];exact a.liv j q e
 ·unfold unC at e
  rw [List.getElem?_map] at e
  cases q:Γ[i]? with
  | none=>rw [q] at e;cases e
  | some r =>
   rw [q] at e
   have e':unS r=s:=Option.some.inj e
   subst e'
   have h:=a.sl i r q
   cases r with
   | va m d=>exact h
   | no=>trivial
   | ow m ds =>
    obtain ⟨x,vs,q1,q2,q3,q4,q5,q6⟩:=h
    have:x≠p:=λz=>h3 i (z ▸ q2)
    exact ⟨x,vs,q1,q2,q3,q4,by rw [zaq this];exact q5,q6⟩
   | ol x ds =>
    obtain ⟨vs,q1,q2,q3,q4,q5,q6⟩:=h
    have:x≠p:=λz=>h3 i (z ▸ q2)
    exact ⟨vs,q1,q2,q3,q4,by rw [zaq this];exact q5,q6⟩
   | ob m C p dx fs =>
    have:=List.all_eq_true.mp hno _ (List.mem_of_getElem? q)
    cases this
   | tl d=>trivial
def EvW (Γ:Ctx) (t:TE) (n:Nat):Prop:=∀ (F0 Hb F H:Hp) (σ:St) (own:Nat->Option Addr) (Q:VK),At F0 Hb F H σ own Γ →
 (∀ p vs H',Same H H'->F p=none->Hb p=none->(∀ j,own j≠some p)->H' p=some (.lst vs)->vs.length=n->Q (.ref p) H')->t σ H Q
theorem zrn {i:Nat} {ds:List Ds} (e:Γ[i]?=some (.tl (dL ds))):EvW Γ (zg1 i) ds.length:=λF0 Hb F H σ own Q a k=>by
 obtain ⟨x,R,h1,h2,h3,h4,p,vs,rfl,h6,h7⟩:=a.sl i _ e
 have hi:i<σ.length:=by rw [a.len];exact (↑35).1
 rw [List.getElem?_eq_getElem hi] at h1
 have e':σ[i]=some (.ref p):=h1
 exact ⟨_,by rw [List.getElem?_eq_getElem hi,e'],k p vs H (Same.refl _) (h3 p _ h6).1 (h3 p _ h6).2 (λj z=>by rw [h4 j p z] at h6;cases h6) (h2 _ _ h6) (Paired.length h7)⟩
theorem zmd {K:W.Frag} {to te:TE} {v:V} {l:Nat} (hno:zml Γ=true) (h:EvW Γ to l) (hv:Ev Γ te m (dV v)) (hz:l<sizeLine) (k:Run E (unC Γ) u o):Run E Γ (tSeq (zjB (tBM K "list" zgw to (tCons te tNil))) u) o:=λF0 Hb F H σ own D a q =>
 h F0 Hb F H σ own _ a λp vs H1 g1 h1 h2 h3 h4 h5=>⟨.inl ⟨rfl,_,SqL.of h4⟩,by
  have a1:=a.grow (Grow.only a.fh g1)
  refine hv F0 Hb F H1 σ own _ a1 λx F2 H2 g2 qx=>?_
  have a2:=a.grow (Grow.only a.fh (g1.trans g2.h))
  exact ⟨p,vs,x,rfl,rfl,g2.h _ _ h4,by omega,k F0 Hb F _ σ own D (a2.spoil hno _ h1 h2 h3) q⟩⟩
end
theorem ev_some {Γ:Ctx} {t:TE} {m:Bool} {α:Type} [Inhabited α] {f:α->Ds} {x:Option α} (h:Ev Γ t m (dOpt f x)) (hs:x.isSome=true):Ev Γ t m (f (x.getD default)):=by
 cases x with
 | none=>cases hs
 | some v=>exact h
def gS {α:Type} [Inhabited α] (x:Option α):α:=x.getD default
section
variable {E:XS} {Γ:Ctx} {te:TE} {u:TS} {K:W.Frag} {i j:Nat} {α β:Type} {f:α->Ds}
theorem zj7 {x:α} (d1 d2:α->Ds) (fo:β->Oc) {kk:α->β} (h:EvN Γ te (dT [d1 x,d2 x])) (k:∀ y,y=x->Run E ((Γ.set i (.tl (d1 y))).set j (.tl (d2 y))) u (fo (kk y))):Run E Γ ↑244 (fo (Let x kk)):=zkP h (k x rfl)
theorem zln {xs:List α} (e:Γ[i]?=some (.tl (dL ↑13))):EvW Γ (zg1 i) xs.length:=by
 have:=zrn e
 rwa [List.length_map] at this
theorem zq8 {x:Option (List α)} (e:Γ[i]?=some (.tl (dOpt (λxs=>dL ↑13) x))) (hs:x.isSome=true):EvW Γ (zg1 i) (gS x).length:=by
 cases x with
 | none=>cases hs
 | some v=>exact zln e
end
section
variable {X:Cx} {K:W.Frag}
end
end L2
namespace Lat
abbrev Vc:=Nat->Int
inductive Sp (A:Vc->Prop):Vc->Prop
 | zero:Sp A (λ_=>0)
 | add {u a:Vc} (x:Int):Sp A u->A a->Sp A (λi=>u i+x*a i)
section
variable {A B:Vc->Prop} {u v a:Vc}
theorem Sp.conv (h:Sp A u) (e:∀ i,u i=v i):Sp A v:=(funext e:u=v) ▸ h
theorem Sp.mem (h:A a):Sp A a:=(Sp.add 1 Sp.zero h).conv λi=>by grind
theorem Sp.smul (x:Int) (h:Sp A u):Sp A (λi=>x*u i):=by
 induction h with
 | zero=>exact Sp.zero.conv λi=>by grind
 | @add u a z _ ha ih=>exact (Sp.add (x*z) ih ha).conv λi=>by grind
theorem Sp.plus (h:Sp A u) (k:Sp A v):Sp A (λi=>u i+v i):=by
 induction k with
 | zero=>exact h.conv λi=>by grind
 | @add w a z _ ha ih=>exact (Sp.add z ih ha).conv λi=>by grind
theorem Sp.lin (x y:Int) (h:Sp A u) (k:Sp A v):Sp A (λi=>x*u i+y*v i):=(h.smul x).plus (k.smul y)
theorem Sp.sub (k:∀ a,A a->Sp B a) (h:Sp A u):Sp B u:=by
 induction h with
 | zero=>exact Sp.zero
 | @add u a z _ ha ih=>exact (ih.plus ((k a ha).smul z)).conv λi=>by grind
theorem Sp.mono (k:∀ a,A a->B a) (h:Sp A u):Sp B u:=h.sub λa ha=>.mem (k a ha)
theorem Sp.at0 {i:Nat} (k:∀ a,A a->a i=0) (h:Sp A u):u i=0:=by
 induction h with
 | zero=>rfl
 | @add u a z _ ha ih=>show u i+z*a i=0;rw [ih,k a ha];simp
theorem Sp.split {a:Vc} (h:Sp (λu=>A u∨u=a) v):∃ w y,Sp A w∧∀ i,v i=w i+y*a i:=by
 induction h with
 | zero=>exact ⟨_,0,.zero,λi=>by grind⟩
 | @add u b z _ hb ih =>
  obtain ⟨w,y,hw,e⟩:=ih
  rcases hb with hb | rfl
  ·exact ⟨_,y,.add z hw hb,λi=>by grind⟩
  ·exact ⟨w,y+z,hw,λi=>by grind⟩
end
def comb:Ji->List Vc->Vc
 | x :: xs,a :: as=>λi=>x*a i+comb xs as i
 | _,_=>λ_=>0
theorem zis {A:Vc->Prop}:∀ {xs:Ji} {as:List Vc},(∀ a∈as,A a)->Sp A (comb xs as)
 | [],_,_=>.zero
 | _ :: _,[],_=>.zero
 | x :: xs,a :: as,h=>(((Sp.mem (h a List.mem_cons_self)).smul x).plus (zis (xs:=xs) λb hb=>h b ↑230)).conv λi=>by simp only [comb]
theorem zlA:∀ {xs ys:Ji} {as:List Vc} (i:Nat),xs.length=ys.length->comb (List.zipWith (·-·) xs ys) as i=comb xs as i-comb ys as i
 | [],[],_,_,_=>by simp [comb]
 | x :: xs,y :: ys,[],_,_=>by simp [comb]
 | x :: xs,y :: ys,a :: as,i,h=>by
  have:=zlA (xs:=xs) (ys:=ys) (as:=as) i ↑102
  simp only [comb,List.zipWith_cons_cons,this]
  grind
theorem ziX {X B:Nat} {i:Nat}:∀ {xs:Ji} {as:List Vc},(∀ x∈xs,x.natAbs≤X)->(∀ a∈as,(a i).natAbs≤B)->(comb xs as i).natAbs≤as.length*(X*B)
 | [],_,_,_=>by simp [comb]
 | _ :: _,[],_,_=>by simp [comb]
 | x :: xs,a :: as,h,k=>by
  have h1:=ziX (xs:=xs) (as:=as) (λy hy=>h y ↑198) λb hb=>k b ↑230
  have h2:(x*a i).natAbs≤X*B:=by rw [Int.natAbs_mul];exact Nat.mul_le_mul (h x List.mem_cons_self) (k a List.mem_cons_self)
  simp only [comb,List.length_cons,Nat.succ_mul]
  omega
theorem zpF:∀ (M N:Nat) (f:Nat->Nat),M<N->(∀ n,n<N->f n<M)->∃ i j,i<j∧j<N∧f i=f j
 | 0,N,f,h,k=>absurd (k 0 h) (Nat.not_lt_zero _)
 | M+1,N,f,h,k=>by
  by_cases q:∃ i,i<N-1∧f i=f (N-1)
  ·obtain ⟨i,h1,h2⟩:=q
   exact ⟨i,N-1,h1,by omega,h2⟩
  ·have q:∀ i,i<N-1->f i≠f (N-1):=λi h1 h2=>q ⟨i,h1,h2⟩
   obtain ⟨i,j,h1,h2,h3⟩:=zpF M (N-1) (λn=>if f (N-1)<f n then f n-1 else f n) ↑0 λn hn=>by
    have a:=k n ↑0
    have b:=k (N-1) ↑0
    have c:=q n hn
    show (if f (N-1)<f n then f n-1 else f n)<M
    split<;>omega
   refine ⟨i,j,h1,by omega,?_⟩
   have a:=q i ↑0
   have b:=q j h2
   split at h3<;>split at h3<;>omega
def zit (b:Nat):Nat->Nat->Ji
 | 0,_=>[]
 | k+1,n=>((n%b:Nat):Int) :: zit b k (n/b)
theorem ze6 {b:Nat}:∀ {k n:Nat},(zit b k n).length=k
 | 0,_=>rfl
 | k+1,n=>by simp [zit,ze6]
theorem zi2 {b:Nat} (hb:0<b):∀ {k n:Nat},∀ x∈zit b k n,0≤x∧x<b
 | 0,_,x,h=>by simp [zit] at h
 | k+1,n,x,h=>by
  simp only [zit,List.mem_cons] at h
  rcases h with rfl | h
  ·have:=Nat.mod_lt n hb
   omega
  ·exact zi2 hb x h
theorem zlE {b:Nat} (hb:0<b):∀ {k n m:Nat},n<b^k->m<b^k->zit b k n=zit b k m->n=m
 | 0,n,m,h1,h2,_=>by simp at h1 h2;omega
 | k+1,n,m,h1,h2,e=>by
  simp only [zit,List.cons.injEq] at e
  have h3:=zlE hb (k:=k) (Nat.div_lt_of_lt_mul (by rw [Nat.pow_succ,Nat.mul_comm] at h1;exact h1)) (Nat.div_lt_of_lt_mul (by rw [Nat.pow_succ,Nat.mul_comm] at h2;exact h2)) e.2
  have h4:=Nat.div_add_mod n b
  have h5:=Nat.div_add_mod m b
  rw [h3] at h4
  omega
def enc (W:Nat) (u:Vc):List Nat->Nat
 | []=>0
 | h :: hs=>(u h+W).toNat+(2*W+1)*enc W u hs
theorem zpW {W:Nat} {u:Vc}:∀ {hs:List Nat},(∀ h∈hs,(u h).natAbs≤W)->enc W u hs<(2*W+1)^hs.length
 | [],_=>by simp [enc]
 | h :: hs,k=>by
  have h1:=zpW (hs:=hs) λg hg=>k g (List.mem_cons_of_mem _ hg)
  have h2:=k h List.mem_cons_self
  simp only [enc,List.length_cons,Nat.pow_succ]
  have h3:(2*W+1)*(enc W u hs+1)≤(2*W+1)*(2*W+1)^hs.length:=Nat.mul_le_mul_left _ h1
  rw [Nat.mul_comm ((2*W+1)^hs.length)]
  rw [Nat.mul_add] at h3
  omega
theorem zom {W:Nat} {u v:Vc}:∀ {hs:List Nat},(∀ h∈hs,(u h).natAbs≤W∧(v h).natAbs≤W)->enc W u hs=enc W v hs->∀ h∈hs,u h=v h
 | [],_,_,h,hh=>by simp at hh
 | g :: hs,k,e,h,hh=>by
  have h2:=k g List.mem_cons_self
  simp only [enc] at e
  have e1:((u g+W).toNat+(2*W+1)*enc W u hs)%(2*W+1)=((v g+W).toNat+(2*W+1)*enc W v hs)%(2*W+1):=by rw [e]
  rw [Nat.add_mul_mod_self_left,Nat.add_mul_mod_self_left,Nat.mod_eq_of_lt ↑0,Nat.mod_eq_of_lt ↑0] at e1
  have e2:u g=v g:=by omega
  rcases List.mem_cons.mp hh with rfl | hh
  ·exact e2
  ·refine zom (λx hx=>k x (List.mem_cons_of_mem _ hx)) ?_ h hh
   rw [e1] at e
   exact Nat.eq_of_mul_eq_mul_left (show 0<2*W+1 by omega) (Nat.add_left_cancel e)
theorem zto {as:List Vc} {hs:List Nat} {B:Nat} (hl:hs.length<as.length) (hB:∀ a∈as,∀ h∈hs,(a h).natAbs≤B) :
  ∃ xs:Ji,xs.length=as.length∧(∃ x∈xs,x≠0)∧(∀ x∈xs,x.natAbs≤(2*(as.length*B)+1)^hs.length)∧∀ h∈hs,comb xs as h=0:=by
 generalize hY:2*(as.length*B)+1=Y
 have hY1:1≤Y:=by omega
 generalize hX:Y^hs.length=X
 have hX1:1≤X:=by rw [← hX];exact Nat.one_le_pow _ _ hY1
 have key:∀ n,∀ h∈hs,(comb (zit (X+1) as.length n) as h).natAbs≤as.length*(X*B):=λn h hh =>
  ziX (λx hx=>by have:=zi2 ↑0 x hx;omega) λa ha=>hB a ha h hh
 obtain ⟨i,j,h1,h2,h3⟩:=zpF ((2*(as.length*(X*B))+1)^hs.length) ((X+1)^as.length) (λn=>enc (as.length*(X*B)) (comb (zit (X+1) as.length n) as) hs) (by
  have e1:2*(as.length*(X*B))+1≤Y*X:=by
   rw [← hY,Nat.add_mul,Nat.one_mul,Nat.mul_assoc,Nat.mul_assoc,Nat.mul_comm B X]
   omega
  calc (2*(as.length*(X*B))+1)^hs.length≤(Y*X)^hs.length:=Nat.pow_le_pow_left e1 _
   _=X*X^hs.length:=by rw [Nat.mul_pow,hX]
   _=X^(hs.length+1):=by rw [Nat.pow_succ,Nat.mul_comm]
   _≤X^as.length:=Nat.pow_le_pow_right hX1 hl
   _<(X+1)^as.length:=Nat.pow_lt_pow_left ↑0 ↑0) λn _=>zpW (key n)
 refine ⟨List.zipWith (·-·) (zit (X+1) as.length i) (zit (X+1) as.length j),by simp [ze6],?_,λx hx=>?_,λh hh=>?_⟩
 ·refine Classical.byContradiction λq=>?_
  have q:∀ x∈List.zipWith (·-·) (zit (X+1) as.length i) (zit (X+1) as.length j),x=0:=λx hx=>Classical.byContradiction λz=>q ⟨x,hx,z⟩
  have e:zit (X+1) as.length i=zit (X+1) as.length j:=by
   refine List.ext_getElem (by simp [ze6]) λk k1 k2=>?_
   have:=q _ (List.getElem_mem (l:=List.zipWith (·-·) (zit (X+1) as.length i) (zit (X+1) as.length j)) (n:=k) (by simp [ze6] at *;omega))
   rw [List.getElem_zipWith] at this
   omega
  have:=zlE ↑0 (Nat.lt_trans h1 h2) h2 e
  omega
 ·obtain ⟨k,hk,rfl⟩:=List.getElem_of_mem hx
  have hk':k<as.length:=by simpa [ze6] using hk
  rw [List.getElem_zipWith]
  have:=zi2 (b:=X+1) ↑0 _ (List.getElem_mem (l:=zit (X+1) as.length i) (n:=k) (by rw [ze6];exact hk'))
  have:=zi2 (b:=X+1) ↑0 _ (List.getElem_mem (l:=zit (X+1) as.length j) (n:=k) (by rw [ze6];exact hk'))
  omega
 ·rw [zlA _ (by simp [ze6])]
  have:=zom (λh hh=>⟨key i h hh,key j h hh⟩) h3 h hh
  omega
theorem first {u:Vc} {c:Nat} (h:u c≠0):∃ d,d≤c∧u d≠0∧∀ i,i<d->u i=0:=by
 induction c using Nat.strongRecOn with
 | _ c ih =>
  by_cases q:∃ i,i<c∧u i≠0
  ·obtain ⟨i,h1,h2⟩:=q
   obtain ⟨d,h3,h4⟩:=ih i h1 h2
   exact ⟨d,by omega,h4⟩
  ·exact ⟨c,Nat.le_refl c,h,λi hi=>Classical.byContradiction λz=>q ⟨i,hi,z⟩⟩
def bnd (k B C:Nat):Nat:=(k+1)*((2*((k+1)*C)+1)^k*B)
theorem zlT {k l B C:Nat} (h:k≤l):bnd k B C≤bnd l B C:=by
 unfold bnd
 refine Nat.mul_le_mul ↑0 (Nat.mul_le_mul_right _ ?_)
 refine Nat.le_trans (Nat.pow_le_pow_right ↑0 h) (Nat.pow_le_pow_left ?_ _)
 have:=Nat.mul_le_mul_right C (show k+1≤l+1 by omega)
 omega
structure Wit (A:Vc->Prop) (B E:Nat) (hs:List Nat) (as:List Vc):Prop where
 len:hs.length=as.length
 mem:∀ a∈as,A a
 bd:∀ a∈as,∀ i,(a i).natAbs≤B
 van:∀ u,Sp A u->(∀ h∈hs,u h=0)->∀ i,u i=0
 hd:∀ h∈hs,∃ v,Sp A v∧(∀ i,i<h->v i=0)∧v h≠0∧∀ i,(v i).natAbs≤E
 ind:∀ xs:Ji,xs.length=as.length->(∀ i,comb xs as i=0)->∀ x∈xs,x=0
theorem Wit.nil {B E:Nat}:Wit (λ_=>False) B E [] [] where
 len:=rfl
 mem:=by simp
 bd:=by simp
 van:=λu h _ i=>h.at0 λ_ z=>z.elim
 hd:=by simp
 ind:=λxs h _ x hx=>by rw [List.length_eq_zero_iff.mp h] at hx;simp at hx
theorem Wit.rel {A:Vc->Prop} {B C E:Nat} {hs:List Nat} {as:List Vc} {u:Vc} (W:Wit A B E hs as) (hBC:B≤C) (hu:∀ h∈hs,(u h).natAbs≤C) :
  ∃ (x:Int) (xs:Ji),x≠0∧xs.length=as.length∧x.natAbs≤(2*((as.length+1)*C)+1)^as.length∧(∀ y∈xs,y.natAbs≤(2*((as.length+1)*C)+1)^as.length)∧∀ h∈hs,x*u h+comb xs as h=0:=by
 obtain ⟨xs,h1,⟨z,hz,hz0⟩,h3,h4⟩:=zto (as:=u :: as) (hs:=hs) (B:=C) (by simp [W.len]) λa ha h hh=>by
  rcases List.mem_cons.mp ha with rfl | ha
  ·exact hu h hh
  ·exact Nat.le_trans (W.bd a ha h) hBC
 rw [W.len,List.length_cons] at h3
 match xs,h1 with
 | x :: xs,h1 =>
  refine ⟨x,xs,λq=>?_,by simpa using h1,h3 x List.mem_cons_self,λy hy=>h3 y ↑198,λh hh=>by have:=h4 h hh;simpa [comb] using this⟩
  subst q
  have k1:∀ i,comb xs as i=0:=W.van _ (zis W.mem) λh hh=>by have:=h4 h hh;simpa [comb] using this
  have k2:=W.ind xs (by simpa using h1) k1
  rcases List.mem_cons.mp hz with rfl | hz
  ·exact hz0 rfl
  ·exact hz0 (k2 z hz)
theorem Wit.step {A:Vc->Prop} {B E:Nat} {hs:List Nat} {as:List Vc} {a:Vc} (W:Wit A B E hs as) (ha:∀ i,(a i).natAbs≤B) (hE:bnd as.length B B≤E) :
  ∃ hs' as',Wit (λu=>A u∨u=a) B E hs' as'∧as'.length≤as.length+1:=by
 obtain ⟨x,xs,hx,hl,b1,b2,h0⟩:=W.rel (u:=a) (Nat.le_refl B) λh _=>ha h
 have sp1:Sp A (comb xs as):=zis W.mem
 have up:∀ u,Sp A u->Sp (λu=>A u∨u=a) u:=λu hu=>hu.mono λ_=>.inl
 have hva:Sp (λu=>A u∨u=a) (λi=>x*a i+comb xs as i):=((Sp.mem (.inr rfl)).smul x).plus (up _ sp1)
 by_cases q:∃ i,x*a i+comb xs as i≠0
 ·obtain ⟨i,hi⟩:=q
  obtain ⟨c,_,hc,hc0⟩:=first (u:=λi=>x*a i+comb xs as i) hi
  refine ⟨c :: hs,a :: as,⟨by simp [W.len],λb hb=>?_,λb hb=>?_,λu hu hv=>?_,λh hh=>?_,λys hy hys=>?_⟩,by simp⟩
  ·rcases List.mem_cons.mp hb with rfl | hb
   ·exact .inr rfl
   ·exact .inl (W.mem b hb)
  ·rcases List.mem_cons.mp hb with rfl | hb
   ·exact ha
   ·exact W.bd b hb
  ·obtain ⟨w,y,hw,e⟩:=hu.split
   have k1:∀ i,x*w i-y*comb xs as i=0:=λi=>by
    have:=W.van _ (hw.lin x (-y) sp1) (λh hh=>by
     have e1:=e h
     rw [hv h (List.mem_cons_of_mem _ hh)] at e1
     have e2:=h0 h hh
     grind) i
    grind
   have k2:y=0:=by
    have e1:=e c
    rw [hv c List.mem_cons_self] at e1
    have e2:=k1 c
    have e3:y*(x*a c+comb xs as c)=0:=by grind
    rcases Int.mul_eq_zero.mp e3 with z | z
    ·exact z
    ·exact (hc z).elim
   intro i
   have e1:=e i
   have e2:=k1 i
   have e3:x*u i=0:=by grind
   exact (Int.mul_eq_zero.mp e3).resolve_left hx
  ·rcases List.mem_cons.mp hh with rfl | hh
   ·refine ⟨_,hva,hc0,hc,λi=>?_⟩
    have e1:=ziX (i:=i) b2 λb hb=>W.bd b hb i
    have e2:(x*a i).natAbs≤(2*((as.length+1)*B)+1)^as.length*B:=by rw [Int.natAbs_mul];exact Nat.mul_le_mul b1 (ha i)
    unfold bnd at hE
    rw [Nat.add_mul,Nat.one_mul] at hE
    show (x*a i+comb xs as i).natAbs≤E
    omega
   ·obtain ⟨v,q1,q2⟩:=W.hd h hh
    exact ⟨v,up v q1,q2⟩
  ·match ys,hy with
   | y :: ys,hy =>
    have k1:∀ i,x*comb ys as i-y*comb xs as i=0:=λi=>by
     have:=W.van _ ((zis (xs:=ys) W.mem).lin x (-y) sp1) (λh hh=>by
      have e1:=hys h
      simp only [comb] at e1
      have e2:=h0 h hh
      grind) i
     grind
    have k2:y=0:=by
     have e1:=hys c
     simp only [comb] at e1
     have e2:=k1 c
     have e3:y*(x*a c+comb xs as c)=0:=by grind
     rcases Int.mul_eq_zero.mp e3 with z | z
     ·exact z
     ·exact (hc z).elim
    subst k2
    have k3:=W.ind ys (by simpa using hy) λi=>by have:=hys i;simpa [comb] using this
    intro z hz
    rcases List.mem_cons.mp hz with rfl | hz
    ·rfl
    ·exact k3 z hz
 ·have q:∀ i,x*a i+comb xs as i=0:=λi=>Classical.byContradiction λz=>q ⟨i,z⟩
  refine ⟨hs,as,⟨W.len,λb hb=>.inl (W.mem b hb),W.bd,λu hu hv=>?_,λh hh=>?_,W.ind⟩,by omega⟩
  ·obtain ⟨w,y,hw,e⟩:=hu.split
   have k1:∀ i,x*w i-y*comb xs as i=0:=λi=>by
    have:=W.van _ (hw.lin x (-y) sp1) (λh hh=>by
     have e1:=e h
     rw [hv h hh] at e1
     have e2:=h0 h hh
     grind) i
    grind
   intro i
   have e1:=e i
   have e2:=k1 i
   have e3:=q i
   have e4:x*u i=0:=by grind
   exact (Int.mul_eq_zero.mp e4).resolve_left hx
  ·obtain ⟨v,q1,q2⟩:=W.hd h hh
   exact ⟨v,up v q1,q2⟩
theorem Wit.small {A:Vc->Prop} {B C E:Nat} {hs:List Nat} {as:List Vc} {u:Vc} (W:Wit A B E hs as) (hBC:B≤C) (hs_:Sp A u) (hu:∀ h∈hs,(u h).natAbs≤C) (i:Nat):(u i).natAbs≤bnd as.length B C:=by
 obtain ⟨x,xs,hx,hl,b1,b2,h0⟩:=W.rel hBC hu
 have k:=W.van _ ((hs_.smul x).plus (zis (xs:=xs) W.mem)) h0 i
 have e1:=ziX (i:=i) b2 λb hb=>W.bd b hb i
 have e2:(x*u i).natAbs=(comb xs as i).natAbs:=by
  have k:x*u i+comb xs as i=0:=k
  omega
 rw [Int.natAbs_mul] at e2
 have e3:(u i).natAbs≤x.natAbs*(u i).natAbs:=Nat.le_mul_of_pos_left _ (Int.natAbs_pos.mpr hx)
 unfold bnd
 rw [Nat.add_mul]
 omega
theorem Wit.head {A:Vc->Prop} {B E:Nat} {hs:List Nat} {as:List Vc} {u:Vc} {h:Nat} (W:Wit A B E hs as) (hu:Sp A u) (h0:∀ i,i<h->u i=0) (h1:u h≠0):h∈hs:=by
 refine Classical.byContradiction λq=>?_
 have hm:∃ n,∀ g∈hs,g<n:=by
  clear W q
  induction hs with
  | nil=>exact ⟨0,by simp⟩
  | cons g hs ih =>
   obtain ⟨n,hn⟩:=ih
   exact ⟨max n (g+1),λk hk=>by
    rcases List.mem_cons.mp hk with rfl | hk
    ·omega
    ·have:=hn k hk;omega⟩
 obtain ⟨n,hn⟩:=hm
 have main:∀ (d t:Nat) (u:Vc),n-t=d->h<t->Sp A u->u h≠0->(∀ g∈hs,g<t->u g=0)->False:=by
  intro d
  induction d with
  | zero=>exact λt u e _ hu h1 k=>h1 (W.van u hu (λg hg=>k g hg (by have:=hn g hg;omega)) h)
  | succ d ih =>
   intro t u e ht hu h1 k
   by_cases z:t∈hs
   ·obtain ⟨v,v1,v2,v3,_⟩:=W.hd t z
    refine ih (t+1) _ ↑0 ↑0 (hu.lin (v t) (-(u t)) v1) ?_ λg hg hgt=>?_
    ·show v t*u h+-u t*v h≠0
     rw [v2 h ht]
     intro y
     rcases Int.mul_eq_zero.mp (show v t*u h=0 by grind) with y | y
     ·exact v3 y
     ·exact h1 y
    ·show v t*u g+-u t*v g=0
     by_cases y:g=t
     ·subst y;grind
     ·rw [v2 g ↑0,k g hg ↑0];grind
   ·exact ih (t+1) u ↑0 ↑0 hu h1 λg hg hgt=>k g hg (by
     have:g≠t:=λy=>z (y ▸ hg)
     omega)
 exact main _ (h+1) u rfl ↑0 hu h1 λg hg hgt=>by
  by_cases y:g=h
  ·exact (q (y ▸ hg)).elim
  ·exact h0 g ↑0
end Lat
namespace L2
open PySem PySem.Spec PyProof.Rows
def whl {S:Type} (c:S->Bool) (f:S->S):Nat->S->S
 | 0,s=>s
 | n+1,s=>bif c s then whl c f n (f s) else s
theorem zlF {S:Type} {c:S->Bool} {f:S->S} {s:S} (h:c s=false):∀ n,whl c f n s=s
 | 0=>rfl
 | n+1=>by rw [whl,h];rfl
theorem zpy {S:Type} {c:S->Bool} {f:S->S} {s:S} (h:c s=true) (n:Nat):whl c f (n+1) s=whl c f n (f s):=by rw [whl,h];rfl
theorem zhM {S:Type} {c:S->Bool} {f:S->S} {I:S->Prop} {μ:S->Nat} (hs:∀ s,I s->c s=true->I (f s)∧μ (f s)<μ s):∀ {n:Nat} {s:S},I s->μ s≤n->I (whl c f n s)∧c (whl c f n s)=false
 | 0,s,h,k=>⟨h,by
  show c s=false
  cases q:c s with
  | false=>rfl
  | true=>have:=(hs s h q).2;omega⟩
 | n+1,s,h,k=>by
  cases q:c s with
  | false=>rw [zlF q];exact ⟨h,q⟩
  | true =>
   rw [zpy q]
   exact zhM hs (hs s h q).1 (by have:=(hs s h q).2;omega)
section
variable {E:XS} {Γ:Ctx} {β:Type} {u:TS}
theorem zhW {S:Type} {tc:TT} {tb:TS} {s0:S} (G:S->Ctx) (fo:β->Oc) {kk:S->β} (c:S->Bool) (f:S->S) (I:S->Prop) (μ:S->Nat) (n:Nat) (w:Wk Γ (G s0)) (h0:I s0) (hn:μ s0≤n)
  (body:∀ s,I s->EvT (G s) tc (c s)∧(c s=true->(I (f s)∧μ (f s)<μ s)∧Run E (G s) tb (.nx (G (f s)))))
  (k:∀ s,s=whl c f n s0->I s->c s=false->Run E (G s) u (fo (kk s))):Run E Γ (tSeq (zp0 tc tb) u) (fo (Let (whl c f n s0) kk)):=λF0 Hb F H σ own D a q=>by
 obtain ⟨i1,i2⟩:=zhM (n:=n) (λs hi hc=>((body s hi).2 hc).1) h0 hn
 have kf:=k _ rfl i1 i2
 refine ⟨λm σ H=>∃ s F own,At F0 Hb F H σ own (G s)∧I s∧μ s=m∧∃ j,μ s≤j∧whl c f j s=whl c f n s0,⟨_,s0,F,own,a.wk w,h0,rfl,n,hn,rfl⟩,?_⟩
 rintro m σ1 H1 ⟨s,F1,own1,a1,hI,rfl,j,hj,ej⟩
 obtain ⟨b1,b2⟩:=body s hI
 refine b1 F0 Hb F1 H1 σ1 own1 _ a1 λF2 H2 g=>?_
 cases e:c s with
 | false =>
  rw [if_neg Bool.false_ne_true]
  rw [zlF e] at ej
  rw [← ej] at kf
  exact kf F0 Hb F2 H2 σ1 own1 D (a1.grow g) (by rw [ej];exact q)
 | true =>
  rw [if_pos rfl]
  obtain ⟨⟨c1,c2⟩,c3⟩:=b2 e
  refine ⟨λσ' H'=>∃ F own,At F0 Hb F H' σ' own (G (f s)),λσ' H' ⟨F',own',a'⟩=>⟨_,c2,f s,F',own',a',c1,rfl,j-1,by omega,?_⟩,?_⟩
  ·rw [← ej,show j=(j-1)+1 by omega,zpy e];simp
  ·exact c3 F0 Hb F2 H2 σ1 own1 _ (a1.grow g) λF' H' σ' own' a'=>⟨F',own',a'⟩
end
end L2
namespace Lat
def vec (l:Ji):Vc:=λi=>l.getD i 0
def hd:Ji->Nat
 | []=>0
 | x :: xs=>bif (!decide (x=0)) then 0 else hd xs+1
def add (l s:Ji):Ji:=List.map (λ(x:Int×Int)=>x.1+x.2) (List.zip l s)
def sub (l s:Ji):Ji:=List.map (λ(x:Int×Int)=>x.1-x.2) (List.zip l s)
def mul (l:Ji) (c:Int):Ji:=List.map (λ(x:Int)=>x*c) l
theorem zoi {x:Int} {xs:Ji}:vec (x :: xs) 0=x:=rfl
theorem zbj {x:Int} {xs:Ji} {i:Nat}:vec (x :: xs) (i+1)=vec xs i:=by simp [vec]
theorem zc6 {l:Ji} {i:Nat} (h:l.length≤i):vec l i=0:=by simp [vec,List.getD_eq_getElem?_getD,List.getElem?_eq_none h]
theorem zoh {l:Ji} {i:Nat} (h:i<l.length):vec l i∈l:=by
 simp only [vec,List.getD_eq_getElem?_getD,List.getElem?_eq_getElem h,Option.getD_some];exact List.getElem_mem h
theorem zod {l:Ji} {x:Int} (h:x∈l):∃ i,i<l.length∧vec l i=x:=by
 obtain ⟨i,hi,e⟩:=List.getElem_of_mem h
 exact ⟨i,hi,by simp [vec,List.getD_eq_getElem?_getD,List.getElem?_eq_getElem hi,e]⟩
theorem zqZ {l s:Ji} (h:l.length=s.length) (e:∀ i,vec l i=vec s i):l=s:=by
 refine List.ext_getElem h λi h1 h2=>?_
 have:=e i
 simpa [vec,List.getD_eq_getElem?_getD,List.getElem?_eq_getElem h1,List.getElem?_eq_getElem h2] using this
theorem zpQ {l:Ji} {B:Nat} (h:∀ x∈l,x.natAbs≤B) (i:Nat):(vec l i).natAbs≤B:=by
 by_cases q:i<l.length
 ·exact h _ (zoh q)
 ·rw [zc6 ↑0];exact Nat.zero_le _
theorem zno {l s:Ji} (h:l.length=s.length):(sub l s).length=l.length:=by simp [sub,h]
theorem zkH {l s:Ji} (h:l.length=s.length):(add l s).length=l.length:=by simp [add,h]
theorem zbt {l:Ji} {c:Int}:(mul l c).length=l.length:=by simp [mul]
theorem zi4:∀ {l s:Ji} {i:Nat},l.length=s.length->vec (sub l s) i=vec l i-vec s i
 | [],[],i,_=>by simp [sub,vec]
 | x :: l,y :: s,0,_=>rfl
 | x :: l,y :: s,i+1,h=>by
  have:=zi4 (l:=l) (s:=s) (i:=i) ↑102
  rw [zbj,zbj,← this]
  exact zbj
theorem zkG:∀ {l s:Ji} {i:Nat},l.length=s.length->vec (add l s) i=vec l i+vec s i
 | [],[],i,_=>by simp [add,vec]
 | x :: l,y :: s,0,_=>rfl
 | x :: l,y :: s,i+1,h=>by
  have:=zkG (l:=l) (s:=s) (i:=i) ↑102
  rw [zbj,zbj,← this]
  exact zbj
theorem zdT:∀ {l:Ji} {c:Int} {i:Nat},vec (mul l c) i=vec l i*c
 | [],c,i=>by simp [mul,vec]
 | x :: l,c,0=>rfl
 | x :: l,c,i+1=>by
  have:=zdT (l:=l) (c:=c) (i:=i)
  rw [zbj,← this]
  exact zbj
theorem zs8:∀ {l:Ji},hd l≤l.length
 | []=>Nat.le_refl 0
 | x :: xs=>by
  unfold hd
  cases (!decide (x=0))
  ·exact Nat.succ_le_succ zs8
  ·exact Nat.zero_le _
theorem zc7:∀ {l:Ji} {i:Nat},i<hd l->vec l i=0
 | [],i,h=>absurd h (Nat.not_lt_zero i)
 | x :: xs,i,h=>by
  unfold hd at h
  by_cases q:x=0
  ·rw [show (!decide (x=0))=false by simp [q]] at h
   have h:i<hd xs+1:=h
   cases i with
   | zero=>exact q
   | succ i=>rw [zbj];exact zc7 ↑0
  ·rw [show (!decide (x=0))=true by simp [q]] at h
   exact absurd h (Nat.not_lt_zero i)
theorem zi8:∀ {l:Ji},hd l<l.length->vec l (hd l)≠0
 | [],h=>absurd h (Nat.not_lt_zero _)
 | x :: xs,h=>by
  unfold hd at h ⊢
  by_cases q:x=0
  ·rw [show (!decide (x=0))=false by simp [q]] at h ⊢
   have h:hd xs+1<xs.length+1:=h
   show vec (x :: xs) (hd xs+1)≠0
   rw [zbj]
   exact zi8 ↑0
  ·rw [show (!decide (x=0))=true by simp [q]]
   exact q
theorem zrk {l:Ji} {d:Nat} (h:vec l d≠0) (k:∀ i,i<d->vec l i=0):hd l=d:=by
 have h1:¬ hd l<d:=λq=>by
  have hl:d<l.length:=Nat.lt_of_not_le λz=>h (zc6 z)
  exact zi8 ↑0 (k _ q)
 have h2:¬ d<hd l:=λq=>h (zc7 q)
 omega
theorem zsV {l:Ji} {d:Nat} (hl:d≤l.length) (k:∀ i,i<d->vec l i=0):d≤hd l:=by
 refine Nat.le_of_not_lt λq=>?_
 exact zi8 ↑0 (k _ q)
def quo (l s:Ji):Int:=vec l (hd s)/vec s (hd s)
def zkO (l s:Ji):Ji:=bif (!decide (quo l s=0)) then sub l (mul s (quo l s)) else l
def low (l:Ji) (ss:Jq):Ji:=ss.foldl zkO l
theorem zjv {l s:Ji} (h:l.length=s.length):(zkO l s).length=l.length:=by
 unfold zkO
 cases (!decide (quo l s=0))
 ·rfl
 ·show (sub l (mul s (quo l s))).length=_
  rw [zno (by rw [zbt];exact h)]
theorem zhE {l s:Ji} (h:l.length=s.length) (i:Nat):vec (zkO l s) i=vec l i-vec s i*quo l s:=by
 unfold zkO
 by_cases q:quo l s=0
 ·rw [show (!decide (quo l s=0))=false by simp [q],q]
  show vec l i=_
  omega
 ·rw [show (!decide (quo l s=0))=true by simp [q]]
  show vec (sub l (mul s (quo l s))) i=_
  rw [zi4 (by rw [zbt];exact h),zdT]
def Ech (n:Nat):Nat->Jq->Prop
 | _,[]=>True
 | lo,s :: ss=>s.length=n∧lo≤hd s∧hd s<n∧0<vec s (hd s)∧Ech n (hd s+1) ss
def SpL (ss:Jq):Vc->Prop:=Sp (λu=>∃ s∈ss,u=vec s)
theorem Ech.mono {n:Nat}:∀ {ss:Jq} {lo lo':Nat},Ech n lo ss->lo'≤lo->Ech n lo' ss
 | [],_,_,_,_=>trivial
 | s :: ss,lo,lo',h,k=>⟨h.1,Nat.le_trans k h.2.1,h.2.2⟩
theorem Ech.mem {n:Nat}:∀ {ss:Jq} {lo:Nat},Ech n lo ss->∀ t∈ss,t.length=n∧lo≤hd t∧hd t<n∧0<vec t (hd t)
 | [],_,_,t,h=>by simp at h
 | s :: ss,lo,h,t,ht=>by
  rcases List.mem_cons.mp ht with rfl | ht
  ·exact ⟨h.1,h.2.1,h.2.2.1,h.2.2.2.1⟩
  ·obtain ⟨a,b,c,d⟩:=Ech.mem h.2.2.2.2 t ht
   have:=h.2.1
   exact ⟨a,by omega,c,d⟩
theorem Ech.before {n lo i:Nat} {ss:Jq} (h:Ech n lo ss) (hi:i<lo):∀ t∈ss,vec t i=0:=λt ht=>zc7 (by have:=(h.mem t ht).2.1;omega)
theorem SpL.before {n lo i:Nat} {ss:Jq} {u:Vc} (h:Ech n lo ss) (hi:i<lo) (hu:SpL ss u):u i=0:=Sp.at0 (λa ⟨s,hs,e⟩=>by rw [e];exact h.before hi s hs) hu
theorem SpL.cons {s:Ji} {ss:Jq} {u:Vc} (h:SpL (s :: ss) u):∃ w y,SpL ss w∧∀ i,u i=w i+y*vec s i:=by
 have:Sp (λu=>(∃ t∈ss,u=vec t)∨u=vec s) u:=Sp.mono (λa ⟨t,ht,e⟩=>by
  rcases List.mem_cons.mp ht with rfl | ht
  ·exact .inr e
  ·exact .inl ⟨t,ht,e⟩) h
 exact this.split
theorem SpL.mem {ss:Jq} {s:Ji} (h:s∈ss):SpL ss (vec s):=Sp.mem ⟨s,h,rfl⟩
theorem SpL.up {s:Ji} {ss:Jq} {u:Vc} (h:SpL ss u):SpL (s :: ss) u:=Sp.mono (λ_ ⟨t,ht,e⟩=>⟨t,List.mem_cons_of_mem _ ht,e⟩) h
theorem SpL.sub {ss tt:Jq} {u:Vc} (k:∀ s∈ss,SpL tt (vec s)) (h:SpL ss u):SpL tt u:=Sp.sub (λ_ ⟨s,hs,e⟩=>e ▸ k s hs) h
theorem zoC {n:Nat}:∀ {ss:Jq} {lo:Nat} {u:Vc},Ech n lo ss->SpL ss u->(∀ t∈ss,0≤u (hd t)∧u (hd t)<vec t (hd t))->∀ i,u i=0
 | [],_,u,_,h,_,i=>Sp.at0 (λ_ ⟨_,z,_⟩=>by simp at z) h
 | s :: ss,lo,u,e,h,k,i=>by
  obtain ⟨w,y,hw,hu⟩:=h.cons
  have e1:=SpL.before e.2.2.2.2 (Nat.lt_succ_self (hd s)) hw
  have e2:=hu (hd s)
  have e3:=k s List.mem_cons_self
  have e4:=e.2.2.2.1
  rw [e1] at e2
  have y0:y=0:=by
   rw [e2,Int.zero_add] at e3
   refine Classical.byContradiction λq=>?_
   rcases Int.lt_or_gt_of_ne q with q | q
   ·have:=Int.mul_neg_of_neg_of_pos q e4
    omega
   ·have:=Int.mul_le_mul_of_nonneg_right (show (1:Int)≤y by omega) (Int.le_of_lt e4)
    omega
  have hu':∀ i,u i=w i:=λi=>by rw [hu i,y0];omega
  have:u=w:=funext hu'
  subst this
  exact zoC e.2.2.2.2 hw (λt ht=>k t ↑59) i
theorem zky {n:Nat}:∀ {ss:Jq} {lo:Nat} {u:Vc} {t:Ji},Ech n lo ss->SpL ss u->t∈ss->(∀ i,i<hd t->u i=0)->vec t (hd t) ∣ u (hd t)
 | [],_,_,t,_,_,h,_=>by simp at h
 | s :: ss,lo,u,t,e,h,ht,k=>by
  obtain ⟨w,y,hw,hu⟩:=h.cons
  have e1:=SpL.before e.2.2.2.2 (Nat.lt_succ_self (hd s)) hw
  rcases List.mem_cons.mp ht with rfl | ht
  ·rw [hu,e1];exact ⟨y,by grind⟩
  ·have e5:=(Ech.mem e.2.2.2.2 t ht).2.1
   have e6:=hu (hd s)
   rw [k (hd s) ↑0,e1] at e6
   have y0:y=0:=(Int.mul_eq_zero.mp (show y*vec s (hd s)=0 by omega)).resolve_right (by have:=e.2.2.2.1;omega)
   have:u=w:=funext λi=>by rw [hu i,y0];omega
   subst this
   exact zky e.2.2.2.2 hw ht k
theorem zjw {n:Nat}:∀ {ss:Jq} {lo:Nat} {u:Vc} {h:Nat},Ech n lo ss->SpL ss u->(∀ i,i<h->u i=0)->u h≠0->∃ t∈ss,hd t=h
 | [],_,u,h,_,hu,_,q=>(q (Sp.at0 (λ_ ⟨_,z,_⟩=>by simp at z) hu)).elim
 | s :: ss,lo,u,h,e,hu,k,q=>by
  obtain ⟨w,y,hw,hu⟩:=hu.cons
  by_cases z:hd s=h
  ·exact ⟨s,List.mem_cons_self,z⟩
  ·have e1:=SpL.before e.2.2.2.2 (Nat.lt_succ_self (hd s)) hw
   by_cases y0:y=0
   ·have:u=w:=funext λi=>by rw [hu i,y0];omega
    subst this
    obtain ⟨t,ht,e⟩:=zjw e.2.2.2.2 hw k q
    exact ⟨t,List.mem_cons_of_mem _ ht,e⟩
   ·have e6:=hu (hd s)
    rw [e1,Int.zero_add] at e6
    have e7:u (hd s)≠0:=by
     rw [e6];intro z;rcases Int.mul_eq_zero.mp z with z | z
     ·exact y0 z
     ·have:=e.2.2.2.1;omega
    have e8:h<hd s:=Nat.lt_of_not_le λz'=>e7 (k _ ↑0)
    have e9:w h=0:=SpL.before e.2.2.2.2 (Nat.lt_succ_of_lt e8) hw
    rw [hu h,e9,zc7 e8] at q
    simp at q
theorem ze0 {n:Nat}:∀ {ss:Jq} {lo:Nat} {l:Ji},Ech n lo ss->l.length=n →
  (low l ss).length=n∧SpL ss (λi=>vec l i-vec (low l ss) i)∧(∀ t∈ss,0≤vec (low l ss) (hd t)∧vec (low l ss) (hd t)<vec t (hd t))∧∀ i,i<lo->vec (low l ss) i=vec l i
 | [],lo,l,_,h=>⟨h,Sp.zero.conv λi=>by show (0:Int)=vec l i-vec l i;omega,by simp,λ_ _=>rfl⟩
 | s :: ss,lo,l,e,h=>by
  have hl:l.length=s.length:=by rw [h,e.1]
  obtain ⟨a,b,c,d⟩:=ze0 (l:=zkO l s) e.2.2.2.2 (by rw [zjv hl,h])
  refine ⟨a,?_,λt ht=>?_,λi hi=>?_⟩
  ·refine ((SpL.up (s:=s) b).plus (((SpL.mem (ss:=s::ss) List.mem_cons_self)).smul (quo l s))).conv λi=>?_
   rw [zhE hl]
   show vec l i-vec s i*quo l s-vec (low (zkO l s) ss) i+quo l s*vec s i=vec l i-vec (low (zkO l s) ss) i
   rw [Int.mul_comm (quo l s)];omega
  ·rcases List.mem_cons.mp ht with rfl | ht
   ·show 0≤vec (low (zkO l t) ss) (hd t)∧vec (low (zkO l t) ss) (hd t)<_
    rw [d (hd t) (Nat.lt_succ_self _),zhE hl]
    have p:=e.2.2.2.1
    have e1:=Int.mul_ediv_add_emod (vec l (hd t)) ↑108
    have e2:=Int.emod_nonneg (vec l (hd t)) (show vec t (hd t)≠0 by omega)
    have e3:=Int.emod_lt_of_pos (vec l (hd t)) p
    unfold quo
    omega
   ·exact c t ht
  ·show vec (low (zkO l s) ss) i=_
   have:=e.2.1
   rw [d i ↑0,zhE hl,zc7 (show i<hd s by omega)];omega
end Lat
namespace Lat
abbrev G4:=Int×Int×Int×Int
def cmC (s:G4):Bool:=!decide (s.2.1=(0:Int))
def cmF (s:G4):G4:=(s.2.1,s.1-s.1/s.2.1*s.2.1,s.2.2.2,s.2.2.1-s.1/s.2.1*s.2.2.2)
structure GI (one other:Int) (s:G4):Prop where
 g:0<s.1
 m:0≤s.2.1
 gb:s.1≤one+other
 mb:s.2.1≤one+other
 tb:-other≤s.2.2.1∧s.2.2.1≤other
 lb:-other≤s.2.2.2∧s.2.2.2≤other
 sg:(0≤s.2.2.1∧s.2.2.2≤0∧s.2.1*s.2.2.1-s.1*s.2.2.2=other)∨(s.2.2.1≤0∧0≤s.2.2.2∧s.1*s.2.2.2-s.2.1*s.2.2.1=other)
 bg:∃ y,s.1=s.2.2.1*one+y*other
 bm:∃ y,s.2.1=s.2.2.2*one+y*other
 d1:∃ p q,one=p*s.1+q*s.2.1
 d2:∃ p q,other=p*s.1+q*s.2.1
theorem GI.start {one other:Int} (h1:0<one) (h2:0<other):GI one other (one,other,1,0) where
 g:=h1
 m:=by show 0≤other;omega
 gb:=by show one≤one+other;omega
 mb:=by show other≤one+other;omega
 tb:=by show -other≤1∧1≤other;omega
 lb:=by show -other≤0∧0≤other;omega
 sg:=.inl (by show (0:Int)≤1∧(0:Int)≤0∧other*1-one*0=other;omega)
 bg:=⟨0,by show one=1*one+0*other;omega⟩
 bm:=⟨1,by show other=0*one+1*other;omega⟩
 d1:=⟨1,0,by show one=1*one+0*other;omega⟩
 d2:=⟨0,1,by show other=0*one+1*other;omega⟩
theorem GI.step {one other:Int} {s:G4} (I:GI one other s) (hc:cmC s=true):GI one other (cmF s)∧(cmF s).2.1.toNat<s.2.1.toNat:=by
 obtain ⟨g,m,t,l⟩:=s
 obtain ⟨h1,h2,h3,h4,h5,h6,h7,⟨y1,h8⟩,⟨y2,h9⟩,⟨p1,q1,hA⟩,⟨p2,q2,hB⟩⟩:=I
 simp only at h1 h2 h3 h4 h5 h6 h7 h8 h9 hA hB
 have hm:0<m:=by
  unfold cmC at hc
  simp only [Bool.not_eq_true',decide_eq_false_iff_not] at hc
  omega
 have e1:=Int.mul_ediv_add_emod g m
 have e2:=Int.emod_nonneg g (show m≠0 by omega)
 have e3:=Int.emod_lt_of_pos g hm
 have e4:0≤g/m:=Int.ediv_nonneg ↑0 ↑0
 have e5:g-g/m*m=g%m:=by rw [Int.mul_comm];omega
 show GI one other (m,g-g/m*m,l,t-g/m*l)∧(g-g/m*m).toNat<m.toNat
 rw [e5]
 generalize hq:g/m=q at *
 generalize hr:g%m=r at *
 have eg:g=m*q+r:=by omega
 have sg:(0≤l∧t-q*l≤0∧r*l-m*(t-q*l)=other)∨(l≤0∧0≤t-q*l∧m*(t-q*l)-r*l=other):=by
  rcases h7 with ⟨a,b,c⟩ | ⟨a,b,c⟩
  ·refine .inr ⟨b,?_,by grind⟩
   have:=Int.mul_nonneg e4 (show (0:Int)≤-l by omega)
   grind
  ·refine .inl ⟨b,?_,by grind⟩
   have:=Int.mul_nonneg e4 b
   omega
 have hl:-other≤t-q*l∧t-q*l≤other:=by
  rcases sg with ⟨a,b,c⟩ | ⟨a,b,c⟩
  ·have k1:=Int.mul_nonneg e2 a
   have k2:=Int.mul_le_mul_of_nonneg_right (show (1:Int)≤m by omega) (show (0:Int)≤-(t-q*l) by omega)
   have k3:m*-(t-q*l)=-(m*(t-q*l)):=by grind
   rw [k3] at k2
   omega
  ·have k1:=Int.mul_nonneg e2 (show (0:Int)≤-l by omega)
   have k2:=Int.mul_le_mul_of_nonneg_right (show (1:Int)≤m by omega) b
   have k3:r*-l=-(r*l):=by grind
   rw [k3] at k1
   omega
 refine ⟨⟨hm,e2,h4,by show r≤_;omega,h6,hl,sg,⟨y2,h9⟩,⟨y1-q*y2,?_⟩,⟨p1*q+q1,p1,?_⟩,⟨p2*q+q2,p2,?_⟩⟩,by omega⟩
 ·show r=(t-q*l)*one+(y1-q*y2)*other
  grind
 ·show one=(p1*q+q1)*m+p1*r
  grind
 ·show other=(p2*q+q2)*m+p2*r
  grind
structure Cm (one other g x y:Int):Prop where
 pos:0<g
 le:g≤one+other
 xb:-other≤x∧x≤other
 eq:g=x*one+y*other
 d1:one/g*g=one
 d2:other/g*g=other
theorem GI.done {one other:Int} {s:G4} (h2:0<other) (I:GI one other s) (hc:cmC s=false):Cm one other s.1 s.2.2.1 ((s.1-s.2.2.1*one)/other):=by
 obtain ⟨g,m,t,l⟩:=s
 obtain ⟨h1,_,h3,_,h5,_,_,⟨y1,h8⟩,_,⟨p1,q1,hA⟩,⟨p2,q2,hB⟩⟩:=I
 simp only at h1 h3 h5 h8 hA hB
 have hm:m=0:=by
  unfold cmC at hc
  simpa using hc
 subst hm
 have e:(g-t*one)/other=y1:=by
  rw [show g-t*one=y1*other by omega]
  exact Int.mul_ediv_cancel _ ↑0
 refine ⟨h1,h3,h5,?_,?_,?_⟩
 ·show g=t*one+(g-t*one)/other*other
  rw [e];exact h8
 ·exact Int.ediv_mul_cancel ⟨p1,by show one=g*p1;rw [Int.mul_comm];omega⟩
 ·exact Int.ediv_mul_cancel ⟨p2,by show other=g*p2;rw [Int.mul_comm];omega⟩
def mg1 (s l:Ji) (x y:Int):Ji:=add (mul s x) (mul l y)
def mg2 (s l:Ji) (g:Int):Ji:=sub (mul l (vec s (hd s)/g)) (mul s (vec l (hd s)/g))
theorem zhR {s l:Ji} {x y:Int} (h:s.length=l.length) (i:Nat):vec (mg1 s l x y) i=x*vec s i+y*vec l i:=by
 unfold mg1
 rw [zkG (by rw [zbt,zbt,h]),zdT,zdT,Int.mul_comm,Int.mul_comm (vec l i)]
theorem ziZ {s l:Ji} {g:Int} (h:s.length=l.length) (i:Nat):vec (mg2 s l g) i=vec s (hd s)/g*vec l i-vec l (hd s)/g*vec s i:=by
 unfold mg2
 rw [zi4 (by rw [zbt,zbt,h]),zdT,zdT,Int.mul_comm,Int.mul_comm (vec s i)]
theorem znC {s l:Ji} {x y:Int} (h:s.length=l.length):((mg1 s l x y)).length=s.length:=by unfold mg1;rw [zkH (by rw [zbt,zbt,h]),zbt]
theorem zn3 {s l:Ji} {g:Int} (h:s.length=l.length):((mg2 s l g)).length=s.length:=by unfold mg2;rw [zno (by rw [zbt,zbt,h]),zbt,h]
theorem znU {s l:Ji} {g x y:Int} (h:s.length=l.length) (C:Cm (vec s (hd s)) (vec l (hd s)) g x y) (i:Nat) :
  vec s i=vec s (hd s)/g*vec (mg1 s l x y) i-y*vec (mg2 s l g) i∧vec l i=vec l (hd s)/g*vec (mg1 s l x y) i+x*vec (mg2 s l g) i:=by
 rw [zhR h,ziZ h]
 have e1:=C.eq
 have e2:=C.d1
 have e3:=C.d2
 have e4:=C.pos
 generalize vec s (hd s)=a at *
 generalize vec l (hd s)=b at *
 generalize a/g=p at *
 generalize b/g=q at *
 have u:x*p+y*q=1:=by
  have:(x*p+y*q-1)*g=0:=by grind
  rcases Int.mul_eq_zero.mp this with z | z<;>omega
 constructor<;>grind
def upr (l:Ji):Ji:=bif decide (vec l (hd l)<(0:Int)) then mul l ⇑7 else l
theorem znl {l:Ji}:(upr l).length=l.length:=by
 unfold upr
 cases decide (vec l (hd l)<(0:Int))
 ·rfl
 ·exact zbt
theorem zle {l:Ji}:∃ c:Int,c*c=1∧(∀ i,vec (upr l) i=c*vec l i)∧0≤c*vec l (hd l):=by
 unfold upr
 by_cases q:vec l (hd l)<0
 ·rw [show decide (vec l (hd l)<(0:Int))=true by simp [q]]
  exact ⟨-1,by decide,λi=>by show vec (mul l ⇑7) i=_;rw [zdT];omega,by omega⟩
 ·rw [show decide (vec l (hd l)<(0:Int))=false by simp [q]]
  exact ⟨1,by decide,λi=>by show vec l i=_;omega,by omega⟩
theorem zpx {l:Ji} (h:hd l<l.length):hd (upr l)=hd l∧0<vec (upr l) (hd l):=by
 obtain ⟨c,c1,c2,c3⟩:=zle (l:=l)
 have e:=zi8 h
 have c0:c≠0:=by intro z;subst z;simp at c1
 have e1:c*vec l (hd l)≠0:=λz=>by
  rcases Int.mul_eq_zero.mp z with z | z
  ·exact c0 z
  ·exact e z
 refine ⟨zrk (by rw [c2];exact e1) λi hi=>by rw [c2,zc7 hi];simp,by rw [c2];omega⟩
theorem zpA {l:Ji} {ss:Jq} (h:SpL ss (vec l)):SpL ss (vec (upr l)):=by
 obtain ⟨c,_,c2,_⟩:=zle (l:=l)
 exact (Sp.smul c h).conv λi=>(c2 i).symm
theorem znc {l:Ji} {ss:Jq} (h:SpL ss (vec (upr l))):SpL ss (vec l):=by
 obtain ⟨c,c1,c2,_⟩:=zle (l:=l)
 exact (Sp.smul c h).conv λi=>by rw [c2,← Int.mul_assoc,c1,Int.one_mul]
structure Mg where
 f:Int->Int->Int×Int×Int
 ok:∀ a b:Int,0<a->0<b->Cm a b (f a b).1 (f a b).2.1 (f a b).2.2
def tin (M:Mg):Jq->Ji->Jq
 | [],l=>bif decide (hd l<l.length) then [upr l] else []
 | s :: ss,l=>bif decide (hd l<hd s) then upr l :: s :: ss else
   bif decide (hd l=hd s) then mg1 s l (↑187).2.1 (↑187).2.2 :: tin M ss (low (mg2 s l (↑187).1) ss) else s :: tin M ss l
theorem zhG (M:Mg) {n:Nat}:∀ {ss:Jq} {lo:Nat} {l:Ji},Ech n lo ss->l.length=n->(∀ i,i<lo->vec l i=0)->(∀t∈ss,0≤vec l (hd t)∧vec l (hd t)<vec t (hd t))->lo≤n →
  Ech n lo (tin M ss l)∧(tin M ss l).length≤ss.length+1∧(∀ t∈tin M ss l,SpL (l :: ss) (vec t))∧(∀ t∈l :: ss,SpL (tin M ss l) (vec t))
 | [],lo,l,_,hl,h0,_,hlo=>by
  unfold tin
  by_cases q:hd l<l.length
  ·rw [show decide (hd l<l.length)=true by simp [q],cond_true]
   obtain ⟨e1,e2⟩:=zpx q
   refine ⟨⟨by rw [znl,hl],by rw [e1];exact zsV ↑0 h0,by rw [e1];omega,by rw [e1];exact e2,trivial⟩,by simp,λt ht=>?_,λt ht=>?_⟩
   ·rw [List.mem_singleton.mp ht];exact zpA (SpL.mem List.mem_cons_self)
   ·rw [List.mem_singleton.mp ht];exact znc (SpL.mem List.mem_cons_self)
  ·rw [show decide (hd l<l.length)=false by simp [q],cond_false]
   have hz:hd l=l.length:=by have:=zs8 (l:=l);omega
   refine ⟨trivial,by simp,by simp,λt ht=>?_⟩
   rw [List.mem_singleton.mp ht]
   exact Sp.zero.conv λi=>by
    by_cases z:i<l.length
    ·rw [zc7 ↑0]
    ·rw [zc6 ↑0]
 | s :: ss,lo,l,e,hl,h0,hr,hlo=>by
  unfold tin
  have hsl:s.length=l.length:=by rw [e.1,hl]
  by_cases q:hd l<hd s
  ·rw [show decide (hd l<hd s)=true by simp [q],cond_true]
   have hsn:=e.2.2.1
   obtain ⟨e1,e2⟩:=zpx (l:=l) ↑0
   refine ⟨⟨by rw [znl,hl],by rw [e1];exact zsV ↑0 h0,by rw [e1];omega,by rw [e1];exact e2,e.1,by rw [e1];omega,e.2.2⟩,by simp,λt ht=>?_,λt ht=>?_⟩
   ·rcases List.mem_cons.mp ht with rfl | ht
    ·exact zpA (SpL.mem List.mem_cons_self)
    ·exact SpL.mem ↑59
   ·rcases List.mem_cons.mp ht with rfl | ht
    ·exact znc (SpL.mem List.mem_cons_self)
    ·exact SpL.mem ↑59
  ·rw [show decide (hd l<hd s)=false by simp [q],cond_false]
   by_cases z:hd l=hd s
   ·rw [show decide (hd l=hd s)=true by simp [z],cond_true]
    have hb:0<vec l (hd s):=by
     have:=(hr s List.mem_cons_self).1
     have:=zi8 (l:=l) (by rw [z,hl];exact e.2.2.1)
     rw [z] at this;omega
    have C:=M.ok _ _ e.2.2.2.1 hb
    generalize hg:(↑187).1=g at *
    generalize hx:(↑187).2.1=x at *
    generalize hy:(↑187).2.2=y at *
    have f0:∀ i,i<hd s->vec (mg1 s l x y) i=0:=λi hi=>by rw [zhR hsl,zc7 hi,zc7 (show i<hd l by omega)];omega
    have f1:vec (mg1 s l x y) (hd s)=g:=by rw [zhR hsl];exact C.eq.symm
    have f2:hd (mg1 s l x y)=hd s:=zrk (by rw [f1];have:=C.pos;omega) f0
    have g0:∀ i,i<hd s+1->vec (mg2 s l g) i=0:=λi hi=>by
     rw [ziZ hsl]
     by_cases zi:i=hd s
     ·subst zi
      have:=C.d1;have:=C.d2
      generalize vec s (hd s)/g=p at *
      generalize vec l (hd s)/g=r at *
      generalize vec s (hd s)=a at *
      generalize vec l (hd s)=b at *
      grind
     ·rw [zc7 (show i<hd s by omega),zc7 (show i<hd l by omega)];omega
    obtain ⟨k1,k2,k3,k4⟩:=ze0 (l:=mg2 s l g) e.2.2.2.2 (by rw [zn3 hsl,e.1])
    obtain ⟨i1,i2,i3,i4⟩:=zhG M (l:=low (mg2 s l g) ss) e.2.2.2.2 k1 (λi hi=>by rw [k4 i hi,g0 i hi]) k3 (by have:=e.2.2.1;omega)
    have low_in:∀ {tt:Jq},(∀ t∈ss,SpL tt (vec t))->SpL tt (vec (mg2 s l g))->SpL tt (vec (low (mg2 s l g) ss)):=λh1 h2=>(Sp.lin 1 (-1) h2 (k2.sub h1)).conv λi=>by omega
    have low_out:∀ {tt:Jq},(∀ t∈ss,SpL tt (vec t))->SpL tt (vec (low (mg2 s l g) ss))->SpL tt (vec (mg2 s l g)):=λh1 h2=>(Sp.plus h2 (k2.sub h1)).conv λi=>by omega
    have hS:SpL (l :: s :: ss) (vec s):=SpL.mem (List.mem_cons_of_mem _ List.mem_cons_self)
    have hL:SpL (l :: s :: ss) (vec l):=SpL.mem List.mem_cons_self
    refine ⟨⟨by rw [znC hsl,e.1],by rw [f2];exact e.2.1,by rw [f2];exact e.2.2.1,by rw [f2,f1];exact C.pos,by rw [f2];exact i1⟩,by simp only [List.length_cons];omega,λt ht=>?_,λt ht=>?_⟩
    ·rcases List.mem_cons.mp ht with rfl | ht
     ·exact (Sp.lin x y hS hL).conv λi=>(zhR hsl i).symm
     ·refine (i3 t ht).sub λv hv=>?_
      rcases List.mem_cons.mp hv with rfl | hv
      ·refine low_in (λt ht=>SpL.mem (List.mem_cons_of_mem _ ↑59)) ((Sp.lin (vec s (hd s)/g) (-(vec l (hd s)/g)) hL hS).conv λi=>?_)
       rw [ziZ hsl];grind
      ·exact SpL.mem (List.mem_cons_of_mem _ ↑231)
    ·have u1:∀ v∈low (mg2 s l g) ss :: ss,SpL (mg1 s l x y::tin M ss (low (mg2 s l g) ss)) (vec v):=λv hv=>(i4 v hv).up
     have u2:=low_out (λt ht=>u1 t ↑59) (u1 _ List.mem_cons_self)
     have u3:SpL (mg1 s l x y::tin M ss (low (mg2 s l g) ss)) (vec (mg1 s l x y)):=SpL.mem List.mem_cons_self
     rcases List.mem_cons.mp ht with rfl | ht
     ·exact (Sp.lin (vec t (hd s)/g) x u3 u2).conv λi=>((znU hsl C i).2).symm
     ·rcases List.mem_cons.mp ht with rfl | ht
      ·exact (Sp.lin (vec t (hd t)/g) (-y) u3 u2).conv λi=>by rw [(znU hsl C i).1];grind
      ·exact u1 t ↑59
   ·rw [show decide (hd l=hd s)=false by simp [z],cond_false]
    obtain ⟨i1,i2,i3,i4⟩:=zhG M (l:=l) e.2.2.2.2 hl (λi hi=>zc7 ↑0) (λt ht=>hr t ↑59) (by have:=e.2.2.1;omega)
    refine ⟨⟨e.1,e.2.1,e.2.2.1,e.2.2.2.1,i1⟩,by simp only [List.length_cons];omega,λt ht=>?_,λt ht=>?_⟩
    ·rcases List.mem_cons.mp ht with rfl | ht
     ·exact SpL.mem (List.mem_cons_of_mem _ List.mem_cons_self)
     ·refine (i3 t ht).sub λv hv=>?_
      rcases List.mem_cons.mp hv with rfl | hv
      ·exact SpL.mem List.mem_cons_self
      ·exact SpL.mem (List.mem_cons_of_mem _ ↑231)
    ·rcases List.mem_cons.mp ht with rfl | ht
     ·exact (i4 t List.mem_cons_self).up
     ·rcases List.mem_cons.mp ht with rfl | ht
      ·exact SpL.mem List.mem_cons_self
      ·exact (i4 t ↑59).up
def stl:Jq->Jq
 | []=>[]
 | s :: ss=>low s (stl ss) :: stl ss
def Red:Jq->Prop
 | []=>True
 | s :: ss=>(∀ t∈ss,0≤vec s (hd t)∧vec s (hd t)<vec t (hd t))∧Red ss
theorem zlo {n:Nat}:∀ {ss:Jq} {lo:Nat},Ech n lo ss->Ech n lo (stl ss)∧Red (stl ss)∧(stl ss).length=ss.length∧(∀ t∈stl ss,SpL ss (vec t))∧∀ t∈ss,SpL (stl ss) (vec t)
 | [],_,_=>⟨trivial,trivial,rfl,by simp [stl],by simp⟩
 | s :: ss,lo,e=>by
  obtain ⟨a,b,c,d,f⟩:=zlo e.2.2.2.2
  obtain ⟨k1,k2,k3,k4⟩:=ze0 (l:=s) a e.1
  have h1:hd (low s (stl ss))=hd s:=zrk (by rw [k4 _ (Nat.lt_succ_self _)];have:=e.2.2.2.1;omega) λi hi=>by rw [k4 _ ↑0,zc7 hi]
  refine ⟨⟨k1,by rw [h1];exact e.2.1,by rw [h1];exact e.2.2.1,by rw [h1,k4 _ (Nat.lt_succ_self _)];exact e.2.2.2.1,by rw [h1];exact a⟩,⟨k3,b⟩,by simp [stl,c],λt ht=>?_,λt ht=>?_⟩
  ·rcases List.mem_cons.mp ht with rfl | ht
   ·exact (Sp.lin 1 (-1) (SpL.mem (ss:=s::ss) List.mem_cons_self) (k2.sub λv hv=>(d v hv).up)).conv λi=>by omega
   ·exact (d t ht).up
  ·rcases List.mem_cons.mp ht with rfl | ht
   ·exact (Sp.plus (SpL.mem (ss:=stl (t :: ss)) (s:=low t (stl ss)) List.mem_cons_self) (k2.sub λv hv=>SpL.mem ↑231)).conv λi=>by omega
   ·exact (f t ht).up
def clm (M:Mg) (rows:Jq):Jq:=rows.foldl (λss r=>stl (tin M ss (low r ss))) []
structure Stairs (n:Nat) (rows ss:Jq):Prop where
 ech:Ech n 0 ss
 red:Red ss
 inn:∀ t∈ss,SpL rows (vec t)
 out:∀ r∈rows,SpL ss (vec r)
theorem Stairs.nil {n:Nat}:Stairs n [] []:=⟨trivial,trivial,by simp,by simp⟩
theorem Stairs.step {n:Nat} {rows ss:Jq} {r:Ji} (M:Mg) (h:Stairs n rows ss) (hr:r.length=n):Stairs n (rows++[r]) (stl (tin M ss (low r ss)))∧(stl (tin M ss (low r ss))).length≤ss.length+1:=by
 obtain ⟨k1,k2,k3,_⟩:=ze0 (l:=r) h.ech hr
 obtain ⟨t1,t2,t3,t4⟩:=zhG M h.ech k1 (λi hi=>absurd hi (Nat.not_lt_zero i)) k3 (Nat.zero_le n)
 obtain ⟨s1,s2,s3,s4,s5⟩:=zlo t1
 have inn:∀ t∈ss,SpL (rows++[r]) (vec t):=λt ht=>(h.inn t ht).sub λv hv=>SpL.mem (List.mem_append_left _ hv)
 have hr':SpL (rows++[r]) (vec r):=SpL.mem (List.mem_append_right _ List.mem_cons_self)
 have f1:∀ t∈low r ss :: ss,SpL (stl (tin M ss (low r ss))) (vec t):=λt ht=>(t4 t ht).sub s5
 refine ⟨⟨s1,s2,λt ht=>(s4 t ht).sub λv hv=>(t3 v hv).sub λw hw=>?_,λt ht=>?_⟩,by rw [s3];exact t2⟩
 ·rcases List.mem_cons.mp hw with rfl | hw
  ·exact (Sp.lin 1 (-1) hr' (k2.sub inn)).conv λi=>by omega
  ·exact inn w hw
 ·rcases List.mem_append.mp ht with ht | ht
  ·exact (h.out t ht).sub λv hv=>f1 v ↑231
  ·rw [List.mem_singleton.mp ht]
   exact (Sp.plus (f1 _ List.mem_cons_self) (k2.sub λv hv=>f1 v ↑231)).conv λi=>by omega
end Lat
namespace Lat
theorem zmM {n:Nat}:∀ {ss:Jq} {lo:Nat},Ech n lo ss->Red ss->∀ t∈ss,∀ t'∈ss,hd t'<hd t∨t=t'∨(0≤vec t (hd t')∧vec t (hd t')<vec t' (hd t'))
 | [],_,_,_,t,h,_,_=>by simp at h
 | s :: ss,lo,e,r,t,ht,t',ht'=>by
  rcases List.mem_cons.mp ht with h1 | h1
  ·rcases List.mem_cons.mp ht' with h2 | h2
   ·exact .inr (.inl (h1.trans h2.symm))
   ·rw [h1];exact .inr (.inr (r.1 t' h2))
  ·rcases List.mem_cons.mp ht' with h2 | h2
   ·rw [h2]
    have:=(Ech.mem e.2.2.2.2 t h1).2.1
    exact .inl ↑0
   ·exact zmM e.2.2.2.2 r.2 t h1 t' h2
theorem znD {n:Nat}:∀ {ss:Jq} {lo:Nat},Ech n lo ss->lo≤n->ss.length+lo≤n
 | [],_,_,h=>by simpa using h
 | s :: ss,lo,e,h=>by
  have:=znD e.2.2.2.2 (by have:=e.2.2.1;omega)
  have:=e.2.1
  simp only [List.length_cons]
  omega
abbrev Rw (rows:Jq):Vc->Prop:=λu=>∃ r∈rows,u=vec r
theorem zlK {B E R:Nat} (hE:bnd R B B≤E):∀ (k:Nat) (rows:Jq),rows.length=k->k≤R+1->(∀ r∈rows,∀ x∈r,x.natAbs≤B)->∃ hs as,Wit (Rw rows) B E hs as∧as.length≤rows.length
 | 0,rows,h,_,_=>by
  rw [List.length_eq_zero_iff.mp h]
  refine ⟨[],[],?_,by simp⟩
  have e:Rw []=λ_=>False:=funext λu=>propext ⟨λ⟨_,z,_⟩=>by simp at z,λz=>z.elim⟩
  rw [e]
  exact Wit.nil
 | k+1,rows,h,hk,hb=>by
  have hne:rows≠[]:=by intro z;rw [z] at h;simp at h
  obtain ⟨rs,r,rfl⟩:∃ rs r,rows=rs++[r]:=⟨rows.dropLast,rows.getLast hne,(List.dropLast_concat_getLast hne).symm⟩
  have hl:rs.length=k:=by simpa using h
  obtain ⟨hs,as,W,h1⟩:=zlK hE k rs hl ↑0 λr hr=>hb r (List.mem_append_left _ hr)
  obtain ⟨hs',as',W',h2⟩:=W.step (a:=vec r) (λi=>zpQ (hb r (List.mem_append_right _ List.mem_cons_self)) i) (Nat.le_trans (zlT ↑0) hE)
  refine ⟨hs',as',?_,by simp only [List.length_append,List.length_singleton];omega⟩
  have e:Rw (rs++[r])=λu=>Rw rs u∨u=vec r:=funext λu=>propext ⟨λ⟨s,hs,e⟩=>by
   rcases List.mem_append.mp hs with z | z
   ·exact .inl ⟨s,z,e⟩
   ·rw [List.mem_singleton.mp z] at e;exact .inr e,λz=>by
   rcases z with ⟨s,hs,e⟩ | z
   ·exact ⟨s,List.mem_append_left _ hs,e⟩
   ·exact ⟨r,List.mem_append_right _ List.mem_cons_self,z⟩⟩
  rw [e]
  exact W'
theorem Stairs.wit {n B E:Nat} {rows ss:Jq} {hs:List Nat} {as:List Vc} (h:Stairs n rows ss) (W:Wit (Rw rows) B E hs as) (hBE:B≤E):∀ t∈ss,(↑108).natAbs≤E∧∀ i,(vec t i).natAbs≤bnd as.length B E:=by
 have hd1:∀ t∈ss,(↑108).natAbs≤E:=λt ht=>by
  obtain ⟨m1,m2,m3,m4⟩:=h.ech.mem t ht
  obtain ⟨v,v1,v2,v3,v4⟩:=W.hd _ (W.head (h.inn t ht) (λi hi=>zc7 hi) ↑0)
  have d:=zky h.ech (v1.sub λa ⟨r,hr,e⟩=>e ▸ h.out r hr) ht v2
  exact Nat.le_trans (Nat.le_of_dvd (Int.natAbs_pos.mpr v3) (Int.natAbs_dvd_natAbs.mpr d)) (v4 _)
 refine λt ht=>⟨hd1 t ht,λi=>W.small hBE (h.inn t ht) (λg hg=>?_) i⟩
 obtain ⟨v,v1,v2,v3,v4⟩:=W.hd g hg
 obtain ⟨t',ht',rfl⟩:=zjw h.ech (v1.sub λa ⟨r,hr,e⟩=>e ▸ h.out r hr) v2 v3
 rcases zmM h.ech h.red t ht t' ht' with z | rfl | ⟨z1,z2⟩
 ·rw [zc7 z];exact Nat.zero_le _
 ·exact hd1 t ht
 ·have:=hd1 t' ht';omega
theorem zli {k R b c:Nat} (hk:k≤R) (hR:R≤31) (hbc:b≤c):bnd k (2^b) (2^c)≤2^((c+7)*(R+1)):=by
 refine Nat.le_trans (zlT hk) ?_
 unfold bnd
 have h1:R+1≤2^5:=by omega
 have h2:2*((R+1)*2^c)+1≤2^(c+7):=by
  have e1:(R+1)*2^c≤2^5*2^c:=Nat.mul_le_mul_right _ h1
  have e2:2^(c+7)=4*(2^5*2^c):=by rw [Nat.pow_add];omega
  have e3:0<2^c:=Nat.pow_pos ⇑1
  omega
 calc (R+1)*((2*((R+1)*2^c)+1)^R*2^b)≤2^5*((2^(c+7))^R*2^b):=Nat.mul_le_mul h1 (Nat.mul_le_mul_right _ (Nat.pow_le_pow_left h2 _))
  _=2^(5+((c+7)*R+b)):=by rw [← Nat.pow_mul,← Nat.pow_add,← Nat.pow_add]
  _≤2^((c+7)*(R+1)):=Nat.pow_le_pow_right ⇑1 (by rw [Nat.mul_add];omega)
def Bit (a:Nat) (l:Ji):Prop:=∀ x∈l,x.natAbs≤2^a
theorem Bit.vec {a:Nat} {l:Ji} (h:Bit a l) (i:Nat):(vec l i).natAbs≤2^a:=zpQ h i
theorem Bit.of {a:Nat} {l:Ji} (h:∀ i,(Lat.vec l i).natAbs≤2^a):Bit a l:=λx hx=>by
 obtain ⟨i,_,rfl⟩:=zod hx
 exact h i
theorem Bit.mono {a b:Nat} {l:Ji} (h:Bit a l) (k:a≤b):Bit b l:=λx hx=>Nat.le_trans (h x hx) (Nat.pow_le_pow_right ⇑1 k)
def eB (b R:Nat):Nat:=(b+7)*(R+1)
def sB (b R:Nat):Nat:=(eB b R+7)*(R+1)
theorem Stairs.bits {n b R:Nat} {rows ss:Jq} (h:Stairs n rows ss) (hR:R≤31) (hr:rows.length≤R) (hb:∀ r∈rows,Bit b r):∀ t∈ss,(↑108).natAbs≤2^eB b R∧Bit (sB b R) t:=by
 obtain ⟨hs,as,W,hl⟩:=zlK (B:=2^b) (E:=2^eB b R) (R:=R) (zli ↑11 hR ↑11) rows.length rows rfl ↑0 hb
 have e:b≤eB b R:=by unfold eB;exact Nat.le_trans ↑0 (Nat.le_mul_of_pos_right _ (Nat.succ_pos R))
 refine λt ht=>?_
 obtain ⟨a1,a2⟩:=h.wit W (Nat.pow_le_pow_right ⇑1 e) t ht
 exact ⟨a1,Bit.of λi=>Nat.le_trans (a2 i) (zli (Nat.le_trans hl hr) hR e)⟩
theorem zfS {x y a b:Nat} (h1:x≤2^a) (h2:y≤2^b):x*y≤2^(a+b):=by rw [Nat.pow_add];exact Nat.mul_le_mul h1 h2
theorem zhD {x d:Int} (_h:0<d):(x/d).natAbs≤x.natAbs:=by
 have:=Int.natAbs_ediv_le_natAbs x d
 exact this
structure Sd (n s:Nat) (t:Ji):Prop where
 len:t.length=n
 hd:hd t<n
 pos:0<vec t (Lat.hd t)
 top:(vec t (Lat.hd t)).natAbs≤2^8980
 bit:Bit s t
theorem zpG {n s a:Nat} {l t:Ji} (T:Sd n s t) (hb:Bit a l):(quo l t).natAbs≤2^a:=Nat.le_trans (zhD T.pos) (hb.vec _)
theorem zlM {n s a:Nat} {l t:Ji} (T:Sd n s t) (hl:l.length=n) (hb:Bit a l):Bit (a+(s+1)) (zkO l t):=Bit.of λi=>by
 rw [zhE (by rw [hl,T.len])]
 have e1:=hb.vec i
 have e2:(vec t i*quo l t).natAbs≤2^(s+a):=by rw [Int.natAbs_mul];exact zfS (T.bit.vec i) (zpG T hb)
 have e3:2^a≤2^(s+a):=Nat.pow_le_pow_right ⇑1 ↑0
 have e4:2^(a+(s+1))=2^(s+a)+2^(s+a):=by rw [show a+(s+1)=(s+a)+1 by omega,Nat.pow_succ];omega
 omega
theorem ziq {n s:Nat}:∀ {ss:Jq} {a:Nat} {l:Ji},(∀ t∈ss,Sd n s t)->l.length=n->Bit a l->Bit (a+ss.length*(s+1)) (low l ss)
 | [],a,l,_,_,h=>by simpa [low] using h
 | t :: ss,a,l,T,hl,h=>by
  have T1:=T t List.mem_cons_self
  have:=ziq (ss:=ss) (λt ht=>T t ↑59) (by rw [zjv (by rw [hl,T1.len]),hl]) (zlM T1 hl h)
  refine Bit.mono this ?_
  rw [List.length_cons,Nat.succ_mul]
  omega
theorem Cm.bd {one other g x y:Int} (C:Cm one other g x y) (h2:0<other) (hy:y=(g-x*one)/other) {c:Nat} (b1:one.natAbs≤2^c) (b2:other.natAbs≤2^c):g.natAbs≤2^(c+1)∧x.natAbs≤2^c∧y.natAbs≤2^(2*c+2):=by
 have e1:=C.le
 have e2:=C.xb
 have e3:=C.pos
 have g1:g.natAbs≤2^(c+1):=by
  rw [Nat.pow_succ]
  omega
 have x1:x.natAbs≤2^c:=by omega
 refine ⟨g1,x1,?_⟩
 rw [hy]
 refine Nat.le_trans (zhD h2) ?_
 have e4:(x*one).natAbs≤2^(c+c):=by rw [Int.natAbs_mul];exact zfS x1 b1
 have e5:2^(c+1)≤2^(c+c+1):=Nat.pow_le_pow_right ⇑1 ↑0
 have e6:2^(2*c+2)=2^(c+c+1)+2^(c+c+1):=by rw [show 2*c+2=(c+c+1)+1 by omega,Nat.pow_succ];omega
 have e7:2^(c+c)≤2^(c+c+1):=Nat.pow_le_pow_right ⇑1 ↑0
 omega
theorem zg7 {a g:Int} (hg:0<g) {c:Nat} (h:a.natAbs≤2^c):(a/g).natAbs≤2^c:=Nat.le_trans (zhD hg) h
theorem zqR {n s a:Nat} {l t:Ji} {g x y:Int} (T:Sd n s t) (hl:l.length=n) (hb:Bit a l) (C:Cm ↑108 (vec l (hd t)) g x y) (hlt:vec l (hd t)<vec t (hd t)) (h0:0≤vec l (hd t)):Bit (a+(s+8982)) (mg2 t l g):=Bit.of λi=>by
 rw [ziZ (by rw [hl,T.len])]
 have e1:(vec t (hd t)/g*vec l i).natAbs≤2^(8980+a):=by rw [Int.natAbs_mul];exact zfS (zg7 C.pos T.top) (hb.vec i)
 have e2:(vec l (hd t)/g*vec t i).natAbs≤2^(8980+s):=by rw [Int.natAbs_mul];exact zfS (zg7 C.pos (by have:=T.top;omega)) (T.bit.vec i)
 have e3:2^(8980+a)≤2^(a+(s+8981)):=Nat.pow_le_pow_right ⇑1 ↑0
 have e4:2^(8980+s)≤2^(a+(s+8981)):=Nat.pow_le_pow_right ⇑1 ↑0
 have e5:2^(a+(s+8982))=2^(a+(s+8981))+2^(a+(s+8981)):=by rw [show a+(s+8982)=(a+(s+8981))+1 by omega,Nat.pow_succ];omega
 omega
theorem zro {n s a:Nat} {l t:Ji} {x y:Int} (T:Sd n s t) (hl:l.length=n) (hb:Bit a l) (hx:x.natAbs≤2^8980) (hy:y.natAbs≤2^17962):Bit (a+(s+17964)) (mg1 t l x y):=Bit.of λi=>by
 rw [zhR (by rw [hl,T.len])]
 have e1:(x*vec t i).natAbs≤2^(8980+s):=by rw [Int.natAbs_mul];exact zfS hx (T.bit.vec i)
 have e2:(y*vec l i).natAbs≤2^(17962+a):=by rw [Int.natAbs_mul];exact zfS hy (hb.vec i)
 have e3:2^(8980+s)≤2^(a+(s+17963)):=Nat.pow_le_pow_right ⇑1 ↑0
 have e4:2^(17962+a)≤2^(a+(s+17963)):=Nat.pow_le_pow_right ⇑1 ↑0
 have e5:2^(a+(s+17964))=2^(a+(s+17963))+2^(a+(s+17963)):=by rw [show a+(s+17964)=(a+(s+17963))+1 by omega,Nat.pow_succ];omega
 omega
theorem znH {a:Nat} {l:Ji} (h:Bit a l):Bit a (upr l):=by
 unfold upr
 cases decide (vec l (hd l)<(0:Int))
 ·exact h
 ·exact Bit.of λi=>by
   show (vec (mul l ⇑7) i).natAbs≤_
   rw [zdT]
   have:=h.vec i
   omega
end Lat
namespace Lat
open L2
theorem zb0 (l:Ji) (k:Nat):ixD l (k:Int)=vec l k:=by
 by_cases h:k<l.length
 ·rw [zcr (List.getElem?_eq_getElem h)]
  simp [vec,List.getD_eq_getElem?_getD,List.getElem?_eq_getElem h]
 ·rw [zc6 ↑0]
  unfold ixD atI ixN
  rw [if_pos ↑0,if_neg ↑0]
  rfl
theorem zgT {lo:Int} {n:Nat}:zbo lo (n+1)=lo :: zbo (lo+1) n:=by
 unfold zbo
 rw [List.range_succ_eq_map,List.map_cons,List.map_map]
 congr 1
 ·simp
 ·exact List.map_congr_left λi _=>by show lo+((i+1:Nat):Int)=lo+1+(i:Int);omega
abbrev hdB:Unit->Int×Int->Unit ⊕ Int:=λ_ x=>bif (!decide (x.2=(0:Int))) then (Sum.inr x.1) else (Sum.inl ())
theorem znY:∀ (xs:Ji) (lo:Int),zmn (zcm hdB () ((zbo lo xs.length).zip xs)) (λ(_:Unit)=>lo+(xs.length:Int)) (λb=>b)=lo+(hd xs:Int)
 | [],lo=>rfl
 | x :: xs,lo=>by
  rw [List.length_cons,zgT,List.zip_cons_cons]
  unfold zcm hd
  cases q:(!decide (x=(0:Int))) with
  | true =>
   rw [show hdB () (lo,x)=.inr lo by unfold hdB;dsimp only;rw [q];rfl]
   show lo=lo+((0:Nat):Int)
   omega
  | false =>
   rw [show hdB () (lo,x)=.inl () by unfold hdB;dsimp only;rw [q];rfl]
   have:=znY xs (lo+1)
   have e:(λ(_:Unit)=>lo+1+(xs.length:Int))=(λ(_:Unit)=>lo+((xs.length+1:Nat):Int)):=funext λ_=>by omega
   rw [e] at this
   show zmn (zcm hdB () ((zbo (lo+1) xs.length).zip xs)) _ _=_
   rw [this]
   show lo+1+(hd xs:Int)=lo+((hd xs+1:Nat):Int)
   omega
theorem zud (xs:Ji):zmn (zcm hdB () (zhL xs)) (λ(_:Unit)=>((xs.length:Nat):Int)) (λb=>b)=(hd xs:Int):=by
 have:=znY xs 0
 simp only [Int.zero_add] at this
 exact this
theorem zgI {α:Type} {xs:List α} {k:Nat}:cutD xs (some (k:Int)) none=xs.drop k:=by
 unfold cutD
 rw [HT.sIx_nat,HT.sIx_none]
 by_cases h:k≤xs.length
 ·rw [Nat.min_eq_left h,List.take_of_length_le ↑256]
 ·rw [Nat.min_eq_right ↑0,List.drop_eq_nil_of_le ↑0,List.drop_eq_nil_of_le ↑0];simp
def cmn (a b:Int):T3 Int Int Int:=Let (whl cmC cmF b.toNat (a,b,(1:Int),(0:Int))) (λ(r:G4)=>T3.mk r.1 r.2.2.1 ((r.1-(r.2.2.1*a))/b))
theorem zm8 {a b:Int} (h1:0<a) (h2:0<b):Cm a b (cmn a b).a (cmn a b).b (cmn a b).c:=by
 obtain ⟨i1,i2⟩:=zhM (n:=b.toNat) (c:=cmC) (f:=cmF) (I:=GI a b) (μ:=λs=>s.2.1.toNat) (λs h c=>h.step c) (GI.start h1 h2) ↑11
 exact i1.done h2 i2
theorem zuL {a b:Int}:(cmn a b).c=((cmn a b).a-(cmn a b).b*a)/b:=rfl
def MG:Mg:=⟨λa b=>((cmn a b).a,(cmn a b).b,(cmn a b).c),λ_ _ h1 h2=>zm8 h1 h2⟩
def mrg (s l:Ji):Ji×Ji:=(mg1 s l ((cmn (vec s (hd s)) (vec l (hd s)))).b ((cmn (vec s (hd s)) (vec l (hd s)))).c,mg2 s l ((cmn (vec s (hd s)) (vec l (hd s)))).a)
theorem zlD {s:Ji} {ss:Jq} {l:Ji}:tin MG (s :: ss) l=bif decide (hd l<hd s) then upr l :: s :: ss else bif decide (hd l=hd s) then (mrg s l).1 :: tin MG ss (low (mrg s l).2 ss) else s :: tin MG ss l:=rfl
abbrev TS2:=Jq×Ji
def zmq (steps:Jq):TS2->Int×Ji->TS2 ⊕ Jq:=λs x =>
 bif decide ((hd s.2:Int)<(hd x.2:Int)) then (Sum.inr ((s.1++[upr s.2])++(cutD steps (some x.1) none)))
 else Let (bif decide ((hd s.2:Int)=(hd x.2:Int)) then (s.1++[(mrg x.2 s.2).1]) else (s.1++[x.2])) (λ(g:Jq) =>
  Let (bif decide ((hd s.2:Int)=(hd x.2:Int)) then (low ((mrg x.2 s.2).2) (cutD steps (some (x.1+(1:Int))) none)) else s.2) (λ(l:Ji)=>Sum.inl (g,l)))
abbrev ztC:TS2->Jq:=λr=>Let (bif decide ((hd r.2:Int)<((r.2.length:Nat):Int)) then (r.1++[upr r.2]) else r.1) (λ(g:Jq)=>g)
theorem zji {steps:Jq}:∀ (ss:Jq) (k:Nat) (g:Jq) (l:Ji),steps.drop k=ss->zmn (zcm (zmq steps) (g,l) ((zbo (k:Int) ss.length).zip ss)) ztC (λb=>b)=g++tin MG ss l
 | [],k,g,l,_=>by
  show ztC (g,l)=_
  unfold ztC Let tin
  dsimp only
  by_cases q:hd l<l.length
  ·rw [show decide ((hd l:Int)<((l.length:Nat):Int))=true by simp [q],show decide (hd l<l.length)=true by simp [q]];rfl
  ·rw [show decide ((hd l:Int)<((l.length:Nat):Int))=false by simpa using q,show decide (hd l<l.length)=false by simp [q]]
   simp
 | s :: ss,k,g,l,e=>by
  have e':steps.drop (k+1)=ss:=by rw [← List.drop_drop,e];rfl
  have e2:((k:Int)+(1:Int))=((k+1:Nat):Int):=by omega
  rw [List.length_cons,zgT,List.zip_cons_cons,zlD]
  unfold zcm
  by_cases q:hd l<hd s
  ·rw [show zmq steps (g,l) ((k:Int),s)=.inr ((g++[upr l])++(s :: ss)) by
    unfold zmq;dsimp only
    rw [show decide ((hd l:Int)<(hd s:Int))=true by simp [q],cond_true,zgI,e]]
   rw [show decide (hd l<hd s)=true by simp [q],cond_true]
   show (g++[upr l])++(s :: ss)=_
   simp
  ·rw [show decide (hd l<hd s)=false by simp [q],cond_false]
   have q':decide ((hd l:Int)<(hd s:Int))=false:=by simp;omega
   by_cases z:hd l=hd s
   ·rw [show zmq steps (g,l) ((k:Int),s)=.inl (g++[(mrg s l).1],low (mrg s l).2 ss) by
     unfold zmq Let;dsimp only
     rw [q',show decide ((hd l:Int)=(hd s:Int))=true by simp [z],cond_false,cond_true,cond_true,e2,zgI,e']]
    rw [show decide (hd l=hd s)=true by simp [z],cond_true]
    show zmn (zcm (zmq steps) _ ((zbo ((k:Int)+1) ss.length).zip ss)) _ _=_
    rw [e2,zji ss (k+1) _ _ e']
    simp
   ·rw [show zmq steps (g,l) ((k:Int),s)=.inl (g++[s],l) by
     unfold zmq Let;dsimp only
     rw [q',show decide ((hd l:Int)=(hd s:Int))=false by simp;omega,cond_false,cond_false,cond_false]]
    rw [show decide (hd l=hd s)=false by simp [z],cond_false]
    show zmn (zcm (zmq steps) _ ((zbo ((k:Int)+1) ss.length).zip ss)) _ _=_
    rw [e2,zji ss (k+1) _ _ e']
    simp
theorem zvi (steps:Jq) (l:Ji):zmn (zcm (zmq steps) ([],l) (zhL steps)) ztC (λb=>b)=tin MG steps l:=by
 have:=zji (steps:=steps) steps 0 [] l rfl
 simp only [List.nil_append] at this
 exact this
theorem zvc:∀ (ss:Jq),List.foldl (λ(s:Jq) (x:Ji)=>[low x s]++s) [] ss.reverse=stl ss
 | []=>rfl
 | s :: ss=>by
  rw [List.reverse_cons,List.foldl_append,zvc ss]
  rfl
theorem zlp:∀ {ss:Jq} {j:Nat},stl (ss.drop j)=(stl ss).drop j
 | [],j=>by simp [stl]
 | s :: ss,0=>rfl
 | s :: ss,j+1=>by rw [List.drop_succ_cons,zlp];rfl
theorem zdK.of {x y:Int} {a b:Nat} (h1:x.natAbs≤2^a) (h2:y.natAbs≤2^b) (ha:a≤50000000) (hb:b≤50000000):zdK x y :=
 .inr (.inr ⟨zmQ (k:=a+1) (by have:2^a<2^(a+1):=Nat.pow_lt_pow_right ⇑1 (Nat.lt_succ_self a);omega) ↑0 ↑0,zmQ (k:=b+1) (by have:2^b<2^(b+1):=Nat.pow_lt_pow_right ⇑1 (Nat.lt_succ_self b);omega) ↑0 ↑0⟩)
theorem zgy.of {x y:Int} {b:Nat} (h:0<y) (h2:y.natAbs≤2^b) (hb:b≤8990):zgy x y :=
 ⟨h,zmQ (k:=b+1) (by have:2^b<2^(b+1):=Nat.pow_lt_pow_right ⇑1 (Nat.lt_succ_self b);omega) ↑0 ↑0⟩
def zld (a b:Int):Prop:=0<a∧0<b∧a.natAbs≤2^8980∧b.natAbs≤2^8980
section
variable {one other:Int} {s:G4}
theorem GI.gn (I:GI one other s) (h:zld one other):s.1.natAbs≤2^8981:=by
 have:=I.g;have:=I.gb;obtain ⟨h1,h2,h3,h4⟩:=h
 rw [Nat.pow_succ]
 omega
theorem GI.mn (I:GI one other s) (h:zld one other):s.2.1.natAbs≤2^8981:=by
 have:=I.m;have:=I.mb;obtain ⟨h1,h2,h3,h4⟩:=h
 rw [Nat.pow_succ]
 omega
theorem GI.tn (I:GI one other s) (h:zld one other):s.2.2.1.natAbs≤2^8980:=by
 have:=I.tb;obtain ⟨h1,h2,h3,h4⟩:=h
 omega
theorem GI.ln (I:GI one other s) (h:zld one other):s.2.2.2.natAbs≤2^8980:=by
 have:=I.lb;obtain ⟨h1,h2,h3,h4⟩:=h
 omega
theorem GI.pos (I:GI one other s) (hc:(!decide (s.2.1=(0:Int)))=true):0<s.2.1:=by
 have:=I.m
 simp only [Bool.not_eq_true',decide_eq_false_iff_not] at hc
 omega
theorem GI.div (I:GI one other s) (h:zld one other) (hc:(!decide (s.2.1=(0:Int)))=true):zgy s.1 s.2.1:=zgy.of (I.pos hc) (I.mn h) ⇑1
theorem GI.mul1 (I:GI one other s) (h:zld one other) (hc:(!decide (s.2.1=(0:Int)))=true) {p:Int} (e:p=s.1/s.2.1):zdK p s.2.1:=by
 subst e;exact zdK.of (zg7 (I.pos hc) (I.gn h)) (I.mn h) ⇑1 ⇑1
theorem GI.mul2 (I:GI one other s) (h:zld one other) (hc:(!decide (s.2.1=(0:Int)))=true) {p:Int} (e:p=s.1/s.2.1):zdK p s.2.2.2:=by
 subst e;exact zdK.of (zg7 (I.pos hc) (I.gn h)) (I.ln h) ⇑1 ⇑1
theorem GI.mul3 (I:GI one other s) (h:zld one other):zdK s.2.2.1 one:=zdK.of (I.tn h) h.2.2.1 ⇑1 ⇑1
theorem zld.div (h:zld one other) {x:Int}:zgy x other:=zgy.of h.2.1 h.2.2.2 ⇑1
end
def LowP (row:Ji) (steps:Jq):Prop:=∃ n a s,n≤1000∧row.length=n∧steps.length≤1000∧Bit a row∧(∀ t∈steps,Sd n s t)∧a+steps.length*(s+1)+s≤50000000
section
variable {n s a i:Nat} {l t:Ji} {h q:Int}
theorem zlP (T:Sd n s t) (e:h=(hd t:Int)) (hl:l.length=n):InB l.length h:=by
 have:=T.hd
 unfold InB
 omega
theorem zra (T:Sd n s t) (e:h=(hd t:Int)):zgy (ixD l h) (ixD t h):=by
 subst e
 rw [zb0,zb0]
 exact zgy.of T.pos T.top ⇑1
theorem zqB (T:Sd n s t) (e:h=(hd t:Int)) (hb:Bit a l) (eq:q=ixD l h/ixD t h) (ha:a+s≤50000000):∀ y∈t,zdK y q:=by
 subst e eq
 rw [zb0,zb0]
 exact λy hy=>zdK.of (T.bit y hy) (zpG T hb) ↑0 ↑0
theorem zrp (T:Sd n s t) (hl:l.length=n∧Bit (a+i*(s+1)) l) {y:Ji} (e:y=zkO l t):y.length=n∧Bit (a+(i+1)*(s+1)) y:=by
 subst e
 refine ⟨by rw [zjv (by rw [hl.1,T.len]),hl.1],(zlM T hl.1 hl.2).mono ?_⟩
 rw [Nat.succ_mul];omega
theorem zqk {k i:Nat} (h:a+k*(s+1)+s≤50000000) (hi:i<k):a+i*(s+1)+s≤50000000:=by
 have:=Nat.mul_le_mul_right (s+1) (show i≤k by omega)
 omega
end
def MrgP (t l:Ji):Prop:=∃ n a s,n≤1000∧Sd n s t∧l.length=n∧Bit a l∧0<vec l (hd t)∧vec l (hd t)<vec t (hd t)∧a+s≤40000000
section
variable {n s a:Nat} {l t:Ji} {h:Int}
theorem zoa (T:Sd n s t) (e:h=(hd t:Int)) (h0:0<vec l (hd t)) (h1:vec l (hd t)<vec t (hd t)):zld (ixD t h) (ixD l h):=by
 subst e
 rw [zb0,zb0]
 exact ⟨T.pos,h0,T.top,by have:=T.top;omega⟩
theorem zp1 {x y:Int} (h:zld x y):0<(cmn x y).a∧(cmn x y).a.natAbs≤2^8981∧(cmn x y).b.natAbs≤2^8980∧(cmn x y).c.natAbs≤2^17962:=by
 have C:=zm8 h.1 h.2.1
 have:=C.bd h.2.1 zuL h.2.2.1 h.2.2.2
 exact ⟨C.pos,this⟩
theorem zjy {x:Int} {a b:Nat} {l:Ji} (h1:Bit a l) (h2:x.natAbs≤2^b) (ha:a≤50000000) (hb:b≤50000000):∀ y∈l,zdK y x:=λy hy=>zdK.of (h1 y hy) h2 ha hb
end
def TinP (steps:Jq) (row:Ji):Prop:=∃ n a s,n≤1000∧Ech n 0 steps∧(∀ t∈steps,Sd n s t)∧row.length=n∧Bit a row∧steps.length≤100∧a+(steps.length+2)*↑50+s≤40000000
theorem zlS {n:Nat}:∀ {ss:Jq} {lo j:Nat},Ech n lo ss->Ech n lo (ss.drop j)
 | [],_,_,_=>by simp [Ech]
 | _ :: _,_,0,h=>h
 | s :: ss,lo,j+1,h=>by
  rw [List.drop_succ_cons]
  exact zlS (h.2.2.2.2.mono (by have:=h.2.1;omega))
section
variable {n s a i:Nat} {steps:Jq} {st:TS2} {x:Int×Ji}
structure TI (steps:Jq) (n a s i:Nat) (st:TS2):Prop where
 g:st.1.length≤i
 len:st.2.length=n
 bit:Bit (a+steps.length*(s+1)+i*↑50) st.2
 red:∀ t∈steps.drop i,0≤vec st.2 (hd t)∧vec st.2 (hd t)<vec t (hd t)
theorem TI.start {row:Ji} (e:Ech n 0 steps) (T:∀ t∈steps,Sd n s t) (hl:row.length=n) (hb:Bit a row):TI steps n a s 0 ([],low row steps):=by
 obtain ⟨k1,k2,k3,k4⟩:=ze0 (l:=row) e hl
 exact ⟨Nat.le_refl 0,k1,by simpa using ziq T hl hb,by simpa using k3⟩
theorem TI.mem (hx:i<steps.length∧x.1=(i:Int)∧steps[i]?=some x.2):x.2∈steps∧x.2∈steps.drop i∧steps.drop i=x.2 :: steps.drop (i+1):=by
 have e:steps.drop i=x.2 :: steps.drop (i+1):=by
  rw [List.drop_eq_getElem_cons hx.1]
  congr 1
  have:=hx.2.2
  rw [List.getElem?_eq_getElem hx.1] at this
  exact Option.some.inj this
 exact ⟨List.mem_of_getElem? hx.2.2,by rw [e];exact List.mem_cons_self,e⟩
theorem TI.num (hi:i≤steps.length) (h:a+(steps.length+2)*↑50+s≤40000000):a+steps.length*(s+1)+i*↑50+(s+9000)≤40000000:=by
 have e1:i*↑50≤steps.length*↑50:=Nat.mul_le_mul_right _ hi
 have e2:steps.length*(s+1)≤(steps.length+1)*(s+9000):=Nat.mul_le_mul ↑0 ↑0
 have e3:s+9000≤(steps.length+1)*(s+9000):=Nat.le_mul_of_pos_left _ ↑0
 rw [Nat.add_mul] at h
 omega
theorem TI.mrg (I:TI steps n a s i st) (hn:n≤1000) (T:∀ t∈steps,Sd n s t) (hx:i<steps.length∧x.1=(i:Int)∧steps[i]?=some x.2) (hh:hd st.2=hd x.2) (hN:a+(steps.length+2)*↑50+s≤40000000):MrgP x.2 st.2:=by
 obtain ⟨m1,m2,m3⟩:=TI.mem hx
 have r:=I.red _ m2
 have T1:=T _ m1
 have ne:=zi8 (l:=st.2) (by rw [hh,I.len];exact T1.hd)
 rw [hh] at ne
 exact ⟨n,_,s,hn,T1,I.len,I.bit,by omega,r.2,by have:=TI.num (Nat.le_of_lt hx.1) hN;omega⟩
theorem zkW {t l:Ji} {b:Nat} (T:Sd n s t) (hl:l.length=n) (hb:Bit b l) (h0:0<vec l (hd t)) (h1:vec l (hd t)<vec t (hd t)):(mrg t l).2.length=n∧Bit (b+(s+8982)) (mrg t l).2∧(mrg t l).1.length=n∧Bit (b+(s+17964)) (mrg t l).1:=by
 have e:t.length=l.length:=by rw [hl,T.len]
 have P:zld ↑108 (vec l (hd t)):=⟨T.pos,h0,T.top,by have:=T.top;omega⟩
 have C:=zp1 P
 exact ⟨by rw [show (mrg t l).2=mg2 t l _ from rfl,zn3 e,T.len],zqR T hl hb (zm8 T.pos h0) h1 ↑0,by rw [show (mrg t l).1=mg1 t l _ _ from rfl,znC e,T.len],zro T hl hb C.2.2.1 C.2.2.2⟩
theorem TI.low (I:TI steps n a s i st) (hn:n≤1000) (hk:steps.length≤100) (T:∀ t∈steps,Sd n s t) (hx:i<steps.length∧x.1=(i:Int)∧steps[i]?=some x.2) (hh:hd st.2=hd x.2) (hN:a+(steps.length+2)*↑50+s≤40000000):LowP (Lat.mrg x.2 st.2).2 (cutD steps (some (x.1+(1:Int))) none):=by
 obtain ⟨m1,m2,m3⟩:=TI.mem hx
 have r:=I.red _ m2
 have T1:=T _ m1
 have ne:=zi8 (l:=st.2) (by rw [hh,I.len];exact T1.hd)
 rw [hh] at ne
 obtain ⟨b1,b2,_⟩:=zkW T1 I.len I.bit ↑0 r.2
 rw [hx.2.1,show ((i:Int)+(1:Int))=((i+1:Nat):Int) by omega,zgI]
 refine ⟨n,_,s,hn,b1,by rw [List.length_drop];omega,b2,λt ht=>T t (List.mem_of_mem_drop ht),?_⟩
 have hp:(List.drop (i+1) steps).length*(s+1)≤steps.length*(s+9000):=Nat.mul_le_mul ↑256 ↑0
 have hm:steps.length*(s+1)≤(steps.length+1)*(s+9000):=Nat.mul_le_mul ↑0 ↑0
 have ho:i*↑50≤steps.length*↑50:=Nat.mul_le_mul_right _ ↑0
 have hq:(steps.length+1)*(s+9000)=steps.length*(s+9000)+(s+9000):=Nat.succ_mul _ _
 rw [Nat.add_mul steps.length 2] at hN
 omega
theorem TI.step (I:TI steps n a s i st) (e:Ech n 0 steps) (T:∀ t∈steps,Sd n s t) (hx:i<steps.length∧x.1=(i:Int)∧steps[i]?=some x.2) {st':TS2} (hf:zmq steps st x=.inl st'):TI steps n a s (i+1) st':=by
 obtain ⟨m1,m2,m3⟩:=TI.mem hx
 have r:=I.red _ m2
 have T1:=T _ m1
 have dd:∀ t∈steps.drop (i+1),t∈steps.drop i:=λt ht=>by rw [m3];exact List.mem_cons_of_mem _ ht
 have mo:a+steps.length*(s+1)+i*↑50≤a+steps.length*(s+1)+(i+1)*↑50:=by
  have:=Nat.mul_le_mul_right ↑50 (show i≤i+1 by omega)
  omega
 unfold zmq Let at hf
 by_cases q:hd st.2<hd x.2
 ·rw [show decide ((hd st.2:Int)<(hd x.2:Int))=true by simp [q],cond_true] at hf
  cases hf
 ·rw [show decide ((hd st.2:Int)<(hd x.2:Int))=false by simp;omega,cond_false] at hf
  by_cases z:hd st.2=hd x.2
  ·rw [show decide ((hd st.2:Int)=(hd x.2:Int))=true by simp [z],cond_true,cond_true] at hf
   cases hf
   have ne:=zi8 (l:=st.2) (by rw [z,I.len];exact T1.hd)
   rw [z] at ne
   obtain ⟨b1,b2,_⟩:=zkW T1 I.len I.bit ↑0 r.2
   rw [hx.2.1,show ((i:Int)+(1:Int))=((i+1:Nat):Int) by omega,zgI]
   have ed:Ech n 0 (steps.drop (i+1)):=zlS e
   obtain ⟨k1,k2,k3,k4⟩:=ze0 (l:=(Lat.mrg x.2 st.2).2) ed b1
   refine ⟨by have:=I.g;simp;omega,k1,(ziq (λt ht=>T t (List.mem_of_mem_drop ht)) b1 b2).mono ?_,k3⟩
   have e5:(List.drop (i+1) steps).length*(s+1)≤steps.length*(s+9000):=Nat.mul_le_mul ↑256 ↑0
   rw [Nat.succ_mul i,Nat.add_mul steps.length 1]
   omega
  ·rw [show decide ((hd st.2:Int)=(hd x.2:Int))=false by simp;omega,cond_false,cond_false] at hf
   cases hf
   exact ⟨by have:=I.g;simp;omega,I.len,I.bit.mono mo,λt ht=>I.red t (dd t ht)⟩
end
theorem tin_bit {n s K:Nat}:∀ {ss:Jq} {lo a:Nat} {l:Ji},Ech n lo ss->(∀ t∈ss,Sd n s t)->l.length=n->(∀t∈ss,0≤vec l (hd t)∧vec l (hd t)<vec t (hd t))->Bit a l->ss.length≤K →
  ∀ t∈tin MG ss l,Bit (a+ss.length*((K+1)*(s+9000))+s+18000) t
 | [],lo,a,l,_,_,_,_,hb,_,t,ht=>by
  unfold tin at ht
  cases q:decide (hd l<l.length) with
  | true=>rw [q,cond_true] at ht;rw [List.mem_singleton.mp ht];exact (znH hb).mono ↑0
  | false=>rw [q,cond_false] at ht;simp at ht
 | s' :: ss,lo,a,l,e,T,hl,r,hb,hK,t,ht=>by
  have T1:=T s' List.mem_cons_self
  have hS:∀ t∈s' :: ss,Bit (a+(s' :: ss).length*((K+1)*(s+9000))+s+18000) t:=λt ht=>(T t ht).bit.mono ↑0
  rw [zlD] at ht
  cases q:decide (hd l<hd s') with
  | true =>
   rw [q,cond_true] at ht
   rcases List.mem_cons.mp ht with rfl | ht
   ·exact (znH hb).mono ↑0
   ·exact hS t ht
  | false =>
   rw [q,cond_false] at ht
   by_cases z:hd l=hd s'
   ·rw [show decide (hd l=hd s')=true by simp [z],cond_true] at ht
    have ne:=zi8 (l:=l) (by rw [z,hl];exact T1.hd)
    rw [z] at ne
    have r1:=r s' List.mem_cons_self
    obtain ⟨b1,b2,b3,b4⟩:=zkW T1 hl hb ↑0 r1.2
    rcases List.mem_cons.mp ht with rfl | ht
    ·exact b4.mono ↑0
    ·obtain ⟨k1,k2,k3,k4⟩:=ze0 (l:=(mrg s' l).2) e.2.2.2.2 b1
     have:=tin_bit (K:=K) e.2.2.2.2 (λt ht=>T t ↑59) k1 k3 (ziq (λt ht=>T t ↑59) b1 b2) (by simp at hK;omega) t ht
     refine this.mono ?_
     have e5:ss.length*(s+1)≤K*(s+9000):=Nat.mul_le_mul (by simp at hK;omega) ↑0
     rw [List.length_cons,Nat.succ_mul ss.length ((K+1)*(s+9000))]
     have e6:(K+1)*(s+9000)=K*(s+9000)+(s+9000):=Nat.succ_mul _ _
     omega
   ·rw [show decide (hd l=hd s')=false by simp [z],cond_false] at ht
    rcases List.mem_cons.mp ht with rfl | ht
    ·exact hS t List.mem_cons_self
    ·refine (tin_bit (K:=K) e.2.2.2.2 (λt ht=>T t ↑59) hl (λt ht=>r t ↑59) hb (by simp at hK;omega) t ht).mono ?_
     have:ss.length*((K+1)*(s+9000))≤(s' :: ss).length*((K+1)*(s+9000)):=Nat.mul_le_mul_right _ ↥5
     omega
def zsH (steps:Jq):Prop:=steps.length≤1000∧∀ j x,steps[j]?=some x->LowP x (stl (steps.drop (j+1)))
section
variable {steps fl:Jq} {i:Nat} {x:Ji}
theorem zkw (hx:steps.reverse[i]?=some x):∃ j,j+1+i=steps.length∧steps[j]?=some x∧steps.drop j=x :: steps.drop (j+1):=by
 have hi:i<steps.reverse.length:=((List.getElem?_eq_some_iff.mp hx)).1
 rw [List.length_reverse] at hi
 rw [List.getElem?_reverse hi] at hx
 have hj:steps.length-1-i<steps.length:=by omega
 refine ⟨steps.length-1-i,by omega,hx,?_⟩
 rw [List.getElem?_eq_getElem hj] at hx
 rw [List.drop_eq_getElem_cons hj,Option.some.inj hx]
theorem zrs (h:zsH steps) (hx:steps.reverse[i]?=some x) (e:fl=stl (steps.drop (steps.length-i))):LowP x fl:=by
 obtain ⟨j,h1,h2,h3⟩:=zkw hx
 rw [e,show steps.length-i=j+1 by omega]
 exact h.2 j x h2
theorem zqJ (hx:steps.reverse[i]?=some x) (e:fl=stl (steps.drop (steps.length-i))) {y:Jq} (hy:y=[low x fl]++fl):y=stl (steps.drop (steps.length-(i+1))):=by
 obtain ⟨j,h1,h2,h3⟩:=zkw hx
 rw [hy,e,show steps.length-i=j+1 by omega,show steps.length-(i+1)=j by omega,h3]
 rfl
theorem zkC:∀ {ss:Jq},(stl ss).length=ss.length
 | []=>rfl
 | s :: ss=>by simp [stl,zkC]
theorem zsT (h:zsH steps) (hi:i<steps.length) (e:fl=stl (steps.drop (steps.length-i))):fl.length≤1000:=by
 rw [e,zkC,List.length_drop]
 have:=h.1
 omega
end
def Fit (n b R:Nat):Prop:=n≤1000∧R≤31∧eB b R≤8980∧b+(min n R+2)*((min n R+1)*(sB b R+9000))+3*sB b R+18001+(min n R+1)*(sB b R+1)≤40000000
def zu4 (rows:Jq):Prop:=∃ n b R,Fit n b R∧rows.length≤R∧∀ r∈rows,r.length=n∧Bit b r
section
variable {n b R i:Nat} {rows ss:Jq} {r:Ji}
theorem zjm (hr:rows[i]?=some r):clm MG (rows.take (i+1))=stl (tin MG (clm MG (rows.take i)) (low r (clm MG (rows.take i)))):=by
 have hi:=(List.getElem?_eq_some_iff.mp hr).1
 rw [List.take_succ_eq_append_getElem hi]
 unfold clm
 rw [List.foldl_append]
 rw [List.getElem?_eq_getElem hi] at hr
 rw [← Option.some.inj hr]
 rfl
theorem zmp (h:∀ r∈rows,r.length=n):Stairs n rows (clm MG rows)∧(clm MG rows).length≤rows.length:=by
 have:∀ i,i≤rows.length->Stairs n (rows.take i) (clm MG (rows.take i))∧(clm MG (rows.take i)).length≤i:=by
  intro i
  induction i with
  | zero=>exact λ_=>⟨by simpa [clm] using Stairs.nil,by simp [clm]⟩
  | succ i ih =>
   intro hi
   obtain ⟨s1,s2⟩:=ih ↑0
   have e:rows[i]?=some rows[i]:=List.getElem?_eq_getElem ↑0
   obtain ⟨t1,t2⟩:=s1.step MG (r:=rows[i]) (h _ (List.getElem_mem _))
   rw [zjm e,List.take_succ_eq_append_getElem ↑0]
   exact ⟨t1,by omega⟩
 obtain ⟨t1,t2⟩:=this rows.length ↑11
 rw [List.take_length] at t1 t2
 exact ⟨t1,t2⟩
theorem znf (F:Fit n b R) (hl:rows.length≤R) (h:∀ r∈rows,r.length=n∧Bit b r):Stairs n rows (clm MG rows)∧(clm MG rows).length≤min n R∧∀ t∈clm MG rows,Sd n (sB b R) t:=by
 obtain ⟨s1,s2⟩:=zmp (rows:=rows) λr hr=>(h r hr).1
 refine ⟨s1,?_,λt ht=>?_⟩
 ·have:=znD s1.ech (Nat.zero_le n)
  omega
 ·obtain ⟨a1,a2,a3,a4⟩:=s1.ech.mem t ht
  obtain ⟨b1,b2⟩:=s1.bits F.2.1 hl (λr hr=>(h r hr).2) t ht
  exact ⟨a1,a3,a4,Nat.le_trans b1 (Nat.pow_le_pow_right ⇑1 F.2.2.1),b2⟩
theorem znM (F:Fit n b R) (hl:rows.length≤R) (h:∀ r∈rows,r.length=n∧Bit b r) (hr:rows[i]?=some r) (e:ss=clm MG (rows.take i)):LowP r ss∧TinP ss r∧zsH (tin MG ss (low r ss)):=by
 subst e
 have hi:=(List.getElem?_eq_some_iff.mp hr).1
 have hrm:=h r (List.mem_of_getElem? hr)
 obtain ⟨s1,s2,s3⟩:=znf F (rows:=rows.take i) (by rw [List.length_take];omega) λr hr=>h r (List.mem_of_mem_take hr)
 obtain ⟨t1,t2,t3⟩:=znf F (rows:=rows.take (i+1)) (by rw [List.length_take];omega) λr hr=>h r (List.mem_of_mem_take hr)
 rw [zjm hr] at t1 t2 t3
 obtain ⟨f1,f2,f3,f4⟩:=F
 generalize clm MG (rows.take i)=ss at *
 generalize hs:sB b R=s at *
 generalize hk:min n R=k at *
 obtain ⟨k1,k2,k3,k4⟩:=ze0 (l:=r) s1.ech hrm.1
 have m1:ss.length*(s+1)≤(k+1)*(s+1):=Nat.mul_le_mul_right _ ↑0
 have m2:(ss.length+2)*((ss.length+1)*(s+9000))≤(k+2)*((k+1)*(s+9000)):=Nat.mul_le_mul ↑0 (Nat.mul_le_mul_right _ ↑0)
 have hk32:k≤31:=by omega
 refine ⟨⟨n,b,s,f1,hrm.1,by omega,hrm.2,s3,by omega⟩,⟨n,b,s,f1,s1.ech,s3,hrm.1,hrm.2,by omega,by omega⟩,?_,λj x hx=>?_⟩
 ·rw [zkC] at t2;omega
 ·have hxm:=List.mem_of_getElem? hx
  have g1:=tin_bit (K:=k) s1.ech s3 k1 k3 (ziq s3 hrm.1 hrm.2) s2 x hxm
  obtain ⟨e1,_⟩:=zhG MG s1.ech k1 (λi hi=>absurd hi (Nat.not_lt_zero i)) k3 (Nat.zero_le n)
  rw [zlp]
  refine ⟨n,_,s,f1,(e1.mem x hxm).1,by rw [List.length_drop];omega,g1,λt ht=>t3 t (List.mem_of_mem_drop ht),?_⟩
  have m3:(List.drop (j+1) (stl (tin MG ss (low r ss)))).length*(s+1)≤(k+1)*(s+1):=Nat.mul_le_mul_right _ ↑256
  have m4:ss.length*((k+1)*(s+9000))≤k*((k+1)*(s+9000)):=Nat.mul_le_mul_right _ s2
  have m5:(k+1)*(s+1)≤(k+1)*(s+9000):=Nat.mul_le_mul_left _ ↑0
  rw [Nat.add_mul k 2] at f4
  omega
end
end Lat
namespace L2
open PySem PySem.Spec PyProof.Rows
section
variable {X:Cx} {K:W.Frag}
end
section
variable {E:XS} {Γ:Ctx} {te tj:TE} {u:TS} {o:Oc} {m:Bool} {K:W.Frag} {i j:Nat} {α β:Type} {f:α->Ds}
end
def dTop:Ds:=⟨λ_ _=>True,λ_ _=>trivial⟩
section
variable {E:XS} {Γ:Ctx} {u:TS} {o:Oc} {K:W.Frag} {i j:Nat}
theorem zmZ {k:Nat} {s:Slot} (h:(unC Γ)[k]?=some s):∃ r,Γ[k]?=some r∧unS r=s:=by
 unfold unC at h
 rw [List.getElem?_map] at h
 cases q:Γ[k]? with
 | none=>rw [q] at h;cases h
 | some r=>rw [q] at h;exact ⟨r,rfl,Option.some.inj h⟩
theorem ztp:unC (unC Γ)=unC Γ:=by
 unfold unC
 rw [List.map_map]
 refine List.map_congr_left λs _=>?_
 cases s<;>rfl
theorem zqN (h:zml Γ=true):zml (unC Γ)=true:=by
 unfold zml unC at *
 rw [List.all_map]
 refine List.all_eq_true.mpr λs hs=>?_
 have:=List.all_eq_true.mp h s hs
 cases s<;>first | rfl | exact this
theorem zhN {R:Hp}:∀ {vs:List V} {ns:Ji},Paired (λv (d:Ds)=>d.pr R v) vs (ns.map dI)->vs=ns.map V.int
 | [],[],_=>rfl
 | _ :: _,_ :: _,.cons h t=>by
  have h:_=V.int _:=h
  rw [h,zhN t];rfl
end
end L2
namespace L2
open PySem PySem.Spec PyProof.Rows
theorem zk9 {E:XS} {Γ:Ctx} {u:TS} {o:Oc} {m:Bool} {K:W.Frag} {to te:TE} {d:Ds} {l:Nat} (hno:zml Γ=true) (h:EvW Γ to l) (hv:Ev Γ te m d) (hz:l<sizeLine) (k:Run E (unC Γ) u o):Run E Γ (tSeq (zjB (tBM K "list" zgw to (tCons te tNil))) u) o:=λF0 Hb F H σ own D a q =>
 h F0 Hb F H σ own _ a λp vs H1 g1 h1 h2 h3 h4 h5=>⟨.inl ⟨rfl,_,SqL.of h4⟩,by
  have a1:=a.grow (Grow.only a.fh g1)
  refine hv F0 Hb F H1 σ own _ a1 λx F2 H2 g2 qx=>?_
  have a2:=a.grow (Grow.only a.fh (g1.trans g2.h))
  exact ⟨p,vs,x,rfl,rfl,g2.h _ _ h4,by omega,k F0 Hb F _ σ own D (a2.spoil hno _ h1 h2 h3) q⟩⟩
end L2
namespace Lat
open L2
def RB (w b:Nat) (rows:Jq):Prop:=∀ r∈rows,r.length=w∧Bit b r
theorem zhF {α:Type} {xs:List α} {i:Int} {x y:α} (h:y∈zdl xs i x):y=x∨y∈xs:=by
 unfold zdl at h
 split at h
 ·rcases List.mem_or_eq_of_mem_set h with h | h
  ·exact .inr h
  ·exact .inl h
 ·exact .inr h
theorem zrc {α:Type} {xs:List α} {lo hi:Option Int} {x:α} (h:x∈cutD xs lo hi):x∈xs:=List.mem_of_mem_drop (List.mem_of_mem_take h)
theorem zgP {α β:Type} (g:α->β):∀ (xs:List α) (acc:List β),List.foldl (λs x=>s++[g x]) acc xs=acc++xs.map g
 | [],acc=>by simp
 | x :: xs,acc=>by rw [List.foldl_cons,zgP g xs];simp
end Lat
namespace Lat
theorem zjq {l t:Ji} {i:Nat}:vec (l++t) i=if i<l.length then vec l i else vec t (i-l.length):=by
 unfold vec
 rw [List.getD_eq_getElem?_getD,List.getD_eq_getElem?_getD,List.getD_eq_getElem?_getD,List.getElem?_append]
 split<;>rfl
end Lat
namespace L2
open PySem PySem.Spec PyProof.Rows
end L2
namespace Lat
open L2
theorem zer {k:Nat}:((zd8 (k:Int) [(0:Int)])).length=k:=by unfold zd8;simp
theorem zgv {k j:Nat}:vec (zd8 (k:Int) [(0:Int)]) j=0:=by
 by_cases h:j<((zd8 (k:Int) [(0:Int)])).length
 ·have:=zoh h
  unfold zd8 at this
  obtain ⟨l,h1,h2⟩:=List.mem_flatten.mp this
  rw [(List.mem_replicate.mp h1).2] at h2
  exact List.mem_singleton.mp h2
 ·exact zc6 ↑0
end Lat
namespace Lat
theorem zfc:∀ {l t:Ji} {q:Int} {i:Nat},l.length=t.length->vec (List.map (λ(x:Int×Int)=>x.1+(q*x.2)) (List.zip l t)) i=vec l i+q*vec t i
 | [],[],q,i,_=>by simp [vec]
 | a :: l,b :: t,q,0,_=>rfl
 | a :: l,b :: t,q,i+1,h=>by
  rw [zbj,zbj,← zfc (l:=l) (t:=t) ↑102]
  exact zbj
end Lat
namespace Lat
end Lat
namespace L2
open PySem PySem.Spec PyProof.Rows
section
variable {X:Cx} {K:W.Frag} {pos:Pos}
end
section
variable {E:XS} {Γ:Ctx} {te ta tb:TE} {u:TS} {o:Oc} {m:Bool} {K:W.Frag} {i j l:Nat} {α β:Type} {f:α->Ds}
end
end L2
namespace Lat
open L2
end Lat
namespace L2
open PySem PySem.Spec PyProof.Rows
section
variable {X:Cx}
end
end L2
namespace L2
open PySem PySem.Spec PyProof.Rows
section
variable {E:XS} {Γ Γx:Ctx} {m:Bool} {α β ε S:Type} {u:TS} {ds:List Ds}
end
end L2
namespace L2
open PySem PySem.Spec PyProof.Rows
def zhP (R:Hp) (v:V) (ns:Ji):Prop:=∃ r,v=.ref r∧R r=some (.lst (List.map V.int ns))
def dRI (nss:Jq):Ds:=⟨λR v=>∃ p vs,v=.ref p∧R p=some (.lst vs)∧vs.Nodup∧V.ref p ∉ vs∧Paired (zhP R) vs nss,λe ⟨p,vs,h1,h2,h3,h4,h5⟩=>⟨p,vs,h1,e _ _ h2,h3,h4,zb2 (λ_ _ ⟨r,q1,q2⟩=>⟨r,q1,e _ _ q2⟩) h5⟩⟩
theorem zk7 {R:Hp}:∀ {ns:Ji},Paired (λv (d:Ds)=>d.pr R v) ↑47 (ns.map dI)
 | []=>.nil
 | _ :: _=>.cons rfl zk7
theorem zs7 {R:Hp} {v:V} {nss:Jq} (h:(dRI nss).pr R v):(dL (nss.map λl=>dL (l.map dI))).pr R v:=by
 obtain ⟨p,vs,rfl,h2,h3,h4,h5⟩:=h
 refine ⟨p,vs,rfl,h2,?_⟩
 clear h2 h3 h4
 induction h5 with
 | nil=>exact .nil
 | cons q _ ih =>
  obtain ⟨r,rfl,q2⟩:=q
  exact .cons ⟨r,_,rfl,q2,zk7⟩ ih
section
variable {Γ:Ctx} {m:Bool} {K:W.Frag} {γ:Type} {te tj:TE} {i:Nat} {nss:Jq}
theorem ztS {t:TE} (h:Ev Γ t m (dRI nss)):Ev Γ t m (dL (nss.map λl=>dL (l.map dI))):=λF0 Hb F H σ own Q a k=>h F0 Hb F H σ own Q a λv F' H' g q=>k v F' H' g (zs7 q)
theorem zoM {own:Nat} {fv:List Nat} {wi:TI} {tg:TG} {js:List Nat} {xs:List γ} {bds:γ->List Ds} {mi:Bool} {ns:γ->Ji} (it:Iv Γ wi tg js xs bds mi) (hz:xs.length≤sizeLine) (hj:(∀ j∈js,j<own)∧js.Nodup)
  (he:∀ (i:Nat) (x:γ),xs[i]?=some x->EvO (zmr js (bds x) mi (zks own fv Γ)) te true ((ns x).map dI)):Ev Γ (zmG own fv wi tg zo1 te) true (dRI (xs.map ns)):=λF0 Hb F H σ ow Q a k =>
 it F0 Hb F H σ ow _ a λJ F1 H1 g1 ok D hD=>by
  have hno:∀ j∈js,((zks own fv Γ))[j]?=some .no:=λj hj'=>by
   have:=hj.1 j hj'
   unfold zks
   rw [List.getElem?_append_left (by simpa using this),List.getElem?_replicate,if_pos this]
  obtain ⟨hD0,hDF,hDb⟩:=a.free g1 hD
  refine ⟨λi mm ys σb H2=>mm=xs.length-i∧i≤xs.length∧ys.length≤i∧∃ F2,Grow F1 H1 F2 H2∧F2 D=none∧H2 D=some (.lst ys)∧(ys.Nodup∧V.ref D ∉ ys∧Paired (zhP (off F2 Hb)) ys ((xs.take i).map ns))∧At F0 Hb F2 H2 σb (λ_=>none) (zks own fv Γ),
   ⟨_,rfl,Nat.zero_le _,Nat.zero_le _,F1,((Grow.refl g1.fh)).newH hD,hDF,zaD,⟨.nil,by simp,by simpa using Paired.nil⟩,((↑16).block own fv).grow (((Grow.refl g1.fh)).newH hD)⟩,?_⟩
  rintro i mm ys σb H2 ⟨rfl,hi,hy,F2,g2,hF2,hH2,⟨hN,hDy,hP⟩,a2⟩
  refine ⟨hH2,?_⟩
  obtain ⟨hstop,hitem⟩:=ok.up g2.f H2 g2.fh
  by_cases hlt:i<xs.length
  ·obtain ⟨go,yl⟩:=hitem i xs[i] (List.getElem?_eq_getElem hlt)
   refine .inr ⟨go,λx H' y=>?_⟩
   obtain ⟨g3,bind⟩:=yl x H' y
   refine bind σb _ λvs hvs=>?_
   have a3:=(a2.grow g3).setMany (js:=js) hvs
   have hx:xs[i]?=some xs[i]:=List.getElem?_eq_getElem hlt
   refine zlz (Γ:=zmr js (bds xs[i]) mi (zks own fv Γ)) F0 Hb F2 H' _ _ _ a3 λF4 H4 g4=>?_
   have tk:=zjN hx
   rw [if_pos rfl]
   refine he i _ hx F0 Hb F4 H4 _ _ _ (a3.grow g4) λp ws F5 H5 g5 p1 p2 p3 q5=>?_
   have ew:=zhN q5
   subst ew
   have g24:=g3.trans g4
   have g6:=g5.take p1 p3
   have g26:=g24.trans g6
   have n2:H5 D=some (.lst ys):=g26.h _ _ hH2
   have hpD:D≠p:=λz=>by rw [← z] at p1;rw [g24.h _ _ hH2] at p1;cases p1
   have n1:upd F5 p (.lst (List.map V.int (ns xs[i]))) D=none:=g26.no D (by rw [hH2];simp) hF2
   have hbp:Hb p=none:=(a2.g.h.trans g24.h).free p1
   have n3:H1 D=none:=hD
   refine ⟨n2,by omega,xs.length-(i+1),by omega,rfl,hlt,by simp;omega,upd F5 p (.lst (List.map V.int (ns xs[i]))),?_,n1,zaD,⟨?_,?_,?_⟩,?_⟩
   ·exact (g2.trans g26).setH n1 n3
   ·
    refine List.nodup_append.mpr ⟨hN,by simp,λv hv w hw z=>?_⟩
    rw [List.mem_singleton.mp hw] at z
    subst z
    obtain ⟨n,hn⟩:=List.getElem?_of_mem hv
    have hl:=Paired.length hP
    obtain ⟨v',e',⟨r,er,hr⟩⟩:=zbn hP (List.getElem?_eq_getElem (l:=(xs.take i).map ns) (i:=n) (by have:=(↑254).1;omega))
    rw [hn] at e'
    cases e'
    cases er
    have:=(zb4.mp hr).2
    have:=g24.h _ _ (g2.fh _ _ this)
    rw [p1] at this;cases this
   ·intro z
    rcases List.mem_append.mp z with z | z
    ·exact hDy z
    ·have:=List.mem_singleton.mp z
     cases this
     exact hpD rfl
   ·rw [tk,List.map_append]
    refine zc3 (zb2 (λ_ _ ⟨r,q1,q2⟩=>⟨r,q1,zni g26.f _ _ q2⟩) hP) (.cons ⟨p,rfl,zb4.mpr ⟨hbp,zaD⟩⟩ .nil)
   ·have a5:=((a3.grow g4).grow g6).unsetMany hno hj.2
    refine ⟨a5.g.setH n1 hDb,a5.inj,λ_ _ h=>(nomatch h),λj s es=>?_,a5.len⟩
    have:=a5.sl j s es
    cases s with
    | no=>trivial
    | va m d=>exact this
    | ow m ds=>obtain ⟨_,_,_,h,_⟩:=this;exact (nomatch h)
    | ob m C p dx fs=>obtain ⟨_,_,h,_⟩:=this;exact (nomatch h)
    | ol p ds=>obtain ⟨_,_,h,_⟩:=this;exact (nomatch h)
    | tl d=>exact (zmB es).elim
  ·have e:i=xs.length:=by omega
   subst e
   rw [List.take_length] at hP
   refine .inl ⟨hstop,k (.ref D) (upd F2 D (.lst ys)) H2 ((↑44).take hD0 hH2) ⟨D,ys,rfl,zb4.mpr ⟨hDb,zaD⟩,hN,hDy,?_⟩⟩
   exact zb2 (λ_ _ ⟨r,q1,q2⟩=>⟨r,q1,zni (Same.new hF2 _) _ _ q2⟩) hP
end
section
variable {E:XS} {Γ:Ctx} {m:Bool} {K:W.Frag} {te tj:TE} {u:TS} {o:Oc} {i:Nat} {nss:Jq}
theorem zly {R:Hp} {r:Addr} {new:Ji}:∀ {vs:List V} {nss:Jq} {j:Nat},Paired (zhP R) vs nss->vs.Nodup->vs[j]?=some (.ref r)->Paired (zhP (upd R r (.lst (new.map V.int)))) vs (nss.set j new)
 | _,_,_,.nil,_,h=>by simp at h
 | v :: vs,ns :: nss,0,.cons q t,hN,h=>by
  have h:v=.ref r:=by simpa using h
  subst h
  refine .cons ⟨r,rfl,zaD⟩ ?_
  have hn1:=(List.nodup_cons.mp hN).1
  clear q h hN
  induction t with
  | nil=>exact .nil
  | @cons a b as bs q t ih =>
   obtain ⟨r',rfl,q2⟩:=q
   have hne:r'≠r:=λz=>hn1 (by rw [z];exact List.mem_cons_self)
   exact .cons ⟨r',rfl,by rw [zaq hne];exact q2⟩ (ih λz=>hn1 (List.mem_cons_of_mem _ z))
 | v :: vs,ns :: nss,j+1,.cons q t,hN,h=>by
  have hN:=List.nodup_cons.mp hN
  have h:vs[j]?=some (.ref r):=by simpa using h
  obtain ⟨r',rfl,q2⟩:=q
  have hne:r'≠r:=λz=>hN.1 (by rw [z];exact List.mem_of_getElem? h)
  exact .cons ⟨r',rfl,by rw [zaq hne];exact q2⟩ (zly t hN.2 h)
end
end L2
namespace L2
open PySem PySem.Spec PyProof.Rows
section
variable {E:XS} {Γ Δ:Ctx} {m:Bool} {K:W.Frag} {te ta tb:TE} {t u:TS} {d:Ds} {ds es:List Ds} {o:Oc} {i j:Nat}
end
section
variable {P:Program} {w:World} {K:W.Frag} {mg:Str->Option Value} {base:Heap} {x qual:Str} {st:Stmt} {f:Addr} {fd:FuncData} {N ps:List Str} {k:Nat}
end
section
variable {E:XS} {Γ Δ:Ctx} {m:Bool} {K:W.Frag} {te ta tb tj:TE} {t u:TS} {d:Ds} {ds es:List Ds} {o:Oc} {i j:Nat} {p:Addr} {α β:Type} {f:α->Ds} {xs:List α}
theorem zjZ {γ S:Type} {wi:TI} {g:TG} {tb:TS} {js:List Nat} {xs:List γ} {bds:γ->List Ds} {mi:Bool} {s0:S} (G:S->Ctx) (f:S->γ->S) (I:Nat->S->Prop) (it:Iv Γ wi g js xs bds mi) (w:Wk Γ (G s0)) (h0:I 0 s0)
  (body:∀ (i:Nat) (x:γ) (s:S),xs[i]?=some x->I i s->I (i+1) (f s x)∧Run E (zmr js (bds x) mi (G s)) tb (.nx (G (f s x)))) (k:Run E (G (xs.foldl f s0)) u o):Run E Γ (tSeq (zrI wi g tb) u) o :=
 zbh (β:=Unit) (kk:=λ_=>()) G (λ_=>o) f I it w h0 body λs e _=>e ▸ k
end
end L2
namespace L2
open PySem PySem.Spec PyProof.Rows
structure T5 (α β γ δ ε:Type) where
 a:α
 b:β
 c:γ
 d:δ
 e:ε
section
variable {E:XS} {Γ:Ctx} {m:Bool} {K:W.Frag} {te tj:TE} {u:TS} {o:Oc} {i j:Nat} {nss:Jq} {α β:Type}
def zpH (Γ:Ctx) (t:TE) (ds:List Ds):Prop:=∀ (F0 Hb F H:Hp) (σ:St) (own:Nat->Option Addr) (Q:VK),At F0 Hb F H σ own Γ →
 (∀ p vs F' H',Grow F H F' H'->H p=none->F' p=none->H' p=some (.lst vs)->Paired (λv (d:Ds)=>d.pr (off F' H) v) vs ds->Q (.ref p) H')->t σ H Q
theorem zqy {ds:List Ds} (h:EvO (zsU Γ) te true ds):zpH Γ te ds:=λF0 Hb F H σ own Q a k=>h F H F H σ _ Q a.now λp vs F' H' g h1 h2 h3 q=>k p vs F' H' g h1 h2 h3 q
theorem zpH.evo {ds:List Ds} (h:zpH Γ te ds):EvO Γ te true ds:=λF0 Hb F H σ own Q a k=>h F0 Hb F H σ own Q a λp vs F' H' g h1 h2 h3 q=>k p vs F' H' g h1 h2 h3 (zdx (ds:=[]) (zkD a.g.h) q)
theorem zpH.borrowO {ds es:List Ds} (e:Γ[i]?=some (.ow m es)) (h:zpH (Γ.set i (.va m (dL es))) te ds):zpH Γ te ds:=λF0 Hb F H σ own Q a k=>by
 obtain ⟨F1,own1,_,a1⟩:=a.share e
 refine h F0 Hb F1 H σ own1 Q a1 λp vs F' H' g h1 h2 h3 q=>?_
 have e:∀ b o,off F' H b=some o->H b=none∧F' b=some o:=λb o z=>zb4.mp z
 refine k p vs (λb=>match H b with | some _=>F b | none=>F' b) H' ⟨λb o z=>?_,λb o z=>?_,g.h,λb z1 z2=>?_⟩ h1 (by rw [h1];exact h2) h3 (zdx (ds:=[]) (λb o z=>?_) q)
 ·show (match H b with | some _=>F b | none=>F' b)=some o
  rw [a.fh _ _ z];exact z
 ·have z:(match H b with | some _=>F b | none=>F' b)=some o:=z
  cases w:H b with
  | some o'=>rw [w] at z;exact g.h _ _ (a.fh _ _ z)
  | none=>rw [w] at z;exact g.fh _ _ z
 ·show (match H b with | some _=>F b | none=>F' b)=none
  cases w:H b with
  | some o'=>exact z2
  | none=>exact absurd w z1
 ·obtain ⟨h1,h2⟩:=e b o z
  refine zb4.mpr ⟨h1,?_⟩
  show (match H b with | some _=>F b | none=>F' b)=some o
  rw [h1];exact h2
theorem zkd {x:α} {i j:Nat} (d1 d2:α->Ds) (fo:β->Oc) {kk:α->β} (h:Ev Γ te m (dT [d1 x,d2 x])) (k:∀ y,y=x->Run E ((Γ.set i (.va m (d1 y))).set j (.va m (d2 y))) u (fo (kk y))):Run E Γ ↑244 (fo (Let x kk)):=zkL h (k x rfl)
theorem zgp {R R':Hp} (e:Same R R') {vs:List V} (h:Paired (zhP R) vs nss):Paired (zhP R') vs nss:=zb2 (λ_ _ ⟨r,q1,q2⟩=>⟨r,q1,e _ _ q2⟩) h
open Classical in
theorem zlc {v:Ji->Int} {k:Int} {P:Ji->Prop} (e:Γ[i]?=some (.tl (dRI nss))) (ej:Γ[j]?=some .no) (hno:zml Γ=true) (hP:∀ ns∈nss,P ns) (hk:∀ ns,P ns->InB ns.length k)
  (h:∀ ns,P ns->Ev ((unC Γ).set j (.tl (dL (ns.map dI)))) te false (dI (v ns))) (hj:∀ ns,P ns->Ev ((unC Γ).set j (.tl (dL (ns.map dI)))) tj false (dI k))
  (kk:Run E ((unC Γ).set i (.tl (dRI (nss.map λns=>zdl ns k (v ns))))) u o):Run E Γ (tSeq (zrI (zoL K (zg1 i)) (zdk j) (tSeq (zjt te (zso (zg1 j) tj znd)) zoj)) u) o:=λF0 Hb F H σ own D a q=>by
 obtain ⟨x,R,h1,h2,h3,h4,p,vs,rfl,h6,h7,h8,h9⟩:=a.sl i _ e
 have hi:i<σ.length:=by rw [a.len];exact (↑35).1
 have e':σ[i]?=some (some (.ref p)):=by
  rw [List.getElem?_eq_getElem hi] at h1 ⊢
  exact congrArg some h1
 have hij:i≠j:=λz=>by rw [z,ej] at e;cases e
 have hl:=Paired.length h9
 have st:∀ v'∈vs,∃ r,v'=.ref r∧F r=none∧Hb r=none∧(∀ l,own l≠some r)∧r≠p:=λv' hv=>by
  obtain ⟨n,hn⟩:=List.getElem?_of_mem hv
  have hn':=(↑254).1
  obtain ⟨v2,ev,⟨r,er,hr⟩⟩:=zbn h9 (List.getElem?_eq_getElem (l:=nss) (i:=n) ↑0)
  rw [hn] at ev
  cases ev
  refine ⟨r,er,(h3 r _ hr).1,(h3 r _ hr).2,(λl z=>by rw [h4 l r z] at hr;cases hr),λz=>h8 ?_⟩
  subst z;rw [← er];exact hv
 have hp:H p=some (.lst vs):=h2 _ _ h6
 have pF:=h3 p _ h6
 have pO:∀ l,own l≠some p:=λl z=>by rw [h4 l p z] at h6;cases h6
 have a0:At F0 Hb F H σ own (unC Γ):=⟨a.g,a.inj,a.liv,λk s es=>by
  obtain ⟨r,e1,rfl⟩:=zmZ es
  have:=a.sl k r e1
  cases r with
  | tl d=>trivial
  | no=>trivial
  | va m d=>exact this
  | ow m ds=>exact this
  | ol p ds=>exact this
  | ob m C p dx fs=>exact this,by unfold unC;rw [List.length_map];exact a.len⟩
 have gst:∀ n ns,nss[n]?=some ns->(((nss.take n).map (λns=>zdl ns k (v ns))++nss.drop n)).set n (zdl ns k (v ns))=(nss.take (n+1)).map (λns=>zdl ns k (v ns))++nss.drop (n+1):=λn ns hn=>by
  have hlt:=(↑254).1
  have en:nss[n]=ns:=by rw [List.getElem?_eq_getElem hlt] at hn;exact Option.some.inj hn
  rw [List.set_append_right _ _ (by rw [List.length_map,List.length_take];omega),List.length_map,List.length_take,Nat.min_eq_left ↑0,Nat.sub_self,List.drop_eq_getElem_cons hlt,List.set_cons_zero,List.take_succ_eq_append_getElem hlt,List.map_append,List.append_assoc,en]
  rfl
 refine ⟨_,e',p,rfl,⟨vs,SqL.of hp⟩,λn m σ' H'=>m=vs.length-n∧n≤vs.length∧At F0 Hb F H' σ' own (unC Γ)∧σ'[i]?=some (some (.ref p))∧H' p=some (.lst vs)∧Paired (zhP H') vs ((nss.take n).map (λns=>zdl ns k (v ns))++nss.drop n),⟨_,rfl,Nat.zero_le _,a0,e',hp,by simpa using zgp h2 h9⟩,?_⟩
 rintro n m σ1 H1 ⟨rfl,hn,a1,s1,p1,rows1⟩
 by_cases hlt:n<vs.length
 ·refine .inr ⟨⟨vs,vs[n],SqL.of p1,List.getElem?_eq_getElem hlt⟩,λσ' H'=>At F0 Hb F H' σ' own (unC Γ)∧σ'[i]?=some (some (.ref p))∧H' p=some (.lst vs)∧Paired (zhP H') vs ((nss.take (n+1)).map (λns=>zdl ns k (v ns))++nss.drop (n+1)),λσ' H' z=>⟨_,by omega,rfl,by omega,z⟩,λv' H' y=>?_⟩
  obtain ⟨rfl,y⟩:=y
  have hv:=y vs (SqL.of p1)
  obtain ⟨ns,hns⟩:∃ ns,nss[n]?=some ns:=⟨_,List.getElem?_eq_getElem ↑0⟩
  have hrow:(((nss.take n).map (λns=>zdl ns k (v ns))++nss.drop n))[n]?=some ns:=by
   rw [List.getElem?_append_right (by rw [List.length_map,List.length_take];omega),List.length_map,List.length_take,Nat.min_eq_left ↑0,Nat.sub_self,List.getElem?_drop]
   exact hns
  obtain ⟨v2,ev,⟨r,er,hr⟩⟩:=zbn rows1 hrow
  rw [hv] at ev
  cases ev
  subst er
  obtain ⟨r',er',rF,rB,rO,rp⟩:=st _ (List.mem_of_getElem? hv)
  cases er'
  have Pn:P ns:=hP ns (List.mem_of_getElem? hns)
  have hjl:j<σ1.length:=by rw [a1.len];unfold unC;rw [List.length_map];exact (List.getElem?_eq_some_iff.mp ej).1
  have sj:((σ1.set j (some (.ref r))))[j]?=some (some (.ref r)):=List.getElem?_set_self hjl
  have a2:At F0 Hb F H' (σ1.set j (some (.ref r))) own (unC Γ):=⟨a1.g,a1.inj,a1.liv,λk s es=>by
   by_cases z:j=k
   ·subst z
    obtain ⟨r',e1,rfl⟩:=zmZ es
    rw [ej] at e1
    cases e1
    trivial
   ·rw [List.getElem?_set_ne z]
    exact a1.sl k s es,by simp [a1.len]⟩
  have a3:At F0 Hb F H' (σ1.set j (some (.ref r))) own ((unC Γ).set j (.tl (dL (ns.map dI)))):=⟨a2.g,a2.inj,a2.liv,λk s es=>by
   by_cases z:j=k
   ·subst z
    rw [List.getElem?_set_self (by rw [← a1.len];exact hjl)] at es
    cases es
    rw [sj]
    refine ⟨.ref r,λb=>if b=r then some (.lst ↑47) else none,rfl,λb o z=>?_,λb o z=>?_,λl b z=>?_,r,ns.map V.int,rfl,if_pos rfl,zk7⟩
    ·dsimp only at z
     split at z
     ·cases z;rename_i w;rw [w];exact hr
     ·cases z
    ·dsimp only at z
     split at z
     ·rename_i w;rw [w];exact ⟨rF,rB⟩
     ·cases z
    ·dsimp only
     rw [if_neg (λw=>rO l (by rw [← w];exact z))]
   ·rw [List.getElem?_set_ne z] at es
    exact a2.sl k s es,by simpa using a2.len⟩
  obtain ⟨nn,en,hnn,_⟩:=zjV (hk ns Pn)
  refine h ns Pn F0 Hb F H' _ own _ a3 λw F2 H2 g2 qw=>?_
  have qw:w=.int (v ns):=qw
  subst qw
  have a4:=a3.grow (Grow.only a3.fh g2.h)
  refine ⟨_,sj,hj ns Pn F0 Hb F H2 _ own _ a4 λw F3 H3 g3 qk=>?_⟩
  have qk:w=.int k:=qk
  subst qk
  have s13:Same H' H3:=g2.h.trans g3.h
  refine ⟨r,ns.map V.int,k,nn,rfl,rfl,s13 _ _ hr,by rw [List.length_map];exact en,?_⟩
  have enew:(↑47).set nn (.int (v ns))=(zdl ns k (v ns)).map V.int:=by
   unfold zdl
   rw [en]
   show _=(ns.set nn (v ns)).map V.int
   rw [List.map_set]
  rw [enew]
  refine ⟨?_,?_,?_,?_⟩
  ·have:=(a2.grow (Grow.only a2.fh s13)).spoil (zqN hno) (.lst ((zdl ns k (v ns)).map V.int)) rF rB rO
   rwa [ztp] at this
  ·rw [List.getElem?_set_ne (Ne.symm hij)];exact s1
  ·rw [zaq (Ne.symm rp)];exact s13 _ _ p1
  ·rw [← gst n ns hns]
   exact zly (zgp s13 rows1) h7 hv
 ·have en:n=nss.length:=by omega
  subst en
  refine .inl ⟨⟨vs,SqL.of p1,by omega⟩,kk F0 Hb F H1 σ1 own D ?_ q⟩
  refine ⟨a1.g,a1.inj,a1.liv,λl s es=>?_,by rw [List.length_set];exact a1.len⟩
  by_cases z:i=l
  ·subst z
   rw [List.getElem?_set_self (by rw [← a1.len];exact (List.getElem?_eq_some_iff.mp s1).1)] at es
   cases es
   rw [s1]
   have rows2:Paired (zhP H1) vs (nss.map λns=>zdl ns k (v ns)):=by simpa using rows1
   refine ⟨.ref p,λb=>if b=p then some (.lst vs) else if V.ref b∈vs then H1 b else none,rfl,λb o z=>?_,λb o z=>?_,λl b z=>?_,p,vs,rfl,if_pos rfl,h7,h8,?_⟩
   ·dsimp only at z
    split at z
    ·cases z;rename_i w;rw [w];exact p1
    ·split at z
     ·exact z
     ·cases z
   ·dsimp only at z
    split at z
    ·rename_i w;rw [w];exact pF
    ·split at z
     ·rename_i w
      obtain ⟨r,er,t1,t2,_⟩:=st _ w
      cases er
      exact ⟨t1,t2⟩
     ·cases z
   ·dsimp only
    rw [if_neg (λw=>pO l (by rw [← w];exact z)),if_neg]
    intro w
    obtain ⟨r,er,_,_,t3,_⟩:=st _ w
    cases er
    exact t3 l z
   ·clear q rows1 h9 hp h6 h kk
    have key:∀ {ws:List V} {mss:Jq},(∀ w∈ws,w∈vs)->Paired (zhP H1) ws mss->Paired (zhP λb=>if b=p then some (.lst vs) else if V.ref b∈vs then H1 b else none) ws mss:=by
     intro ws mss hw hq
     induction hq with
     | nil=>exact .nil
     | cons q1 _ ih =>
      obtain ⟨r,rfl,q2⟩:=q1
      have hm:=hw _ List.mem_cons_self
      refine .cons ⟨r,rfl,?_⟩ (ih λw hw'=>hw w (List.mem_cons_of_mem _ hw'))
      dsimp only
      rw [if_neg (λz=>h8 (by rw [← z];exact hm)),if_pos hm]
      exact q2
    exact key (λ_ hw=>hw) rows2
  ·rw [List.getElem?_set_ne z] at es
   exact a1.sl l s es
end
end L2
namespace Lat
open L2
theorem zkc {j:Nat}:∀ {xs:Ji} {as:List Vc} {i:Nat} {x x0:Int} {a:Vc},xs[i]?=some x0->as[i]?=some a->comb (xs.set i x) as j=comb xs as j+(x-x0)*a j
 | [],_,_,_,_,_,h,_=>by simp at h
 | _ :: _,[],_,_,_,_,_,h=>by simp at h
 | y :: xs,b :: as,0,x,x0,a,h,k=>by
  have h:y=x0:=by simpa using h
  have k:b=a:=by simpa using k
  subst h k
  simp only [List.set_cons_zero,comb]
  grind
 | y :: xs,b :: as,i+1,x,x0,a,h,k=>by
  have:=zkc (j:=j) (xs:=xs) (as:=as) (i:=i) (x:=x) (x0:=x0) (a:=a) ↑102 (by simpa using k)
  simp only [List.set_cons_succ,comb,this]
  omega
theorem zjO {j:Nat}:∀ {xs:Ji} {as:List Vc} {i:Nat} {x:Int} {a a0:Vc},xs[i]?=some x->as[i]?=some a0->comb xs (as.set i a) j=comb xs as j+x*(a j-a0 j)
 | [],_,_,_,_,_,h,_=>by simp at h
 | _ :: _,[],_,_,_,_,_,h=>by simp at h
 | y :: xs,b :: as,0,x,a,a0,h,k=>by
  have h:y=x:=by simpa using h
  have k:b=a0:=by simpa using k
  subst h k
  simp only [List.set_cons_zero,comb]
  grind
 | y :: xs,b :: as,i+1,x,a,a0,h,k=>by
  have:=zjO (j:=j) (xs:=xs) (as:=as) (i:=i) (x:=x) (a:=a) (a0:=a0) ↑102 (by simpa using k)
  simp only [List.set_cons_succ,comb,this]
  omega
theorem zij {j:Nat}:∀ {xs:Ji} {as:List Vc},(∀ (i:Nat) (x:Int) (a:Vc),xs[i]?=some x->as[i]?=some a->x*a j=0)->comb xs as j=0
 | [],_,_=>rfl
 | _ :: _,[],_=>rfl
 | x :: xs,a :: as,h=>by
  have h0:=h 0 x a rfl rfl
  have:=zij (j:=j) (xs:=xs) (as:=as) λi y b h1 h2=>h (i+1) y b (by simpa using h1) (by simpa using h2)
  simp only [comb,h0,this]
  rfl
theorem zj8 {j x y:Nat} {q:Int} {t:Ji} {as:List Vc} {t1 t2:Int} {a1 a2:Vc} (hxy:x≠y) (h1:t[x]?=some t1) (h2:t[y]?=some t2) (k1:as[x]?=some a1) (k2:as[y]?=some a2) {b:Vc} (hb:b j=a2 j+q*a1 j) :
  comb (t.set x (t1-q*t2)) (as.set y b) j=comb t as j:=by
 rw [zkc h1 (by rw [List.getElem?_set_ne (Ne.symm hxy)];exact k1),zjO h2 k2,hb]
 grind
end Lat
namespace L2
open PySem PySem.Spec PyProof.Rows
section
variable {X:Cx} {K:W.Frag}
end
section
variable {Γ:Ctx} {m:Bool} {K:W.Frag}
end
end L2
namespace L2
open PySem PySem.Spec PyProof.Rows
section
variable {E:XS} {Γ:Ctx} {u:TS} {o:Oc} {K:W.Frag} {i j:Nat}
end
end L2
namespace Lat
open L2
theorem zvh {m:Nat} {z:Int} {i:Nat}:vec (List.map (λ(y:Int)=>(if (decide (y=z)) then (1:Int) else 0)) (zbo 0 m)) i=if i<m∧(i:Int)=z then 1 else 0:=by
 unfold vec
 rw [List.getD_eq_getElem?_getD,List.getElem?_map]
 by_cases hi:i<m
 ·have:(zbo 0 m)[i]?=some (i:Int):=by
   unfold zbo
   rw [List.getElem?_map,List.getElem?_range hi]
   show some ((0:Int)+(i:Int))=some (i:Int)
   rw [Int.zero_add]
  rw [this]
  show (if (decide ((i:Int)=z)) then (1:Int) else 0)=_
  by_cases e:(i:Int)=z
  ·rw [decide_eq_true e,if_pos rfl,if_pos ⟨hi,e⟩]
  ·rw [decide_eq_false e,if_neg ↥5,if_neg (λq=>e q.2)]
 ·rw [List.getElem?_eq_none ↑95,if_neg (λq=>hi q.1)]
  rfl
theorem ziM {m:Nat} {c:Int}:∀ (ys:Ji) (s:Int) (i:Nat),i<m->0≤c+s->comb ys (List.map (λ(x:Int)=>vec (List.map (λ(y:Int)=>(if (decide (y=(c+x))) then (1:Int) else 0)) (zbo 0 m))) (zbo s ys.length)) i=if c+s≤(i:Int) then vec ys ((i:Int)-(c+s)).toNat else 0
 | [],s,i,_,_=>by
  rw [show comb [] _ i=0 from rfl]
  split
  ·simp [vec]
  ·rfl
 | y :: ys,s,i,hi,hs=>by
  have ih:=ziM (c:=c) ys (s+1) i hi ↑0
  rw [List.length_cons,zgT,List.map_cons]
  simp only [comb,ih]
  rw [zvh]
  by_cases e:(i:Int)=c+s
  ·rw [if_pos ⟨hi,e⟩,if_neg ↑0,if_pos ↑0,show ((i:Int)-(c+s)).toNat=0 by omega,zoi]
   omega
  ·rw [if_neg (λq=>e q.2)]
   by_cases e2:c+s≤(i:Int)
   ·rw [if_pos ↑0,if_pos e2,show ((i:Int)-(c+s)).toNat=((i:Int)-(c+(s+1))).toNat+1 by omega,zbj]
    omega
   ·rw [if_neg ↑0,if_neg e2]
    omega
end Lat
namespace L2
open PySem PySem.Spec PyProof.Rows
section
open PySem.SeqAt PySem.MeetsSeq PySem.MeetsSeq2 PySem.MeetsSeq3
open PySem.AutoSeq1 (wpAny_loadPart')
end
section
variable {X:Cx} {K:W.Frag}
end
section
variable {X:Cx} {K:W.Frag}
theorem zlh {H:Hp}:∀ {xs:Ji} {vs:List V},Paired ↑117 vs (xs.map dI)->vs=xs.map V.int
 | [],_,.nil=>rfl
 | x :: xs,_,.cons a t=>by rw [zlh t,show _=V.int x from a];rfl
end
section
variable {E:XS} {Γ:Ctx} {te tj:TE} {t u:TS} {o:Oc} {m:Bool} {K:W.Frag} {i j:Nat} {α β:Type}
def dX (v:V) (d:Ds):Ds:=⟨λH u=>u=v∧d.pr H u,λe h=>⟨h.1,d.up e h.2⟩⟩
theorem zjg {v:V} {d:Ds} (e:Γ[i]?=some (.va m (dX v d))):Ev Γ (zg1 i) m d:=λF0 Hb F H σ own Q a k =>
 (zaa e) F0 Hb F H σ own Q a λx F' H' g q=>k x F' H' g q.2
end
end L2
namespace L2
open PySem PySem.Spec PyProof.Rows
section
variable {X:Cx} {CX:CXT} {k:Nat} {f C:Addr} {fd:FuncData} {ps:List Str} {sp:Sp} {E:XK} {m:Str} {pos apos:Pos} {o e:Expr} {es:List Expr} {t:TA}
structure ByCls (K:W.Frag) (C f:Addr) (m:Str):Prop where
 ga:W.specialIn K (.ref C) "__getattribute__"=some (some (.builtin "type.__getattribute__"))
 rd:W.readsIn K C (.type "type")=true
 fn:W.findCls K (.ref C) (.type "type") m=some (.val (.ref f))
 kp:W.keepIn K (.ref f)=true
theorem zpe {pl:Sem Bool} (he:PE X o (tC (.ref C))) (B:ByCls X.K C f m) (F:FnOk X.prog X.w X.K X.mg X.base CX k f fd ps sp) (hr:Room k X.A) (hb:zgl X.K fd ps []) (hx:zgL CX X E) (ha:PA X (e::es) t)
  (hst:starEach (e::es) X.env=(false,eval e X.env) :: starEach es X.env:=by rfl) (hpl:(↑66).any (·.1)=false:=by rfl)
  (ht:eval ↑128 X.env=(do
   let ov ← eval o X.env
   standAt apos.atName
   let (f,first) ← holding [ov] (getMethod ov m pl)
   callWith pos f first (backTo pos (starEach (e::es) X.env)) ↑188):=by rfl) :
  PE X ↑128 (tCall sp [] E t):=by
 intro pins s σ H Q I h
 refine W.methodCall_KW (pl:=pl) (thn (he pins s σ H (λv H1=>v=.ref C∧t σ H1 λvs H2=>sp (vs++[]) H2 Q E) I ⟨rfl,h⟩) λu s1 ⟨x,H1,I1,rx,ex,q⟩=>?_) ht
 subst ex
 obtain rfl:u=Value.ref C:=rx
 refine W.method_cls I1.kIn B.ga (W.cls_value I1.kIn B.rd B.fn rfl ?_)
 refine W.callWith_K (first:=[]) (h₀:=X.base) I.ok.mod.kin B.kp (thn (ha pos pins _ σ H1 _ (I1.tok _) q) λus s2 ⟨vs,H2,I2,r,q2⟩=>⟨I2.kIn,?_⟩) hst hpl
 exact zm3 F hr hb .nil hx I2 r q2
end
section
variable {E:XS} {Γ:Ctx} {u:TS} {o:Oc} {m m2:Bool} {K:W.Frag} {i:Nat} {ds:List Ds} {tr:TA}
theorem zl5 {ι:Type} {C p dx:Addr} {args:ι->List Ds} {pre:ι->Prop} {fs:ι->List (Str×Ds)} {E1:XK} (x:ι) (e:Γ[i]?=some (.ob m C p dx [])) (h:EvA Γ tr m2 ds) (ha:ds=args x) (hp:pre x) (k:Run E (Γ.set i (.ob m C p dx (fs x))) u o) :
  Run E Γ (tSeq (zjB (tCall (zp9 C args pre m fs) [] E1 (tCons (zg1 i) tr))) u) o:=λF0 Hb F H σ own D a q=>by
 subst ha
 have hi:i<σ.length:=by rw [a.len];exact (↑35).1
 obtain ⟨vs0,z1,_⟩:=a.sl i _ e
 have e':σ[i]?=some (some (.ref p)):=by
  rw [List.getElem?_eq_getElem hi] at z1 ⊢
  exact congrArg some z1
 refine ⟨_,e',h F0 Hb F H σ own _ a λvs F1 H1 g1 q1=>?_⟩
 have a1:=a.grow g1
 obtain ⟨vs1,w1,w2,w3,w4,w5,w6⟩:=a1.sl i _ e
 cases w6
 have ne:dx≠p:=λz=>by
  have h1:=w5.1;have h2:=w5.2
  rw [z] at h2
  rw [h1] at h2;cases h2
 have hE:∀ b,b≠p->b≠dx->(if b=p∨b=dx then none else H1 b)=H1 b:=λb n1 n2=>by
  rw [if_neg (by simp [n1,n2])]
 have hEp:(λb=>if b=p∨b=dx then none else H1 b) p=none:=if_pos ↑34
 have hEd:(λb=>if b=p∨b=dx then none else H1 b) dx=none:=if_pos (.inr rfl)
 have sE:∀ {R:Hp},Same R H1->R p=none->R dx=none->Same R (λb=>if b=p∨b=dx then none else H1 b):=λhR n1 n2 b w z=>by
  have b1:b≠p:=λy=>by rw [y,n1] at z;cases z
  have b2:b≠dx:=λy=>by rw [y,n2] at z;cases z
  show (if b=p∨b=dx then none else H1 b)=some w
  rw [hE b b1 b2];exact hR b w z
 refine ⟨x,p,dx,vs,λb=>if b=p∨b=dx then none else H1 b,F1,by rw [List.append_nil],hEp,hEd,ne,?_,sE a1.fh w3.1 w3.2,?_,hp,λus F' H' g n1 n2 h1 h2 h3=>?_⟩
 ·funext b
  by_cases b1:b=p
  ·rw [b1,zaD,w5.1]
  ·rw [zaq b1]
   by_cases b2:b=dx
   ·rw [b2,zaD,w5.2]
   ·rw [zaq b2,hE b b1 b2]
 ·exact zdx (ds:=[]) za9 q1
 ·have gg:Grow F1 H1 F' (upd H' p (.ins C dx [])):=by
   refine ⟨g.f,λb w z=>?_,λb w z=>?_,λb z1 z2=>?_⟩
   ·rw [zaq (λy=>by rw [y,n1] at z;cases z)];exact g.fh b w z
   ·by_cases b1:b=p
    ·rw [b1,zaD];rw [b1,w5.1] at z;exact z
    ·rw [zaq b1]
     by_cases b2:b=dx
     ·rw [b2,h2];rw [b2,w5.2] at z;exact z
     ·exact g.h b w (by show (if b=p∨b=dx then none else H1 b)=some w;rw [hE b b1 b2];exact z)
   ·by_cases b1:b=p
    ·rw [b1];exact n1
    ·by_cases b2:b=dx
     ·rw [b2];exact n2
     ·exact g.no b (by show (if b=p∨b=dx then none else H1 b)≠none;rw [hE b b1 b2];exact z1) z2
  have a2:=(a1.grow gg).turnOb (n:=m) (ws:=us) (gs:=fs x) e (zb2 (λ_ b z=>⟨z.1,b.2.up (zga (sE a1.g.h w4.1 w4.2)) z.2⟩) h3)
  have eq:upd (upd H' p (.ins C dx [])) p (.ins C dx us)=H':=by
   funext b
   by_cases b1:b=p
   ·rw [b1,zaD,h1]
   ·rw [zaq b1,zaq b1]
  rw [eq] at a2
  exact k F0 Hb F' H' σ own D a2 q
end
section
variable {Γ:Ctx} {m:Bool}
theorem zrR {ta:TE} {n:Int} (h:Ev Γ ta false (dI n)):Ev Γ (tCB (λxs H Q=>∃i,xs=[.int i]∧Q (.int (if i<0 then-i else i)) H) (tCons ta tNil)) m (dI ((n.natAbs:Nat):Int)):=λF0 Hb F H σ own Q a k =>
 h F0 Hb F H σ own _ a λv F1 H1 g1 q1=>by
  have q1:v=.int n:=q1
  subst q1
  refine ⟨n,rfl,k _ F1 H1 g1 ?_⟩
  show V.int _=V.int _
  congr 1
  split<;>omega
end
section
variable {X:Cx} {CX:CXT} {k k2:Nat} {f f2 C C2:Addr} {fd fd2:FuncData} {ps ps2:List Str} {sp sp2:Sp} {E:XK} {m:Str} {pos apos:Pos} {o e:Expr} {es:List Expr} {ta:TE} {t:TA}
theorem zkR {Γ:Ctx} {b:Bool} {ι:Type} {args:ι->List Ds} {pre:ι->Prop} {res:ι->Rs} {ds:List Ds} {d:Ds} {fs:List (Str×Ds)} (x:ι) (h1:Ev Γ ta false (dO C fs)) (h:EvA Γ t false ds) (ha:dO C fs :: ds=args x) (hp:pre x) (hr:res x=.va b d) (hn:((fs.map Prod.fst)).contains m=false) :
  Ev Γ (zrl C m (Spv args pre res) [] E ta t) b d:=λF0 Hb F H σ own Q a kk=>by
 refine h1 F0 Hb F H σ own _ a λu F1 H1 g1 ⟨p,dx,vs,e1,e2,e3,e4⟩=>⟨p,dx,vs,e1,g1.fh _ _ e2,?_,?_⟩
 ·have:∀ {vs:List (Str×V)} {fs:List (Str×Ds)} {R:Str×V->Str×Ds->Prop},Paired (λa b=>a.1=b.1∧R a b) vs fs->((fs.map Prod.fst)).contains m=false->vs.lookup m=none:=by
   intro vs fs R hq
   induction hq with
   | nil=>intro _;rfl
   | @cons a b _ _ w _ ih =>
    intro z
    rw [List.map_cons,List.contains_cons,Bool.or_eq_false_iff] at z
    obtain ⟨a1,a2⟩:=a
    rw [List.lookup_cons]
    have:(m == a1)=false:=by rw [show a1=b.1 from w.1];exact z.1
    rw [this]
    exact ih z.2
  exact this e4 hn
 ·refine h F0 Hb F1 H1 σ own _ ↑16 λws F2 H2 g2 q2=>⟨x,F2,g2.fh,?_,hp,?_⟩
  ·rw [← ha,List.append_nil]
   refine .cons ((dO C fs).up (show Same F1 F2 from g2.f) ⟨p,dx,vs,e1,e2,e3,e4⟩) q2
  ·rw [hr]
   exact λv F' H' g q=>kk v F' H' ((↑44).trans g) (d.up (zga ((↑16).g.h.trans g2.h)) q)
end
section
variable {Γ:Ctx} {i:Nat} {m n:Bool} {ds:List Ds}
end
end L2
namespace Lat
open L2
def dv:Ji->Vc->Int
 | [],_=>0
 | a :: w,u=>a*u 0+dv w λi=>u (i+1)
theorem zmY:∀ (w t:Ji),(↑246).sum=dv w (vec t)
 | [],_=>rfl
 | a :: w,[]=>by
  have:∀ (w:Ji),dv w (λ_=>0)=0:=by
   intro w
   induction w with
   | nil=>rfl
   | cons a w ih=>show a*0+dv w (λ_=>0)=0;rw [ih];omega
  exact (this (a :: w)).symm
 | a :: w,b :: t=>by
  show a*b+(↑246).sum=a*b+dv w λi=>vec (b :: t) (i+1)
  rw [zmY w t]
  congr 2
theorem zih:∀ (w:Ji) (u v:Vc) (x:Int),dv w (λi=>u i+x*v i)=dv w u+x*dv w v
 | [],_,_,x=>by show (0:Int)=0+x*0;omega
 | a :: w,u,v,x=>by
  show a*(u 0+x*v 0)+dv w (λi=>u (i+1)+x*v (i+1))=_
  rw [zih w ↑74 (λi=>v (i+1)) x]
  show _=a*u 0+dv w ↑74+x*(a*v 0+dv w λi=>v (i+1))
  grind
theorem zk1 (w:Ji):dv w (λ_=>0)=0:=by
 have:=zih w (λ_=>0) (λ_=>0) (-1)
 have e:(λ(i:Nat)=>(0:Int)+-1*0)=λ_=>0:=by funext i;omega
 rw [e] at this
 omega
theorem zjr {w:Ji} {u v:Vc} (h:∀ i,u i=v i):dv w u=dv w v:=by rw [show u=v from funext h]
theorem zp4:∀ (w:Ji) (c:Int) (u:Vc),dv (mul w c) u=dv w u*c
 | [],c,u=>by show (0:Int)=0*c;omega
 | a :: w,c,u=>by
  show a*c*u 0+dv (mul w c) ↑74=(a*u 0+dv w λi=>u (i+1))*c
  rw [zp4 w c]
  grind
theorem zmI:∀ {w:Ji} {k:Nat} {y:Int} {u:Vc},k<w.length->dv (w.set k y) u=dv w u+(y-vec w k)*u k
 | a :: w,0,y,u,_=>by
  show y*u 0+dv w ↑74=a*u 0+dv w ↑74+(y-a)*u 0
  grind
 | a :: w,k+1,y,u,h=>by
  show a*u 0+dv (w.set k y) ↑74=a*u 0+dv w ↑74+(y-vec (a :: w) (k+1))*u (k+1)
  rw [zmI (w:=w) (k:=k) ↑102,zbj]
  omega
theorem zp8 {A:Vc->Prop} {w:Ji} {M:Int} {u:Vc} (h:∀ a,A a->M ∣ dv w a) (hu:Sp A u):M ∣ dv w u:=by
 induction hu with
 | zero=>rw [zk1];exact Int.dvd_zero _
 | @add u a z _ ha ih=>rw [zih];exact Int.dvd_add ih (Int.dvd_trans (h a ha) (Int.dvd_mul_left _ _))
theorem zsD {X B:Nat}:∀ {w:Ji} {u:Vc},(∀ x∈w,x.natAbs≤X)->(∀ i,(u i).natAbs≤B)->(dv w u).natAbs≤w.length*(X*B)
 | [],u,_,_=>by show (0:Int).natAbs≤_;simp
 | a :: w,u,h,k=>by
  have h1:=zsD (w:=w) (u:=λi=>u (i+1)) (λy hy=>h y ↑198) λi=>k (i+1)
  have h2:(a*u 0).natAbs≤X*B:=by rw [Int.natAbs_mul];exact Nat.mul_le_mul (h a List.mem_cons_self) (k 0)
  show ((a*u 0+dv w λi=>u (i+1))).natAbs≤(w.length+1)*(X*B)
  rw [Nat.succ_mul]
  omega
theorem zrD {α:Type} {xs:List α} {k:Nat} {x:α} (h:k<xs.length):zdl xs (k:Int) x=xs.set k x:=by
 unfold zdl ixN
 rw [if_pos ↑0,if_pos ↑0]
 simp
theorem zlQ {l:Ji} {o:Nat} {x:Int} {i:Nat} (h:o<l.length):vec (l.set o x) i=if i=o then x else vec l i:=by
 unfold vec
 rw [List.getD_eq_getElem?_getD,List.getD_eq_getElem?_getD,List.getElem?_set]
 by_cases z:o=i
 ·subst z;rw [if_pos rfl,if_pos rfl,if_pos h];rfl
 ·rw [if_neg z,if_neg (Ne.symm z)]
def lv1 (w t:Ji):Ji:=zdl (mul w ↑108) (hd t:Int) (-(dv w (vec t)))
def lv (N:Nat):Jq->Ji
 | []=>zd8 ((N:Int)-1) [(0:Int)]++[(1:Int)]
 | t :: ss=>lv1 (lv N ss) t
def prh:Jq->Int
 | []=>1
 | t :: ss=>vec t (hd t)*prh ss
theorem zm0 (N:Nat):∀ ss:Jq,List.foldl lv1 (lv N []) ss.reverse=lv N ss
 | []=>rfl
 | t :: ss=>by rw [List.reverse_cons,List.foldl_append,zm0 N ss];rfl
theorem zpK {n:Nat}:(lv (n+1) []).length=n+1∧(∀ i,i<n->vec (lv (n+1) []) i=0)∧vec (lv (n+1) []) n=1:=by
 have hl:(zd8 (↑106-1) [(0:Int)]).length=n:=by rw [show ↑106-1=(n:Int) by omega];exact zer
 refine ⟨by show ((zd8 (↑106-1) [(0:Int)]++[(1:Int)])).length=_;rw [List.length_append,hl];rfl,λi hi=>?_,?_⟩
 ·show vec (zd8 (↑106-1) [(0:Int)]++[(1:Int)]) i=0
  rw [zjq,hl,if_pos hi]
  rw [show ↑106-1=(n:Int) by omega]
  unfold zd8 vec
  rw [List.getD_eq_getElem?_getD]
  cases q:((List.replicate (n:Int).toNat [(0:Int)]).flatten)[i]? with
  | none=>rfl
  | some y =>
   obtain ⟨l,h1,h2⟩:=List.mem_flatten.mp (List.mem_of_getElem? q)
   rw [List.eq_of_mem_replicate h1] at h2
   rw [List.mem_singleton.mp h2];rfl
 ·show vec (zd8 (↑106-1) [(0:Int)]++[(1:Int)]) n=1
  rw [zjq,hl,if_neg ↑0,Nat.sub_self];rfl
theorem zr8 {n:Nat}:∀ {ss:Jq} {lo:Nat},Ech (n+1) lo ss->(∀ t∈ss,hd t<n) →
  (↑48).length=n+1∧(∀ i,i<lo->i<n->vec ↑48 i=0)∧(∀ t∈ss,dv ↑48 (vec t)=0)∧vec ↑48 n=prh ss∧0<prh ss
 | [],lo,_,_=>by
  obtain ⟨h1,h2,h3⟩:=zpK (n:=n)
  exact ⟨h1,λi _ hi=>h2 i hi,by simp,h3,by decide⟩
 | t :: ss,lo,e,h=>by
  obtain ⟨e1,e2,e3,e4,e5⟩:=e
  obtain ⟨h1,h2,h3,h4,h5⟩:=zr8 e5 λs hs=>h s (List.mem_cons_of_mem _ hs)
  have ht:=h t List.mem_cons_self
  have hk:hd t<(mul ↑48 ↑108).length:=by rw [zbt,h1];omega
  have z0:vec ↑48 (hd t)=0:=h2 _ ↑0 ht
  have ew:lv (n+1) (t :: ss)=(mul ↑48 ↑108).set (hd t) (-(dv ↑48 (vec t))):=by
   show lv1 _ _=_
   unfold lv1
   rw [zrD hk]
  have hdv:∀ u:Vc,dv (lv (n+1) (t :: ss)) u=dv ↑48 u*vec t (hd t)-dv ↑48 (vec t)*u (hd t):=λu=>by
   rw [ew,zmI hk,zp4,zdT,z0]
   grind
  refine ⟨by rw [ew,List.length_set,zbt,h1],λi hi hn=>?_,λs hs=>?_,?_,Int.mul_pos e4 h5⟩
  ·rw [ew,zlQ hk,if_neg ↑0,zdT,h2 i ↑0 hn];omega
  ·rw [hdv]
   rcases List.mem_cons.mp hs with rfl | hs
   ·omega
   ·rw [h3 s hs,e5.before (Nat.lt_succ_self _) s hs];omega
  ·rw [ew,zlQ hk,if_neg ↑0,zdT,h4]
   show prh ss*vec t (hd t)=vec t (hd t)*prh ss
   exact Int.mul_comm _ _
theorem zrd {n s a:Nat} {w t:Ji} (T:Sd n s t) (hw:w.length≤1000) (hb:Bit a w):Bit (a+(s+9000)) (lv1 w t):=λx hx=>by
 rcases zhF hx with rfl | hx
 ·have h1:=zsD hb T.bit.vec
  have h2:w.length*(2^a*2^s)≤2^10*(2^a*2^s):=Nat.mul_le_mul_right _ ↑0
  rw [← Nat.pow_add,← Nat.pow_add] at h2
  have h3:2^(10+(a+s))≤2^(a+(s+9000)):=Nat.pow_le_pow_right ⇑1 ↑0
  rw [← Nat.pow_add] at h1
  rw [Int.natAbs_neg]
  exact Nat.le_trans h1 (Nat.le_trans h2 h3)
 ·unfold mul at hx
  obtain ⟨y,hy,rfl⟩:=List.mem_map.mp hx
  show (y*vec t (hd t)).natAbs≤_
  rw [Int.natAbs_mul]
  exact Nat.le_trans (zfS (hb y hy) T.top) (Nat.pow_le_pow_right ⇑1 ↑0)
theorem zqW {w t:Ji}:(lv1 w t).length=w.length:=by unfold lv1;rw [zf9,zbt]
def lvI (N:Nat) (ss:Jq) (i:Nat) (w:Ji):Prop:=w=lv N (ss.drop (ss.length-i))
theorem zus {N:Nat} {ss:Jq}:lvI N ss 0 (lv N []):=by
 unfold lvI
 rw [Nat.sub_zero,List.drop_length]
theorem zt2 {N i:Nat} {ss:Jq} {t w:Ji} (hx:ss.reverse[i]?=some t) (I:lvI N ss i w):lvI N ss (i+1) (lv1 w t):=by
 have hi:i<ss.length:=by have:=((List.getElem?_eq_some_iff.mp hx)).1;rwa [List.length_reverse] at this
 have e:ss[ss.length-(i+1)]?=some t:=by rw [← hx,List.getElem?_reverse hi];congr 1;omega
 unfold lvI at *
 have hj:ss.length-(i+1)<ss.length:=by omega
 rw [List.drop_eq_getElem_cons hj,show ss.length-(i+1)+1=ss.length-i by omega]
 rw [List.getElem?_eq_getElem hj] at e
 cases e
 show lv1 w _=lv1 (lv N _) _
 rw [← I]
theorem zmK {n s:Nat}:∀ {ss:Jq},(∀ t∈ss,Sd (n+1) s t)->n≤900->(↑48).length=n+1∧Bit (1+ss.length*(s+9000)) ↑48
 | [],_,_=>⟨zpK.1,λx hx=>by
  have hx:x∈zd8 (↑106-1) [(0:Int)]++[(1:Int)]:=hx
  rcases List.mem_append.mp hx with hx | hx
  ·unfold zd8 at hx
   obtain ⟨l,h1,h2⟩:=List.mem_flatten.mp hx
   rw [List.eq_of_mem_replicate h1] at h2
   rw [List.mem_singleton.mp h2];exact Nat.zero_le _
  ·rw [List.mem_singleton.mp hx]
   exact Nat.one_le_two_pow⟩
 | t :: ss,h,hn=>by
  obtain ⟨h1,h2⟩:=zmK (λs hs=>h s (List.mem_cons_of_mem _ hs)) hn
  refine ⟨by show (lv1 _ _).length=_;rw [zqW,h1],(zrd (h t List.mem_cons_self) ↑0 h2).mono ?_⟩
  rw [List.length_cons,Nat.succ_mul];omega
theorem zpB {E:Nat}:∀ {ss:Jq},(∀ t∈ss,(↑108).natAbs≤2^E)->(prh ss).natAbs≤2^(E*ss.length)
 | [],_=>by show (1:Int).natAbs≤_;rw [List.length_nil,Nat.mul_zero];decide
 | t :: ss,h=>by
  show (vec t (hd t)*prh ss).natAbs≤_
  rw [Int.natAbs_mul,List.length_cons,Nat.mul_succ,Nat.add_comm]
  exact zfS (h t List.mem_cons_self) (zpB λs hs=>h s (List.mem_cons_of_mem _ hs))
structure GdI (g0 s0:Int) (p:Int×Int):Prop where
 a:0≤p.1
 b:0≤p.2
 d:∀ d:Int,d ∣ p.1->d ∣ p.2->d ∣ g0∧d ∣ s0
 n:g0≠0∨s0≠0->p.1≠0∨p.2≠0
theorem GdI.start {g s:Int} (h1:0≤g) (h2:0≤s):GdI g s (g,s):=⟨h1,h2,λ_ a b=>⟨a,b⟩,λh=>h⟩
theorem GdI.step {g s:Int} {p:Int×Int} (I:GdI g s p) (h:p.2≠0):GdI g s (p.2,p.1%p.2)∧(p.1%p.2).toNat<p.2.toNat:=by
 have hb:=I.b
 have m0:=Int.emod_nonneg p.1 h
 have m1:=Int.emod_lt_of_pos p.1 (show 0<p.2 by omega)
 refine ⟨⟨hb,m0,λd d1 d2=>I.d d ?_ d1,λ_=>.inl h⟩,by omega⟩
 have:p.1%p.2+p.2*(p.1/p.2)=p.1:=Int.emod_add_mul_ediv p.1 p.2
 rw [← this]
 exact Int.dvd_add d2 (Int.dvd_trans d1 (Int.dvd_mul_right _ _))
theorem GdI.done {g s:Int} {p:Int×Int} (I:GdI g s p) (h:p.2=0):0≤p.1∧p.1 ∣ g∧p.1 ∣ s∧(g≠0∨s≠0->0<p.1):=by
 have:=I.d p.1 (Int.dvd_refl _) (by rw [h];exact Int.dvd_zero _)
 refine ⟨I.a,this.1,this.2,λz=>?_⟩
 have:=I.a
 rcases I.n z with w | w
 ·omega
 ·exact absurd h w
def DvI (l:Ji) (i:Nat) (g:Int):Prop:=0≤g∧(∀ x∈l.take i,g ∣ x)∧((∃ x∈l.take i,x≠0)->0<g)
theorem DvI.start {l:Ji}:DvI l 0 0:=⟨Int.le_refl _,by simp,by simp⟩
theorem DvI.step {l:Ji} {i:Nat} {g g' x:Int} (hx:l[i]?=some x) (I:DvI l i g) (h:0≤g'∧g' ∣ g∧g' ∣ ↑142∧(g≠0∨↑142≠0->0<g')):DvI l (i+1) g':=by
 obtain ⟨h1,h2,h3,h4⟩:=h
 have hm:∀ y∈l.take (i+1),y∈l.take i∨y=x:=λy hy=>by
  rw [List.take_add_one,hx] at hy
  rcases List.mem_append.mp hy with hy | hy
  ·exact .inl hy
  ·exact .inr (by simpa using hy)
 have hxx:g' ∣ x:=by rw [← Int.dvd_natAbs];exact h3
 refine ⟨h1,λy hy=>?_,λ⟨y,hy,hn⟩=>h4 ?_⟩
 ·rcases hm y hy with hy | rfl
  ·exact Int.dvd_trans h2 (I.2.1 y hy)
  ·exact hxx
 ·rcases hm y hy with hy | rfl
  ·have:=I.2.2 ⟨y,hy,hn⟩
   exact .inl ↑0
  ·exact .inr ↑0
def zgX (sw:Jq) (x:Ji):Jq:=List.map (λ(r:Ji)=>r++[(0:Int)]) sw++[x++[⇑7]]
theorem zjc {l:Ji}:vec (l++[(0:Int)])=vec l:=by
 funext i
 rw [zjq]
 split
 ·rfl
 ·rename_i h
  rw [zc6 (l:=l) ↑0]
  cases q:i-l.length with
  | zero=>rfl
  | succ k=>rw [zbj];rfl
theorem zgQ {l:Ji} {n:Nat} (h:l.length=n) (i:Nat):vec (l++[⇑7]) i=vec l i-(if i=n then 1 else 0):=by
 rw [zjq,h]
 by_cases q:i<n
 ·rw [if_pos q,if_neg ↑0];omega
 ·rw [if_neg q,zc6 (l:=l) ↑0]
  by_cases z:i=n
  ·rw [if_pos z,z,Nat.sub_self];rfl
  ·rw [if_neg z]
   obtain ⟨k,hk⟩:∃ k,i-n=k+1:=⟨i-n-1,by omega⟩
   rw [hk,zbj];rfl
theorem zon {n:Nat} {sw:Jq} {x:Ji} (h:∀ r∈sw,r.length=n) (hx:x.length=n):∀ r∈zgX sw x,r.length=n+1:=λr hr=>by
 rcases List.mem_append.mp hr with hr | hr
 ·obtain ⟨s,hs,rfl⟩:=List.mem_map.mp hr
  rw [List.length_append,h s hs];rfl
 ·rw [List.mem_singleton.mp hr,List.length_append,hx];rfl
theorem zns {b:Nat} {sw:Jq} {x:Ji} (h:∀ r∈sw,Bit b r) (hx:Bit b x):∀ r∈zgX sw x,Bit b r:=λr hr y hy=>by
 rcases List.mem_append.mp hr with hr | hr
 ·obtain ⟨s,hs,rfl⟩:=List.mem_map.mp hr
  rcases List.mem_append.mp hy with hy | hy
  ·exact h s hs y hy
  ·rw [List.mem_singleton.mp hy];exact Nat.zero_le _
 ·rw [List.mem_singleton.mp hr] at hy
  rcases List.mem_append.mp hy with hy | hy
  ·exact hx y hy
  ·rw [List.mem_singleton.mp hy];exact Nat.one_le_two_pow
theorem zrN {n:Nat} {sw:Jq} {x:Ji} (h:∀ r∈sw,r.length=n) (hx:x.length=n) {v:Vc} (hv:SpL (zgX sw x) v):SpL sw (λi=>v i+v n*(vec x i-if i=n then 1 else 0)):=by
 have hv:Sp (λu=>(∃ s∈sw,u=vec s)∨u=vec (x++[⇑7])) v:=Sp.mono (λa ⟨r,hr,e⟩=>by
  rcases List.mem_append.mp hr with hr | hr
  ·obtain ⟨s,hs,rfl⟩:=List.mem_map.mp hr
   exact .inl ⟨s,hs,by rw [e,zjc]⟩
  ·rw [List.mem_singleton.mp hr] at e
   exact .inr e) hv
 obtain ⟨u,y,hu,e⟩:=hv.split
 have u0:u n=0:=Sp.at0 (λa ⟨s,hs,e⟩=>by rw [e];exact zc6 (by rw [h s hs];exact Nat.le_refl _)) hu
 have en:=e n
 rw [u0,zgQ hx,if_pos rfl,zc6 (l:=x) ↑0] at en
 have hy:v n=-y:=by omega
 refine Sp.conv (A:=λu=>∃ s∈sw,u=vec s) hu λi=>?_
 rw [e i,hy,zgQ hx]
 grind
theorem zpT {n:Nat} {sw:Jq} {x:Ji} (hx:x.length=n) {d:Int} (h:SpL sw (λi=>d*vec x i)):SpL (zgX sw x) (λi=>if i=n then d else 0):=by
 have h1:SpL (zgX sw x) (λi=>d*vec x i):=Sp.mono (λa ⟨s,hs,e⟩=>⟨s++[(0:Int)],List.mem_append_left _ (List.mem_map.mpr ⟨s,hs,rfl⟩),by rw [e,zjc]⟩) h
 have h2:SpL (zgX sw x) (vec (x++[⇑7])):=Sp.mem ⟨_,List.mem_append_right _ ↑137,rfl⟩
 refine (Sp.lin 1 (-d) h1 h2).conv λi=>?_
 rw [zgQ hx]
 by_cases z:i=n
 ·rw [if_pos z,if_pos z];grind
 ·rw [if_neg z,if_neg z];grind
theorem zkI {n:Nat}:∀ {R:Jq} {lo:Nat},Ech (n+1) lo R->R=List.filter (λ(t:Ji)=>decide (hd t<n)) R∨∃ t,hd t=n∧R=List.filter (λ(t:Ji)=>decide (hd t<n)) R++[t]
 | [],_,_=>.inl rfl
 | t :: R,lo,e=>by
  obtain ⟨e1,e2,e3,e4,e5⟩:=e
  by_cases q:hd t<n
  ·rw [List.filter_cons,if_pos (by simpa using q)]
   rcases zkI e5 with z | ⟨s,h1,h2⟩
   ·exact .inl (by rw [← z])
   ·exact .inr ⟨s,h1,by rw [List.cons_append,← h2]⟩
  ·have hR:R=[]:=by
    cases R with
    | nil=>rfl
    | cons s R=>have:=e5.2.1;have:=e5.2.2.1;omega
   subst hR
   rw [List.filter_cons,if_neg (by simpa using q)]
   exact .inr ⟨t,by omega,rfl⟩
theorem zhl {n N:Nat} {p:Ji->Bool}:∀ {R:Jq} {lo:Nat},Ech N lo R->Ech N lo (List.filter p R)
 | [],_,_=>trivial
 | t :: R,lo,e=>by
  obtain ⟨e1,e2,e3,e4,e5⟩:=e
  rw [List.filter_cons]
  split
  ·exact ⟨e1,e2,e3,e4,zhl (n:=n) e5⟩
  ·exact (zhl (n:=n) e5).mono ↑0
theorem zkJ:∀ {ss:Jq} {t:Ji},prh (ss++[t])=prh ss*vec t (hd t)
 | [],t=>by show vec t (hd t)*1=1*vec t (hd t);omega
 | s :: ss,t=>by show vec s (hd s)*prh (ss++[t])=vec s (hd s)*prh ss*vec t (hd t);rw [zkJ,Int.mul_assoc]
theorem zjh:∀ {w:Ji} {n:Nat} {u:Vc},w.length=n+1->dv w u=dv (w.take n) u+vec w n*u n
 | [a],0,u,_=>by show a*u 0+0=0+a*u 0;omega
 | a :: b :: w,n+1,u,h=>by
  show a*u 0+dv (b :: w) ↑74=a*u 0+dv ((b :: w).take n) ↑74+vec (a :: b :: w) (n+1)*u (n+1)
  rw [zjh (w:=b :: w) (n:=n) ↑102,zbj]
  omega
 | [a],n+1,u,h=>by simp at h
 | _ :: _ :: _,0,u,h=>by simp at h
 | [],_,u,h=>by simp at h
structure Shw (n:Nat) (sw:Jq) (x:Ji) (R ss:Jq):Prop where
 st:Stairs (n+1) (zgX sw x) R
 ss:ss=List.filter (λ(t:Ji)=>decide (hd t<n)) R
 hl:∀ r∈sw,r.length=n
 hx:x.length=n
section
variable {n:Nat} {sw:Jq} {x:Ji} {R ss:Jq}
theorem Shw.low (h:Shw n sw x R ss):∀ t∈ss,t∈R∧hd t<n:=λt ht=>by
 rw [h.ss] at ht
 obtain ⟨h1,h2⟩:=List.mem_filter.mp ht
 exact ⟨h1,by simpa using h2⟩
theorem Shw.lv (h:Shw n sw x R ss):(↑48).length=n+1∧(∀ t∈ss,dv ↑48 (vec t)=0)∧vec ↑48 n=prh ss∧0<prh ss:=by
 have e:Ech (n+1) 0 ss:=by rw [h.ss];exact zhl (n:=n) h.st.ech
 obtain ⟨h1,h2,h3,h4,h5⟩:=zr8 e λt ht=>(h.low t ht).2
 exact ⟨h1,h3,h4,h5⟩
theorem Shw.row (h:Shw n sw x R ss) {M:Int} (hM:∀ t∈R,M ∣ dv (Lat.lv (n+1) ss) (vec t)):(∀ s∈sw,M ∣ dv ↑52 (vec s))∧M ∣ dv ↑52 (vec x)-prh ss:=by
 obtain ⟨h1,h2,h3,h4⟩:=h.lv
 have hs:∀ r∈zgX sw x,M ∣ dv (Lat.lv (n+1) ss) (vec r):=λr hr=>zp8 (λa ⟨t,ht,e⟩=>by rw [e];exact hM t ht) (h.st.out r hr)
 refine ⟨λs hs'=>?_,?_⟩
 ·have:=hs (s++[(0:Int)]) (List.mem_append_left _ (List.mem_map.mpr ⟨s,hs',rfl⟩))
  rw [zjc,zjh h1,zc6 (l:=s) (by rw [h.hl s hs'];exact Nat.le_refl _)] at this
  simpa using this
 ·have:=hs _ (List.mem_append_right _ ↑137)
  rw [zjh h1,zgQ h.hx,if_pos rfl,zc6 (l:=x) (by rw [h.hx];exact Nat.le_refl _),h3] at this
  have e:dv ↑52 (vec (x++[⇑7]))=dv ↑52 (vec x):=by
   have hl:(↑52).length≤n:=by rw [List.length_take];omega
   have:∀ {w:Ji} {u v:Vc},(∀ i,i<w.length->u i=v i)->dv w u=dv w v:=by
    intro w
    induction w with
    | nil=>intro u v _;rfl
    | cons a w ih =>
     intro u v q
     show a*u 0+_=a*v 0+_
     rw [q 0 ↥5,ih λi hi=>q (i+1) ↑56]
   exact this λi hi=>by rw [zgQ h.hx,if_neg ↑0];omega
  rw [e] at this
  have e2:dv ↑52 (vec x)+prh ss*(0-1)=dv ↑52 (vec x)-prh ss:=by omega
  rw [e2] at this
  exact this
theorem Shw.line (h:Shw n sw x R ss) (e:R=ss):(∀ s∈sw,dv ↑52 (vec s)=0)∧dv ↑52 (vec x)=prh ss∧∀ d:Int,SpL sw (λi=>d*vec x i)->d=0:=by
 obtain ⟨h1,h2,h3,h4⟩:=h.lv
 obtain ⟨r1,r2⟩:=h.row (M:=0) λt ht=>by rw [e] at ht;rw [h2 t ht];exact Int.dvd_refl _
 refine ⟨λs hs=>Int.zero_dvd.mp (r1 s hs),by have:=Int.zero_dvd.mp r2;omega,λd hd'=>Classical.byContradiction λhn=>?_⟩
 have hv:=zpT h.hx hd'
 have hv2:SpL R (λi=>if i=n then d else 0):=Sp.sub (A:=λu=>∃ r∈zgX sw x,u=vec r) (λa ⟨r,hr,q⟩=>by rw [q];exact h.st.out r hr) hv
 obtain ⟨t,ht,q⟩:=zjw (h:=n) h.st.ech hv2 (λi hi=>if_neg ↑0) (by rw [if_pos rfl];exact hn)
 rw [e] at ht
 have:=(h.low t ht).2
 omega
theorem Shw.rest (h:Shw n sw x R ss) {t:Ji} (ht:hd t=n) (e:R=ss++[t]):0<vec t n∧(∀ s∈sw,prh ss*vec t n ∣ dv ↑52 (vec s))∧(prh ss*vec t n ∣ dv ↑52 (vec x)-prh ss)∧SpL sw (λi=>vec t n*vec x i)∧∀ d:Int,SpL sw (λi=>d*vec x i)->vec t n ∣ d:=by
 obtain ⟨h1,h2,h3,h4⟩:=h.lv
 have hm:t∈R:=by rw [e];exact List.mem_append_right _ ↑137
 obtain ⟨t1,t2,t3,t4⟩:=h.st.ech.mem t hm
 rw [ht] at t4
 have tz:∀ i,i≠n->vec t i=0:=λi hi=>by
  by_cases q:i<n
  ·exact zc7 ↑0
  ·exact zc6 ↑0
 obtain ⟨r1,r2⟩:=h.row (M:=prh ss*vec t n) λs hs=>by
  rw [e] at hs
  rcases List.mem_append.mp hs with hs | hs
  ·rw [h2 s hs];exact Int.dvd_zero _
  ·rw [List.mem_singleton.mp hs,zjh h1,h3]
   have:dv ↑52 (vec t)=0:=by
    have hl:(↑52).length≤n:=by rw [List.length_take];omega
    have:∀ {w:Ji} {u:Vc},(∀ i,i<w.length->u i=0)->dv w u=0:=by
     intro w
     induction w with
     | nil=>intro u _;rfl
     | cons a w ih =>
      intro u q
      show a*u 0+_=0
      rw [q 0 ↥5,ih λi hi=>q (i+1) ↑56];omega
    exact this λi hi=>tz i ↑0
   rw [this,Int.zero_add]
   exact Int.dvd_refl _
 refine ⟨t4,r1,r2,?_,λd hd'=>?_⟩
 ·refine (zrN h.hl h.hx (h.st.inn t hm)).conv λi=>?_
  by_cases q:i=n
  ·subst q
   rw [if_pos rfl,zc6 (l:=x) (by rw [h.hx];exact Nat.le_refl _)];omega
  ·rw [if_neg q,tz i q,Int.sub_zero,Int.zero_add]
 ·have hv:=zpT h.hx hd'
  have hv2:SpL R (λi=>if i=n then d else 0):=Sp.sub (A:=λu=>∃ r∈zgX sw x,u=vec r) (λa ⟨r,hr,q⟩=>by rw [q];exact h.st.out r hr) hv
  have:=zky h.st.ech hv2 hm (λi hi=>if_neg ↑0)
  rw [ht,if_pos rfl] at this
  exact this
end
end Lat
namespace L2
open PySem PySem.Spec PyProof.Rows
section
variable {Γ:Ctx} {m:Bool} {K:W.Frag} {ta:TE} {α:Type} {f:α->Ds} {cl:α->Addr} {fs:α->List (Str×Ds)}
end
end L2
namespace L2
open PySem PySem.Spec PyProof.Rows
structure CalleeM (P:Program) (w:World) (K:W.Frag) (mg:Str->Option Value) (base:Heap) (CX:CXT) (k:Nat) (C:Addr) (m:Str) (ps:List Str) (sp:Sp):Prop where
 ex:∃ f fd,FnOk P w K mg base CX k f fd ps sp∧Meth K C m f∧zgl K fd ps []
def zvd (t u:TE):TE:=λσ H Q=>t σ H Q∨u σ H Q
section
variable {X:Cx} {CX:CXT} {k:Nat} {C:Addr} {ps:List Str} {sp:Sp} {E:XK} {m:Str} {pos apos:Pos} {o e:Expr} {es:List Expr} {ta:TE} {t:TA}
theorem zmA {pl:Sem Bool} (he:PE X o ta) (c:Cls X.K C) (F:CalleeM X.prog X.w X.K X.mg X.base CX k C m ps sp) (hr:Room k X.A) (hx:zgL CX X E) (ha:PA X (e::es) t)
  (hst:starEach (e::es) X.env=(false,eval e X.env) :: starEach es X.env:=by rfl) (hpl:(↑66).any (·.1)=false:=by rfl)
  (ht:eval ↑128 X.env=(do
   let ov ← eval o X.env
   standAt apos.atName
   let (f,first) ← holding [ov] (getMethod ov m pl)
   callWith pos f first (backTo pos (starEach (e::es) X.env)) ↑188):=by rfl) :
  PE X ↑128 (zrl C m sp [] E ta t):=by
 obtain ⟨f,fd,G,hm,hb⟩:=F.ex
 exact zqi he c hm G hr hb .nil hx ha hst hpl ht
theorem Ev.inl {Γ:Ctx} {t u:TE} {b:Bool} {d:Ds} (h:Ev Γ t b d):Ev Γ (zvd t u) b d:=λF0 Hb F H σ own Q a k=>.inl (h F0 Hb F H σ own Q a k)
theorem Ev.inr {Γ:Ctx} {t u:TE} {b:Bool} {d:Ds} (h:Ev Γ u b d):Ev Γ (zvd t u) b d:=λF0 Hb F H σ own Q a k=>.inr (h F0 Hb F H σ own Q a k)
end
section
variable {Γ:Ctx} {ta tb tc:TE} {m:Bool}
end
section
variable {E:XS} {Γ:Ctx} {m:Bool} {K:W.Frag} {te:TE} {u:TS} {α β:Type}
theorem zjj {x:α} {i1 i2 i3:Nat} (d1 d2 d3:α->Ds) (fo:β->Oc) {kk:α->β} (h:Ev Γ te m (dT [d1 x,d2 x,d3 x])) (k:∀ y,y=x->Run E (((Γ.set i1 (.va m (d1 y))).set i2 (.va m (d2 y))).set i3 (.va m (d3 y))) u (fo (kk y))) :
  Run E Γ (tSeq (zjt te (zow K 3 (zgk (zdk i1) (zgk (zdk i2) (zgk (zdk i3) zpz))))) u) (fo (Let x kk)):=λF0 Hb F H σ own D a q =>
 h F0 Hb F H σ own _ a λv F' H' g ⟨p,vs,e1,e2,e3⟩=>by
  cases e3 with | cons q1 t=>cases t with | cons q2 t=>cases t with | cons q3 t =>
   cases t
   exact ⟨p,_,e1,.inl (.inl ((za9.trans g.fh) _ _ e2)),rfl,_,_,rfl,_,_,rfl,_,_,rfl,rfl,k x rfl F0 Hb F' H' _ own D ((((↑22).set i1 q1).set i2 q2).set i3 q3) q⟩
end
end L2
namespace L2
open PySem PySem.Spec PyProof.Rows
def zu1 (C:Addr) (m:Str) (sp:Sp) (ta:TE) (t:TA):TEX:=λσ H Q E=>ta σ H λx H1=>∃ a dx fs,x=.ref a∧H1 a=some ↑83∧fs.lookup m=none∧t σ H1 λvs H2=>sp (x :: (vs++[])) H2 Q E
def orX (t u:TEX):TEX:=λσ H Q E=>t σ H Q E∨u σ H Q E
section
variable {X:Cx} {a b e o:Expr} {es:List Expr} {pos apos:Pos} {k:Nat} {C:Addr} {ps:List Str} {sp:Sp} {m:Str} {tb to:TE} {ta:TEX} {t:TA}
theorem zrM {pl:Sem Bool} (O:Own X) (he:PE X.nox o to) (c:Cls X.K C) (F:CalleeM X.prog X.w X.K X.mg X.base (CXE X.prog X.w) k C m ps sp) (hr:Room k X.A) (ha:PA X.nox (e::es) t)
  (hst:starEach (e::es) X.env=(false,eval e X.env) :: starEach es X.env:=by rfl) (hpl:(↑66).any (·.1)=false:=by rfl)
  (ht:eval ↑128 X.env=(do
   let ov ← eval o X.env
   standAt apos.atName
   let (f,first) ← holding [ov] (getMethod ov m pl)
   callWith pos f first (backTo pos (starEach (e::es) X.env)) ↑188):=by rfl) :
  PEX X ↑128 (zu1 C m sp to t):=by
 obtain ⟨f,fd,G,hm,hb⟩:=F.ex
 intro pins s σ H Q E I h
 refine W.methodCall_KW (pl:=pl) (wpAny_mono (he pins s σ H _ (I.wish _) h) (λu s1 ⟨x,H1,I1,rx,a,dx,fs,ex,ea,l,q⟩=>?_) λ_ _ f=>f.elim) ht
 subst ex
 obtain rfl:u=Value.ref a:=rx
 refine zhk I1.unwish ea c hm l ?_
 refine W.callWith_K (first:=[.ref a]) (h₀:=X.base) I.ok.mod.kin hm.kp (wpAny_mono (ha pos pins s1 σ H1 _ I1 q) (λus s2 ⟨vs,H2,I2,r,q2⟩=>⟨I2.unwish.kIn,?_⟩) λ_ _ f=>f.elim) hst hpl
 have I3:=I2.unwish
 have r2:zcn (V.ref a :: (vs++[])) (Value.ref a::(us++[])):=.cons rfl (r.append .nil)
 have hl:(Value.ref a :: us++[]).length=ps.length:=by
  have e:=r2.length
  rw [G.len _ _ _ _ q2] at e
  exact e.symm
 refine wpAny_call (codeAny_mono (G.run X.A X.stack s2 H2 ⟨Value.ref a :: us,[]⟩ (Value.ref a::(us++[])) _ Q E hr I3.env0 (show BindsTo s2 fd ⟨Value.ref a :: us,[]⟩ (ps.zip (Value.ref a::(us++[]))) from hb s2 (Value.ref a :: us) I3.kIn hl) r2 q2) λr s' hq=>?_)
 cases r with
 | error e=>exact zkk O I3 hq
 | ok fl =>
  cases fl with
  | ret u=>exact I3.after hq
  | next=>exact False.elim hq
  | brk=>exact False.elim hq
  | cont=>exact False.elim hq
end
def EvX {α ε:Type} (xc:ε->Addr) (Γ:Ctx) (te:TEX) (m:Bool) (d:α->Ds) (r:Except ε α):Prop:=∀ (F0 Hb F H:Hp) (σ:St) (own:Nat->Option Addr) (Q:VK) (E:XK),At F0 Hb F H σ own Γ →
 (match r with | .ok v=>∀ v' F' H',Grow F H F' H'->(d v).pr (part m F' Hb) v'->Q v' H' | .error e=>∀ dct F' H',Grow F H F' H'->E (.ref (xc e)) dct H')->te σ H Q E
section
variable {α β ε:Type} {xc:ε->Addr} {Γ Γx:Ctx} {te:TEX} {tb:TE} {m m0:Bool} {d:α->Ds} {r:Except ε α} {ds:List Ds} {u:TS} {E:XS}
theorem zqI {ι:Type} {C:Addr} {mt:Str} {args:ι->List Ds} {pre:ι->Prop} {res:ι->Rs} {t:TA} {fs:List (Str×Ds)} (x:ι) (h1:Ev Γ tb false (dO C fs)) (h:EvA Γ t false ds) (ha:dO C fs :: ds=args x) (hp:pre x) (hr:res x=zq1 xc m d r) (hn:((fs.map Prod.fst)).contains mt=false) :
  EvX xc Γ (zu1 C mt (Spv args pre res) tb t) m d r:=λF0 Hb F H σ own Q E a k=>by
 refine h1 F0 Hb F H σ own _ a λu F1 H1 g1 ⟨p,dx,vs,e1,e2,e3,e4⟩=>⟨p,dx,vs,e1,g1.fh _ _ e2,?_,?_⟩
 ·have:∀ {vs:List (Str×V)} {fs:List (Str×Ds)} {R:Str×V->Str×Ds->Prop},Paired (λa b=>a.1=b.1∧R a b) vs fs->((fs.map Prod.fst)).contains mt=false->vs.lookup mt=none:=by
   intro vs fs R hq
   induction hq with
   | nil=>intro _;rfl
   | @cons a b _ _ w _ ih =>
    intro z
    rw [List.map_cons,List.contains_cons,Bool.or_eq_false_iff] at z
    obtain ⟨a1,a2⟩:=a
    rw [List.lookup_cons]
    have:(mt == a1)=false:=by rw [show a1=b.1 from w.1];exact z.1
    rw [this]
    exact ih z.2
  exact this e4 hn
 ·refine h F0 Hb F1 H1 σ own _ ↑16 λws F2 H2 g2 q2=>⟨x,F2,g2.fh,?_,hp,?_⟩
  ·rw [← ha,List.append_nil]
   refine .cons ((dO C fs).up (show Same F1 F2 from g2.f) ⟨p,dx,vs,e1,e2,e3,e4⟩) q2
  ·rw [hr]
   cases r with
   | ok v=>exact λv' F' H' g q=>k v' F' H' ((↑44).trans g) ((d v).up (zga ((↑16).g.h.trans g2.h)) q)
   | error e=>exact λdct F' H' g=>k dct F' H' ((↑44).trans g)
theorem EvX.inl {t u:TEX} (h:EvX xc Γ t m d r):EvX xc Γ (orX t u) m d r:=λF0 Hb F H σ own Q E a k=>.inl (h F0 Hb F H σ own Q E a k)
theorem EvX.inr {t u:TEX} (h:EvX xc Γ u m d r):EvX xc Γ (orX t u) m d r:=λF0 Hb F H σ own Q E a k=>.inr (h F0 Hb F H σ own Q E a k)
theorem znZ {kk:α->Except ε β} {i:Nat} (fo:β->Oc) (h:EvX xc Γ te m d r) (w:Wk Γ Γx) (k:∀ v,r=.ok v->Run E (Γ.set i (.va m (d v))) u (foX xc Γx fo (kk v))):Run E Γ (tSeq (zsp te i E) u) (foX xc Γx fo (zrK r kk)):=λF0 Hb F H σ own D a q =>
 h F0 Hb F H σ own _ (E σ) a (by
  cases r with
  | ok v=>exact λv' F' H' g qv=>k v rfl F0 Hb F' H' _ own D ((↑22).set i qv) q
  | error e=>exact λdct F' H' g=>q dct F' H' σ own ((↑22).wk w))
end
end L2
namespace L2
open PySem PySem.Spec PyProof.Rows
section
variable {P:Program} {w:World} {K:W.Frag} {mg:Str->Option Value} {base:Heap} {x qual:Str} {st:Stmt} {f:Addr} {fd:FuncData} {N ps:List Str} {k:Nat}
end
section
variable {X:Cx} {k:Nat} {f C:Addr} {fd:FuncData} {ps:List Str} {sp:Sp} {x:Str} {p pos:Pos} {e:Expr} {es:List Expr} {t:TA}
end
section
variable {E:XS} {Γ Γx:Ctx} {u t:TS} {o:Oc} {ds:List Ds} {tr:TA} {K:W.Frag} {m:Bool} {ta:TE}
end
end L2
namespace Lat
open L2
theorem znm:∀ (w v:Ji) (q:Int) (u:Vc),w.length=v.length->dv (List.map (λ(x:Int×Int)=>x.1-(q*x.2)) (List.zip w v)) u=dv w u-q*dv v u
 | [],[],q,u,_=>by show (0:Int)=0-q*0;omega
 | a :: w,b :: v,q,u,h=>by
  show (a-q*b)*u 0+dv (List.map (λ(x:Int×Int)=>x.1-(q*x.2)) (List.zip w v)) ↑74=(a*u 0+dv w λi=>u (i+1))-q*(b*u 0+dv v λi=>u (i+1))
  rw [znm w v q ↑74 ↑102]
  grind
theorem zqV (w:Ji) (c:Int) (v:Vc):dv w (λi=>c*v i)=c*dv w v:=by
 have:=zih w (λ_=>0) v c
 rw [zk1,Int.zero_add] at this
 rw [← this]
 exact zjr λi=>by omega
theorem zlr {c:Int} {l:Ji} {k:Nat}:vec (List.map (λ(y:Int)=>c*y) l) k=c*vec l k:=by
 have e:List.map (λ(y:Int)=>c*y) l=mul l c:=by unfold mul;congr 1;funext y;exact Int.mul_comm _ _
 rw [e,zdT,Int.mul_comm]
theorem zkU:∀ (n:Nat) (s i:Int) (u:Vc),dv (List.map (λ(y:Int)=>(if (decide (y=i)) then (1:Int) else 0)) (zbo s n)) u=if s≤i∧i<s+n then u (i-s).toNat else 0
 | 0,s,i,u=>by
  rw [if_neg ↑0]
  rfl
 | n+1,s,i,u=>by
  rw [zgT,List.map_cons]
  show (if (decide (s=i)) then (1:Int) else 0)*u 0+dv (List.map (λ(y:Int)=>(if (decide (y=i)) then (1:Int) else 0)) (zbo (s+1) n)) (λk=>u (k+1))=_
  rw [zkU n (s+1) i]
  by_cases e:s=i
  ·have n1:¬ (s+1≤i∧i<s+1+(n:Int)):=by omega
   have n2:s≤i∧i<s+↑106:=by omega
   rw [decide_eq_true e,if_neg n1,if_pos n2,show (i-s).toNat=0 by omega]
   simp
  ·rw [decide_eq_false e]
   by_cases h:s+1≤i∧i<s+1+(n:Int)
   ·have n2:s≤i∧i<s+↑106:=by omega
    rw [if_pos h,if_pos n2,show (i-s).toNat=(i-(s+1)).toNat+1 by omega]
    simp
   ·have n2:¬ (s≤i∧i<s+↑106):=by omega
    rw [if_neg h,if_neg n2]
    simp
structure Du (W:Nat) (s:Jq×Jq):Prop where
 l1:s.1.length=W
 l2:s.2.length=W
 r:∀ t∈s.1,t.length=W
 d:∀ t∈s.2,t.length=W
 A:∀ (i j:Nat) (t v:Ji),s.2[i]?=some t->s.1[j]?=some v->dv t (vec v)=if i=j then 1 else 0
 B:∀ u:Vc,(∀ k,W≤k->u k=0)->∀ j,comb (s.2.map λt=>dv t u) (s.1.map vec) j=u j
theorem Du.step {W o t:Nat} {s:Jq×Jq} {ro rt d_o dt:Ji} (h:Du W s) (q:Int) (hot:o≠t) (ho:s.1[o]?=some ro) (ht:s.1[t]?=some rt) (hdo:s.2[o]?=some d_o) (hdt:s.2[t]?=some dt) :
  Du W (s.1.set t (List.map (λ(x:Int×Int)=>x.1+(q*x.2)) (List.zip rt ro)),s.2.set o (List.map (λ(x:Int×Int)=>x.1-(q*x.2)) (List.zip d_o dt))):=by
 have m1:=h.r _ (List.mem_of_getElem? ho);have m2:=h.r _ (List.mem_of_getElem? ht)
 have m3:=h.d _ (List.mem_of_getElem? hdo);have m4:=h.d _ (List.mem_of_getElem? hdt)
 have hr:∀ (w:Ji),dv w (vec (List.map (λ(x:Int×Int)=>x.1+(q*x.2)) (List.zip rt ro)))=dv w (vec rt)+q*dv w (vec ro):=λw=>by
  rw [← zih]
  exact zjr λi=>zfc (by rw [m1,m2])
 have hd:∀ u,dv (List.map (λ(x:Int×Int)=>x.1-(q*x.2)) (List.zip d_o dt)) u=dv d_o u-q*dv dt u:=λu=>znm _ _ _ _ (by rw [m3,m4])
 refine ⟨by show (s.1.set t _).length=W;rw [List.length_set];exact h.l1,by show (s.2.set o _).length=W;rw [List.length_set];exact h.l2,λx hx=>?_,λx hx=>?_,λi j x v hx hv=>?_,λu hu j=>?_⟩
 ·rcases List.mem_or_eq_of_mem_set hx with hx | rfl
  ·exact h.r x hx
  ·rw [List.length_map,List.length_zip,m1,m2];omega
 ·rcases List.mem_or_eq_of_mem_set hx with hx | rfl
  ·exact h.d x hx
  ·rw [List.length_map,List.length_zip,m3,m4];omega
 ·have hx2:(s.2.set o (List.map (λ(x:Int×Int)=>x.1-(q*x.2)) (List.zip d_o dt)))[i]?=some x:=hx
  have hv2:(s.1.set t (List.map (λ(x:Int×Int)=>x.1+(q*x.2)) (List.zip rt ro)))[j]?=some v:=hv
  clear hx hv
  have lo:=(List.getElem?_eq_some_iff.mp hdo).1
  have lt:=(List.getElem?_eq_some_iff.mp ht).1
  by_cases hi:i=o
  ·subst hi
   rw [List.getElem?_set_self lo] at hx2
   cases hx2
   rw [hd]
   by_cases hj:j=t
   ·subst hj
    rw [List.getElem?_set_self lt] at hv2
    cases hv2
    rw [hr,hr,h.A _ _ _ _ hdo ht,h.A _ _ _ _ hdo ho,h.A _ _ _ _ hdt ht,h.A _ _ _ _ hdt ho,if_neg hot,if_pos rfl,if_pos rfl,if_neg (Ne.symm hot)]
    omega
   ·rw [List.getElem?_set_ne (Ne.symm hj)] at hv2
    rw [h.A _ _ _ _ hdo hv2,h.A _ _ _ _ hdt hv2,if_neg (Ne.symm hj)]
    omega
  ·rw [List.getElem?_set_ne (Ne.symm hi)] at hx2
   by_cases hj:j=t
   ·subst hj
    rw [List.getElem?_set_self lt] at hv2
    cases hv2
    rw [hr,h.A _ _ _ _ hx2 ht,h.A _ _ _ _ hx2 ho,if_neg hi]
    omega
   ·rw [List.getElem?_set_ne (Ne.symm hj)] at hv2
    exact h.A _ _ _ _ hx2 hv2
 ·show comb ((s.2.set o _).map λt=>dv t u) ((s.1.set t _).map vec) j=u j
  rw [List.map_set,List.map_set,hd]
  rw [zj8 (a1:=vec ro) (a2:=vec rt) hot (by rw [List.getElem?_map,hdo];rfl) (by rw [List.getElem?_map,hdt];rfl) (by rw [List.getElem?_map,ho];rfl) (by rw [List.getElem?_map,ht];rfl) (zfc (by rw [m1,m2]))]
  exact h.B u hu j
theorem Du.start {W:Nat} {a:Jq} (ha:a=List.map (λ(x:Int)=>List.map (λ(y:Int)=>(if (decide (y=x)) then (1:Int) else 0)) (zbo 0 W)) (zbo 0 W)):Du W (a,a):=by
 have hm:∀ t∈a,t.length=W:=λt ht=>by
  rw [ha] at ht
  obtain ⟨x,_,rfl⟩:=List.mem_map.mp ht
  rw [List.length_map,zaT]
 have hl:a.length=W:=by rw [ha,List.length_map,zaT]
 have hg:∀ (i:Nat) (t:Ji),a[i]?=some t->i<W∧t=List.map (λ(y:Int)=>(if (decide (y=(i:Int))) then (1:Int) else 0)) (zbo 0 W):=λi t h=>by
  have hi:=((List.getElem?_eq_some_iff.mp h)).1
  rw [ha,List.getElem?_map] at h
  cases q:(zbo 0 W)[i]? with
  | none=>rw [q] at h;cases h
  | some z =>
   rw [q] at h
   obtain ⟨g1,g2⟩:=zbi q
   have h:List.map (λ(y:Int)=>(if (decide (y=z)) then (1:Int) else 0)) (zbo 0 W)=t:=Option.some.inj h
   rw [← h,g2,Int.zero_add]
   exact ⟨g1,rfl⟩
 refine ⟨hl,hl,hm,hm,λi j t v ht hv=>?_,λu hu j=>?_⟩
 ·obtain ⟨hi,rfl⟩:=hg i t ht
  obtain ⟨hj,rfl⟩:=hg j v hv
  rw [zkU,if_pos ↑0]
  rw [zvh]
  by_cases e:i=j
  ·rw [if_pos ↑43,if_pos e]
  ·rw [if_neg (λq=>e (by have:=q.2;omega)),if_neg e]
 ·show comb (a.map λt=>dv t u) (a.map vec) j=u j
  have e1:(a.map λt=>dv t u)=List.map (λ(x:Int)=>u x.toNat) (zbo 0 W):=by
   rw [ha,List.map_map]
   refine List.map_congr_left λx hx=>?_
   obtain ⟨x1,x2⟩:=zlL.mp hx
   show dv (List.map (λ(y:Int)=>(if (decide (y=x)) then (1:Int) else 0)) (zbo 0 W)) u=_
   rw [zkU,if_pos ↑0,Int.sub_zero]
  have e2:a.map vec=List.map (λ(x:Int)=>vec (List.map (λ(y:Int)=>(if (decide (y=(0+x))) then (1:Int) else 0)) (zbo 0 W))) (zbo 0 (List.map (λ(x:Int)=>u x.toNat) (zbo 0 W)).length):=by
   rw [ha,List.map_map,List.length_map,zaT]
   refine List.map_congr_left λx _=>?_
   rw [Int.zero_add];rfl
  rw [e1,e2]
  by_cases hj:j<W
  ·rw [ziM _ 0 j hj ↑0,if_pos ↑0]
   rw [show ((j:Int)-(0+0)).toNat=j by omega]
   unfold vec
   rw [List.getD_eq_getElem?_getD,List.getElem?_map]
   have q:(zbo 0 W)[j]?=some (j:Int):=by
    unfold zbo
    rw [List.getElem?_map,List.getElem?_range hj]
    show some ((0:Int)+(j:Int))=_
    rw [Int.zero_add]
   rw [q]
   show u ((j:Int)).toNat=u j
   rw [Int.toNat_natCast]
  ·rw [hu j ↑0]
   refine zij λi x v _ hv=>?_
   rw [List.getElem?_map] at hv
   cases q:((zbo 0 (List.map (λ(x:Int)=>u x.toNat) (zbo 0 W)).length))[i]? with
   | none=>rw [q] at hv;cases hv
   | some z =>
    rw [q] at hv
    have hv:=Option.some.inj hv
    rw [← hv]
    show x*vec (List.map (λ(y:Int)=>(if (decide (y=0+z)) then (1:Int) else 0)) (zbo 0 W)) j=0
    rw [zc6 (by rw [List.length_map,zaT];omega),Int.mul_zero]
def scl (rows:Jq) (bs:Ji):Jq:=(((List.zip rows bs)).filter λp=>decide (0<p.2)).map λp=>List.map (λ(y:Int)=>p.2*y) p.1
theorem zpS {W:Nat} {s:Jq×Jq} {bs:Ji} {u:Vc} (h:Du W s) (hu:SpL (scl s.1 bs) u) {i:Nat} {t:Ji} {b:Int} (ht:s.2[i]?=some t) (hb:bs[i]?=some b):b ∣ dv t u:=by
 refine zp8 (λa ⟨r,hr,e⟩=>?_) hu
 subst e
 obtain ⟨p,hp,rfl⟩:=List.mem_map.mp hr
 have hp:=(List.mem_filter.mp hp).1
 obtain ⟨j,hj⟩:=List.getElem?_of_mem hp
 obtain ⟨j1,j2⟩:=zbL hj
 rw [show vec (List.map (λ(y:Int)=>p.2*y) p.1)=λk=>p.2*vec p.1 k from funext λk=>zlr,zqV,h.A _ _ _ _ ht j1]
 by_cases e:i=j
 ·subst e
  rw [hb] at j2
  cases j2
  exact Int.dvd_mul_right _ _
 ·rw [if_neg e,Int.mul_zero];exact Int.dvd_zero _
theorem zmx:∀ (xs:Ji) (rows:Jq) (bs:Ji),xs.length=rows.length->bs.length=rows.length->(∀ (i:Nat) (x b:Int),xs[i]?=some x->bs[i]?=some b->0≤b∧b ∣ x)->SpL (scl rows bs) (comb xs (rows.map vec))
 | [],[],_,_,_,_=>Sp.zero
 | x :: xs,r :: rows,b :: bs,h1,h2,h=>by
  have ih:=zmx xs rows bs (by simpa using h1) (by simpa using h2) λi x b hx hb=>h (i+1) x b (by simpa using hx) (by simpa using hb)
  obtain ⟨b0,c,hc⟩:=h 0 x b rfl rfl
  have up:SpL (scl (r :: rows) (b :: bs)) (comb xs (rows.map vec)):=by
   refine SpL.sub (λs hs=>SpL.mem ?_) ih
   unfold scl at hs ⊢
   obtain ⟨p,hp,rfl⟩:=List.mem_map.mp hs
   refine List.mem_map.mpr ⟨p,?_,rfl⟩
   obtain ⟨p1,p2⟩:=List.mem_filter.mp hp
   exact List.mem_filter.mpr ⟨List.mem_cons_of_mem _ p1,p2⟩
  by_cases q:b=0
  ·refine up.conv λi=>?_
   show comb xs (rows.map vec) i=x*vec r i+comb xs (rows.map vec) i
   rw [hc,q];simp
  ·have hm:List.map (λ(y:Int)=>b*y) r∈scl (r :: rows) (b :: bs):=by
    unfold scl
    refine List.mem_map.mpr ⟨(r,b),List.mem_filter.mpr ⟨List.mem_cons_self,decide_eq_true (show 0<b by omega)⟩,rfl⟩
   refine ((Sp.smul c (SpL.mem hm)).plus up).conv λi=>?_
   show c*vec (List.map (λ(y:Int)=>b*y) r) i+comb xs (rows.map vec) i=x*vec r i+comb xs (rows.map vec) i
   rw [zlr,hc,← Int.mul_assoc,Int.mul_comm c b]
theorem zpN {W:Nat} {s:Jq×Jq} {bs:Ji} {u:Vc} (h:Du W s) (hl:bs.length=W) (hb:∀ b∈bs,0≤b) (hu:∀ k,W≤k->u k=0) (hd:∀ (i:Nat) (t:Ji) (b:Int),s.2[i]?=some t->bs[i]?=some b->b ∣ dv t u):SpL (scl s.1 bs) u:=by
 refine (zmx (s.2.map λt=>dv t u) s.1 bs (by rw [List.length_map,h.l1,h.l2]) (by rw [hl,h.l1]) λi x b hx hbi=>?_).conv λj=>h.B u hu j
 rw [List.getElem?_map] at hx
 cases q:s.2[i]? with
 | none=>rw [q] at hx;cases hx
 | some t =>
  rw [q] at hx
  have hx:dv t u=x:=Option.some.inj hx
  exact ⟨hb b (List.mem_of_getElem? hbi),hx ▸ hd i t b q hbi⟩
theorem zpo {rows:Jq} {o t:Nat} {ro rt y:Ji} {q:Int} (hot:o≠t) (ho:rows[o]?=some ro) (ht:rows[t]?=some rt) (hy:∀ k,vec y k=vec rt k+q*vec ro k) {u:Vc}:SpL (rows.set t y) u ↔ SpL rows u:=by
 constructor
 ·refine SpL.sub λs hs=>?_
  rcases List.mem_or_eq_of_mem_set hs with hs | rfl
  ·exact SpL.mem hs
  ·exact ((SpL.mem (List.mem_of_getElem? ht)).plus (Sp.smul q (SpL.mem (List.mem_of_getElem? ho)))).conv λk=>(hy k).symm
 ·refine SpL.sub λs hs=>?_
  have lt:=(List.getElem?_eq_some_iff.mp ht).1
  have ny:SpL (rows.set t y) (vec y):=SpL.mem (List.mem_of_getElem? (List.getElem?_set_self lt))
  have no:SpL (rows.set t y) (vec ro):=SpL.mem (List.mem_of_getElem? (by rw [List.getElem?_set_ne (Ne.symm hot)];exact ho))
  obtain ⟨j,hj⟩:=List.getElem?_of_mem hs
  by_cases e:j=t
  ·subst e
   rw [hj] at ht
   cases ht
   refine (ny.plus (Sp.smul (-q) no)).conv λk=>?_
   rw [hy k]
   grind
  ·exact SpL.mem (List.mem_of_getElem? (by rw [List.getElem?_set_ne (Ne.symm e)];exact hj))
theorem znP {a z:Jq} (hz:∀ s∈z,∀ k,vec s k=0) {u:Vc}:SpL (a++z) u ↔ SpL a u:=by
 constructor
 ·refine SpL.sub λs hs=>?_
  rcases List.mem_append.mp hs with hs | hs
  ·exact SpL.mem hs
  ·exact (Sp.zero:Sp _ _).conv λk=>(hz s hs k).symm
 ·exact SpL.sub λs hs=>SpL.mem (List.mem_append_left _ hs)
end Lat
namespace L2
open PySem PySem.Spec PyProof.Rows
structure T6 (α β γ δ ε ζ:Type) where
 a:α
 b:β
 c:γ
 d:δ
 e:ε
 f:ζ
section
variable {E:XS} {Γ:Ctx} {m:Bool} {K:W.Frag} {te:TE} {u:TS} {α β:Type}
end
end L2
namespace PySem
open Sem (wp)
namespace F
end F
abbrev ztd (h:Heap) (T:Addr) (a b c:Value):Prop:=h.get? T=some { cls:=.type "tuple",data:=.seq #[a,b,c] }
structure Zip3 (h:Heap) (n:Nat) (l1 l2 l3:Addr) (k:Nat) (f0:Value):Prop where
 z:IsZip h (n+5) (n+3) (n+4) f0
 ti:ztd h (n+3) (.ref n) (.ref (n+1)) (.ref (n+2))
 to:∃ a b c,ztd h (n+4) a b c
 i1:h.IsListIter n l1 k
 i2:h.IsListIter (n+1) l2 k
 i3:h.IsListIter (n+2) l3 k
section
variable {prog:Program} {w:World} {A:Around} {E:Value->Shared->Prop} {s:Shared} {n k:Nat} {l1 l2 l3:Nat}
end
section
variable {prog:Program} {w:World} {A:Around} {E:Value->Shared->Prop} {s:Shared}
end
end PySem
namespace L2
open PySem PySem.Spec PyProof.Rows
section
variable {X:Cx}
end
section
variable {Γ:Ctx} {m:Bool} {K:W.Frag} {γ δ ε:Type}
end
theorem run_par {E:XS} {Γ:Ctx} {ta tb:TE} {u:TS} {o:Oc} {x y:Int} {i j:Nat} (h1:Ev Γ ta false (dI x)) (h2:Ev Γ tb false (dI y)) (k:Run E ((Γ.set i (.va false (dI x))).set j (.va false (dI y))) u o):Run E Γ (tSeq (tPar i j (tCons ta (tCons tb tNil))) u) o:=λF0 Hb F H σ own D a q =>
 h1 F0 Hb F H σ own _ a λv F1 H1 g1 q1=>h2 F0 Hb F1 H1 σ own _ ↑16 λw F2 H2 g2 q2=>⟨v,w,rfl,k F0 Hb F2 H2 _ own D ((((↑16).grow g2).set i q1).set j q2) q⟩
end L2
namespace L2
open PySem PySem.Spec PyProof.Rows
structure T4 (α β γ δ:Type) where
 a:α
 b:β
 c:γ
 d:δ
 deriving Inhabited
def zum:Slot->Bool
 | .tl _=>false
 | _=>true
theorem At.shareB {F0 Hb F H:Hp} {σ:St} {own:Nat->Option Addr} {Γ:Ctx} (a:At F0 Hb F H σ own Γ) {i:Nat} {m:Bool} {C p dx:Addr} {fs:List (Str×Ds)} (e:Γ[i]?=some (.ob m C p dx fs)) (ht:Γ.all zum=true) :
  ∃ F' own',Grow F0 Hb F' H∧At F0 Hb F' H σ own' (Γ.set i (.va m (dO C fs))):=by
 obtain ⟨vs,e1,e2,hf,hb,hp,hq⟩:=a.sl i _ e
 have ne:dx≠p:=zjd hp.2 hp.1 ↑94
 have g:=(a.g.take hb.1 hp.1).take hb.2 hp.2
 have n3:upd F p (.ins C dx vs) dx=none:=by rw [zaq ne];exact hf.2
 have fs':Same F (upd (upd F p (.ins C dx vs)) dx (.own p)):=(Same.new hf.1 _).trans (Same.new n3 _)
 refine ⟨upd (upd F p (.ins C dx vs)) dx (.own p),λj=>if j=i then none else own j,g,g,λj k q h1 h2=>?_,λj q h1=>?_,λj s es=>?_,by simp [a.len]⟩
 ·skip
  split at h1
  ·cases h1
  ·split at h2
   ·cases h2
   ·exact a.inj j k q h1 h2
 ·skip
  split at h1
  ·cases h1
  ·exact a.liv j q h1
 ·by_cases z:i=j
  ·subst z
   have hi:i<Γ.length:=(↑35).1
   rw [List.getElem?_set_self hi] at es
   cases es
   exact ⟨.ref p,e1,p,dx,vs,rfl,ze2 hb.1 (by rw [zaq (Ne.symm ne)];exact zaD),ze2 hb.2 zaD,zb2 (λ_ b z=>⟨z.1,b.2.up (zbg fs') z.2⟩) hq⟩
  ·rw [List.getElem?_set_ne z] at es
   have z':¬ j=i:=Ne.symm z
   have:=a.sl j s es
   cases s with
   | no=>trivial
   | tl d =>
    have:=List.all_eq_true.mp ht _ (List.mem_of_getElem? es)
    cases this
   | va m d=>obtain ⟨x,h1,h2⟩:=this;exact ⟨x,h1,d.up (zbg fs') h2⟩
   | ow m ds =>
    obtain ⟨q,us,h1,h2,h3,h4,h5,h6⟩:=this
    have n1:q≠p:=λw=>by subst w;exact z ↑69
    have n2:q≠dx:=zjd h5 hp.2 ↑94
    exact ⟨q,us,h1,(if_neg z').trans h2,by rw [zaq n2,zaq n1];exact h3,h4,h5,zdx (ds:=[]) (zbg fs') h6⟩
   | ol q ds =>
    obtain ⟨us,h1,h2,h3,h4,h5,h6⟩:=this
    have n1:q≠p:=λw=>by subst w;exact z ↑69
    have n2:q≠dx:=zjd h5 hp.2 ↑94
    exact ⟨us,h1,(if_neg z').trans h2,by rw [zaq n2,zaq n1];exact h3,h4,h5,zdx (ds:=[]) fs' h6⟩
   | ob m C q dy gs =>
    obtain ⟨us,h1,h2,h3,h4,h5,h6⟩:=this
    have n1:q≠p:=λw=>by subst w;exact z ↑69
    have n2:dy≠p:=zjd h5.2 hp.1 ↑94
    have n3:q≠dx:=zjd h5.1 hp.2 ↑94
    have n4:dy≠dx:=λw=>by
     have:=h5.2
     rw [w,hp.2] at this
     cases this;exact n1 rfl
    exact ⟨us,h1,(if_neg z').trans h2,⟨by rw [zaq n3,zaq n1];exact h3.1,by rw [zaq n4,zaq n2];exact h3.2⟩,h4,h5,zb2 (λ_ b z=>⟨z.1,b.2.up (zbg fs') z.2⟩) h6⟩
section
variable {Γ:Ctx} {te:TE} {d:Ds} {i:Nat} {m:Bool}
theorem EvN.borrowB {C p dx:Addr} {fs:List (Str×Ds)} (e:Γ[i]?=some (.ob m C p dx fs)) (ht:Γ.all zum=true) (h:EvN (Γ.set i (.va m (dO C fs))) te d):EvN Γ te d:=λF0 Hb F H σ own Q a k=>by
 obtain ⟨F1,own1,_,a1⟩:=a.shareB e ht
 refine h F0 Hb F1 H σ own1 Q a1 λx F' H' g q=>?_
 have e:∀ b o,off F' H b=some o->H b=none∧F' b=some o:=λb o z=>zb4.mp z
 refine k x (λb=>match H b with | some _=>F b | none=>F' b) H' ⟨λb o z=>?_,λb o z=>?_,g.h,λb z1 z2=>?_⟩ (d.up (λb o z=>?_) q)
 ·show (match H b with | some _=>F b | none=>F' b)=some o
  rw [a.fh _ _ z];exact z
 ·have z:(match H b with | some _=>F b | none=>F' b)=some o:=z
  cases w:H b with
  | some o'=>rw [w] at z;exact g.h _ _ (a.fh _ _ z)
  | none=>rw [w] at z;exact g.fh _ _ z
 ·show (match H b with | some _=>F b | none=>F' b)=none
  cases w:H b with
  | some o'=>exact z2
  | none=>exact absurd w z1
 ·obtain ⟨h1,h2⟩:=e b o z
  refine zb4.mpr ⟨h1,?_⟩
  show (match H b with | some _=>F b | none=>F' b)=some o
  rw [h1];exact h2
end
theorem At.reset {F0 Hb F H:Hp} {σ:St} {own:Nat->Option Addr} {Γ:Ctx} (a:At F0 Hb F H σ own Γ) {i:Nat} {m m':Bool} {d d':Ds} (e:Γ[i]?=some (.va m d)) (h:∀ x,(σ[i]?).join=some x->d.pr (part m F Hb) x->d'.pr (part m' F Hb) x):At F0 Hb F H σ own (Γ.set i (.va m' d')):=by
 obtain ⟨x,e1,e2⟩:=a.sl i _ e
 have hi:i<σ.length:=by rw [a.len];exact (↑35).1
 have:=a.set i (h x e1 e2)
 rw [List.getElem?_eq_getElem hi] at e1
 have e1:σ[i]=some x:=e1
 rw [← e1,List.set_getElem_self] at this
 exact this
theorem At.looks {F0 Hb F H:Hp} {σ:St} {own:Nat->Option Addr} {Γ:Ctx} (a:At F0 Hb F H σ own Γ) {i:Nat} {m:Bool} {d:Ds} (e:Γ[i]?=some (.va m d)):∃ x,σ[i]?=some (some x)∧d.pr F x:=by
 obtain ⟨x,e1,e2⟩:=a.sl i _ e
 have hi:i<σ.length:=by rw [a.len];exact (↑35).1
 rw [List.getElem?_eq_getElem hi] at e1
 have e1:σ[i]=some x:=e1
 exact ⟨x,by rw [List.getElem?_eq_getElem hi,e1],d.up za9 e2⟩
section
variable {Γ:Ctx} {te:TE} {d d1 d2 d3:Ds} {i i1 i2 i3:Nat} {m m1 m2:Bool} {v v1 v2:V} {f g k:Str} {C:Addr}
theorem dLQ {K:W.Frag} {ds:List Ds} {H:Hp} {u:V} (h:(dL ds).pr H u):(dQ K ds).pr H u:=by
 obtain ⟨p,vs,h1,h2,h3⟩:=h
 exact ⟨p,vs,h1,SqL.of h2,h3⟩
theorem zm7 (e:Γ[i]?=some (.va m (dX v d))) {m':Bool}:Ev Γ (zg1 i) m' (dV v):=λF0 Hb F H σ own Q a k =>
 (zaa e) F0 Hb F H σ own Q a λx F' H' g q=>k x F' H' g q.1
theorem zqu {H H1:Hp} {x:V} (s:Same H H1) (h:(dO C [(f,dV v1),(g,dV v2),(k,d3)]).pr H x) (h1:d1.pr H1 v1) (h2:d2.pr H1 v2):(dO C [(f,d1),(g,d2),(k,d3)]).pr H1 x:=by
 obtain ⟨p,dx,vs,q1,q2,q3,q4⟩:=h
 refine ⟨p,dx,vs,q1,s _ _ q2,s _ _ q3,?_⟩
 cases q4 with | cons r1 t=>cases t with | cons r2 t=>cases t with | cons r3 t =>
  cases t
  exact .cons ⟨r1.1,by rw [r1.2];exact h1⟩ (.cons ⟨r2.1,by rw [r2.2];exact h2⟩ (.cons ⟨r3.1,d3.up s r3.2⟩ .nil))
theorem EvN.borrowBX {p dx:Addr} (e:Γ[i]?=some (.ob m C p dx [(f,dV v1),(g,dV v2),(k,d3)])) (ht:Γ.all zum=true) (n1:i≠i1) (n2:i≠i2) (e1:Γ[i1]?=some (.va m1 (dX v1 d1))) (e2:Γ[i2]?=some (.va m2 (dX v2 d2))) (h:EvN (Γ.set i (.va false (dO C [(f,d1),(g,d2),(k,d3)]))) te d):EvN Γ te d :=
 EvN.borrowB e ht λF0 Hb F H σ own Q a kk=>by
  have hi:i<Γ.length:=(↑35).1
  obtain ⟨x1,_,q1⟩:=a.looks (i:=i1) (by rw [List.getElem?_set_ne n1];exact e1)
  obtain ⟨x2,_,q2⟩:=a.looks (i:=i2) (by rw [List.getElem?_set_ne n2];exact e2)
  have a1:=a.reset (i:=i) (m':=false) (d':=dO C [(f,d1),(g,d2),(k,d3)]) (List.getElem?_set_self hi) λx _ q=>zqu za9 q (by rw [← q1.1];exact q1.2) (by rw [← q2.1];exact q2.2)
  rw [List.set_set] at a1
  exact h F0 Hb F H σ own Q a1 kk
def zu0 {ι:Type} (C:Addr) (f g k:Str) (a1 a2 a3:ι->Ds) (pre:ι->Prop) (d3:ι->Ds):Sp:=zp9 (ι:=V×V×ι) C (λy=>[dX y.1 (a1 y.2.2),dX y.2.1 (a2 y.2.2),a3 y.2.2]) (λy=>pre y.2.2) true (λy=>[(f,dV y.1),(g,dV y.2.1),(k,d3 y.2.2)])
variable {ι:Type} {a1 a2 a3 b3:ι->Ds} {pre:ι->Prop} {ds:List Ds} {tr:TA} {E:XK}
theorem zmV (x:ι) (e1:Γ[i1]?=some (.va m1 (a1 x))) (e2:Γ[i2]?=some (.va m2 (a2 x))) (e3:Γ[i3]?=some (.tl d)) (hd:∀ H v,d.pr H v->(a3 x).pr H v) (hno:zml Γ=true) (hp:pre x) :
  Ev Γ (zqU C (zu0 C f g k a1 a2 a3 pre b3) [] E (tCons (zg1 i1) (tCons (zg1 i2) (tCons (zg1 i3) tNil)))) false (dO C [(f,a1 x),(g,a2 x),(k,b3 x)]):=λF0 Hb F H σ own Q a kk=>by
 obtain ⟨u1,y1,r1⟩:=a.looks e1
 obtain ⟨u2,y2,r2⟩:=a.looks e2
 have aw:=a.wide hno
 obtain ⟨u3,y3,r3⟩:=aw.looks (i:=i3) (m:=true) (d:=d) (by unfold shC;rw [List.getElem?_map,e3];rfl)
 refine ⟨u1,y1,u2,y2,u3,y3,λp dx h1 h2 h3=>?_⟩
 refine ⟨(u1,u2,x),p,dx,_,H,_,by rw [List.append_nil],h1,h2,h3,rfl,aw.fh,.cons ⟨rfl,(a1 x).up ziI r1⟩ (.cons ⟨rfl,(a2 x).up ziI r2⟩ (.cons (hd _ _ r3) .nil)),hp,λus F' H' g n1 n2 w1 w2 w3=>⟨rfl,?_⟩⟩
 have g2:Grow F H (λb=>match H b with | some _=>F b | none=>F' b) H':=by
  refine ⟨λb o z=>?_,λb o z=>?_,g.h,λb z1 z2=>?_⟩
  ·show (match H b with | some _=>F b | none=>F' b)=some o
   rw [a.fh _ _ z];exact z
  ·have z:(match H b with | some _=>F b | none=>F' b)=some o:=z
   cases w:H b with
   | some o'=>rw [w] at z;exact g.h _ _ (a.fh _ _ z)
   | none=>rw [w] at z;exact g.fh _ _ z
  ·show (match H b with | some _=>F b | none=>F' b)=none
   cases w:H b with
   | some o'=>exact z2
   | none=>exact absurd w z1
 have so:Same (off F' H) (λb=>match H b with | some _=>F b | none=>F' b):=λb o z=>by
  obtain ⟨z1,z2⟩:=zb4.mp z
  show (match H b with | some _=>F b | none=>F' b)=some o
  rw [z1];exact z2
 have np:(λb=>match H b with | some _=>F b | none=>F' b) p=none:=by
  show (match H p with | some _=>F p | none=>F' p)=none
  rw [h1];exact n1
 have nd:(λb=>match H b with | some _=>F b | none=>F' b) dx=none:=by
  show (match H dx with | some _=>F dx | none=>F' dx)=none
  rw [h2];exact n2
 generalize (λb=>match H b with | some _=>F b | none=>F' b)=F2 at *
 have g3:=(g2.take h1 w1).take h2 w2
 have n3:upd F2 p (.ins C dx us) dx=none:=by rw [zaq h3];exact nd
 have s2:Same F2 (upd (upd F2 p (.ins C dx us)) dx (.own p)):=(Same.new np _).trans (Same.new n3 _)
 refine kk _ _ _ g3 ⟨p,dx,us,rfl,by show upd _ _ _ p=_;rw [zaq (Ne.symm h3)];exact zaD,zaD,?_⟩
 cases w3 with | cons z1 t=>cases t with | cons z2 t=>cases t with | cons z3 t =>
  cases t
  exact .cons ⟨z1.1,by rw [z1.2];exact (a1 x).up (g2.f.trans s2) r1⟩ (.cons ⟨z2.1,by rw [z2.2];exact (a2 x).up (g2.f.trans s2) r2⟩ (.cons ⟨z3.1,(b3 x).up (so.trans s2) z3.2⟩ .nil))
end
section
variable {E:XS} {Γ:Ctx} {m:Bool} {K:W.Frag} {tj:TE} {u:TS} {o:Oc} {i:Nat}
theorem zmR {k:Int} {v:V} {te:TE} {xss:Jq} (e:Γ[i]?=some (.tl (dL (xss.map λl=>dL (l.map dI))))) (hno:zml Γ=true) (hj:Ev Γ tj false (dI k)) (hk:InB xss.length k) (hv:Ev Γ te m (dV v)) (hz:∀ l∈xss,l.length<sizeLine) (kk:Run E ((unC Γ).set i (.tl (dL (xss.map λ_=>dTop)))) u o) :
  Run E Γ (tSeq (zjB (tBM K "list" zgw (tOp (zq6 K) (zg1 i) tj) (tCons te tNil))) u) o:=λF0 Hb F H σ own D a q=>by
 obtain ⟨x,R,h1,q2,h3,h4,p,vs,rfl,h6,h7⟩:=a.sl i _ e
 have hi:i<σ.length:=by rw [a.len];exact (↑35).1
 have e':σ[i]?=some (some (.ref p)):=by
  rw [List.getElem?_eq_getElem hi] at h1 ⊢
  exact congrArg some h1
 refine ⟨_,e',hj F0 Hb F H σ own _ a λv' F' H' g qv=>?_⟩
 have hl:=Paired.length h7
 rw [List.length_map] at hl
 obtain ⟨n,en,hn,_⟩:=zjV hk
 obtain ⟨y,ey,⟨r,ws,rfl,r2,r3⟩⟩:=zbn h7 (show (xss.map λl=>dL (l.map dI))[n]?=some (dL ((xss[n]'hn).map dI)) by rw [List.getElem?_map,List.getElem?_eq_getElem hn];rfl)
 have rp:p≠r:=λz=>by
  subst z
  rw [h6] at r2
  cases r2
  have:V.ref p∈(xss[n]'hn).map V.int:=by rw [← zlh r3];exact List.mem_of_getElem? ey
  obtain ⟨_,_,w⟩:=List.mem_map.mp this
  cases w
 have at':atI vs k=some (.ref r):=by
  unfold atI
  rw [hl,en]
  exact ey
 refine ⟨p,vs,k,_,rfl,qv,SqL.of (g.h _ _ (q2 _ _ h6)),at',.inl ⟨rfl,_,SqL.of (g.h _ _ (q2 _ _ r2))⟩,?_⟩
 refine hv F0 Hb F H' σ own _ (a.grow (Grow.only a.fh g.h)) λx F2 H2 g2 qx=>?_
 have lw:ws.length<sizeLine:=by
  have:=Paired.length r3
  rw [List.length_map] at this
  rw [this];exact hz _ (List.getElem_mem hn)
 refine ⟨r,ws,x,rfl,rfl,g2.h _ _ (g.h _ _ (q2 _ _ r2)),by omega,?_⟩
 have g:=g.h.trans g2.h
 have rO:∀ l,own l≠some r:=λl z=>by rw [h4 l r z] at r2;cases r2
 have a1:=(a.grow (Grow.only a.fh g)).spoil hno (.lst (ws++[x])) (h3 r _ r2).1 (h3 r _ r2).2 rO
 refine kk F0 Hb F _ σ own D ⟨a1.g,a1.inj,a1.liv,λl s es'=>?_,by rw [List.length_set];exact a1.len⟩ q
 by_cases z:i=l
 ·subst z
  rw [List.getElem?_set_self (by rw [← a1.len];exact hi)] at es'
  cases es'
  rw [e']
  refine ⟨.ref p,upd (λ_=>none) p (.lst vs),rfl,λb w y=>?_,λb w y=>?_,λl' b y=>?_,p,vs,rfl,zaD,?_⟩
  ·by_cases z:b=p
   ·subst z;rw [zaD] at y;cases y;rw [zaq rp];exact g _ _ (q2 _ _ h6)
   ·rw [zaq z] at y;cases y
  ·by_cases z:b=p
   ·subst z;exact h3 _ _ h6
   ·rw [zaq z] at y;cases y
  ·have z:b≠p:=λz=>by
    subst z
    rw [h4 l' b y] at h6;cases h6
   rw [zaq z]
  ·have:∀ {vs:List V} {xss:Jq} {R':Hp},vs.length=xss.length->Paired (λv (d:Ds)=>d.pr R' v) vs (xss.map λ_=>dTop):=by
    intro vs
    induction vs with
    | nil=>intro xss R' hl;cases xss with | nil=>exact .nil | cons _ _=>cases hl
    | cons v vs ih=>intro xss R' hl;cases xss with | nil=>cases hl | cons x xss=>exact .cons trivial (ih (by simpa using hl))
   exact this hl
 ·rw [List.getElem?_set_ne z] at es'
  exact a1.sl l s es'
end
end L2
namespace Lat
open L2
def lsum:Ji->Int
 | []=>0
 | x :: xs=>x+lsum xs
section
variable {α β:Type}
theorem ziV (f g:α->Int):∀ l:List α,lsum (l.map λa=>f a+g a)=lsum (l.map f)+lsum (l.map g)
 | []=>rfl
 | a :: l=>by
  simp only [List.map_cons,lsum]
  rw [ziV f g l];omega
theorem zg0 (c:Int) (f:α->Int):∀ l:List α,lsum (l.map λa=>c*f a)=c*lsum (l.map f)
 | []=>by simp [lsum]
 | a :: l=>by
  simp only [List.map_cons,lsum]
  rw [zg0 c f l,Int.mul_add]
theorem zia:∀ l:List α,lsum (l.map λ_=>(0:Int))=0
 | []=>rfl
 | a :: l=>by
  simp only [List.map_cons,lsum]
  rw [zia l];omega
theorem zkn (h:α->β->Int) (m:List β):∀ l:List α,lsum (l.map λa=>lsum (m.map λb=>h a b))=lsum (m.map λb=>lsum (l.map λa=>h a b))
 | []=>(zia m).symm
 | a :: l=>by
  simp only [List.map_cons,lsum]
  rw [zkn h m l,← ziV]
theorem ziY {d:Int} {f:α->Int}:∀ {l:List α},(∀ a∈l,d ∣ f a)->d ∣ lsum (l.map f)
 | [],_=>⟨0,by simp [lsum]⟩
 | a :: l,h=>by
  simp only [List.map_cons,lsum]
  exact Int.dvd_add (h a List.mem_cons_self) (ziY λb hb=>h b ↑230)
theorem zob {B:Nat} {f:α->Int}:∀ {l:List α},(∀ a∈l,(f a).natAbs≤B)->(lsum (l.map f)).natAbs≤l.length*B
 | [],_=>by simp [lsum]
 | a :: l,h=>by
  simp only [List.map_cons,lsum,List.length_cons]
  have h1:=h a List.mem_cons_self
  have h2:=zob (l:=l) λb hb=>h b ↑230
  rw [Nat.add_mul]
  omega
theorem zds {f g:α->Int} {l:List α} (h:∀ a∈l,f a=g a):lsum (l.map f)=lsum (l.map g):=by rw [List.map_congr_left h]
theorem zgg {W:Nat} {F:Ji->α->Ji} {c:α->Nat->Int}:∀ (l:List α) (acc:Ji),acc.length=W->(∀ s a,a∈l->s.length=W->(F s a).length=W∧∀ i,vec (F s a) i=vec s i+c a i)->(l.foldl F acc).length=W∧∀ i,vec (l.foldl F acc) i=vec acc i+lsum (l.map λa=>c a i)
 | [],acc,h,_=>⟨h,λi=>by simp [lsum]⟩
 | a :: l,acc,h,k=>by
  obtain ⟨h1,h2⟩:=k acc a List.mem_cons_self h
  obtain ⟨h3,h4⟩:=zgg l (F acc a) h1 λs b hb=>k s b ↑230
  refine ⟨h3,λi=>?_⟩
  rw [List.foldl_cons,h4 i,h2 i]
  simp only [List.map_cons,lsum]
  omega
theorem zkY (t:Ji) (c:α->Int) (v:α->Vc):∀ l:List α,dv t (λi=>lsum (l.map λa=>c a*v a i))=lsum (l.map λa=>c a*dv t (v a))
 | []=>zk1 t
 | a :: l=>by
  simp only [List.map_cons,lsum]
  exact (zjr λi=>Int.add_comm _ _).trans ((zih t _ (v a) (c a)).trans (by rw [zkY t c v l];exact Int.add_comm _ _))
end
theorem dv_sum:∀ (t:Ji) (u:Vc),dv t u=lsum ((List.range t.length).map λw=>vec t w*u w)
 | [],_=>rfl
 | a :: t,u=>by
  rw [List.length_cons,List.range_succ_eq_map,List.map_cons,List.map_map]
  show a*u 0+dv t ↑74=_
  rw [dv_sum t]
  rfl
def Phi (W:Nat) (ds im:Jq) (u:Vc):Vc:=λi=>lsum (((List.range W)).map λ(k:Nat)=>dv (ixD ds (k:Int)) u*vec (ixD im (k:Int)) i)
section
variable {W:Nat} {ds im Bs:Jq} {u v:Vc}
theorem ziD {rows:Jq} {k:Nat} (h:k<rows.length):ixD rows (k:Int)∈rows:=zce (by unfold InB;omega)
theorem zs1 (hl:ds.length=W) (hd:∀ t∈ds,t.length=W) (hB:∀ w,w<W->∀ i,vec (ixD Bs (w:Int)) i=lsum (((List.range W)).map λ(k:Nat)=>vec (ixD ds (k:Int)) w*vec (ixD im (k:Int)) i)) (i:Nat) :
  lsum (((List.range W)).map λ(w:Nat)=>u w*vec (ixD Bs (w:Int)) i)=Phi W ds im u i:=by
 unfold Phi
 have e:∀ k∈List.range W,dv (ixD ds (k:Int)) u*vec (ixD im (k:Int)) i=lsum (((List.range W)).map λ(w:Nat)=>u w*(vec (ixD ds (k:Int)) w*vec (ixD im (k:Int)) i)):=λk hk=>by
  rw [dv_sum,hd _ (ziD (by rw [hl];exact List.mem_range.mp hk)),Int.mul_comm,← zg0]
  exact zds λw _=>by grind
 rw [zds e,← zkn]
 exact zds λw hw=>by rw [hB w (List.mem_range.mp hw) i,← zg0]
theorem zqm {cs:Ji} {t:Ji} {b:Int} (h1:∀ k,k<W->ixD cs (k:Int) ∣ dv (ixD ds (k:Int)) u) (h2:∀ k,k<W->b ∣ ixD cs (k:Int)*dv t (vec (ixD im (k:Int)))):b ∣ dv t (Phi W ds im u):=by
 unfold Phi
 rw [zkY]
 refine ziY λk hk=>?_
 obtain ⟨q,hq⟩:=h1 k (List.mem_range.mp hk)
 rw [hq,Int.mul_comm (ixD cs (k:Int)) q,Int.mul_assoc]
 exact Int.dvd_trans (h2 k (List.mem_range.mp hk)) (Int.dvd_mul_left _ _)
theorem zrH (x:Int) (i:Nat):Phi W ds im (λj=>u j+x*v j) i=Phi W ds im u i+x*Phi W ds im v i:=by
 unfold Phi
 rw [← zg0,← ziV]
 exact zds λk _=>by rw [zih];grind
theorem zjM {α β:Type} [Inhabited α] [Inhabited β] {as:List α} {bs:List β} (h1:as.length=W) (h2:bs.length=W):List.zip as bs=((List.range W)).map λ(w:Nat)=>(ixD as (w:Int),ixD bs (w:Int)):=by
 refine List.ext_getElem (by rw [List.length_zip,List.length_map,List.length_range];omega) λk hk _=>?_
 rw [List.length_zip] at hk
 rw [List.getElem_zip,List.getElem_map,List.getElem_range,zcr (List.getElem?_eq_getElem (show k<as.length by omega)),zcr (List.getElem?_eq_getElem (show k<bs.length by omega))]
theorem zlf {α:Type} {t:Ji} {l:List α} {c:α->Nat->Int} {n b:Nat} (h:∀ i,vec t i=lsum (l.map λa=>c a i)) (hl:l.length≤2^n) (hc:∀ a∈l,∀ i,(c a i).natAbs≤2^b):Bit (n+b) t:=Bit.of λi=>by
 rw [h i]
 refine Nat.le_trans (zob λa ha=>hc a ha i) ?_
 rw [Nat.pow_add]
 exact Nat.mul_le_mul_right _ hl
theorem zi6 {x y:Int} {a b:Nat} (h1:x.natAbs≤2^a) (h2:y.natAbs≤2^b):(x*y).natAbs≤2^(a+b):=by
 rw [Int.natAbs_mul,Nat.pow_add]
 exact Nat.mul_le_mul h1 h2
end
end Lat
set_option maxHeartbeats 4000000
set_option maxRecDepth 100000
set_option maxHeartbeats 4000000
namespace My
open PySem L2
def top (i:Nat):Stmt:=PySem.Challenge.pw_swapbook_k71_sent.main.body.getD i (.Pass ⟨0,0,0,0⟩)
abbrev zci:Stmt:=top 23
abbrev zic:Stmt:=top 24
abbrev zhZ:Stmt:=top 25
abbrev zgz:Stmt:=top 26
abbrev zeQ:Stmt:=top 27
abbrev zbI:Stmt:=zgt (top 31) 0
abbrev zfr:Stmt:=top 32
abbrev za6:Stmt:=top 33
abbrev zfp:Stmt:=top 35
abbrev zgi:Stmt:=top 36
abbrev zfl:Stmt:=top 37
abbrev zfj:Stmt:=top 38
abbrev zge:Stmt:=top 39
abbrev zeF:Stmt:=top 40
abbrev zfv:Stmt:=top 41
abbrev zfn:Stmt:=top 42
abbrev zdc:Stmt:=zgt (top 44) 0
abbrev zbJ:Stmt:=zgt (top 46) 0
abbrev zeE:Stmt:=top 47
abbrev zfu:Stmt:=top 48
abbrev zde:Stmt:=top 49
abbrev zfT:Stmt:=top 50
abbrev zbe:Stmt:=top 52
abbrev zbm:Stmt:=zgt (top 54) 0
abbrev zcu:Stmt:=zgt (top 54) 1
abbrev zdX:Stmt:=top 56
abbrev zdO:Stmt:=top 57
abbrev zdV:Stmt:=top 58
abbrev zdR:Stmt:=top 59
abbrev zeL:Stmt:=top 60
abbrev zfm:Stmt:=top 61
abbrev zd0:Stmt:=top 62
abbrev zcf:Stmt:=top 63
abbrev zcZ:Stmt:=top 64
abbrev zbr:Stmt:=top 65
abbrev zeH:Stmt:=top 66
abbrev zdq:Stmt:=top 67
abbrev zcW:Stmt:=top 68
abbrev zbz:Stmt:=top 69
abbrev zeG:Stmt:=top 70
abbrev zdZ:Stmt:=top 71
abbrev zdn:Stmt:=top 72
abbrev zc4:Stmt:=top 73
abbrev zdQ:Stmt:=top 74
abbrev zdU:Stmt:=top 75
abbrev zcX:Stmt:=top 76
abbrev zdu:Stmt:=top 77
abbrev zg2:Stmt:=top 78
abbrev zeg:Stmt:=zgt (top 44) 0
abbrev zeo:Stmt:=zgt (top 44) 0
abbrev lI:Ji->Ds:=λxs=>dL (List.map dI xs)
inductive Xn where
 | BadBasket
 deriving DecidableEq,Inhabited
structure Adr where
 no:Unit:=()
 Book:Addr
 Scale:Addr
 Line:Addr
 Rest:Addr
 Sender:Addr
 xc:Xn->Addr
 k_BadBasket:Addr
 k_BadBaskets:Addr
 k_BadNames:Addr
 k_BadRest:Addr
 k_BadRoad:Addr
 k_BadScale:Addr
 k_BadSwap:Addr
 k_BadWares:Addr
 k_Endless:Addr
 k_NoBook:Addr
 k_NoLine:Addr
 k_NoName:Addr
 k_NoSwap:Addr
 k_NotAlike:Addr
 k_NotKept:Addr
 k_OtherBook:Addr
 k_OtherWares:Addr
 k_SwapError:Addr
 k_TooGreat:Addr
 k_TooMany:Addr
def zcY:Xn->Bool
 | .BadBasket=>true
def zcF:Xn->Bool
 | .BadBasket=>false
def zdo:Xn->Bool
 | .BadBasket=>false
def zd2:Xn->Bool
 | .BadBasket=>false
def zdP:Xn->Bool
 | .BadBasket=>false
def zdv:Xn->Bool
 | .BadBasket=>false
def zdY:Xn->Bool
 | .BadBasket=>false
def zef:Xn->Bool
 | .BadBasket=>false
def zd1:Xn->Bool
 | .BadBasket=>false
def zeD:Xn->Bool
 | .BadBasket=>false
def zeJ:Xn->Bool
 | .BadBasket=>false
def zeI:Xn->Bool
 | .BadBasket=>false
def zfs:Xn->Bool
 | .BadBasket=>false
def zeh:Xn->Bool
 | .BadBasket=>false
def zd4:Xn->Bool
 | .BadBasket=>false
def zc2:Xn->Bool
 | .BadBasket=>false
def zcH:Xn->Bool
 | .BadBasket=>false
def zdt:Xn->Bool
 | .BadBasket=>false
def zeO:Xn->Bool
 | .BadBasket=>false
def zdb:Xn->Bool
 | .BadBasket=>true
structure BookD where
 many:Int
 swaps:Jq
 deriving Inhabited
def zct (C:Addr) (b:BookD):Ds:=dO C [("many",dI b.many),("swaps",dL (List.map lI b.swaps))]
structure ScaleD where
 weights:Ji
 deriving Inhabited
structure LineD where
 weights:Ji
 deriving Inhabited
def zt1 (C:Addr) (b:LineD):Ds:=dO C [↑251]
structure RestD where
 weights:Ji
 rest:Int
 deriving Inhabited
def ztU (C:Addr) (b:RestD):Ds:=dO C [↑251,("rest",dI b.rest)]
structure SenderD where
 first:BookD
 second:BookD
 baskets:Jq
 deriving Inhabited
def zbX (A:Adr) (C:Addr) (b:SenderD):Ds:=dO C [("first",zct A.Book b.first),("second",zct A.Book b.second),("baskets",dL (List.map lI b.baskets))]
instance:Inhabited (LineD⊕RestD):=⟨.inl default⟩
def dSc (A:Adr):LineD ⊕ RestD->Ds
 | .inl l=>zt1 A.Line l
 | .inr r=>ztU A.Rest r
theorem zvE {A:Adr}:NN (dSc A):=λx H v h=>match x,h with
 | .inl l,h=>NN.obj (f:=λ(b:LineD)=>[↑251]) l H v h
 | .inr r,h=>NN.obj (f:=λ(b:RestD)=>[↑251,("rest",dI b.rest)]) r H v h
structure Txt (K:W.Frag) (mg:Str->Option Value) (A:Adr):Prop where
 ValueError:mg "ValueError"=none
 abs:mg "abs"=none
 all:mg "all"=none
 bool:mg "bool"=none
 enumerate:mg "enumerate"=none
 int:mg "int"=none
 isinstance:mg "isinstance"=none
 len:mg "len"=none
 list:mg "list"=none
 max:mg "max"=none
 range:mg "range"=none
 reversed:mg "reversed"=none
 sum:mg "sum"=none
 zip:mg "zip"=none
 Book:mg "Book"=some (.ref A.Book)
 Book_cl:Cls K A.Book
 Book_many:NoAttr K A.Book "many"
 Book_swaps:NoAttr K A.Book "swaps"
 Scale:mg "Scale"=some (.ref A.Scale)
 Scale_cl:Cls K A.Scale
 Scale_weights:NoAttr K A.Scale "weights"
 Line:mg "Line"=some (.ref A.Line)
 Line_cl:Cls K A.Line
 Line_weights:NoAttr K A.Line "weights"
 Rest:mg "Rest"=some (.ref A.Rest)
 Rest_cl:Cls K A.Rest
 Rest_weights:NoAttr K A.Rest "weights"
 Rest_rest:NoAttr K A.Rest "rest"
 Sender:mg "Sender"=some (.ref A.Sender)
 Sender_cl:Cls K A.Sender
 Sender_first:NoAttr K A.Sender "first"
 Sender_second:NoAttr K A.Sender "second"
 Sender_baskets:NoAttr K A.Sender "baskets"
 g_MOST_WARES:∃ t,mg "MOST_WARES"=some (.int 8 t)
 g_MOST_SWAPS:∃ t,mg "MOST_SWAPS"=some (.int 12 t)
 k_BadBasket:mg "BadBasket"=some (.ref A.k_BadBasket)
 k_BadBaskets:mg "BadBaskets"=some (.ref A.k_BadBaskets)
 k_BadNames:mg "BadNames"=some (.ref A.k_BadNames)
 k_BadRest:mg "BadRest"=some (.ref A.k_BadRest)
 k_BadRoad:mg "BadRoad"=some (.ref A.k_BadRoad)
 k_BadScale:mg "BadScale"=some (.ref A.k_BadScale)
 k_BadSwap:mg "BadSwap"=some (.ref A.k_BadSwap)
 k_BadWares:mg "BadWares"=some (.ref A.k_BadWares)
 k_Endless:mg "Endless"=some (.ref A.k_Endless)
 k_NoBook:mg "NoBook"=some (.ref A.k_NoBook)
 k_NoLine:mg "NoLine"=some (.ref A.k_NoLine)
 k_NoName:mg "NoName"=some (.ref A.k_NoName)
 k_NoSwap:mg "NoSwap"=some (.ref A.k_NoSwap)
 k_NotAlike:mg "NotAlike"=some (.ref A.k_NotAlike)
 k_NotKept:mg "NotKept"=some (.ref A.k_NotKept)
 k_OtherBook:mg "OtherBook"=some (.ref A.k_OtherBook)
 k_OtherWares:mg "OtherWares"=some (.ref A.k_OtherWares)
 k_SwapError:mg "SwapError"=some (.ref A.k_SwapError)
 k_TooGreat:mg "TooGreat"=some (.ref A.k_TooGreat)
 k_TooMany:mg "TooMany"=some (.ref A.k_TooMany)
 xm_BadBasket:mg "BadBasket"=some ↑20
 xi_BadBasket:W.excIn K (A.xc .BadBasket) [.type "ValueError",.type "Exception",.type "BaseException",.type "object"] "ValueError.__new__"=true
 xcl_BadBasket:XCls K (A.xc .BadBasket)
 exm_BadBasket:W.exmOne K ↑20 (.ref A.k_SwapError)=some true
 i0_BadBasket:W.kitOne K ↑6 (.ref A.k_BadBasket)=some false
 i_BadBasket_BadBasket:W.kitOne K ↑20 (.ref A.k_BadBasket)=some (zcY .BadBasket)
 i0_BadBaskets:W.kitOne K ↑6 (.ref A.k_BadBaskets)=some false
 i_BadBasket_BadBaskets:W.kitOne K ↑20 (.ref A.k_BadBaskets)=some (zcF .BadBasket)
 i0_BadNames:W.kitOne K ↑6 (.ref A.k_BadNames)=some false
 i_BadBasket_BadNames:W.kitOne K ↑20 (.ref A.k_BadNames)=some (zdo .BadBasket)
 i0_BadRest:W.kitOne K ↑6 (.ref A.k_BadRest)=some false
 i_BadBasket_BadRest:W.kitOne K ↑20 (.ref A.k_BadRest)=some (zd2 .BadBasket)
 i0_BadRoad:W.kitOne K ↑6 (.ref A.k_BadRoad)=some false
 i_BadBasket_BadRoad:W.kitOne K ↑20 (.ref A.k_BadRoad)=some (zdP .BadBasket)
 i0_BadScale:W.kitOne K ↑6 (.ref A.k_BadScale)=some false
 i_BadBasket_BadScale:W.kitOne K ↑20 (.ref A.k_BadScale)=some (zdv .BadBasket)
 i0_BadSwap:W.kitOne K ↑6 (.ref A.k_BadSwap)=some false
 i_BadBasket_BadSwap:W.kitOne K ↑20 (.ref A.k_BadSwap)=some (zdY .BadBasket)
 i0_BadWares:W.kitOne K ↑6 (.ref A.k_BadWares)=some false
 i_BadBasket_BadWares:W.kitOne K ↑20 (.ref A.k_BadWares)=some (zef .BadBasket)
 i0_Endless:W.kitOne K ↑6 (.ref A.k_Endless)=some false
 i_BadBasket_Endless:W.kitOne K ↑20 (.ref A.k_Endless)=some (zd1 .BadBasket)
 i0_NoBook:W.kitOne K ↑6 (.ref A.k_NoBook)=some false
 i_BadBasket_NoBook:W.kitOne K ↑20 (.ref A.k_NoBook)=some (zeD .BadBasket)
 i0_NoLine:W.kitOne K ↑6 (.ref A.k_NoLine)=some false
 i_BadBasket_NoLine:W.kitOne K ↑20 (.ref A.k_NoLine)=some (zeJ .BadBasket)
 i0_NoName:W.kitOne K ↑6 (.ref A.k_NoName)=some false
 i_BadBasket_NoName:W.kitOne K ↑20 (.ref A.k_NoName)=some (zeI .BadBasket)
 i0_NoSwap:W.kitOne K ↑6 (.ref A.k_NoSwap)=some false
 i_BadBasket_NoSwap:W.kitOne K ↑20 (.ref A.k_NoSwap)=some (zfs .BadBasket)
 i0_NotAlike:W.kitOne K ↑6 (.ref A.k_NotAlike)=some false
 i_BadBasket_NotAlike:W.kitOne K ↑20 (.ref A.k_NotAlike)=some (zeh .BadBasket)
 i0_NotKept:W.kitOne K ↑6 (.ref A.k_NotKept)=some false
 i_BadBasket_NotKept:W.kitOne K ↑20 (.ref A.k_NotKept)=some (zd4 .BadBasket)
 i0_OtherBook:W.kitOne K ↑6 (.ref A.k_OtherBook)=some false
 i_BadBasket_OtherBook:W.kitOne K ↑20 (.ref A.k_OtherBook)=some (zc2 .BadBasket)
 i0_OtherWares:W.kitOne K ↑6 (.ref A.k_OtherWares)=some false
 i_BadBasket_OtherWares:W.kitOne K ↑20 (.ref A.k_OtherWares)=some (zcH .BadBasket)
 i0_TooGreat:W.kitOne K ↑6 (.ref A.k_TooGreat)=some false
 i_BadBasket_TooGreat:W.kitOne K ↑20 (.ref A.k_TooGreat)=some (zdt .BadBasket)
 i0_TooMany:W.kitOne K ↑6 (.ref A.k_TooMany)=some false
 i_BadBasket_TooMany:W.kitOne K ↑20 (.ref A.k_TooMany)=some (zeO .BadBasket)
 i0_ValueError:W.kitOne K ↑6 (.type "ValueError")=some false
 i_BadBasket_ValueError:W.kitOne K ↑20 (.type "ValueError")=some (zdb .BadBasket)
 kit_int_bool:W.kitOne K (.type "int") (.type "bool")=some false
 kit_int_int:W.kitOne K (.type "int") (.type "int")=some true
 kit_list_list:W.kitOne K (.type "list") (.type "list")=some true
theorem Txt.hx_BadBasket {K:W.Frag} {mg:Str->Option Value} {A:Adr} (T:Txt K mg A):∀ e,XCls K (A.xc e)∧W.kitOne K ↑30 (.ref A.k_BadBasket)=some (zcY e)
 | .BadBasket=>⟨T.xcl_BadBasket,T.i_BadBasket_BadBasket⟩
theorem Txt.hx_BadBaskets {K:W.Frag} {mg:Str->Option Value} {A:Adr} (T:Txt K mg A):∀ e,XCls K (A.xc e)∧W.kitOne K ↑30 (.ref A.k_BadBaskets)=some (zcF e)
 | .BadBasket=>⟨T.xcl_BadBasket,T.i_BadBasket_BadBaskets⟩
theorem Txt.hx_BadNames {K:W.Frag} {mg:Str->Option Value} {A:Adr} (T:Txt K mg A):∀ e,XCls K (A.xc e)∧W.kitOne K ↑30 (.ref A.k_BadNames)=some (zdo e)
 | .BadBasket=>⟨T.xcl_BadBasket,T.i_BadBasket_BadNames⟩
theorem Txt.hx_BadRest {K:W.Frag} {mg:Str->Option Value} {A:Adr} (T:Txt K mg A):∀ e,XCls K (A.xc e)∧W.kitOne K ↑30 (.ref A.k_BadRest)=some (zd2 e)
 | .BadBasket=>⟨T.xcl_BadBasket,T.i_BadBasket_BadRest⟩
theorem Txt.hx_BadRoad {K:W.Frag} {mg:Str->Option Value} {A:Adr} (T:Txt K mg A):∀ e,XCls K (A.xc e)∧W.kitOne K ↑30 (.ref A.k_BadRoad)=some (zdP e)
 | .BadBasket=>⟨T.xcl_BadBasket,T.i_BadBasket_BadRoad⟩
theorem Txt.hx_BadScale {K:W.Frag} {mg:Str->Option Value} {A:Adr} (T:Txt K mg A):∀ e,XCls K (A.xc e)∧W.kitOne K ↑30 (.ref A.k_BadScale)=some (zdv e)
 | .BadBasket=>⟨T.xcl_BadBasket,T.i_BadBasket_BadScale⟩
theorem Txt.hx_BadSwap {K:W.Frag} {mg:Str->Option Value} {A:Adr} (T:Txt K mg A):∀ e,XCls K (A.xc e)∧W.kitOne K ↑30 (.ref A.k_BadSwap)=some (zdY e)
 | .BadBasket=>⟨T.xcl_BadBasket,T.i_BadBasket_BadSwap⟩
theorem Txt.hx_BadWares {K:W.Frag} {mg:Str->Option Value} {A:Adr} (T:Txt K mg A):∀ e,XCls K (A.xc e)∧W.kitOne K ↑30 (.ref A.k_BadWares)=some (zef e)
 | .BadBasket=>⟨T.xcl_BadBasket,T.i_BadBasket_BadWares⟩
theorem Txt.hx_Endless {K:W.Frag} {mg:Str->Option Value} {A:Adr} (T:Txt K mg A):∀ e,XCls K (A.xc e)∧W.kitOne K ↑30 (.ref A.k_Endless)=some (zd1 e)
 | .BadBasket=>⟨T.xcl_BadBasket,T.i_BadBasket_Endless⟩
theorem Txt.hx_NoBook {K:W.Frag} {mg:Str->Option Value} {A:Adr} (T:Txt K mg A):∀ e,XCls K (A.xc e)∧W.kitOne K ↑30 (.ref A.k_NoBook)=some (zeD e)
 | .BadBasket=>⟨T.xcl_BadBasket,T.i_BadBasket_NoBook⟩
theorem Txt.hx_NoLine {K:W.Frag} {mg:Str->Option Value} {A:Adr} (T:Txt K mg A):∀ e,XCls K (A.xc e)∧W.kitOne K ↑30 (.ref A.k_NoLine)=some (zeJ e)
 | .BadBasket=>⟨T.xcl_BadBasket,T.i_BadBasket_NoLine⟩
theorem Txt.hx_NoName {K:W.Frag} {mg:Str->Option Value} {A:Adr} (T:Txt K mg A):∀ e,XCls K (A.xc e)∧W.kitOne K ↑30 (.ref A.k_NoName)=some (zeI e)
 | .BadBasket=>⟨T.xcl_BadBasket,T.i_BadBasket_NoName⟩
theorem Txt.hx_NoSwap {K:W.Frag} {mg:Str->Option Value} {A:Adr} (T:Txt K mg A):∀ e,XCls K (A.xc e)∧W.kitOne K ↑30 (.ref A.k_NoSwap)=some (zfs e)
 | .BadBasket=>⟨T.xcl_BadBasket,T.i_BadBasket_NoSwap⟩
theorem Txt.hx_NotAlike {K:W.Frag} {mg:Str->Option Value} {A:Adr} (T:Txt K mg A):∀ e,XCls K (A.xc e)∧W.kitOne K ↑30 (.ref A.k_NotAlike)=some (zeh e)
 | .BadBasket=>⟨T.xcl_BadBasket,T.i_BadBasket_NotAlike⟩
theorem Txt.hx_NotKept {K:W.Frag} {mg:Str->Option Value} {A:Adr} (T:Txt K mg A):∀ e,XCls K (A.xc e)∧W.kitOne K ↑30 (.ref A.k_NotKept)=some (zd4 e)
 | .BadBasket=>⟨T.xcl_BadBasket,T.i_BadBasket_NotKept⟩
theorem Txt.hx_OtherBook {K:W.Frag} {mg:Str->Option Value} {A:Adr} (T:Txt K mg A):∀ e,XCls K (A.xc e)∧W.kitOne K ↑30 (.ref A.k_OtherBook)=some (zc2 e)
 | .BadBasket=>⟨T.xcl_BadBasket,T.i_BadBasket_OtherBook⟩
theorem Txt.hx_OtherWares {K:W.Frag} {mg:Str->Option Value} {A:Adr} (T:Txt K mg A):∀ e,XCls K (A.xc e)∧W.kitOne K ↑30 (.ref A.k_OtherWares)=some (zcH e)
 | .BadBasket=>⟨T.xcl_BadBasket,T.i_BadBasket_OtherWares⟩
theorem Txt.hx_TooGreat {K:W.Frag} {mg:Str->Option Value} {A:Adr} (T:Txt K mg A):∀ e,XCls K (A.xc e)∧W.kitOne K ↑30 (.ref A.k_TooGreat)=some (zdt e)
 | .BadBasket=>⟨T.xcl_BadBasket,T.i_BadBasket_TooGreat⟩
theorem Txt.hx_TooMany {K:W.Frag} {mg:Str->Option Value} {A:Adr} (T:Txt K mg A):∀ e,XCls K (A.xc e)∧W.kitOne K ↑30 (.ref A.k_TooMany)=some (zeO e)
 | .BadBasket=>⟨T.xcl_BadBasket,T.i_BadBasket_TooMany⟩
theorem Txt.hx_ValueError {K:W.Frag} {mg:Str->Option Value} {A:Adr} (T:Txt K mg A):∀ e,XCls K (A.xc e)∧W.kitOne K ↑30 (.type "ValueError")=some (zdb e)
 | .BadBasket=>⟨T.xcl_BadBasket,T.i_BadBasket_ValueError⟩
section
variable {P:Program} {w:World} {K:W.Frag} {mg:Str->Option Value} {base:Heap} {f:Addr} {fd:FuncData} {A:Adr}
def zf4 (P0:Ji) (P1:Ji):Unit:=()
def zbG (P0:Ji) (P1:Ji):Prop:=P0.length=P1.length
def zcC (K:W.Frag) (A:Adr):Sp:=Spv (ι:=Ji×Ji) ↑220 (λx=>zbG x.1 x.2) (λx=>↥[dN])
theorem zhz:FnScope ↥9 ↥9 (zad zci):=↥4
theorem zhC (F:Fun K "refuse_unlike" "refuse_unlike" zci f fd) (T:Txt K mg A) :FnOk P w K mg base ↑1 1 f fd ↥9 (zcC K A):=by
 refine F.okV zhz ↑4 ↥7
 obtain ⟨P0,P1⟩:=x
 have hu:=hr.units
 replace hp:zbG P0 P1:=hp
 unfold zbG at hp
 refine ⟨_,(zac (zco (zaF zfD ↑180 ↑181 (zaM _)) (zac zeC zae) zae) zae),.inr ⟨_,↑223,rfl,?_⟩⟩
 show L2.Run _ ↑223 _ _
 exact (zca (EvT.conv (zav (zdH (x:=↑31) (y:=↑118) (zaZ (f:=dI) (xs:=P0) ↑2) (zaZ (f:=dI) (xs:=P1) ↑3))) ↑261) (zar ↑122))
def zet (P0:Ji) (P1:Ji):Ji :=
 (List.map (λ(x2:↥6)=>(x2.1+x2.2)) (List.zip P0 P1))
def zeY (P0:Ji) (P1:Ji):Prop:=P0.length=P1.length∧P0.length≤1000
def zif (K:W.Frag) (A:Adr):Sp:=Spv (ι:=Ji×Ji) ↑220 (λx=>zeY x.1 x.2) (λx=>.ow true (List.map dI (zet x.1 x.2)))
theorem zrA:FnScope ↥9 ↥9 (zad zic):=↥4
theorem zqD (F:Fun K "plus" "plus" zic f fd) (T:Txt K mg A) (yae:Callee P w K mg base ↑1 1 "refuse_unlike" ↥9 (zcC K A)):FnOk P w K mg base ↑1 2 f fd ↥9 (zif K A):=by
 refine F.okV zrA ↑4 ↥7
 obtain ⟨P0,P1⟩:=x
 have hu:=hr.units
 replace hp:zeY P0 P1:=hp
 unfold zeY at hp
 refine ⟨_,(zac (zcR (zaO yae ↥1 rfl zaK ↑[pv 0,pv 1])) (zac (zaJ (zbZ rfl (.of (osc:=(zad zic)) (N:=↥9) (own:=["a","b"]) (fvn:=[]) (fv:=[]) rfl rfl ↑5) (zb8 (K:=K) rfl rfl T.zip ↑[pv 0,pv 1]) (λ_ _ _ _ _=>⟨(zba (K:=K) (n:=2) rfl rfl (zay (zak (i:=0) ↑177 rfl ⇑0 ↥3) (zay (zak (i:=1) ↑177 rfl ⇑0 ↥3) zbE))),za5,(zaw zcD (pv 0) (pv 1))⟩))) zae)),.inl ?_⟩
 show L2.Run _ ↑223 _ (↑166 (zet P0 P1))
 unfold zet
 exact (zgY (m:=true) (Ev.any (m:=true) (zau (x:=(P0,P1)) (zab ↑2 (zab ↑3 zag)) rfl (by show zbG P0 P1;exact hp.1) rfl)) (zeK (zhK (EvO.conv (zbW (g:=(λ(x2:↥6)=>dI (x2.1+x2.2))) (zen (m:=false) dI dI (xs:=P0) (ys:=P1) ↑2 ↑3) ↥(zan ↑194) ⇑5 (λi3 x2 hx4=>have qhx4:=zbL hx4;(zaQ (x:=x2.1) (y:=x2.2) ↑9 ⇑6))) ↑10))))
def zfM (P0:Ji) (P1:Ji):Ji :=
 (List.map (λ(x5:↥6)=>(x5.1-x5.2)) (List.zip P0 P1))
def zfJ (P0:Ji) (P1:Ji):Prop:=P0.length=P1.length∧P0.length≤1000
def zjn (K:W.Frag) (A:Adr):Sp:=Spv (ι:=Ji×Ji) ↑220 (λx=>zfJ x.1 x.2) (λx=>.ow true (List.map dI (zfM x.1 x.2)))
theorem zqo:FnScope ↥9 ↥9 (zad zhZ):=↥4
theorem zqh (F:Fun K "less" "less" zhZ f fd) (T:Txt K mg A) (yae:Callee P w K mg base ↑1 1 "refuse_unlike" ↥9 (zcC K A)):FnOk P w K mg base ↑1 2 f fd ↥9 (zjn K A):=by
 refine F.okV zqo ↑4 ↥7
 obtain ⟨P0,P1⟩:=x
 have hu:=hr.units
 replace hp:zfJ P0 P1:=hp
 unfold zfJ at hp
 refine ⟨_,(zac (zcR (zaO yae ↥1 rfl zaK ↑[pv 0,pv 1])) (zac (zaJ (zbZ rfl (.of (osc:=(zad zhZ)) (N:=↥9) (own:=["a","b"]) (fvn:=[]) (fv:=[]) rfl rfl ↑5) (zb8 (K:=K) rfl rfl T.zip ↑[pv 0,pv 1]) (λ_ _ _ _ _=>⟨(zba (K:=K) (n:=2) rfl rfl (zay (zak (i:=0) ↑177 rfl ⇑0 ↥3) (zay (zak (i:=1) ↑177 rfl ⇑0 ↥3) zbE))),za5,(zaw zfi (pv 0) (pv 1))⟩))) zae)),.inl ?_⟩
 show L2.Run _ ↑223 _ (↑166 (zfM P0 P1))
 unfold zfM
 exact (zgY (m:=true) (Ev.any (m:=true) (zau (x:=(P0,P1)) (zab ↑2 (zab ↑3 zag)) rfl (by show zbG P0 P1;exact hp.1) rfl)) (zeK (zhK (EvO.conv (zbW (g:=(λ(x5:↥6)=>dI (x5.1-x5.2))) (zen (m:=false) dI dI (xs:=P0) (ys:=P1) ↑2 ↑3) ↥(zan ↑194) ⇑5 (λi6 x5 hx7=>have qhx7:=zbL hx7;(zaQ (x:=x5.1) (y:=x5.2) ↑9 ⇑6))) ↑10))))
def zas (P0:Ji) (P1:Int):Ji :=
 (List.map (λ(x8:Int)=>(x8*P1)) P0)
def zbH (P0:Ji) (P1:Int):Prop:=P0.length≤1000∧∀ x∈P0,zdK x P1
def ze3 (K:W.Frag) (A:Adr):Sp:=Spv (ι:=Ji×Int) (λx=>[dQ K (List.map dI x.1),dI x.2]) (λx=>zbH x.1 x.2) (λx=>.ow true (List.map dI (zas x.1 x.2)))
theorem zoQ:FnScope ["some","many"] ["some","many"] (zad zgz):=↥4
theorem zo9 (F:Fun K "times" "times" zgz f fd) (T:Txt K mg A) :FnOk P w K mg base ↑1 1 f fd ["some","many"] (ze3 K A):=by
 refine F.okV zoQ ↑4 ↥7
 obtain ⟨P0,P1⟩:=x
 have hu:=hr.units
 replace hp:zbH P0 P1:=hp
 unfold zbH at hp
 refine ⟨_,(zac (zaJ (zbZ rfl (.of (osc:=(zad zgz)) (N:=["some","many"]) (own:=["number"]) (fvn:=["many"]) (fv:=[1]) rfl rfl ↑5) (za3 (K:=K) rfl (pv 0)) (λ_ _ _ _ _=>⟨(zak (i:=0) (show (["number","many"]:List Str).Nodup by decide +kernel) rfl ⇑0 ↥3),za5,(zaw zbA (pv 0) (pv 1))⟩))) zae),.inl ?_⟩
 show L2.Run _ ([⇑[dQ K ↑8],⇑[dI P1]]:L2.Ctx) _ (↑166 (zas P0 P1))
 unfold zas
 exact (zeK (zhK (EvO.conv (zbW (g:=(λ(x8:Int)=>dI (x8*P1))) (zbY (m:=false) dI (xs:=P0) ↑2) ↥(zan ↑0) ⇑5 (λi9 x8 hx10=>have v10:=List.mem_of_getElem? hx10;(zaH (x:=x8) (y:=P1) ↑9 ⇑6 ↥(hp.2 _ (List.mem_of_getElem? ↥0))))) ↑10)))
theorem zps {α:Type} {xs:List α} {i:Nat} {p:Int×α} (h:(zhL xs)[i]?=some p):p.2∈xs:=List.mem_of_getElem? (zfo h).2.2
def zcj (P0:Ji) (P1:Ji):Int :=
 ((List.map (λ(x11:↥6)=>(x11.1*x11.2)) (List.zip P0 P1))).sum
def zeT (P0:Ji) (P1:Ji):Prop:=P0.length=P1.length∧P0.length≤1000∧∀ p∈List.zip P0 P1,zdK p.1 p.2
def zhg (K:W.Frag) (A:Adr):Sp:=Spv (ι:=Ji×Ji) ↑220 (λx=>zeT x.1 x.2) (λx=>↥[dI (zcj x.1 x.2)])
theorem zl3:FnScope ↥9 ↥9 (zad zeQ):=↥4
theorem zmi (F:Fun K "weighed" "weighed" zeQ f fd) (T:Txt K mg A) (yae:Callee P w K mg base ↑1 1 "refuse_unlike" ↥9 (zcC K A)):FnOk P w K mg base ↑1 2 f fd ↥9 (zhg K A):=by
 refine F.okV zl3 ↑4 ↥7
 obtain ⟨P0,P1⟩:=x
 have hu:=hr.units
 replace hp:zeT P0 P1:=hp
 unfold zeT at hp
 refine ⟨_,(zac (zcR (zaO yae ↥1 rfl zaK ↑[pv 0,pv 1])) (zac (zaJ (zal (zmf (K:=K) rfl rfl) rfl T.sum PyProof.Rows.boot_sum ↑[(zbZ rfl (.of (osc:=(zad zeQ)) (N:=↥9) (own:=["a","b"]) (fvn:=[]) (fv:=[]) rfl rfl ↑5) (zb8 (K:=K) rfl rfl T.zip ↑[pv 0,pv 1]) (λ_ _ _ _ _=>⟨(zba (K:=K) (n:=2) rfl rfl (zay (zak (i:=0) ↑177 rfl ⇑0 ↥3) (zay (zak (i:=1) ↑177 rfl ⇑0 ↥3) zbE))),za5,(zaw zbA (pv 0) (pv 1))⟩))])) zae)),.inl ?_⟩
 show L2.Run _ ↑223 _ (↑25 (zcj P0 P1))
 unfold zcj
 exact (zgY (m:=true) (Ev.any (m:=true) (zau (x:=(P0,P1)) (zab ↑2 (zab ↑3 zag)) rfl (by show zbG P0 P1;exact hp.1) rfl)) (zaj (zaC (zsh (xs:=(List.map (λ(x11:↥6)=>(x11.1*x11.2)) (List.zip P0 P1))) (Ev.weak (K:=K) (EvO.ev (EvO.conv (zbW (g:=(λ(x11:↥6)=>dI (x11.1*x11.2))) (zen (m:=false) dI dI (xs:=P0) (ys:=P1) ↑2 ↑3) ↥(zan ↑194) ⇑5 (λi12 x11 hx13=>have v13:=zbL hx13;(zaH (x:=x11.1) (y:=x11.2) ↑9 ⇑6 ↥(hp.2.2 _ (List.mem_of_getElem? ↥0))))) ↑10)))))))
theorem zma (w t:Ji):zcj w t=Lat.dv w (Lat.vec t):=Lat.zmY w t
def zai (P0:Ji):Int :=
 (zmn (zcm (λ(s14:Unit) (x15:↥6)=>(((bif (!decide (x15.2=(0:Int))) then (Sum.inr x15.1) else (Sum.inl ()))):(Unit)⊕Int)) () (zhL P0)) (λ(r20:Unit)=>↑31) (λb=>b))
def zbp (P0:Ji):Prop:=True
def zdr (K:W.Frag) (A:Adr):Sp:=Spv (ι:=Ji) ↑168 (λx=>zbp x) (λx=>↥[dI (zai x)])
theorem zho:FnScope ["row","place","number"] ["row"] (zad zfp):=↥4
theorem zl4 (F:Fun K "head_of" "head_of" zfp f fd) (T:Txt K mg A) :FnOk P w K mg base ↑1 1 f fd ["row"] (zdr K A):=by
 refine F.okV zho ↑4 ↑63
 have hu:=hr.units
 replace hp:zbp P0:=hp
 unfold zbp at hp
 refine ⟨_,(zac (zch PassesOwn.never rfl (zjb rfl rfl T.enumerate ↑[pv 0]) (zba (K:=K) (n:=2) rfl rfl (zay (zak (i:=1) zho.nd rfl ⇑0 ⇑0) (zay (zak (i:=2) zho.nd rfl ⇑0 ⇑0) zbE))) (zac (zco (zaF zfD (pv 2) zah (zaM _)) (zac (zaJ (pv 1)) zae) zae) zae)) (zac (zaJ ↑180) zae)),.inl ?_⟩
 show L2.Run _ ([⇑[dQ K ↑8],.no,.no]:L2.Ctx) _ (↑25 (zai P0))
 unfold zai
 exact (zhJ (s0:=()) (λ(s14:Unit)=>([⇑[dQ K ↑8],.no,.no]:L2.Ctx)) ↑25 (λb=>b) (λ(s14:Unit) (x15:↥6)=>(((bif (!decide (x15.2=(0:Int))) then (Sum.inr x15.1) else (Sum.inl ()))):(Unit)⊕Int)) (λ_ _=>True) (λb=> .inl ⟨_,_,rfl⟩) (zjs (m:=false) dI (xs:=P0) ↑2) ↑114 trivial (λi16 x15 s14 hx17 hI18=>have v17:=zfo hx17;⟨(λ_ _=>trivial),(zaS (b:=(!decide (x15.2=(0:Int)))) (ziW (λ(s14:Unit)=>([⇑[dQ K ↑8],.no,.no]:L2.Ctx)) ↑25) (zav (zdH (x:=x15.2) (y:=(0:Int)) ↑39 zaG)) (λh19=>(zax (zaj (zaC ⇑6)))) (λh19=>(zar (zap (.eq ↑46)))))⟩) (λr20 hr20 hI=>(zaj (zaC (zaZ (f:=dI) (xs:=P0) ↑2)))))
theorem zc5 (r:Ji):zai r=(Lat.hd r:Int):=Lat.zud r
def zdC (P0:Int) (P1:Int):(T3 Int Int Int) :=
 (Let (whl (λ(s21:Int×Int×Int×Int)=>(!decide (s21.2.1=(0:Int)))) (λ(s21:Int×Int×Int×Int)=>(Let (s21.1/s21.2.1) (λ(v24:Int)=>(Let (s21.1-(v24*s21.2.1)) (λ(v25:Int)=>(Let s21.2.1 (λ(v26:Int)=>(Let (s21.2.2.1-(v24*s21.2.2.2)) (λ(v27:Int)=>(Let s21.2.2.2 (λ(v28:Int)=>(v26,v25,v28,v27)))))))))))) (P1.toNat) (P0,P1,(1:Int),(0:Int))) (λ(r29:Int×Int×Int×Int)=>(T3.mk r29.1 r29.2.2.1 ((r29.1-(r29.2.2.1*P0))/P1))))
def zgf (P0:Int) (P1:Int):Prop:=Lat.zld P0 P1
def zhX (K:W.Frag) (A:Adr):Sp:=Spv (ι:=Int×Int) (λx=>[dI x.1,dI x.2]) (λx=>zgf x.1 x.2) (λx=>↥[dT [dI ((zdC x.1 x.2).a),dI ((zdC x.1 x.2).b),dI ((zdC x.1 x.2).c)]])
theorem zcE:FnScope ["one","other","great","small","taken","later","part","left"] ↥9 (zad zgi):=↥4
theorem zn5 (F:Fun K "common" "common" zgi f fd) (T:Txt K mg A) :FnOk P w K mg base ↑1 1 f fd ↥9 (zhX K A):=by
 refine F.okV zcE ↑4 ↥7
 obtain ⟨P0,P1⟩:=x
 have hu:=hr.units
 replace hp:zgf P0 P1:=hp
 unfold zgf at hp
 refine ⟨_,(zac (zao (i:=2) zcE.nd rfl ⇑0 (pv 0)) (zac (zao (i:=3) zcE.nd rfl ⇑0 (pv 1)) (zac (zao (i:=4) zcE.nd rfl ⇑0 zah) (zac (zao (i:=5) zcE.nd rfl ⇑0 zah) (zac (zja PassesOwn.never (zaF zfD (pv 3) zah (zaM _)) (zac (zao (i:=6) zcE.nd rfl ⇑0 (zaw zb7 (pv 2) (pv 3))) (zac (zao (i:=7) zcE.nd rfl ⇑0 (zaw zfi (pv 2) (zaw zbA (pv 6) (pv 3)))) (zac (zao (i:=2) zcE.nd rfl ⇑0 (pv 3)) (zac (zao (i:=3) zcE.nd rfl ⇑0 (pv 7)) (zac (zao (i:=7) zcE.nd rfl ⇑0 (zaw zfi (pv 4) (zaw zbA (pv 6) (pv 5)))) (zac (zao (i:=4) zcE.nd rfl ⇑0 (pv 5)) (zac (zao (i:=5) zcE.nd rfl ⇑0 (pv 7)) zae)))))))) (zac (zaJ (zgn ↑[pv 2,pv 4,zaw zb7 (zaw zfi (pv 2) (zaw zbA (pv 4) (pv 0))) (pv 1)])) zae)))))),.inl ?_⟩
 show L2.Run _ ([⇑[dI P0],⇑[dI P1],.no,.no,.no,.no,.no,.no]:L2.Ctx) _ ((λ(r:(T3 Int Int Int))=>Oc.rt true (dT [dI r.a,dI r.b,dI r.c])) (zdC P0 P1))
 unfold zdC
 exact (zcg (m:=true) ↑9 (zcg (m:=true) ⇑6 (zcg (m:=true) zaG (zcg (m:=true) zaG (zhW (s0:=(P0,P1,(1:Int),(0:Int))) ↑175 (λ(r:(T3 Int Int Int))=>Oc.rt true (dT [dI r.a,dI r.b,dI r.c])) (λ(s21:Int×Int×Int×Int)=>(!decide (s21.2.1=(0:Int)))) (λ(s21:Int×Int×Int×Int)=>(Let (s21.1/s21.2.1) (λ(v24:Int)=>(Let (s21.1-(v24*s21.2.1)) (λ(v25:Int)=>(Let s21.2.1 (λ(v26:Int)=>(Let (s21.2.2.1-(v24*s21.2.2.2)) (λ(v27:Int)=>(Let s21.2.2.2 (λ(v28:Int)=>(v26,v25,v28,v27)))))))))))) (λ(s21:Int×Int×Int×Int)=>Lat.GI P0 P1 s21) (λ(s21:Int×Int×Int×Int)=>(s21.2.1).toNat) (P1.toNat) (.eq ↑28) ↥(Lat.GI.start hp.1 hp.2.1) ↥(Nat.le_refl _) (λs21 hI22=>⟨(zav (zdH (x:=s21.2.1) (y:=(0:Int)) ↑64 zaG)),λhc23=>⟨↥(Lat.GI.step ↥0 ↥0),(zam (m:=true) (x:=(s21.1/s21.2.1)) dI (λz=>Oc.nx (↑175 z)) (zaH (x:=s21.1) (y:=s21.2.1) ↑54 ↑64 ↥(Lat.GI.div ↥0 hp ↥0)) (λv24 hv24=>(zam (m:=true) (x:=(s21.1-(v24*s21.2.1))) dI (λz=>Oc.nx (↑175 z)) (zaQ (x:=s21.1) (y:=(v24*s21.2.1)) ↑54 (zaH (x:=v24) (y:=s21.2.1) ↑78 ↑64 ↥(Lat.GI.mul1 ↥0 hp ↥0 ↥0))) (λv25 hv25=>(zam (m:=true) (x:=s21.2.1) dI (λz=>Oc.nx (↑175 z)) ↑64 (λv26 hv26=>(zcg (m:=true) (Ev.any (m:=true) ↑55) (zam (m:=true) (x:=(s21.2.2.1-(v24*s21.2.2.2))) dI (λz=>Oc.nx (↑175 z)) (zaQ (x:=s21.2.2.1) (y:=(v24*s21.2.2.2)) ↑38 (zaH (x:=v24) (y:=s21.2.2.2) ↑78 ↑24 ↥(Lat.GI.mul2 ↥0 hp ↥0 ↥0))) (λv27 hv27=>(zam (m:=true) (x:=s21.2.2.2) dI (λz=>Oc.nx (↑175 z)) ↑24 (λv28 hv28=>(zcg (m:=true) (Ev.any (m:=true) ↑55) (zap (.eq (.eq (.eq (.eq (.eq (.eq ↑46)))))))))))))))))))⟩⟩) (λr29 hr29 hI hc=>(zaj (zaC (zgo (zab ↑54 (zab ↑38 (zab (zaH (x:=(r29.1-(r29.2.2.1*P0))) (y:=P1) (zaQ (x:=r29.1) (y:=(r29.2.2.1*P0)) ↑54 (zaH (x:=r29.2.2.1) (y:=P0) ↑38 ↑9 ↥(Lat.GI.mul3 ↥0 hp))) ⇑6 ↥(Lat.zld.div hp)) zag))) ↑136)))))))))
theorem znN (a b:Int):zdC a b=Lat.cmn a b:=rfl
def zbM (P0:Ji):Ji :=
 (bif (decide ((ixD P0 (zai P0))<(0:Int))) then (zas P0 ⇑7) else P0)
def zdf (P0:Ji):Prop:=P0.length≤1000∧Lat.hd P0<P0.length
def zhi (K:W.Frag) (A:Adr):Sp:=Spv (ι:=Ji) (λx=>[dL (List.map dI x)]) (λx=>zdf x) (λx=>⇑[dL (List.map dI (zbM x))])
theorem zlX:FnScope ["row"] ["row"] (zad zfl):=↥4
theorem zmc (F:Fun K "upright" "upright" zfl f fd) (T:Txt K mg A) (yac:Callee P w K mg base ↑1 1 "head_of" ["row"] (zdr K A)) (yad:Callee P w K mg base ↑1 1 "times" ["some","many"] (ze3 K A)):FnOk P w K mg base ↑1 2 f fd ["row"] (zhi K A):=by
 refine F.okV zlX ↑4 ↑63
 have hu:=hr.units
 replace hp:zdf P0:=hp
 unfold zdf at hp
 refine ⟨_,(zac (zaJ (zoK (zaF zjK (za1 ↑7 (pv 0) (zaO yac ↥1 rfl zaK ↑[pv 0]) ⇑3) zah (zaM _)) (zaO yad ↥1 rfl zaK ↑[pv 0,zoZ zlw zah]) (pv 0))) zae),.inl ?_⟩
 show L2.Run _ ([⇑[dL ↑8]]:L2.Ctx) _ ((λ(r:Ji)=>Oc.rt false (dL (List.map dI r))) (zbM P0))
 unfold zbM
 exact (zaj (zaC (ztY lI (b:=(decide ((ixD P0 (zai P0))<(0:Int)))) (x:=(zas P0 ⇑7)) (y:=P0) (zav (zaQ (x:=(ixD P0 (zai P0))) (y:=(0:Int)) (Ev.any (m:=false) (zbP (f:=dI) (xs:=P0) ↑90 (Ev.any (m:=true) (zau (x:=P0) (zab ↑90 zag) rfl (by show zbp P0;exact trivial) rfl)) (by have:=hp.2;rw [zc5];unfold InB;omega))) zaG)) (λhb=>(EvO.ev (EvO.anyI (m:=true) (zb5 (x:=(P0,⇑7)) (zab ↑90 (zab (zoI (x:=(1:Int)) zaG) zag)) rfl (by show zbH P0 ⇑7;exact ⟨hp.1,λ_ _=>.inr (.inl ⇑5)⟩) rfl)))) (λhb=>↑2))))
theorem ziG (l:Ji):zbM l=Lat.upr l:=by unfold zbM;rw [zc5,Lat.zb0];rfl
theorem zlm (s x:Ji):Let (zai x) (λ(h:Int)=>Let ((ixD s h)/(ixD x h)) (λ(q:Int)=>Let (bif (!decide (q=(0:Int))) then (zfM s (zas x q)) else s) (λ(y:Ji)=>y)))=Lat.zkO s x:=by
 unfold Let
 dsimp only
 rw [zc5,Lat.zb0,Lat.zb0];rfl
section
variable {n s a b i:Nat} {l t:Ji} {h q:Int} {steps:Jq}
theorem zux (T:Lat.Sd n s t) (e:h=(Lat.hd t:Int)) (hl:l.length=n∧Lat.Bit b l):InB l.length h:=Lat.zlP T e hl.1
theorem zlk (T:Lat.Sd n s t) (e:h=(Lat.hd t:Int)):InB t.length h:=Lat.zlP T e T.len
theorem ztf (p1:n≤1000) (p6:a+steps.length*(s+1)+s≤50000000) (hx:steps[i]?=some t) (T:∀ t∈steps,Lat.Sd n s t) (hl:l.length=n∧Lat.Bit (a+i*(s+1)) l) (e:h=(Lat.hd t:Int)) (eq:q=ixD l h/ixD t h):zbH t q:=by
 have T1:=T t (List.mem_of_getElem? hx)
 exact ⟨by rw [T1.len];exact p1,Lat.zqB T1 e hl.2 eq (Lat.zqk p6 ((List.getElem?_eq_some_iff.mp hx)).1)⟩
theorem zrj (p1:n≤1000) (T:Lat.Sd n s t) (hl:l.length=n∧Lat.Bit b l):zfJ l (zas t q):=⟨by rw [hl.1,show (zas t q).length=t.length from Lat.zbt,T.len],by omega⟩
theorem ztL {sh:T3 Int Int Int} (e:h=(Lat.hd t:Int)) (T:Lat.Sd n s t) (h0:0<Lat.vec l (Lat.hd t)) (h1:Lat.vec l (Lat.hd t)<Lat.vec t (Lat.hd t)) (hs:sh=zdC (ixD t h) (ixD l h)):0<sh.a∧sh.a.natAbs≤2^8981∧sh.b.natAbs≤2^8980∧sh.c.natAbs≤2^17962:=by
 subst hs
 exact Lat.zp1 (Lat.zoa T e h0 h1)
theorem zqr {x y:Int} (p1:n≤1000) (h1:t.length=n) (h2:l.length=n):zeY (zas t x) (zas l y):=⟨by rw [show (zas t x).length=t.length from Lat.zbt,show (zas l y).length=l.length from Lat.zbt,h1,h2],by rw [show (zas t x).length=t.length from Lat.zbt,h1];exact p1⟩
theorem zo5 {x y:Int} (p1:n≤1000) (h1:t.length=n) (h2:l.length=n):zfJ (zas l x) (zas t y):=⟨by rw [show (zas t y).length=t.length from Lat.zbt,show (zas l x).length=l.length from Lat.zbt,h1,h2],by rw [show (zas l x).length=l.length from Lat.zbt,h2];exact p1⟩
theorem zsL (e:h=(Lat.hd t:Int)) (T:Lat.Sd n s t):(ixD t h).natAbs≤2^8980:=by subst e;rw [Lat.zb0];exact T.top
theorem zqM (e:h=(Lat.hd t:Int)) (T:Lat.Sd n s t) (h0:0<Lat.vec l (Lat.hd t)) (h1:Lat.vec l (Lat.hd t)<Lat.vec t (Lat.hd t)):(ixD l h).natAbs≤2^8980:=by subst e;rw [Lat.zb0];have:=T.top;omega
end
def m_lowered (P0:Ji) (P1:Jq):Ji :=
 (Let (List.foldl (λ(s30:Ji) (x31:Ji)=>(Let (zai x31) (λ(hv35:Int)=>(Let ((ixD s30 hv35)/(ixD x31 hv35)) (λ(v36:Int)=>(Let (bif (!decide (v36=(0:Int))) then (zfM s30 (zas x31 v36)) else s30) (λ(v38:Ji)=>v38))))))) P0 P1) (λ(r39:Ji)=>r39))
def zdh (P0:Ji) (P1:Jq):Prop:=Lat.LowP P0 P1
def zf5 (K:W.Frag) (A:Adr):Sp:=Spv (ι:=Ji×Jq) (λx=>[dQ K (List.map dI x.1),dQ K (List.map lI x.2)]) (λx=>zdh x.1 x.2) (λx=>↥[dL (List.map dI (m_lowered x.1 x.2))])
theorem zeM:FnScope ["row","steps","left","step","head","many"] ["row","steps"] (zad zfj):=↥4
theorem zl9 (F:Fun K "lowered" "lowered" zfj f fd) (T:Txt K mg A) (yac:Callee P w K mg base ↑1 1 "head_of" ["row"] (zdr K A)) (ybR:Callee P w K mg base ↑1 2 "less" ↥9 (zjn K A)) (yad:Callee P w K mg base ↑1 1 "times" ["some","many"] (ze3 K A)):FnOk P w K mg base ↑1 3 f fd ["row","steps"] (zf5 K A):=by
 refine F.okV zeM ↑4 ↥7
 obtain ⟨P0,P1⟩:=x
 have hu:=hr.units
 replace hp:zdh P0 P1:=hp
 unfold zdh at hp
 obtain ⟨N0,A0,S0,p1,p2,p3,p4,p5,p6⟩:=hp
 refine ⟨_,(zac (zao (i:=2) zeM.nd rfl ⇑0 ↑154) (zac (zch PassesOwn.never rfl (za3 (K:=K) rfl (pv 1)) (zak (i:=3) zeM.nd rfl ⇑0 ⇑0) (zac (zao (i:=4) zeM.nd rfl ⇑0 (zaO yac ↥1 rfl zaK ↑[pv 3])) (zac (zao (i:=5) zeM.nd rfl ⇑0 (zaw zb7 (za1 ↑7 (pv 2) (pv 4) ⇑3) (za1 ↑7 (pv 3) (pv 4) ⇑3))) (zac (zco (zaF zfD (pv 5) zah (zaM _)) (zac (zao (i:=2) zeM.nd rfl ⇑0 (zaO ybR ↥1 rfl zaK ↑[pv 2,zaO yad ↥1 rfl zaK ↑[pv 3,pv 5]])) zae) zae) zae)))) (zac (zaJ (pv 2)) zae))),.inl ?_⟩
 show L2.Run _ ([⇑[dQ K ↑8],⇑[dQ K ↑71],.no,.no,.no,.no]:L2.Ctx) _ (↑23 (m_lowered P0 P1))
 unfold m_lowered
 exact (zcg (m:=true) (EvO.ev (EvO.anyI (m:=false) (zfg ↑2))) (zbh (s0:=P0) ↑238 ↑23 (λ(s30:Ji) (x31:Ji)=>(Let (zai x31) (λ(hv35:Int)=>(Let ((ixD s30 hv35)/(ixD x31 hv35)) (λ(v36:Int)=>(Let (bif (!decide (v36=(0:Int))) then (zfM s30 (zas x31 v36)) else s30) (λ(v38:Ji)=>v38))))))) (λ(i:Nat) (s30:Ji)=>s30.length=N0∧Lat.Bit (A0+i*(S0+1)) s30) (zbY (m:=false) lI (xs:=P1) ↑3) (.eq ↑41) ↥(⟨p2,by simpa using p4⟩) (λi32 x31 s30 hx33 hI34=>have v33:=List.mem_of_getElem? hx33;⟨↥(Lat.zrp (p5 _ ↥0) ↥0 (zlm _ _)),(zam (m:=true) (x:=(zai x31)) dI (λz=>Oc.nx (↑238 z)) (Ev.any (m:=true) (zau (x:=x31) (zab ↑18 zag) rfl (by show zbp x31;exact trivial) rfl)) (λhv35 hhead35=>have hH:=(hhead35).trans (zc5 _);(zam (m:=true) (x:=((ixD s30 hv35)/(ixD x31 hv35))) dI (λz=>Oc.nx (↑238 z)) (zaH (x:=(ixD s30 hv35)) (y:=(ixD x31 hv35)) (Ev.any (m:=true) (zbP (f:=dI) (xs:=s30) ↑58 ↑38 ↥(zux (p5 _ ↥0) hH ↥0))) (Ev.any (m:=false) (zbP (f:=dI) (xs:=x31) ↑18 ↑38 ↥(zlk (p5 _ ↥0) hH))) ↥(Lat.zra (p5 _ ↥0) hH)) (λv36 hv36=>(zed (b:=(!decide (v36=(0:Int)))) (λbb=>([⇑[dQ K ↑8],⇑[dQ K ↑71],↥[dL (List.map dI (bif bb then (zfM s30 (zas x31 v36)) else s30))],⇑[dL (List.map dI x31)],↥[dI hv35],↥[dI v36]]:L2.Ctx)) (zav (zdH (x:=v36) (y:=(0:Int)) ↑24 zaG)) (λh37=>(zcg (m:=true) (EvO.ev (EvO.anyI (m:=true) (zb5 (x:=(s30,(zas x31 v36))) (zab ↑84 (zab (Ev.weak (K:=K) (EvO.ev (EvO.anyI (m:=true) (zb5 (x:=(x31,v36)) (zab ↑18 (zab ↑24 zag)) rfl (by show zbH x31 v36;exact ztf p1 p6 ↥0 p5 ↥0 hH ↥0) rfl)))) zag)) rfl (by show zfJ s30 (zas x31 v36);exact zrj p1 (p5 _ ↥0) ↥0) rfl))) (zap (.eq ↑41)))) (λh37=>(zap (.eq ↑41))) (zep (x:=(bif (!decide (v36=(0:Int))) then (zfM s30 (zas x31 v36)) else s30)) (λv38=>([⇑[dQ K ↑8],⇑[dQ K ↑71],↥[dL (List.map dI v38)],⇑[dL (List.map dI x31)],↥[dI hv35],↥[dI v36]]:L2.Ctx)) (λz=>Oc.nx (↑238 z)) (λv38 hv38=>(zap (.eq (.eq (.eq (.no ↑46))))))))))))⟩) (λr39 hr39 hI=>(zaj (zaC ↑19)))))
theorem zfq (l:Ji) (ss:Jq):m_lowered l ss=Lat.low l ss:=by
 unfold m_lowered
 show List.foldl _ l ss=List.foldl Lat.zkO l ss
 congr 1
 funext s x
 exact zlm s x
def zbv (P0:Ji) (P1:Ji):(Ji×Ji) :=
 (Let (zai P0) (λ(hv40:Int)=>(Let (zdC (ixD P0 hv40) (ixD P1 hv40)) (λ(v41:(T3 Int Int Int))=>(Let (zet (zas P0 v41.b) (zas P1 v41.c)) (λ(v42:Ji)=>(Let (zfM (zas P1 ((ixD P0 hv40)/v41.a)) (zas P0 ((ixD P1 hv40)/v41.a))) (λ(v43:Ji)=>(v42,v43)))))))))
def zgh (P0:Ji) (P1:Ji):Prop:=Lat.MrgP P0 P1
def zhO (K:W.Frag) (A:Adr):Sp:=Spv (ι:=Ji×Ji) ↑220 (λx=>zgh x.1 x.2) (λx=>↥[dT [dL (List.map dI ((zbv x.1 x.2).1)),dL (List.map dI ((zbv x.1 x.2).2))]])
theorem zfX:FnScope ["step","row","head","shared","first","second"] ["step","row"] (zad zge):=↥4
theorem zm6 (F:Fun K "merged" "merged" zge f fd) (T:Txt K mg A) (ycG:Callee P w K mg base ↑1 1 "common" ↥9 (zhX K A)) (yac:Callee P w K mg base ↑1 1 "head_of" ["row"] (zdr K A)) (ybR:Callee P w K mg base ↑1 2 "less" ↥9 (zjn K A)) (yaD:Callee P w K mg base ↑1 2 "plus" ↥9 (zif K A)) (yad:Callee P w K mg base ↑1 1 "times" ["some","many"] (ze3 K A)):FnOk P w K mg base ↑1 3 f fd ["step","row"] (zhO K A):=by
 refine F.okV zfX ↑4 ↥7
 obtain ⟨P0,P1⟩:=x
 have hu:=hr.units
 replace hp:zgh P0 P1:=hp
 unfold zgh at hp
 obtain ⟨N0,A0,S0,p1,p2,p3,p4,p5,p6,p7⟩:=hp
 refine ⟨_,(zac (zao (i:=2) zfX.nd rfl ⇑0 (zaO yac ↥1 rfl zaK ↑[pv 0])) (zac (zao (i:=3) zfX.nd rfl ⇑0 (zaO ycG ↥1 rfl zaK ↑[(za1 ↑7 (pv 0) (pv 2) ⇑3),(za1 ↑7 (pv 1) (pv 2) ⇑3)])) (zac (zao (i:=4) zfX.nd rfl ⇑0 (zaO yaD ↥1 rfl zaK ↑[(zaO yad ↥1 rfl zaK ↑[pv 0,(za1 ↑49 (pv 3) zah ⇑3)]),(zaO yad ↥1 rfl zaK ↑[pv 1,(za1 ↑49 (pv 3) zah ⇑3)])])) (zac (zao (i:=5) zfX.nd rfl ⇑0 (zaO ybR ↥1 rfl zaK ↑[(zaO yad ↥1 rfl zaK ↑[pv 1,(zaw zb7 (za1 ↑7 (pv 0) (pv 2) ⇑3) (za1 ↑49 (pv 3) zah ⇑3))]),(zaO yad ↥1 rfl zaK ↑[pv 0,(zaw zb7 (za1 ↑7 (pv 1) (pv 2) ⇑3) (za1 ↑49 (pv 3) zah ⇑3))])])) (zac (zaJ (zgn ↑[pv 4,pv 5])) zae))))),.inl ?_⟩
 show L2.Run _ ([⇑[dQ K ↑8],⇑[dQ K ⇑4],.no,.no,.no,.no]:L2.Ctx) _ (↑217 (zbv P0 P1))
 unfold zbv
 exact (zam (m:=true) (x:=(zai P0)) dI ↑217 (Ev.any (m:=true) (zau (x:=P0) (zab ↑2 zag) rfl (by show zbp P0;exact trivial) rfl)) (λhv40 hhead40=>have hH:=(hhead40).trans (zc5 _);(zam (m:=true) (x:=(zdC (ixD P0 hv40) (ixD P1 hv40))) (λ(p:(T3 Int Int Int))=>dT [dI p.a,dI p.b,dI p.c]) ↑217 (zau (x:=((ixD P0 hv40),(ixD P1 hv40))) (zab (Ev.any (m:=false) (zbP (f:=dI) (xs:=P0) ↑2 ↑54 ↥(zlk p2 hH))) (zab (Ev.any (m:=false) (zbP (f:=dI) (xs:=P1) ↑3 ↑54 ↥(Lat.zlP p2 hH p3))) zag)) rfl (by show zgf (ixD P0 hv40) (ixD P1 hv40);exact Lat.zoa p2 hH p5 p6) rfl) (λv41 hv41=>have hC:=ztL hH p2 p5 p6 hv41;(zam (m:=true) (x:=(zet (zas P0 v41.b) (zas P1 v41.c))) lI ↑217 (EvO.ev (EvO.anyI (m:=true) (zb5 (x:=((zas P0 v41.b),(zas P1 v41.c))) (zab (Ev.weak (K:=K) (EvO.ev (EvO.anyI (m:=true) (zb5 (x:=(P0,v41.b)) (zab ↑2 (zab (Ev.any (m:=true) (zbw ↑29 zaG rfl)) zag)) rfl (by show zbH P0 v41.b;exact ⟨by rw [p2.len];exact p1,Lat.zjy p2.bit hC.2.2.1 ↑0 ⇑1⟩) rfl)))) (zab (Ev.weak (K:=K) (EvO.ev (EvO.anyI (m:=true) (zb5 (x:=(P1,v41.c)) (zab ↑3 (zab (Ev.any (m:=true) (zbw ↑29 zaG rfl)) zag)) rfl (by show zbH P1 v41.c;exact ⟨by rw [p3];exact p1,Lat.zjy p4 hC.2.2.2 ↑0 ⇑1⟩) rfl)))) zag)) rfl (by show zeY (zas P0 v41.b) (zas P1 v41.c);exact zqr p1 p2.len p3) rfl))) (λv42 hv42=>(zam (m:=true) (x:=(zfM (zas P1 ((ixD P0 hv40)/v41.a)) (zas P0 ((ixD P1 hv40)/v41.a)))) lI ↑217 (EvO.ev (EvO.anyI (m:=true) (zb5 (x:=((zas P1 ((ixD P0 hv40)/v41.a)),(zas P0 ((ixD P1 hv40)/v41.a)))) (zab (Ev.weak (K:=K) (EvO.ev (EvO.anyI (m:=true) (zb5 (x:=(P1,((ixD P0 hv40)/v41.a))) (zab ↑3 (zab (zaH (x:=(ixD P0 hv40)) (y:=v41.a) (Ev.any (m:=false) (zbP (f:=dI) (xs:=P0) ↑2 ↑54 ↥(zlk p2 hH))) (Ev.any (m:=true) (zbw ↑29 zaG rfl)) ↥(Lat.zgy.of hC.1 hC.2.1 ⇑1)) zag)) rfl (by show zbH P1 ((ixD P0 hv40)/v41.a);exact ⟨by rw [p3];exact p1,Lat.zjy p4 (Lat.zg7 hC.1 (zsL hH p2)) ↑0 ⇑1⟩) rfl)))) (zab (Ev.weak (K:=K) (EvO.ev (EvO.anyI (m:=true) (zb5 (x:=(P0,((ixD P1 hv40)/v41.a))) (zab ↑2 (zab (zaH (x:=(ixD P1 hv40)) (y:=v41.a) (Ev.any (m:=false) (zbP (f:=dI) (xs:=P1) ↑3 ↑54 ↥(Lat.zlP p2 hH p3))) (Ev.any (m:=true) (zbw ↑29 zaG rfl)) ↥(Lat.zgy.of hC.1 hC.2.1 ⇑1)) zag)) rfl (by show zbH P0 ((ixD P1 hv40)/v41.a);exact ⟨by rw [p2.len];exact p1,Lat.zjy p2.bit (Lat.zg7 hC.1 (zqM hH p2 p5 p6)) ↑0 ⇑1⟩) rfl)))) zag)) rfl (by show zfJ (zas P1 ((ixD P0 hv40)/v41.a)) (zas P0 ((ixD P1 hv40)/v41.a));exact zo5 p1 p2.len p3) rfl))) (λv43 hv43=>(zaj (zaC (zgo (zab (zaa (i:=4) rfl) (zab ↑81 zag)) ↑89)))))))))))
theorem zhQ (s l:Ji):zbv s l=Lat.mrg s l:=by
 unfold zbv Let
 dsimp only
 rw [zc5,Lat.zb0,Lat.zb0,znN];rfl
section
variable {n s a i:Nat} {l row:Ji} {steps:Jq} {st:Lat.TS2} {x:Int×Ji}
theorem zsI (p1:n≤1000) (p2:Lat.Ech n 0 steps) (p3:∀ t∈steps,Lat.Sd n s t) (p4:row.length=n) (p5:Lat.Bit a row) (p6:steps.length≤100) (p7:a+(steps.length+2)*↑50+s≤40000000):Lat.LowP row steps:=by
 refine ⟨n,a,s,p1,p4,by omega,p5,p3,?_⟩
 have e2:steps.length*(s+1)≤(steps.length+1)*(s+9000):=Nat.mul_le_mul ↑0 ↑0
 rw [Nat.add_mul steps.length 2] at p7
 omega
theorem zqb (p1:n≤1000) (I:Lat.TI steps n a s i st) (T:Lat.Sd n s x.2) (h:decide (zai st.2<zai x.2)=true):zdf st.2:=by
 rw [zc5,zc5] at h
 simp only [decide_eq_true_eq] at h
 have:=T.hd;have:=I.len
 exact ↑43
theorem zpJ (p1:n≤1000) (I:Lat.TI steps n a s i st) (h:decide (zai st.2<((st.2.length:Nat):Int))=true):zdf st.2:=by
 rw [zc5] at h
 simp only [decide_eq_true_eq] at h
 have:=I.len
 exact ↑43
theorem zrV (h:decide (zai st.2=zai x.2)=true):Lat.hd st.2=Lat.hd x.2:=by
 rw [zc5,zc5] at h
 simp only [decide_eq_true_eq] at h
 omega
theorem zsy (I:Lat.TI steps n a s i st) (hx:i<steps.length∧x.1=(i:Int)∧steps[i]?=some x.2) (p6:steps.length≤100):st.1.length<PySem.sizeLine:=Nat.lt_of_le_of_lt (show _≤1000 by have:=I.g;omega) ⇑1
theorem zr6 (I:Lat.TI steps n a s (zhL steps).length st) (p6:steps.length≤100):st.1.length<PySem.sizeLine:=Nat.lt_of_le_of_lt (show _≤1000 by have:=I.g;rw [zj3] at this;omega) ⇑1
theorem zq9 {y:Ji} (I:Lat.TI steps n a s i st) (hx:i<steps.length∧x.1=(i:Int)∧steps[i]?=some x.2) (p6:steps.length≤100):st.1.length+[y].length≤PySem.sizeLine:=by
 apply zan
 have:=I.g
 simp;omega
theorem zqA {lo hi:Option Int}:(cutD steps lo hi).length≤steps.length:=by
 unfold cutD;rw [List.length_take,List.length_drop];omega
theorem zq5 {y:Ji} {lo hi:Option Int} (I:Lat.TI steps n a s i st) (hx:i<steps.length∧x.1=(i:Int)∧steps[i]?=some x.2) (p6:steps.length≤100):(st.1++[y]).length+(cutD steps lo hi).length≤PySem.sizeLine:=by
 apply zan
 have:=I.g
 have:=zqA (steps:=steps) (lo:=lo) (hi:=hi)
 simp;omega
end
def m_taken_in (P0:Jq) (P1:Ji):Jq :=
 (Let (m_lowered P1 P0) (λ(v44:Ji)=>(zmn (zcm (λ(s54:Jq×Ji) (x55:(Int×Ji))=>(((bif (decide ((zai s54.2)<(zai x55.2))) then (Sum.inr ((s54.1++[(zbM s54.2)])++(cutD P0 (some x55.1) none))) else (Let (bif ↑228 then (s54.1++[(↑123).1]) else (s54.1++[x55.2])) (λ(v61:Jq)=>(Let ↑235 (λ(v62:Ji)=>(Sum.inl (v61,v62)))))))):(Jq×Ji)⊕Jq)) ([],v44) (zhL P0)) (λ(r63:Jq×Ji)=>(Let (bif (decide ((zai r63.2)<((r63.2.length:Nat):Int))) then (r63.1++[(zbM r63.2)]) else r63.1) (λ(v65:Jq)=>v65))) (λb=>b))))
def ze5 (P0:Jq) (P1:Ji):Prop:=Lat.TinP P0 P1
def zgx (K:W.Frag) (A:Adr):Sp:=Spv (ι:=Jq×Ji) (λx=>[dQ K (List.map lI x.1),dQ K ↑70]) (λx=>ze5 x.1 x.2) (λx=>⇑[dL (List.map lI (m_taken_in x.1 x.2))])
theorem zdj:FnScope ["steps","row","loose","grown","place","step","pair"] ["steps","row"] (zad zeF):=↥4
theorem zkv (F:Fun K "taken_in" "taken_in" zeF f fd) (T:Txt K mg A) (yac:Callee P w K mg base ↑1 1 "head_of" ["row"] (zdr K A)) (yau:Callee P w K mg base ↑1 3 "lowered" ["row","steps"] (zf5 K A)) (ycH:Callee P w K mg base ↑1 3 "merged" ["step","row"] (zhO K A)) (ybu:Callee P w K mg base ↑1 2 "upright" ["row"] (zhi K A)):FnOk P w K mg base ↑1 4 f fd ["steps","row"] (zgx K A):=by
 refine F.okV zdj ↑4 ↥7
 obtain ⟨P0,P1⟩:=x
 have hu:=hr.units
 replace hp:ze5 P0 P1:=hp
 unfold ze5 at hp
 obtain ⟨N0,A0,S0,p1,p2,p3,p4,p5,p6,p7⟩:=hp
 refine ⟨_,(zac (zao (i:=2) zdj.nd rfl ⇑0 (zaO yau ↥1 rfl zaK ↑[pv 1,pv 0])) (zac (zao (i:=3) zdj.nd rfl ⇑0 (zbf zeV)) (zac (zch PassesOwn.never rfl (zjb rfl rfl T.enumerate ↑[pv 0]) (zba (K:=K) (n:=2) rfl rfl (zay (zak (i:=4) zdj.nd rfl ⇑0 ⇑0) (zay (zak (i:=5) zdj.nd rfl ⇑0 ⇑0) zbE))) (zac (zco (zaF zjK (zaO yac ↥1 rfl zaK ↑[pv 2]) (zaO yac ↥1 rfl zaK ↑[pv 5]) (zaM _)) (zac (zaJ (zaw zdE (zaw zdE (pv 3) (zbf ↑[zaO ybu ↥1 rfl zaK ↑[pv 2]])) (zdI ↑82 (pv 0) (zdS (pv 4)) zfC))) zae) zae) (zac (zco (zaF zgq (zaO yac ↥1 rfl zaK ↑[pv 2]) (zaO yac ↥1 rfl zaK ↑[pv 5]) (zaM _)) (zac (zao (i:=6) zdj.nd rfl ⇑0 (zaO ycH ↥1 rfl zaK ↑[pv 5,pv 2])) (zac (zcR (zbO (K:=K) rfl (pv 3) ↑[(za1 ↑49 (pv 6) zah ⇑3)])) (zac (zao (i:=2) zdj.nd rfl ⇑0 (zaO yau ↥1 rfl zaK ↑[(za1 ↑49 (pv 6) zah ⇑3),(zdI ↑82 (pv 0) (zdS (zaw zcD (pv 4) zah)) zfC)])) zae))) (zac (zcR (zbO (K:=K) rfl (pv 3) ↑[pv 5])) zae)) zae))) (zac (zco (zaF zjK (zaO yac ↥1 rfl zaK ↑[pv 2]) (zal ↑42 rfl T.len PySem.boot_len ↑[pv 2]) (zaM _)) (zac (zcR (zbO (K:=K) rfl (pv 3) ↑[zaO ybu ↥1 rfl zaK ↑[pv 2]])) zae) zae) (zac (zaJ (pv 3)) zae))))),.inl ?_⟩
 show L2.Run _ ([⇑[dQ K ⇑8],⇑[dQ K ⇑4],.no,.no,.no,.no,.no]:L2.Ctx) _ (↑161 (m_taken_in P0 P1))
 unfold m_taken_in
 exact (zam (m:=true) (x:=(m_lowered P1 P0)) lI ↑161 (zau (x:=(P1,P0)) (zab ↑3 (zab ↑2 zag)) rfl (by show zdh P1 P0;exact zsI p1 p2 p3 p4 p5 p6 p7) rfl) (λv44 hv44=>have hL:=(hv44).trans (zfq _ _);(zfx (m:=true) (ds:=List.map lI []) ↑119 (zhJ (s0:=([],v44)) ↑237 ↑161 (λb=>b) (λ(s54:Jq×Ji) (x55:(Int×Ji))=>(((bif (decide ((zai s54.2)<(zai x55.2))) then (Sum.inr ((s54.1++[(zbM s54.2)])++(cutD P0 (some x55.1) none))) else (Let (bif ↑228 then (s54.1++[(↑123).1]) else (s54.1++[x55.2])) (λ(v61:Jq)=>(Let ↑235 (λ(v62:Ji)=>(Sum.inl (v61,v62)))))))):(Jq×Ji)⊕Jq)) (λ(i:Nat) (s54:Jq×Ji)=>Lat.TI P0 N0 A0 S0 i s54) (λb=> .inl ⟨_,_,rfl⟩) (zjs (m:=false) lI (xs:=P0) ↑2) (.eq (.eq (.eq (.oldL ↑114)))) (by rw [hL];exact Lat.TI.start p2 p3 p4 p5) (λi56 x55 s54 hx57 hI58=>have v57:=zfo hx57;⟨(by intro z hz;simp only [zc5,ziG,zhQ,zfq] at hz;exact Lat.TI.step ↥0 p2 p3 ↥0 hz),(zaS (b:=(decide ((zai s54.2)<(zai x55.2)))) (ziW ↑237 ↑161) (zav (zaQ (x:=(zai s54.2)) (y:=(zai x55.2)) (Ev.any (m:=true) (zau (x:=s54.2) (zab ↑84 zag) rfl (by show zbp s54.2;exact trivial) rfl)) (Ev.any (m:=true) (zau (x:=x55.2) (zab ↑112 zag) rfl (by show zbp x55.2;exact trivial) rfl)))) (λh59=>(zax (zda (i:=3) rfl (zaj (zaC (EvO.ev (zcs (f:=lI) (xs:=(s54.1++[(zbM s54.2)])) (ys:=(cutD P0 (some x55.1) none)) (EvO.ev (zcs (f:=lI) (xs:=s54.1) (ys:=[(zbM s54.2)]) ↑29 (EvO.ev (zbV (zab (zau (x:=s54.2) (zab (Ev.old ↑19) zag) rfl (by show zdf s54.2;first | exact zqb p1 ↥0 (p3 _ (Lat.TI.mem ↥0).1) ↥0 | exact zpJ p1 ↥0 ↥0) rfl) zag) ↑135)) ↥(zq9 ↥0 ↥0 p6))) (EvO.ev (zeN (f:=lI) (xs:=P0) ↑2 (zc1 ↑62) zex)) ↥(zq5 ↥0 ↥0 p6)))))))) (λh59=>(zar (zed (b:=↑228) (λbb=>([⇑[dQ K ⇑8],⇑[dQ K ⇑4],↥[dL (List.map dI (bif bb then (m_lowered ((↑123).2) (cutD P0 (some (x55.1+(1:Int))) none)) else s54.2))],.ow false (List.map lI (bif bb then (s54.1++[(↑123).1]) else (s54.1++[x55.2]))),⇑[dI x55.1],⇑[dL (List.map dI x55.2)],.no]:L2.Ctx)) (zav (zeZ (x:=(zai s54.2)) (y:=(zai x55.2)) (Ev.any (m:=true) (zau (x:=s54.2) (zab ↑84 zag) rfl (by show zbp s54.2;exact trivial) rfl)) (Ev.any (m:=true) (zau (x:=x55.2) (zab ↑112 zag) rfl (by show zbp x55.2;exact trivial) rfl)))) (λh60=>(zcg (m:=true) (zau (x:=(x55.2,s54.2)) (zab ↑112 (zab ↑84 zag)) rfl (by show zgh x55.2 s54.2;exact Lat.TI.mrg ↥0 p1 p3 ↥0 (zrV ↥0) p7) rfl) (zcU (f:=lI) (xs:=s54.1) (x:=(↑123).1) rfl (Ev.old (zbw ↑72 zaG rfl)) ↥(zsy ↥0 ↥0 p6) (zcg (m:=true) (zau (x:=((↑123).2,(cutD P0 (some (x55.1+(1:Int))) none))) (zab (Ev.old (Ev.weak (K:=K) (zbw ↑72 zaG rfl))) (zab (Ev.weak (K:=K) (EvO.ev (zeN (f:=lI) (xs:=P0) ↑2 (zc1 (zaQ (x:=x55.1) (y:=(1:Int)) ↑62 zaG)) zex))) zag)) rfl (by show zdh ((↑123).2) (cutD P0 (some (x55.1+(1:Int))) none);unfold zdh;rw [zhQ];exact Lat.TI.low ↥0 p1 p6 p3 ↥0 (zrV ↥0) p7) rfl) (zap (.eq (.eq (.eq (.eq ↑171))))))))) (λh60=>(zcU (f:=lI) (xs:=s54.1) (x:=x55.2) rfl ↑81 ↥(zsy ↥0 ↥0 p6) (zap ↑28))) (zep (x:=(bif ↑228 then (s54.1++[(↑123).1]) else (s54.1++[x55.2]))) (λv61=>([⇑[dQ K ⇑8],⇑[dQ K ⇑4],↥[dL (List.map dI ↑235)],.ow false (List.map lI v61),⇑[dI x55.1],⇑[dL (List.map dI x55.2)],.no]:L2.Ctx)) (ziW ↑237 ↑161) (λv61 hv61=>(zep (x:=↑235) (λv62=>([⇑[dQ K ⇑8],⇑[dQ K ⇑4],↥[dL (List.map dI v62)],.ow false (List.map lI v61),⇑[dI x55.1],⇑[dL (List.map dI x55.2)],.no]:L2.Ctx)) (ziW ↑237 ↑161) (λv62 hv62=>(zap (.eq (.eq (.eq (.eq (.no (.no (.eq .nil))))))))))))))))⟩) (λr63 hr63 hI=>(zed (b:=(decide ((zai r63.2)<((r63.2.length:Nat):Int)))) (λbb=>([⇑[dQ K ⇑8],⇑[dQ K ⇑4],↥[dL (List.map dI r63.2)],.ow false (List.map lI (bif bb then (r63.1++[(zbM r63.2)]) else r63.1)),.no,.no,.no]:L2.Ctx)) (zav (zaQ (x:=(zai r63.2)) (y:=((r63.2.length:Nat):Int)) (Ev.any (m:=true) (zau (x:=r63.2) (zab ↑84 zag) rfl (by show zbp r63.2;exact trivial) rfl)) (zaZ (f:=dI) (xs:=r63.2) ↑84))) (λh64=>(zcU (f:=lI) (xs:=r63.1) (x:=(zbM r63.2)) rfl (zau (x:=r63.2) (zab (Ev.old ↑19) zag) rfl (by show zdf r63.2;first | exact zqb p1 ↥0 (p3 _ (Lat.TI.mem ↥0).1) ↥0 | exact zpJ p1 ↥0 ↥0) rfl) ↥(zr6 ↥0 p6) (zap ↑28))) (λh64=>(zap ↑28)) (zep (x:=(bif (decide ((zai r63.2)<((r63.2.length:Nat):Int))) then (r63.1++[(zbM r63.2)]) else r63.1)) (λv65=>([⇑[dQ K ⇑8],⇑[dQ K ⇑4],↥[dL (List.map dI r63.2)],.ow false (List.map lI v65),.no,.no,.no]:L2.Ctx)) ↑161 (λv65 hv65=>(zda (i:=3) rfl (zaj (zaC ↑29)))))))))))
theorem zjo (ss:Jq) (l:Ji):m_taken_in ss l=Lat.tin Lat.MG ss (Lat.low l ss):=by
 unfold m_taken_in
 simp only [zc5,ziG,zhQ,zfq]
 exact Lat.zvi ss _
theorem zqq (x:Ji) (fl:Jq):Let ([(m_lowered x fl)]++fl) (λ(y:Jq)=>y)=[Lat.low x fl]++fl:=by unfold Let;rw [zfq]
theorem zsK {steps fl:Jq} {i:Nat} {x y:Ji} (h:Lat.zsH steps) (hx:steps.reverse[i]?=some x) (e:fl=Lat.stl (steps.drop (steps.length-i))):[y].length+fl.length≤PySem.sizeLine:=by
 obtain ⟨j,h1,_⟩:=Lat.zkw hx
 have:=Lat.zsT h ↑0 e
 apply zan
 simp;omega
def zcP (P0:Jq):Jq :=
 (Let (List.foldl (λ(s66:Jq) (x67:Ji)=>(Let ([(m_lowered x67 s66)]++s66) (λ(v71:Jq)=>v71))) [] (List.reverse P0)) (λ(r72:Jq)=>r72))
def zeU (P0:Jq):Prop:=Lat.zsH P0
def zg4 (K:W.Frag) (A:Adr):Sp:=Spv (ι:=Jq) (λx=>[dQ K (List.map lI x)]) (λx=>zeU x) (λx=>↥[dL (List.map lI (zcP x))])
theorem zf6:FnScope ["steps","flat","step"] ["steps"] (zad zfv):=↥4
theorem zme (F:Fun K "settled" "settled" zfv f fd) (T:Txt K mg A) (yau:Callee P w K mg base ↑1 3 "lowered" ["row","steps"] (zf5 K A)):FnOk P w K mg base ↑1 4 f fd ["steps"] (zg4 K A):=by
 refine F.okV zf6 ↑4 ↑63
 have hu:=hr.units
 replace hp:zeU P0:=hp
 unfold zeU at hp
 refine ⟨_,(zac (zao (i:=1) zf6.nd rfl ⇑0 (zbf zeV)) (zac (zch PassesOwn.never rfl (zqa rfl rfl T.reversed ↑[pv 0]) (zak (i:=2) zf6.nd rfl ⇑0 ⇑0) (zac (zao (i:=1) zf6.nd rfl ⇑0 (zaw zdE (zbf ↑[zaO yau ↥1 rfl zaK ↑[pv 2,pv 1]]) (pv 1))) zae)) (zac (zaJ (pv 1)) zae))),.inl ?_⟩
 show L2.Run _ ([⇑[dQ K ⇑8],.no,.no]:L2.Ctx) _ (↑129 (zcP P0))
 unfold zcP
 exact (zcg (m:=true) (EvO.ev ↑119) (zbh (s0:=[]) (λ(s66:Jq)=>([⇑[dQ K ⇑8],↥[dL (List.map lI s66)],.no]:L2.Ctx)) ↑129 (λ(s66:Jq) (x67:Ji)=>(Let ([(m_lowered x67 s66)]++s66) (λ(v71:Jq)=>v71))) (λ(i:Nat) (s66:Jq)=>s66=Lat.stl (P0.drop (P0.length-i))) (zpE (m:=false) lI (xs:=P0) ↑2) ↑114 (by simp [Lat.stl]) (λi68 x67 s66 hx69 hI70=>have v69:=List.mem_of_getElem? hx69;⟨↥(Lat.zqJ ↥0 ↥0 (zqq _ _)),(zam (m:=true) (x:=([(m_lowered x67 s66)]++s66)) ↑167 (λz=>Oc.nx ((λ(s66:Jq)=>([⇑[dQ K ⇑8],↥[dL (List.map lI s66)],.no]:L2.Ctx)) z)) (EvO.ev (zcs (f:=lI) (xs:=[(m_lowered x67 s66)]) (ys:=s66) (EvO.ev (zbV (zab (zau (x:=(x67,s66)) (zab ↑58 (zab (Ev.old (Ev.weak (K:=K) ↑3)) zag)) rfl (by show zdh x67 s66;exact Lat.zrs hp ↥0 ↥0) rfl) zag) ↑135)) ↑3 ↥(zsK hp ↥0 ↥0))) (λv71 hv71=>(zap ↑171)))⟩) (λr72 hr72 hI=>(zaj (zaC ↑3)))))
theorem ziN (ss:Jq):zcP ss=Lat.stl ss:=by
 unfold zcP
 simp only [zfq]
 exact Lat.zvc ss
theorem zqL {rows ss:Jq} {r:Ji} {i:Nat} (hr:rows[i]?=some r) (e:ss=Lat.clm Lat.MG (rows.take i)):Let (zcP (m_taken_in ss r)) (λ(y:Jq)=>y)=Lat.clm Lat.MG (rows.take (i+1)):=by
 unfold Let
 rw [ziN,zjo,Lat.zjm hr,e]
def za2 (P0:Jq):Jq :=
 (Let (List.foldl (λ(s73:Jq) (x74:Ji)=>(Let (zcP (m_taken_in s73 x74)) (λ(v78:Jq)=>v78))) [] P0) (λ(r79:Jq)=>r79))
def zfz (P0:Jq):Prop:=Lat.zu4 P0
def zhp (K:W.Frag) (A:Adr):Sp:=Spv (ι:=Jq) (λx=>[dQ K (List.map lI x)]) (λx=>zfz x) (λx=>↥[dL (List.map lI (za2 x))])
theorem zf8:FnScope ["rows","steps","row"] ["rows"] (zad zfn):=↥4
theorem zlV (F:Fun K "climbed" "climbed" zfn f fd) (T:Txt K mg A) (ycg:Callee P w K mg base ↑1 4 "settled" ["steps"] (zg4 K A)) (ybU:Callee P w K mg base ↑1 4 "taken_in" ["steps","row"] (zgx K A)):FnOk P w K mg base ↑1 5 f fd ["rows"] (zhp K A):=by
 refine F.okV zf8 ↑4 ↑63
 have hu:=hr.units
 replace hp:zfz P0:=hp
 unfold zfz at hp
 obtain ⟨N0,B0,R0,p1,p2,p3⟩:=hp
 refine ⟨_,(zac (zao (i:=1) zf8.nd rfl ⇑0 (zbf zeV)) (zac (zch PassesOwn.never rfl (za3 (K:=K) rfl (pv 0)) (zak (i:=2) zf8.nd rfl ⇑0 ⇑0) (zac (zao (i:=1) zf8.nd rfl ⇑0 (zaO ycg ↥1 rfl zaK ↑[zaO ybU ↥1 rfl zaK ↑[pv 1,pv 2]])) zae)) (zac (zaJ (pv 1)) zae))),.inl ?_⟩
 show L2.Run _ ([⇑[dQ K ⇑8],.no,.no]:L2.Ctx) _ (↑129 (za2 P0))
 unfold za2
 exact (zcg (m:=true) (EvO.ev ↑119) (zbh (s0:=[]) (λ(s73:Jq)=>([⇑[dQ K ⇑8],↥[dL (List.map lI s73)],.no]:L2.Ctx)) ↑129 (λ(s73:Jq) (x74:Ji)=>(Let (zcP (m_taken_in s73 x74)) (λ(v78:Jq)=>v78))) (λ(i:Nat) (s73:Jq)=>s73=Lat.clm Lat.MG (P0.take i)) (zbY (m:=false) lI (xs:=P0) ↑2) ↑114 (by rfl) (λi75 x74 s73 hx76 hI77=>have v76:=List.mem_of_getElem? hx76;⟨↥(zqL ↥0 ↥0),(zam (m:=true) (x:=(zcP (m_taken_in s73 x74))) ↑167 (λz=>Oc.nx ((λ(s73:Jq)=>([⇑[dQ K ⇑8],↥[dL (List.map lI s73)],.no]:L2.Ctx)) z)) (zau (x:=(m_taken_in s73 x74)) (zab (Ev.weak (K:=K) (zau (x:=(s73,x74)) (zab (Ev.old (Ev.weak (K:=K) ↑3)) (zab ↑58 zag)) rfl (by show ze5 s73 x74;exact (Lat.znM p1 p2 p3 ↥0 ↥0).2.1) rfl)) zag) rfl (by show zeU (m_taken_in s73 x74);unfold zeU;rw [zjo];exact (Lat.znM p1 p2 p3 ↥0 ↥0).2.2) rfl) (λv78 hv78=>(zap ↑171)))⟩) (λr79 hr79 hI=>(zaj (zaC ↑3)))))
theorem ziB (rows:Jq):za2 rows=Lat.clm Lat.MG rows:=by
 unfold za2 Lat.clm
 simp only [ziN,zjo]
 rfl
theorem zpM {s:Jq} {i:Nat} {y:Ji} (h:s.length≤i):(s++[y]).length≤i+1:=by simp;omega
theorem zo2 {l:Ji} {n:Nat}:cutD l none (some (n:Int))=l.take n:=by
 unfold cutD
 rw [HT.sIx_nat,HT.sIx_none]
 show (l.drop 0).take (min n l.length-0)=_
 rw [List.drop_zero,Nat.sub_zero]
 by_cases h:n≤l.length
 ·rw [Nat.min_eq_left h]
 ·rw [Nat.min_eq_right ↑0,List.take_of_length_le ↑0,List.take_of_length_le ↑0]
def zlv (P0:Int) (P1:Jq):BookD:=⟨P0,(List.map (λ(x80:Ji)=>x80) P1)⟩
def zck (P0:Int) (P1:Jq):Prop:=P1.length≤1000
def zfL (K:W.Frag) (A:Adr):Sp:=zp9 (ι:=Int×Jq) A.Book (λx=>[dI x.1,dQ K (List.map lI x.2)]) (λx=>zck x.1 x.2) true (λx=>[("many",dI ((zlv x.1 x.2).many)),("swaps",dL (List.map lI ((zlv x.1 x.2).swaps)))])
theorem zhA:FnScope ["self","many","swaps"] ["self","many","swaps"] (zad zbI):=↥4
theorem zhy (F:Fun K "__init__" "Book.__init__" zbI f fd) (T:Txt K mg A) :FnOk P w K mg base ↑1 1 f fd ["self","many","swaps"] (zfL K A):=by
 refine F.okI zhA ↑4 ↥7
 obtain ⟨P0,P1⟩:=x
 have hu:=hr.units
 replace hp:zck P0 P1:=hp
 unfold zck at hp
 refine ⟨_,(zac (zhs (pv 0) (pv 1) rfl) (zac (zhs (pv 0) (zbZ rfl (.of (osc:=(zad zbI)) (N:=["self","many","swaps"]) (own:=["swap"]) (fvn:=[]) (fv:=[]) rfl rfl ↑5) (za3 (K:=K) rfl (pv 2)) (λ_ _ _ _ _=>⟨(zak (i:=0) (show (["swap"]:List Str).Nodup by decide+kernel) rfl ⇑0 ↥3),za5,↑154⟩)) rfl) zae)),λp dx=>⟨([.ob true A.Book p dx [("many",dI P0),("swaps",dL (List.map lI (List.map (λ(x80:Ji)=>x80) P1)))],⇑[dI P0],⇑[dQ K ↑71]]:L2.Ctx),?_,rfl⟩⟩
 show L2.Run _ ([.ob true A.Book p dx [],⇑[dI P0],⇑[dQ K ↑71]]:L2.Ctx) _ _
 exact (ze1 (i:=0) rfl ⇑6 T.Book_cl T.Book_many [] rfl ↑5 ⇑1 (ze1 (i:=0) rfl (EvO.ev (EvO.conv (zbW (g:=(λ(x80:Ji)=>dL (List.map dI x80))) (zbY (m:=false) lI (xs:=P1) ↑19) ↥(zan ↑0) ⇑5 (λi81 x80 hx82=>have v82:=List.mem_of_getElem? hx82;↑249)) ↑10)) T.Book_cl T.Book_swaps ["many"] rfl ↑5 ⇑1 ↑122))
def zbK (P0:Int) (P1:Jq):BookD :=
 (Let (List.foldl (λ(s85:Unit) (x86:(Int×Ji))=>()) () (zhL P1)) (λ(r91:Unit)=>(zlv P0 P1)))
def zdi (P0:Int) (P1:Jq):Prop:=1≤P0∧P0≤8∧P1.length≤12∧∀ s∈P1,(s.length:Int)=P0
def zhb (K:W.Frag) (A:Adr):Sp:=Spv (ι:=Int×Jq) (λx=>[dI x.1,dQ K (List.map lI x.2)]) (λx=>zdi x.1 x.2) (λx=>↥[zct A.Book (zbK x.1 x.2)])
theorem zg6:FnScope ["many","swaps","place","swap"] ["many","swaps"] (zad zfr):=↥4
theorem zl7 (F:Fun K "book_of" "book_of" zfr f fd) (T:Txt K mg A)  {yei:Addr} {ydX:FuncData} (ydA:Mk K A.Book yei) (yaE:FnOk P w K mg base ↑1 1 yei ydX ["self","many","swaps"] (zfL K A)) (yaF:zgl K ydX ["self","many","swaps"] []):FnOk P w K mg base ↑1 3 f fd ["many","swaps"] (zhb K A):=by
 refine F.okV zg6 ↑4 ↥7
 obtain ⟨P0,P1⟩:=x
 have hu:=hr.units
 replace hp:zdi P0 P1:=hp
 unfold zdi at hp
 obtain ⟨ybd,ydB⟩:=T.g_MOST_SWAPS
 obtain ⟨ybe,ydC⟩:=T.g_MOST_WARES
 refine ⟨_,(zac (zco (PW.pt (zkV (zaF zjK (pv 0) zah (zaM _)) (zhV (zaF zkj (pv 0) (zb1 (v:=.int 8) rfl ydC ⟨_,rfl⟩) (zaM _))))) (zac zeC zae) zae) (zac (zco (zaF zkj ↑181 (zb1 (v:=.int 12) rfl ydB ⟨_,rfl⟩) (zaM _)) (zac zeC zae) zae) (zac (zch PassesOwn.never rfl (zjb rfl rfl T.enumerate ↑[pv 1]) (zba (K:=K) (n:=2) rfl rfl (zay (zak (i:=2) zg6.nd rfl ⇑0 ⇑0) (zay (zak (i:=3) zg6.nd rfl ⇑0 ⇑0) zbE))) (zac (zco (zaF zfD ↑182 (pv 0) (zaM _)) (zac zeC zae) zae) zae)) (zac (zaJ (zi0 ydA yaE ↥1 rfl T.Book yaF .nil zaK ↑[pv 0,pv 1])) zae)))),.inl ?_⟩
 show L2.Run _ ([⇑[dI P0],⇑[dQ K ↑71],.no,.no]:L2.Ctx) _ ((λ(r:BookD)=>Oc.rt true (zct A.Book r)) (zbK P0 P1))
 unfold zbK
 exact (zca (EvT.conv (zhS (b:=(decide (P0<(1:Int)))) (zav (zaQ (x:=P0) (y:=(1:Int)) ↑9 zaG)) (λhb=>(zav (zaQ (x:=P0) (y:=8) ↑9 zaG)))) (by simp only [Bool.or_eq_false_iff,decide_eq_false_iff_not];omega)) (zar (zca (EvT.conv (zav (zaQ (x:=↑118) (y:=12) (zaZ (f:=lI) (xs:=P1) ↑3) zaG)) ↑261) (zar (zbh (s0:=()) (λ(s85:Unit)=>([⇑[dI P0],⇑[dQ K ↑71],.no,.no]:L2.Ctx)) (λ(r:BookD)=>Oc.rt true (zct A.Book r)) (λ(s85:Unit) (x86:(Int×Ji))=>()) (λ_ _=>True) (zjs (m:=false) lI (xs:=P1) ↑3) (.eq ↑114) trivial (λi87 x86 s85 hx88 hI89=>have v88:=zfo hx88;⟨trivial,(zca (EvT.conv (zav (zdH (x:=((x86.2.length:Nat):Int)) (y:=P0) (zaZ (f:=dI) (xs:=x86.2) ↑18) ↑9)) (by have:=hp.2.2.2 _ (zps ↥0);simp only [Bool.not_eq_false',decide_eq_true_eq];exact this)) (zar (zap (.eq (.eq ↑46)))))⟩) (λr91 hr91 hI=>(zaj (zaC (zk0 (i:=(P0,P1)) (zab ↑9 (zab ↑3 zag)) rfl (by show zck P0 P1;unfold zck;omega))))))))))
theorem zkm {w:Int} {sw:Jq}:zbK w sw=⟨w,sw⟩:=by
 unfold zbK zlv Let
 simp
theorem zb6 (sw:Jq):List.map ↑37 sw=sw:=by simp
theorem zoz {a b:Int} (h:a=b):(!decide (a=b))=false:=by rw [decide_eq_true h];rfl
def zdg (P0:BookD) (P1:Ji):Unit:=()
def zcb (P0:BookD) (P1:Ji):Prop:=(P1.length:Int)=P0.many
def zc8 (K:W.Frag) (A:Adr):Sp:=Spv (ι:=BookD×Ji) (λx=>[zct A.Book x.1,dQ K ↑70]) (λx=>zcb x.1 x.2) (λx=>↥[dN])
theorem zes:FnScope ["book","basket"] ["book","basket"] (zad za6):=↥4
theorem zgj (F:Fun K "refuse_bad_basket" "refuse_bad_basket" za6 f fd) (T:Txt K mg A) :FnOk P w K mg base ↑1 1 f fd ["book","basket"] (zc8 K A):=by
 refine F.okV zes ↑4 ↥7
 obtain ⟨P0,P1⟩:=x
 have hu:=hr.units
 replace hp:zcb P0 P1:=hp
 unfold zcb at hp
 refine ⟨_,(zac (zco (zaF zfD ↑181 ↑51 (zaM _)) (zac zeC zae) zae) zae),.inr ⟨_,↑183,rfl,?_⟩⟩
 show L2.Run _ ↑183 _ _
 exact (zca (EvT.conv (zav (zdH (x:=↑118) (y:=P0.many) (zaZ (f:=dI) (xs:=P1) ↑3) ↑156)) ↑261) (zar ↑122))
def zbR (P0:BookD) (P1:Ji):Except Xn Unit :=
 (bif (!decide (↑118=P0.many)) then (Except.error Xn.BadBasket) else (Except.ok ()))
def zbT (P0:BookD) (P1:Ji):Prop:=True
def zcL (K:W.Frag) (A:Adr):Sp:=Spv (ι:=BookD×Ji) (λx=>[zct A.Book x.1,dQ K ↑70]) (λx=>zbT x.1 x.2) (λx=>zq1 A.xc true (λ_=>dN) (zbR x.1 x.2))
theorem zfY (F:Fun K "refuse_bad_basket" "refuse_bad_basket" za6 f fd) (T:Txt K mg A) :FnOk P w K mg base ↑1 1 f fd ["book","basket"] (zcL K A):=by
 refine F.okVXN zes ↑4 (λcdv Ar outer s H E x hr hp O=> ?_)
 obtain ⟨P0,P1⟩:=x
 have hu:=hr.units
 replace hp:zbT P0 P1:=hp
 unfold zbT at hp
 refine ⟨_,↑183,(zeR (zt9 (zaF zfD ↑181 ↑51 (zaM _)) (zeR (zoB O rfl rfl T.xm_BadBasket T.xi_BadBasket PySem.F.excBase_ValueError ↑[zc9]) ziL) ziL) ziL),?_⟩
 show L2.Run _ ↑183 _ ((foX A.xc ([.no,.no]:L2.Ctx) (λ(_:Unit)=>Oc.nx ↑183)) (zbR P0 P1))
 unfold zbR
 exact (zaS (b:=(!decide (↑118=P0.many))) (foX A.xc ([.no,.no]:L2.Ctx) (λ(_:Unit)=>Oc.nx ↑183)) (zav (zdH (x:=↑118) (y:=P0.many) (zaZ (f:=dI) (xs:=P1) ↑3) ↑156)) (λh93=>(zax (zmE (m:=false) ↑27 ↑135 ↑46))) (λh93=>(zar ↑122)))
def znL (P0:Ji):LineD:=⟨P0⟩
def zbD (P0:Ji):Prop:=True
def zdL (K:W.Frag) (A:Adr):Sp:=zp9 (ι:=Ji) A.Line ↑168 (λx=>zbD x) true (λx=>[("weights",dL (List.map dI ((znL x).weights)))])
theorem zfR:FnScope ["self","weights"] ["self","weights"] (zad zeg):=↥4
theorem zfO (F:Fun K "__init__" "Scale.__init__" zeg f fd) (T:Txt K mg A) :FnOk P w K mg base ↑1 1 f fd ["self","weights"] (zdL K A):=by
 refine F.okI zfR ↑4 ↑63
 have hu:=hr.units
 replace hp:zbD P0:=hp
 unfold zbD at hp
 refine ⟨_,(zac (zhs (pv 0) (zcB (zcc (K:=K) rfl) rfl T.list PyProof.Rows.boot_list ↑[pv 1]) rfl) zae),λp dx=>⟨([.ob true A.Line p dx [("weights",dL ↑8)],⇑[dQ K ↑8]]:L2.Ctx),?_,rfl⟩⟩
 show L2.Run _ ([.ob true A.Line p dx [],⇑[dQ K ↑8]]:L2.Ctx) _ _
 exact (ze1 (i:=0) rfl (EvO.ev (EvO.anyI (m:=false) (zfg ↑3))) T.Line_cl T.Line_weights [] rfl ↑5 ⇑1 ↑122)
def zbB (P0:Ji):Ji:=P0
def zbC (P0:Ji):Prop:=True
def zdM (K:W.Frag) (A:Adr):Sp:=zp9 (ι:=Ji) A.Rest ↑168 (λx=>zbC x) true (λx=>[("weights",dL (List.map dI (zbB x)))])
theorem zfQ:FnScope ["self","weights"] ["self","weights"] (zad zeo):=↥4
theorem zfP (F:Fun K "__init__" "Scale.__init__" zeo f fd) (T:Txt K mg A) :FnOk P w K mg base ↑1 1 f fd ["self","weights"] (zdM K A):=by
 refine F.okI zfQ ↑4 ↑63
 have hu:=hr.units
 replace hp:zbC P0:=hp
 unfold zbC at hp
 refine ⟨_,(zac (zhs (pv 0) (zcB (zcc (K:=K) rfl) rfl T.list PyProof.Rows.boot_list ↑[pv 1]) rfl) zae),λp dx=>⟨([.ob true A.Rest p dx [("weights",dL ↑8)],⇑[dQ K ↑8]]:L2.Ctx),?_,rfl⟩⟩
 show L2.Run _ ([.ob true A.Rest p dx [],⇑[dQ K ↑8]]:L2.Ctx) _ _
 exact (ze1 (i:=0) rfl (EvO.ev (EvO.anyI (m:=false) (zfg ↑3))) T.Rest_cl T.Rest_weights [] rfl ↑5 ⇑1 ↑122)
theorem ztX {r:Int} {ws:Ji} (h:2≤r∧ws.length≤1000):decide (r<(2:Int))=false:=decide_eq_false ↑0
def zjE (P0:Int) (P1:Ji):RestD:=⟨(zbB (List.map (λ(x95:Int)=>(x95%P0)) P1)),P0⟩
def zc0 (P0:Int) (P1:Ji):Prop:=2≤P0∧P1.length≤1000
def zfN (K:W.Frag) (A:Adr):Sp:=zp9 (ι:=Int×Ji) A.Rest (λx=>[dI x.1,dQ K ↑70]) (λx=>zc0 x.1 x.2) true (λx=>[("weights",dL (List.map dI ((zjE x.1 x.2).weights))),("rest",dI ((zjE x.1 x.2).rest))])
theorem zhw:FnScope ["self","rest","weights"] ["self","rest","weights"] (zad zbJ):=↥4
theorem zhx (F:Fun K "__init__" "Rest.__init__" zbJ f fd) (T:Txt K mg A) {yaC:Addr} {yay:FuncData} (yai:ByCls K A.Scale yaC "__init__") (yaj:FnOk P w K mg base ↑1 1 yaC yay ["self","weights"] (zdM K A)) (ybS:zgl K yay ["self","weights"] []):FnOk P w K mg base ↑1 2 f fd ["self","rest","weights"] (zfN K A):=by
 refine F.okI zhw ↑4 ↥7
 obtain ⟨P0,P1⟩:=x
 have hu:=hr.units
 replace hp:zc0 P0 P1:=hp
 unfold zc0 at hp
 refine ⟨_,(zac (zco (zaF zjK (pv 1) zah (zaM _)) (zac zeC zae) zae) (zac (zcR (zpe (zb1 (v:=.ref A.Scale) rfl T.Scale rfl) yai yaj ↥1 ybS zaK ↑[pv 0,(zbZ rfl (.of (osc:=(zad zbJ)) (N:=["self","rest","weights"]) (own:=["weight"]) (fvn:=["rest"]) (fv:=[1]) rfl rfl ↑5) (za3 (K:=K) rfl (pv 2)) (λ_ _ _ _ _=>⟨(zak (i:=0) (show (["weight","rest"]:List Str).Nodup by decide +kernel) rfl ⇑0 ↥3),za5,(zaw zcI (pv 0) (pv 1))⟩))])) (zac (zhs (pv 0) (pv 1) rfl) zae))),λp dx=>⟨([.ob true A.Rest p dx [("weights",dL (List.map dI (zbB (List.map (λ(x95:Int)=>(x95%P0)) P1)))),("rest",dI P0)],⇑[dI P0],⇑[dQ K ⇑4]]:L2.Ctx),?_,rfl⟩⟩
 show L2.Run _ ([.ob true A.Rest p dx [],⇑[dI P0],⇑[dQ K ⇑4]]:L2.Ctx) _ _
 exact (zca (EvT.conv (zav (zaQ (x:=P0) (y:=(2:Int)) ⇑6 zaG)) ↥(ztX hp)) (zar (zl5 (m2:=false) (i:=0) (x:=(List.map (λ(x95:Int)=>(x95%P0)) P1)) rfl (zab (Ev.weak (K:=K) (EvO.ev (EvO.conv (zbW (g:=(λ(x95:Int)=>dI (x95%P0))) (zbY (m:=false) dI (xs:=P1) ↑19) ↥(zan (by have z:=hp.2;omega)) ⇑5 (λi96 x95 hx97=>have v97:=List.mem_of_getElem? hx97;(zaH (x:=x95) (y:=P0) ↑9 ⇑6 (by show (0:Int)<_;have z:=hp.1;omega)))) ↑10))) zag) rfl (by show zbC (List.map (λ(x95:Int)=>(x95%P0)) P1);exact trivial) (ze1 (i:=0) rfl ⇑6 T.Rest_cl T.Rest_rest ["weights"] rfl ↑5 ⇑1 ↑122))))
def LvP (ss:Jq) (l:Int):Prop:=∃ n s:Nat,l=(n:Int)+1∧n≤900∧ss.length≤100∧(∀ t∈ss,Lat.Sd (n+1) s t)∧1+(ss.length+1)*(s+9000)≤50000000
theorem zvq {n:Nat} {l:Int} {ss:Jq} {w:Ji} (p1:l=(n:Int)+1) (e:w=zd8 (l-(1:Int)) [(0:Int)]++[(1:Int)]):Lat.lvI (n+1) ss 0 w:=by
 have:w=Lat.lv (n+1) []:=by rw [e,p1];rfl
 rw [this];exact Lat.zus
theorem znI (s x:Ji):Let (zai x) ↑233=Lat.lv1 s x:=by
 unfold Let
 dsimp only
 rw [zc5,Lat.zb0,zma]
 rfl
theorem zvs {n i:Nat} {ss:Jq} {s x:Ji} (hx:ss.reverse[i]?=some x) (I:Lat.lvI n ss i s):Lat.lvI n ss (i+1) (Let (zai x) ↑233):=by
 rw [znI];exact Lat.zt2 hx I
theorem zul {n:Nat} {l:Int} (p1:l=(n:Int)+1) (p2:n≤900):([(0:Int)]).length*(l-(1:Int)).toNat≤PySem.sizeLine:=zan ↑189
theorem zup {n:Nat} {l:Int} (p1:l=(n:Int)+1) (p2:n≤900):(zd8 (l-(1:Int)) [(0:Int)]).length+[(1:Int)].length≤PySem.sizeLine:=zan (by rw [p1,show (n:Int)+1-1=(n:Int) by omega,Lat.zer,List.length_singleton];omega)
theorem zk3 {n s i:Nat} {ss:Jq} {w x:Ji} (p2:n≤900) (p4:∀ t∈ss,Lat.Sd (n+1) s t) (I:Lat.lvI (n+1) ss i w):w.length=n+1∧Lat.Bit (1+ss.length*(s+9000)) w:=by
 unfold Lat.lvI at I
 obtain ⟨h1,h2⟩:=Lat.zmK (ss:=ss.drop (ss.length-i)) (λt ht=>p4 t (List.mem_of_mem_drop ht)) p2
 rw [← I] at h1 h2
 refine ⟨h1,h2.mono ?_⟩
 have:=Nat.mul_le_mul_right (s+9000) (show (ss.drop (ss.length-i)).length≤ss.length by rw [List.length_drop];omega)
 omega
theorem zoA {ss:Jq} {x:Ji} {i:Nat} (hx:ss.reverse[i]?=some x):x∈ss:=List.mem_reverse.mp (List.mem_of_getElem? hx)
theorem ztO {n s i:Nat} {ss:Jq} {w x:Ji} (p2:n≤900) (p3:ss.length≤100) (p4:∀ t∈ss,Lat.Sd (n+1) s t) (p5:1+(ss.length+1)*(s+9000)≤50000000) (hx:ss.reverse[i]?=some x) (I:Lat.lvI (n+1) ss i w):zeT w x:=by
 obtain ⟨h1,h2⟩:=zk3 (x:=x) p2 p4 I
 have T:=p4 x (zoA hx)
 rw [Nat.succ_mul] at p5
 refine ⟨by rw [h1,T.len],by omega,λp hp=>?_⟩
 have hm:=List.of_mem_zip (a:=p.1) (b:=p.2) hp
 exact Lat.zdK.of (h2 _ hm.1) (T.bit _ hm.2) ↑0 ↑0
theorem zt7 {n s i:Nat} {ss:Jq} {w x:Ji} {h:Int} (p2:n≤900) (p3:ss.length≤100) (p4:∀ t∈ss,Lat.Sd (n+1) s t) (p5:1+(ss.length+1)*(s+9000)≤50000000) (hx:ss.reverse[i]?=some x) (I:Lat.lvI (n+1) ss i w) (hH:h=(Lat.hd x:Int)):zbH w (ixD x h):=by
 obtain ⟨h1,h2⟩:=zk3 (x:=x) p2 p4 I
 have T:=p4 x (zoA hx)
 rw [Nat.succ_mul] at p5
 subst hH
 rw [Lat.zb0]
 exact ⟨by omega,λy hy=>Lat.zdK.of (h2 _ hy) T.top ↑0 ⇑1⟩
theorem zur {n s i:Nat} {ss:Jq} {w x:Ji} {h c:Int} (p2:n≤900) (p4:∀ t∈ss,Lat.Sd (n+1) s t) (hx:ss.reverse[i]?=some x) (I:Lat.lvI (n+1) ss i w) (hH:h=(Lat.hd x:Int)) {y:Ji} (e:y=zas w c):InB y.length h:=by
 obtain ⟨h1,h2⟩:=zk3 (x:=x) p2 p4 I
 have T:=(p4 x (zoA hx)).hd
 rw [e,show (zas w c).length=w.length from Lat.zbt,h1]
 unfold InB;omega
def za8 (P0:Jq) (P1:Int):Ji :=
 (Let ((zd8 (P1-(1:Int)) [(0:Int)])++[(1:Int)]) (λ(v98:Ji)=>(Let (List.foldl (λ(s99:Ji) (x100:Ji)=>(Let (zai x100) (λ(hv104:Int)=>(Let (zcj s99 x100) (λ(v105:Int)=>(Let (zas s99 (ixD x100 hv104)) (λ(v106:Ji)=>(Let (zdl v106 hv104 (-v105)) (λ(v107:Ji)=>v107))))))))) v98 (List.reverse P0)) (λ(r108:Ji)=>r108))))
def zeW (P0:Jq) (P1:Int):Prop:=LvP P0 P1
def zgC (K:W.Frag) (A:Adr):Sp:=Spv (ι:=Jq×Int) (λx=>[dQ K (List.map lI x.1),dI x.2]) (λx=>zeW x.1 x.2) (λx=>↥[dL (List.map dI (za8 x.1 x.2))])
theorem zd3:FnScope ["steps","length","numbers","step","head","weight"] ["steps","length"] (zad zeE):=↥4
theorem zk5 (F:Fun K "levelled" "levelled" zeE f fd) (T:Txt K mg A) (yac:Callee P w K mg base ↑1 1 "head_of" ["row"] (zdr K A)) (yad:Callee P w K mg base ↑1 1 "times" ["some","many"] (ze3 K A)) (ych:Callee P w K mg base ↑1 2 "weighed" ↥9 (zhg K A)):FnOk P w K mg base ↑1 3 f fd ["steps","length"] (zgC K A):=by
 refine F.okV zd3 ↑4 ↥7
 obtain ⟨P0,P1⟩:=x
 have hu:=hr.units
 replace hp:zeW P0 P1:=hp
 unfold zeW at hp
 obtain ⟨N0,S0,p1,p2,p3,p4,p5⟩:=hp
 refine ⟨_,(zac (zao (i:=2) zd3.nd rfl ⇑0 (zaw zdE (zaw zik ↑85 (zaw zfi (pv 1) zah)) ↑85)) (zac (zch PassesOwn.never rfl (zqa rfl rfl T.reversed ↑[pv 0]) (zak (i:=3) zd3.nd rfl ⇑0 ⇑0) (zac (zao (i:=4) zd3.nd rfl ⇑0 (zaO yac ↥1 rfl zaK ↑[pv 3])) (zac (zao (i:=5) zd3.nd rfl ⇑0 (zaO ych ↥1 rfl zaK ↑[pv 2,pv 3])) (zac (zao (i:=2) zd3.nd rfl ⇑0 (zaO yad ↥1 rfl zaK ↑[pv 2,(za1 ↑7 (pv 3) (pv 4) ⇑3)])) (zac (zhv (zoZ zlw (pv 5)) (zjA (pv 2) (pv 4) zgS)) zae))))) (zac (zaJ (pv 2)) zae))),.inl ?_⟩
 show L2.Run _ ([⇑[dQ K ⇑8],⇑[dI P1],.no,.no,.no,.no]:L2.Ctx) _ (↑23 (za8 P0 P1))
 unfold za8
 exact (zgK (m:=true) (x:=((zd8 (P1-(1:Int)) [(0:Int)])++[(1:Int)])) (λz=>List.map dI z) ↑23 (zcs (f:=dI) (xs:=(zd8 (P1-(1:Int)) [(0:Int)])) (ys:=[(1:Int)]) (EvO.ev (zgD (f:=dI) (xs:=[(0:Int)]) (n:=(P1-(1:Int))) ↑75 (zaQ (x:=P1) (y:=(1:Int)) ⇑6 zaG) (by constructor<;>omega) ↥(zul p1 p2))) ↑75 ↥(zup p1 p2)) (λv98 hv98=>have h0_numbers98:=hv98;(zbh (s0:=v98) ↑215 ↑23 (λ(s99:Ji) (x100:Ji)=>(Let (zai x100) (λ(hv104:Int)=>(Let (zcj s99 x100) (λ(v105:Int)=>(Let (zas s99 (ixD x100 hv104)) (λ(v106:Ji)=>(Let (zdl v106 hv104 (-v105)) (λ(v107:Ji)=>v107))))))))) (λ(i:Nat) (s99:Ji)=>Lat.lvI (N0+1) P0 i s99) (zpE (m:=false) lI (xs:=P0) ↑2) (.eq ↑41) ↥(zvq p1 ↥0) (λi101 x100 s99 hx102 hI103=>have v102:=List.mem_of_getElem? hx102;⟨↥(zvs ↥0 ↥0),(zam (m:=true) (x:=(zai x100)) dI (λz=>Oc.nx (↑215 z)) (Ev.any (m:=true) (zau (x:=x100) (zab ↑18 zag) rfl (by show zbp x100;exact trivial) rfl)) (λhv104 hhead104=>have hH:=(hhead104).trans (zc5 _);(zda (i:=2) rfl (zam (m:=true) (x:=(zcj s99 x100)) dI (λz=>Oc.nx (↑215 z)) (Ev.any (m:=true) (zau (x:=(s99,x100)) (zab ↑84 (zab ↑18 zag)) rfl (by show zeT s99 x100;exact ztO p2 p3 p4 p5 ↥0 ↥0) rfl)) (λv105 hv105=>(zgK (m:=true) (x:=(zas s99 (ixD x100 hv104))) (λz=>List.map dI z) (λz=>Oc.nx (↑215 z)) (EvO.anyI (m:=true) (zb5 (x:=(s99,(ixD x100 hv104))) (zab ↑84 (zab (Ev.any (m:=false) (zbP (f:=dI) (xs:=x100) ↑18 ↑38 ↥(zlk (p4 _ (zoA ↥0)) hH))) zag)) rfl (by show zbH s99 (ixD x100 hv104);exact zt7 p2 p3 p4 p5 ↥0 ↥0 hH) rfl)) (λv106 hv106=>have h0_numbers106:=hv106;(zl8 (f:=dI) (xs:=v106) (x:=(-v105)) (j:=hv104) (λz=>Oc.nx (↑215 z)) rfl (zoI (x:=v105) ↑24) ↑38 ↥(zur p2 p4 ↥0 ↥0 hH ↥0) (λv107 hv107=>(zap (.eq (.eq (.eq (.no ↑46))))))))))))))⟩) (λr108 hr108 hI=>(zda (i:=2) rfl (zaj (zaC ↑19)))))))
theorem zkS (ss:Jq) (n:Nat):za8 ss ((n:Int)+1)=Lat.lv (n+1) ss:=by
 show List.foldl (λ(s:Ji) (x:Ji)=>Let (zai x) ↑233) (zd8 ((n:Int)+1-(1:Int)) [(0:Int)]++[(1:Int)]) (List.reverse ss)=_
 have e:(λ(s:Ji) (x:Ji)=>Let (zai x) ↑233)=Lat.lv1:=funext λs=>funext λx=>znI s x
 rw [e]
 exact Lat.zm0 (n+1) ss
theorem zsX {g s:Int} {p:Int×Int} (I:Lat.GdI g s p) (h:(!decide (p.2=(0:Int)))=true):0<p.2:=by
 have:=I.b
 simp only [Bool.not_eq_true',decide_eq_false_iff_not] at h
 omega
theorem znn {g s:Int} {p:Int×Int} (I:Lat.GdI g s p) (h:(!decide (p.2=(0:Int)))=true):Lat.GdI g s (Let (p.1%p.2) (λ(l:Int)=>Let p.2 (λ(g:Int)=>(g,l))))∧(((Let (p.1%p.2) (λ(l:Int)=>Let p.2 (λ(g:Int)=>(g,l))))).2).toNat<(p.2).toNat:=by
 simp only [Bool.not_eq_true',decide_eq_false_iff_not] at h
 exact I.step h
theorem zun {l:Ji} {i:Nat} {g s x:Int} (I:Lat.DvI l i g) (hA:s=↑142):Lat.GdI g s (g,s):=Lat.GdI.start I.1 ↑0
theorem znh {l:Ji} {i:Nat} {g x:Int} (hx:l[i]?=some x) (I:Lat.DvI l i g):Lat.DvI l (i+1) (Let ↑142 (λ(small:Int)=>Let (whl (λ(s:Int×Int)=>(!decide (s.2=(0:Int)))) (λ(s:Int×Int)=>Let (s.1%s.2) (λ(l:Int)=>Let s.2 (λ(g:Int)=>(g,l)))) ((small).toNat) (g,small)) (λ(r:Int×Int)=>r.1))):=by
 obtain ⟨h1,h2⟩:=zhM (c:=λ(s:Int×Int)=>(!decide (s.2=(0:Int)))) (f:=λ(s:Int×Int)=>Let (s.1%s.2) (λ(l:Int)=>Let s.2 (λ(g:Int)=>(g,l)))) (I:=Lat.GdI g ↑142) (μ:=λs=>s.2.toNat) (λs hs hc=>znn hs hc) (n:=(↑142).toNat) (s:=(g,↑142)) (Lat.GdI.start I.1 ↑0) ↑11
 simp only [Bool.not_eq_false',decide_eq_true_eq] at h2
 exact I.step hx (h1.done h2)
def zbk (P0:Ji):Int :=
 (Let (List.foldl (λ(s109:Int) (x110:Int)=>(Let ((x110.natAbs:Nat):Int) (λ(v114:Int)=>(Let (whl (λ(s115:Int×Int)=>(!decide (s115.2=(0:Int)))) (λ(s115:Int×Int)=>(Let (s115.1%s115.2) (λ(v118:Int)=>(Let s115.2 (λ(v119:Int)=>(v119,v118)))))) ((v114).toNat) (s109,v114)) (λ(r120:Int×Int)=>r120.1))))) (0:Int) P0) (λ(r121:Int)=>r121))
def zfG (P0:Ji):Prop:=True
def zg5 (K:W.Frag) (A:Adr):Sp:=Spv (ι:=Ji) ↑168 (λx=>zfG x) (λx=>↥[dI (zbk x)])
theorem zdN:FnScope ["numbers","great","number","small","left"] ["numbers"] (zad zfu):=↥4
theorem zmb (F:Fun K "divisor" "divisor" zfu f fd) (T:Txt K mg A) :FnOk P w K mg base ↑1 1 f fd ["numbers"] (zg5 K A):=by
 refine F.okV zdN ↑4 ↑63
 have hu:=hr.units
 replace hp:zfG P0:=hp
 unfold zfG at hp
 refine ⟨_,(zac (zao (i:=1) zdN.nd rfl ⇑0 zah) (zac (zch PassesOwn.never rfl (za3 (K:=K) rfl (pv 0)) (zak (i:=2) zdN.nd rfl ⇑0 ⇑0) (zac (zao (i:=3) zdN.nd rfl ⇑0 (zal zoR rfl T.abs ↑5 ↑[pv 2])) (zac (zja PassesOwn.never (zaF zfD (pv 3) zah (zaM _)) (zac (zao (i:=4) zdN.nd rfl ⇑0 (zaw zcI (pv 1) (pv 3))) (zac (zao (i:=1) zdN.nd rfl ⇑0 (pv 3)) (zac (zao (i:=3) zdN.nd rfl ⇑0 (pv 4)) zae)))) zae))) (zac (zaJ (pv 1)) zae))),.inl ?_⟩
 show L2.Run _ ([⇑[dQ K ↑8],.no,.no,.no,.no]:L2.Ctx) _ (↑25 (zbk P0))
 unfold zbk
 exact (zcg (m:=true) zaG (zbh (s0:=(0:Int)) (λ(s109:Int)=>([⇑[dQ K ↑8],↥[dI s109],.no,.no,.no]:L2.Ctx)) ↑25 (λ(s109:Int) (x110:Int)=>(Let ((x110.natAbs:Nat):Int) (λ(v114:Int)=>(Let (whl (λ(s115:Int×Int)=>(!decide (s115.2=(0:Int)))) (λ(s115:Int×Int)=>(Let (s115.1%s115.2) (λ(v118:Int)=>(Let s115.2 (λ(v119:Int)=>(v119,v118)))))) ((v114).toNat) (s109,v114)) (λ(r120:Int×Int)=>r120.1))))) (λ(i:Nat) (s109:Int)=>Lat.DvI P0 i s109) (zbY (m:=false) dI (xs:=P0) ↑2) ↑41 ↥(Lat.DvI.start) (λi111 x110 s109 hx112 hI113=>have v112:=List.mem_of_getElem? hx112;⟨↥(znh ↥0 ↥0),(zam (m:=true) (x:=((x110.natAbs:Nat):Int)) dI (λz=>Oc.nx ((λ(s109:Int)=>([⇑[dQ K ↑8],↥[dI s109],.no,.no,.no]:L2.Ctx)) z)) (zrR ↑39) (λv114 hv114=>have hA:=hv114;(zhW (s0:=(s109,v114)) (λ(s115:Int×Int)=>([⇑[dQ K ↑8],↥[dI s115.1],⇑[dI x110],↥[dI s115.2],.no]:L2.Ctx)) (λz=>Oc.nx ((λ(s109:Int)=>([⇑[dQ K ↑8],↥[dI s109],.no,.no,.no]:L2.Ctx)) z)) (λ(s115:Int×Int)=>(!decide (s115.2=(0:Int)))) (λ(s115:Int×Int)=>(Let (s115.1%s115.2) (λ(v118:Int)=>(Let s115.2 (λ(v119:Int)=>(v119,v118)))))) (λ(s115:Int×Int)=>Lat.GdI (s109) (v114) s115) (λ(s115:Int×Int)=>(s115.2).toNat) ((v114).toNat) ↑41 ↥(zun ↥0 hA) ↥(Nat.le_refl _) (λs115 hI116=>⟨(zav (zdH (x:=s115.2) (y:=(0:Int)) ↑64 zaG)),λhc117=>⟨↥(znn ↥0 ↥0),(zam (m:=true) (x:=(s115.1%s115.2)) dI (λz=>Oc.nx ((λ(s115:Int×Int)=>([⇑[dQ K ↑8],↥[dI s115.1],⇑[dI x110],↥[dI s115.2],.no]:L2.Ctx)) z)) (zaH (x:=s115.1) (y:=s115.2) ↑60 ↑64 (by show (0:Int)<_;exact zsX ↥0 ↥0)) (λv118 hv118=>(zam (m:=true) (x:=s115.2) dI (λz=>Oc.nx ((λ(s115:Int×Int)=>([⇑[dQ K ↑8],↥[dI s115.1],⇑[dI x110],↥[dI s115.2],.no]:L2.Ctx)) z)) ↑64 (λv119 hv119=>(zcg (m:=true) ↑38 (zap (.eq (.eq ↑171))))))))⟩⟩) (λr120 hr120 hI hc=>(zap (.eq (.eq (.no (.no (.eq .nil))))))))))⟩) (λr121 hr121 hI=>(zaj (zaC ↑60)))))
theorem zhq (l:Ji):∀ k,k≤l.length->Lat.DvI l k (List.foldl (λ(s:Int) (x:Int)=>Let ↑142 (λ(small:Int)=>Let (whl (λ(s:Int×Int)=>(!decide (s.2=(0:Int)))) (λ(s:Int×Int)=>Let (s.1%s.2) (λ(l:Int)=>Let s.2 (λ(g:Int)=>(g,l)))) ((small).toNat) (s,small)) (λ(r:Int×Int)=>r.1))) (0:Int) (l.take k))
 | 0,_=>Lat.DvI.start
 | k+1,h=>by
  have hk:l[k]?=some l[k]:=List.getElem?_eq_getElem h
  rw [List.take_succ_eq_append_getElem h,List.foldl_append]
  exact znh hk (zhq l k ↑0)
theorem zhj (l:Ji):0≤zbk l∧(∀ x∈l,zbk l ∣ x)∧((∃ x∈l,x≠0)->0<zbk l):=by
 have:=zhq l l.length ↑11
 unfold Lat.DvI at this
 rw [List.take_length] at this
 exact this
def zqC (l:Ji):Prop:=l.length≤1000∧0<zbk l∧(zbk l).natAbs≤2^8990
theorem zrh {l:Ji} {g x:Int} (h:zqC l) (e:g=zbk l):zgy x g:=by
 subst e
 exact Lat.zgy.of h.2.1 h.2.2 ⇑1
theorem ziQ {g:Int}:∀ {l:Ji},(∀ x∈l,g ∣ x)->∀ u:Lat.Vc,Lat.dv (List.map (λ(x:Int)=>x/g) l) u*g=Lat.dv l u∧g ∣ Lat.dv l u
 | [],_,u=>⟨by show (0:Int)*g=0;omega,Int.dvd_zero _⟩
 | a :: l,h,u=>by
  obtain ⟨h1,h2⟩:=ziQ (l:=l) (λx hx=>h x (List.mem_cons_of_mem _ hx)) λi=>u (i+1)
  have h3:=h a List.mem_cons_self
  refine ⟨?_,Int.dvd_add (Int.dvd_trans h3 (Int.dvd_mul_right _ _)) h2⟩
  show (a/g*u 0+Lat.dv (List.map (λ(x:Int)=>x/g) l) λi=>u (i+1))*g=a*u 0+Lat.dv l λi=>u (i+1)
  rw [Int.add_mul,h1,Int.mul_right_comm,Int.ediv_mul_cancel h3]
def zaP (P0:Ji):Ji :=
 (Let (zbk P0) (λ(v122:Int)=>(List.map (λ(x123:Int)=>(x123/v122)) P0)))
def zdy (P0:Ji):Prop:=zqC P0
def zfU (K:W.Frag) (A:Adr):Sp:=Spv (ι:=Ji) ↑168 (λx=>zdy x) (λx=>↥[dL (List.map dI (zaP x))])
theorem zhr:FnScope ["numbers","shared"] ["numbers"] (zad zde):=↥4
theorem zjC (F:Fun K "shortened" "shortened" zde f fd) (T:Txt K mg A) (yci:Callee P w K mg base ↑1 1 "divisor" ["numbers"] (zg5 K A)):FnOk P w K mg base ↑1 2 f fd ["numbers"] (zfU K A):=by
 refine F.okV zhr ↑4 ↑63
 have hu:=hr.units
 replace hp:zdy P0:=hp
 unfold zdy at hp
 refine ⟨_,(zac (zao (i:=1) zhr.nd rfl ↥3 (zaO yci ↥1 rfl zaK ↑[pv 0])) (zac (zaJ (zbZ rfl (.of (osc:=(zad zde)) (N:=["numbers","shared"]) (own:=["number"]) (fvn:=["shared"]) (fv:=[1]) rfl rfl ↑5) (za3 (K:=K) rfl (pv 0)) (λ_ _ _ _ _=>⟨(zak (i:=0) (show (["number","shared"]:List Str).Nodup by decide +kernel) rfl ⇑0 ↥3),za5,(zaw zb7 (pv 0) (pv 1))⟩))) zae)),.inl ?_⟩
 show L2.Run _ ([⇑[dQ K ↑8],.no]:L2.Ctx) _ (↑23 (zaP P0))
 unfold zaP
 exact (zam (m:=true) (x:=(zbk P0)) dI ↑23 (Ev.any (m:=true) (zau (x:=P0) (zab ↑2 zag) rfl (by show zfG P0;exact trivial) rfl)) (λv122 hv122=>have hS:=hv122;(zaj (zaC (EvO.ev (EvO.conv (zbW (g:=(λ(x123:Int)=>dI (x123/v122))) (zbY (m:=false) dI (xs:=P0) ↑2) ↥(zan (by have z:=hp.1;omega)) ⇑5 (λi124 x123 hx125=>have v125:=List.mem_of_getElem? hx125;(zaH (x:=x123) (y:=v122) ↑9 ↑60 ↥(zrh hp hS)))) ↑10))))))
theorem zgN (l:Ji):zaP l=List.map (λ(x:Int)=>x/zbk l) l:=rfl
def SnP (b:BookD) (x:Ji):Prop:=∃ n R bt:Nat,b.many=(n:Int)∧1≤n∧n≤8∧x.length=n∧(∀ r∈b.swaps,r.length=n∧Lat.Bit bt r)∧Lat.Bit bt x∧b.swaps.length+1≤R∧R≤13∧bt≤400∧Lat.eB bt R*(n+1)≤8990
theorem ztz {n R bt:Nat} (h1:1≤n) (h2:n≤8) (h3:R≤13) (h4:bt≤400) (h5:Lat.eB bt R*(n+1)≤8990):Lat.Fit (n+1) bt R∧Lat.sB bt R≤63028∧Lat.eB bt R≤4495:=by
 have e1:Lat.eB bt R*2≤Lat.eB bt R*(n+1):=Nat.mul_le_mul_left _ ↑0
 have e2:Lat.sB bt R≤4502*14:=Nat.mul_le_mul ↑0 ↑0
 refine ⟨⟨by omega,by omega,by omega,?_⟩,by omega,by omega⟩
 have e3:min (n+1) R≤9:=by omega
 generalize Lat.sB bt R=s at *
 generalize min (n+1) R=k at *
 have e4:(k+2)*((k+1)*(s+9000))≤11*(10*(63028+9000)):=Nat.mul_le_mul ↑0 (Nat.mul_le_mul ↑0 ↑0)
 have e5:(k+1)*(s+1)≤10*63029:=Nat.mul_le_mul ↑0 ↑0
 omega
def snR (b:BookD) (x:Ji):Jq:=Lat.clm Lat.MG ↑40
def snS (n:Nat) (b:BookD) (x:Ji):Jq:=List.filter (λ(t:Ji)=>decide (Lat.hd t<n)) (snR b x)
theorem SnP.all {b:BookD} {x:Ji} (h:SnP b x):∃ n s E:Nat,b.many=(n:Int)∧1≤n∧n≤8∧x.length=n∧b.swaps.length≤12∧Lat.Shw n b.swaps x (snR b x) ↑17∧(∀ t∈snR b x,Lat.Sd (n+1) s t)∧(∀ t∈snR b x,(Lat.vec t (Lat.hd t)).natAbs≤2^E)∧E*(n+1)≤8990∧s≤63028∧(snR b x).length≤n+1:=by
 obtain ⟨n,R,bt,h1,h2,h3,h4,h5,h6,h7,h8,h9,h10⟩:=h
 obtain ⟨F,f2,f3⟩:=ztz h2 h3 h8 h9 h10
 have hl:=Lat.zon (λr hr=>(h5 r hr).1) h4
 have hb:=Lat.zns (λr hr=>(h5 r hr).2) h6
 have hR:(↑40).length≤R:=by unfold Lat.zgX;rw [List.length_append,List.length_map];exact h7
 obtain ⟨S,s2,s3⟩:=Lat.znf F hR λr hr=>⟨hl r hr,hb r hr⟩
 exact ⟨n,Lat.sB bt R,Lat.eB bt R,h1,h2,h3,h4,by omega,⟨S,rfl,λr hr=>(h5 r hr).1,h4⟩,s3,λt ht=>(S.bits ↑0 hR hb t ht).1,h10,f2,by unfold snR;omega⟩
theorem zlG {b:BookD} {x:Ji} (h:SnP b x):b.swaps.length≤PySem.sizeLine∧(∀ s∈b.swaps,s.length+([(0:Int)]).length≤PySem.sizeLine)∧x.length+[⇑7].length≤PySem.sizeLine∧(List.map (λ(r:Ji)=>r++[(0:Int)]) b.swaps).length+[x++[⇑7]].length≤PySem.sizeLine:=by
 obtain ⟨n,R,bt,h1,h2,h3,h4,h5,h6,h7,h8,h9,h10⟩:=h
 refine ⟨zan ↑0,λs hs=>zan (by rw [(h5 s hs).1,List.length_singleton];omega),zan ↑189,zan (by rw [List.length_map,List.length_singleton];omega)⟩
theorem zth {b:BookD} {x:Ji} (h:SnP b x):Lat.zu4 ↑40:=by
 obtain ⟨n,R,bt,h1,h2,h3,h4,h5,h6,h7,h8,h9,h10⟩:=h
 exact ⟨n+1,bt,R,(ztz h2 h3 h8 h9 h10).1,by unfold Lat.zgX;rw [List.length_append,List.length_map];exact h7,λr hr=>⟨Lat.zon (λr hr=>(h5 r hr).1) h4 r hr,Lat.zns (λr hr=>(h5 r hr).2) h6 r hr⟩⟩
section
variable {b:BookD} {x w short:Ji} {rows ss:Jq} {num:Ji} {c:Int}
theorem zms (hR:rows=za2 ↑40):rows=snR b x:=hR.trans (ziB _)
theorem zrm {n:Nat} (hn:b.many=(n:Int)) (hR:rows=snR b x) (hS:ss=List.map (λ(t:Ji)=>t) ↑76):ss=snS n b x:=by
 rw [hS,List.map_id',hR,hn]
 unfold snS
 congr 1
 funext t
 rw [zc5]
 simp
theorem ztQ (h:SnP b x) (hR:rows=za2 ↑40):rows.length≤PySem.sizeLine:=by
 obtain ⟨n,s,E,h1,h2,h3,h4,h5,h6,h7,h8,h9,h10,h11⟩:=h.all
 rw [zms hR];exact zan ↑0
theorem ztW (h:SnP b x) (hR:rows=za2 ↑40) (hS:ss=List.map (λ(t:Ji)=>t) ↑76):LvP ss ↑105:=by
 obtain ⟨n,s,E,h1,h2,h3,h4,h5,h6,h7,h8,h9,h10,h11⟩:=h.all
 have hl:(↑17).length≤n+1:=Nat.le_trans (List.length_filter_le _ _) h11
 rw [zrm h1 (zms hR) hS]
 have:=Nat.mul_le_mul (show (↑17).length+1≤10 by omega) (show s+9000≤72028 by omega)
 exact ⟨n,s,by omega,by omega,by omega,λt ht=>h7 t (h6.low t ht).1,by omega⟩
theorem ztm {n:Nat} (hn:b.many=(n:Int)) (hS:ss=snS n b x) (hN:num=za8 ss ↑105):num=Lat.lv (n+1) ↑17:=by rw [hN,hS,hn,zkS]
theorem ztD {n:Nat} (hn:b.many=(n:Int)) (hN:num=Lat.lv (n+1) ↑17) (hW:w=cutD num none (some b.many)):w=(↑79).take n:=by rw [hW,hN,hn,zo2]
theorem znJ:∀ {l:Ji} {u:Lat.Vc},(∀ y∈l,y=0)->Lat.dv l u=0
 | [],_,_=>rfl
 | a :: l,u,h=>by
  show a*u 0+Lat.dv l _=0
  rw [h a List.mem_cons_self,znJ λy hy=>h y ↑198];omega
theorem zkZ {n E:Nat} {R:Jq} (h8:∀ t∈R,(Lat.vec t (Lat.hd t)).natAbs≤2^E) (h9:E*(n+1)≤8990) (h11:R.length≤n+1):(Lat.prh R).natAbs≤2^8990 :=
 Nat.le_trans (Lat.zpB h8) (Nat.pow_le_pow_right ⇑1 (Nat.le_trans (Nat.mul_le_mul_left _ h11) h9))
theorem zm2 {g P:Int} (hP:0<P) (h:g ∣ P) (hb:P.natAbs≤2^8990):g.natAbs≤2^8990:=Nat.le_trans (Nat.le_of_dvd (Int.natAbs_pos.mpr ↑0) (Int.natAbs_dvd_natAbs.mpr h)) hb
theorem ztg {n:Nat} (S:Lat.Shw n b.swaps x (snR b x) ↑17) (q:(↑17).length=(snR b x).length):snR b x=snS n b x:=by
 rcases Lat.zkI S.st.ech with z | ⟨t,h1,h2⟩
 ·exact z
 ·have:(snR b x).length=(↑17).length+1:=by
   conv=>lhs;rw [h2]
   rw [List.length_append];rfl
  omega
theorem zqE {n:Nat} (S:Lat.Shw n b.swaps x (snR b x) ↑17) (q:¬ (↑17).length=(snR b x).length):∃ t,Lat.hd t=n∧snR b x=snS n b x++[t]:=by
 rcases Lat.zkI S.st.ech with z | z
 ·exact absurd (congrArg List.length z).symm q
 ·exact z
theorem zlg {α:Type} [Inhabited α] {xs:List α} {t:α}:ixD (xs++[t]) ⇑7=t:=by
 unfold ixD atI ixN
 rw [if_neg ⇑1,if_pos (by rw [List.length_append,List.length_singleton];omega)]
 have:(⇑7+(((xs++[t]).length:Nat):Int)).toNat=xs.length:=by rw [List.length_append,List.length_singleton];omega
 first
  | (show ((xs++[t])[_]?).getD _=t;rw [this];simp)
  | (simp [this])
theorem zoq {n E:Nat} (S:Lat.Shw n b.swaps x (snR b x) ↑17) (h8:∀ t∈snR b x,(Lat.vec t (Lat.hd t)).natAbs≤2^E) (h9:E*(n+1)≤8990) (h11:(snR b x).length≤n+1) (h3:n≤8) (q:(↑17).length=(snR b x).length):zqC ((↑79).take n):=by
 have e:=ztg S q
 obtain ⟨l1,l2,l3⟩:=S.line e
 obtain ⟨v1,v2,v3,v4⟩:=S.lv
 obtain ⟨d1,d2,d3⟩:=zhj ((↑79).take n)
 have hx:=(ziQ d2 (Lat.vec x)).2
 rw [l2] at hx
 refine ⟨by rw [List.length_take];omega,d3 (Classical.byContradiction λz=>?_),zm2 v4 hx (by rw [← e];exact zkZ h8 h9 h11)⟩
 have:=znJ (u:=Lat.vec x) λy hy=>Classical.byContradiction λw=>z ⟨y,hy,w⟩
 omega
theorem zrt (h:SnP b x) (hR:rows=za2 ↑40) (hS:ss=List.map (λ(t:Ji)=>t) ↑76) (hN:num=za8 ss ↑105) (hW:w=cutD num none (some b.many)) (q:decide ↑158=true):zqC w:=by
 obtain ⟨n,s,E,h1,h2,h3,h4,h5,h6,h7,h8,h9,h10,h11⟩:=h.all
 have eS:=zrm h1 (zms hR) hS
 rw [eS,zms hR] at q
 rw [ztD h1 (ztm h1 eS hN) hW]
 exact zoq h6 h8 h9 h11 h3 (by have:=of_decide_eq_true q;omega)
theorem zsE (h:SnP b x) (hR:rows=za2 ↑40) (hS:ss=List.map (λ(t:Ji)=>t) ↑76) (q:decide ↑158=false):InB rows.length ⇑7∧InB ((ixD rows ⇑7)).length b.many:=by
 obtain ⟨n,s,E,h1,h2,h3,h4,h5,h6,h7,h8,h9,h10,h11⟩:=h.all
 have eS:=zrm h1 (zms hR) hS
 rw [eS,zms hR] at q
 obtain ⟨t,t1,t2⟩:=zqE h6 (by have:=of_decide_eq_false q;omega)
 have ht:t∈snR b x:=by rw [t2];exact List.mem_append_right _ ↑137
 rw [zms hR,t2,zlg,(h7 t ht).len,h1,List.length_append]
 unfold InB
 simp only [List.length_singleton]
 omega
theorem zt5 (h:SnP b x) (hR:rows=za2 ↑40) (hS:ss=List.map (λ(t:Ji)=>t) ↑76) (hN:num=za8 ss ↑105):InB num.length b.many:=by
 obtain ⟨n,s,E,h1,h2,h3,h4,h5,h6,h7,h8,h9,h10,h11⟩:=h.all
 rw [ztm h1 (zrm h1 (zms hR) hS) hN,h6.lv.1,h1]
 unfold InB;omega
theorem zpL (h:SnP b x) (hR:rows=za2 ↑40) (hS:ss=List.map (λ(t:Ji)=>t) ↑76) (hN:num=za8 ss ↑105) (q:decide ↑158=false) (hM:c=ixD (ixD rows ⇑7) b.many):∃ (n:Nat) (t:Ji),b.many=(n:Int)∧n≤8∧Lat.hd t=n∧snR b x=snS n b x++[t]∧Lat.Shw n b.swaps x (snR b x) ↑17∧c=Lat.vec t n∧ixD num b.many=Lat.prh ↑17∧0<Lat.prh ↑17∧num=Lat.lv (n+1) ↑17∧(Lat.prh ↑17*c).natAbs≤2^8990∧c.natAbs≤2^8980∧0<c:=by
 obtain ⟨n,s,E,h1,h2,h3,h4,h5,h6,h7,h8,h9,h10,h11⟩:=h.all
 have eS:=zrm h1 (zms hR) hS
 have eN:=ztm h1 eS hN
 rw [eS,zms hR] at q
 obtain ⟨t,t1,t2⟩:=zqE h6 (by have:=of_decide_eq_false q;omega)
 have ht:t∈snR b x:=by rw [t2];exact List.mem_append_right _ ↑137
 rw [zms hR,t2,zlg,h1,Lat.zb0] at hM
 have hb:=zkZ h8 h9 h11
 rw [t2,Lat.zkJ,t1,← hM] at hb
 obtain ⟨v1,v2,v3,v4⟩:=h6.lv
 have T:=h7 t ht
 have T1:=T.top
 have T2:=T.pos
 rw [t1,← hM] at T1 T2
 exact ⟨n,t,h1,h3,t1,t2,h6,hM,by rw [eN,h1,Lat.zb0,v3],v4,eN,hb,T1,T2⟩
theorem zsf (h:SnP b x) (hR:rows=za2 ↑40) (hS:ss=List.map (λ(t:Ji)=>t) ↑76) (hN:num=za8 ss ↑105) (q:decide ↑158=false) (hM:c=ixD (ixD rows ⇑7) b.many):zdK (ixD num b.many) c:=by
 obtain ⟨n,t,t1,t2,t3,t4,t5,t6,t7,t8,t9,t10,t11,t12⟩:=zpL h hR hS hN q hM
 rw [t7]
 refine Lat.zdK.of (a:=8990) (Nat.le_trans ?_ t10) t11 ⇑1 ⇑1
 rw [Int.natAbs_mul]
 exact Nat.le_mul_of_pos_right _ (Int.natAbs_pos.mpr ↑0)
theorem zt6 {y:Int} (h:SnP b x) (hR:rows=za2 ↑40) (hS:ss=List.map (λ(t:Ji)=>t) ↑76) (hN:num=za8 ss ↑105) (hW:w=cutD num none (some b.many)):[y].length+w.length≤PySem.sizeLine:=by
 obtain ⟨n,s,E,h1,h2,h3,h4,h5,h6,h7,h8,h9,h10,h11⟩:=h.all
 rw [ztD h1 (ztm h1 (zrm h1 (zms hR) hS) hN) hW]
 exact zan (by rw [List.length_take,List.length_singleton];omega)
structure RsO (n:Nat) (sw:Jq) (x:Ji) (c:Int) (l:Ji) (r:Int) (v:Ji):Prop where
 sho:zqC l
 er:ixD (zaP l) (0:Int)=r
 ev:cutD (zaP l) (some (1:Int)) none=v
 len:v.length=n
 two:c≠1->2≤r
 d:c ∣ r
 lev:∀ s∈sw,r ∣ Lat.dv v (Lat.vec s)
 xx:r ∣ Lat.dv v (Lat.vec x)-r/c
 q:0<r/c∧(c≠1->r/c<r)
 top:r.natAbs≤2^8990
theorem zsB {n:Nat} {sw R ss:Jq} {x t:Ji} (S:Lat.Shw n sw x R ss) (ht:Lat.hd t=n) (e:R=ss++[t]) (hb:(Lat.prh ss*Lat.vec t n).natAbs≤2^8990) (hn:n≤8):∃ r v,RsO n sw x (Lat.vec t n) ([Lat.prh ss*Lat.vec t n]++((Lat.lv (n+1) ss)).take n) r v:=by
 obtain ⟨r1,r2,r3,r4,r5⟩:=S.rest ht e
 obtain ⟨v1,v2,v3,v4⟩:=S.lv
 generalize hc:Lat.vec t n=c at *
 generalize hP:Lat.prh ss=P at *
 have hw:(↑52).length=n:=by rw [List.length_take];omega
 generalize ((Lat.lv (n+1) ss)).take n=W at *
 obtain ⟨d1,d2,d3⟩:=zhj ([P*c]++W)
 have hM:0<P*c:=Int.mul_pos v4 r1
 have g0:=d3 ⟨P*c,List.mem_append_left _ ↑137,by omega⟩
 have gM:=d2 (P*c) (List.mem_append_left _ ↑137)
 have hs:zaP ([P*c]++W)=(P*c/zbk ([P*c]++W)) :: List.map (λ(y:Int)=>y/zbk ([P*c]++W)) W:=rfl
 have hsho:zqC ([P*c]++W):=⟨by rw [List.length_append,hw,List.length_singleton];omega,g0,zm2 hM gM hb⟩
 have gW:∀ y∈W,zbk ([P*c]++W) ∣ y:=λy hy=>d2 y (List.mem_append_right _ hy)
 generalize zbk ([P*c]++W)=g at *
 have gP:g ∣ P:=by
  have a1:=(ziQ gW (Lat.vec x)).2
  have a2:=Int.dvd_trans gM r3
  have:=Int.dvd_sub a1 a2
  rwa [show Lat.dv W (Lat.vec x)-(Lat.dv W (Lat.vec x)-P)=P by omega] at this
 obtain ⟨P',hP'⟩:=gP
 have p0:0<P':=by
  refine Classical.byContradiction λz=>?_
  have:=Int.mul_nonpos_of_nonneg_of_nonpos (show 0≤g by omega) (show P'≤0 by omega)
  omega
 have er:P*c/g=P'*c:=by rw [hP',Int.mul_assoc];exact Int.mul_ediv_cancel_left _ ↑0
 have ec:P'*c/c=P':=Int.mul_ediv_cancel _ ↑0
 have key:∀ (u:Lat.Vc) (a:Int),P*c ∣ Lat.dv W u-g*a->P'*c ∣ Lat.dv (List.map (λ(y:Int)=>y/g) W) u-a:=λu a ⟨k,hk⟩=>by
  refine ⟨k,?_⟩
  have h1:=(ziQ gW u).1
  refine Int.eq_of_mul_eq_mul_left (show g≠0 by omega) ?_
  rw [Int.mul_sub,Int.mul_comm g,h1,hk,hP']
  simp only [Int.mul_assoc]
 refine ⟨P'*c,List.map (λ(y:Int)=>y/g) W,hsho,by rw [hs,er];exact zcr (n:=0) rfl,?_,by rw [List.length_map,hw],λh1=>?_,Int.dvd_mul_left _ _,λs hs'=>?_,?_,?_,zm2 hM ⟨g,by rw [hP',Int.mul_comm g,Int.mul_right_comm]⟩ hb⟩
 ·rw [hs,show (some (1:Int))=some ((1:Nat):Int) from rfl,Lat.zgI];rfl
 ·have:=Int.mul_le_mul_of_nonneg_right (show (1:Int)≤P' by omega) (show 0≤c by omega)
  omega
 ·have:=key (Lat.vec s) 0 (by rw [Int.mul_zero,Int.sub_zero];exact r2 s hs')
  rwa [Int.sub_zero] at this
 ·rw [ec]
  exact key (Lat.vec x) P' (by rw [← hP'];exact r3)
 ·rw [ec]
  refine ⟨p0,λh1=>?_⟩
  have:=Int.mul_le_mul_of_nonneg_left (show (2:Int)≤c by omega) (show 0≤P' by omega)
  omega
theorem zpP (h:SnP b x) (hR:rows=za2 ↑40) (hS:ss=List.map (λ(t:Ji)=>t) ↑76) (hN:num=za8 ss ↑105) (hW:w=cutD num none (some b.many)) (q:decide ↑158=false) (hM:c=ixD (ixD rows ⇑7) b.many):∃ n r v,n≤8∧RsO n b.swaps x c ([ixD num b.many*c]++w) r v:=by
 obtain ⟨n,t,t1,t2,t3,t4,t5,t6,t7,t8,t9,t10,t11,t12⟩:=zpL h hR hS hN q hM
 rw [t7,ztD t1 t9 hW,t6]
 rw [t6] at t10
 obtain ⟨r,v,z⟩:=zsB t5 t3 t4 t10 t2
 exact ⟨n,r,v,t2,z⟩
theorem zrB (h:SnP b x) (hR:rows=za2 ↑40) (hS:ss=List.map (λ(t:Ji)=>t) ↑76) (hN:num=za8 ss ↑105) (hW:w=cutD num none (some b.many)) (q:decide ↑158=false) (hM:c=ixD (ixD rows ⇑7) b.many):zqC ([ixD num b.many*c]++w):=by
 obtain ⟨n,r,v,_,z⟩:=zpP h hR hS hN hW q hM
 exact z.sho
theorem zuK {y:Int} (e:short=zaP ([y]++w)):InB short.length (0:Int):=by
 rw [e,zgN,List.length_map,List.length_append,List.length_singleton]
 unfold InB;omega
theorem zqf (h:SnP b x) (hR:rows=za2 ↑40) (hS:ss=List.map (λ(t:Ji)=>t) ↑76) (hN:num=za8 ss ↑105) (hW:w=cutD num none (some b.many)) (q:decide ↑158=false) (hM:c=ixD (ixD rows ⇑7) b.many) (q1:decide (c=(1:Int))=false) (hQ:short=zaP ([ixD num b.many*c]++w)):2≤ixD short (0:Int)∧(cutD short (some (1:Int)) none).length≤1000:=by
 obtain ⟨n,r,v,hn,z⟩:=zpP h hR hS hN hW q hM
 rw [hQ,z.er,z.ev,z.len]
 exact ⟨z.two (of_decide_eq_false q1),by omega⟩
end
def m_shown (P0:BookD) (P1:Ji):(Int×(Option (LineD⊕RestD))) :=
 (Let (za2 (↑221++[(P1++[⇑7])])) (λ(v129:Jq)=>(Let (List.map (λ(x130:Ji)=>x130) (List.filter (λ(x130:Ji)=>(decide ((zai x130)<P0.many))) v129)) (λ(v133:Jq)=>(Let (za8 v133 (P0.many+(1:Int))) (λ(v134:Ji)=>(Let (cutD v134 none (some P0.many)) (λ(v135:Ji)=>(bif (decide (((v133.length:Nat):Int)=((v129.length:Nat):Int))) then ((0:Int),(some (Sum.inl (znL (zaP v135))))) else (Let (ixD (ixD v129 ⇑7) P0.many) (λ(v137:Int)=>(bif (decide (v137=(1:Int))) then ((1:Int),none) else (Let (zaP ([((ixD v134 P0.many)*v137)]++v135)) (λ(v139:Ji)=>(v137,(some (Sum.inr (zjE (ixD v139 (0:Int)) (cutD v139 (some (1:Int)) none)))))))))))))))))))
def zgM (P0:BookD) (P1:Ji):Prop:=SnP P0 P1
def zje (K:W.Frag) (A:Adr):Sp:=Spv (ι:=BookD×Ji) (λx=>[zct A.Book x.1,dL ↑70]) (λx=>zgM x.1 x.2) (λx=>↥[dT [dI ((m_shown x.1 x.2).1),dOpt (dSc A) ((m_shown x.1 x.2).2)]])
theorem zfy:FnScope ["book","basket","rows","steps","numbers","weights","many","short"] ["book","basket"] (zad zfT):=↥4
theorem zoJ (F:Fun K "shown" "shown" zfT f fd) (T:Txt K mg A) (ycj:Callee P w K mg base ↑1 5 "climbed" ["rows"] (zhp K A)) (yac:Callee P w K mg base ↑1 1 "head_of" ["row"] (zdr K A)) (ybV:Callee P w K mg base ↑1 3 "levelled" ["steps","length"] (zgC K A)) (yaT:Callee P w K mg base ↑1 2 "shortened" ["numbers"] (zfU K A)) {yej:Addr} {ydY:FuncData} (ydD:Mk K A.Rest yej) (yaG:FnOk P w K mg base ↑1 2 yej ydY ["self","rest","weights"] (zfN K A)) (yaH:zgl K ydY ["self","rest","weights"] [])  {yek:Addr} {ydZ:FuncData} (ydE:Mk K A.Line yek) (yak:FnOk P w K mg base ↑1 1 yek ydZ ["self","weights"] (zdL K A)) (ybT:zgl K ydZ ["self","weights"] []):FnOk P w K mg base ↑1 6 f fd ["book","basket"] (zje K A):=by
 refine F.okV zfy ↑4 ↥7
 obtain ⟨P0,P1⟩:=x
 have hu:=hr.units
 replace hp:zgM P0 P1:=hp
 unfold zgM at hp
 refine ⟨_,(zac (zao (i:=2) zfy.nd rfl ⇑0 (zaO ycj ↥1 rfl zaK ↑[(zaw zdE (zbZ rfl (.of (osc:=(zad zfT)) (N:=["book","basket","rows","steps","numbers","weights","many","short"]) (own:=["swap"]) (fvn:=[]) (fv:=[]) rfl rfl ↑5) (za3 (K:=K) rfl ↑51) (λ_ _ _ _ _=>⟨(zak (i:=0) (show (["swap"]:List Str).Nodup by decide+kernel) rfl ⇑0 ↥3),za5,(zaw zdE (pv 0) ↑85)⟩)) (zbf ↑[zaw zdE (pv 1) (zbf ↑[zoZ zlw zah])]))])) (zac (zfe (i:=3) rfl zfy.nd rfl rfl (.of (osc:=(zad zfT)) (N:=["book","basket","rows","steps","numbers","weights","many","short"]) (own:=["row"]) (fvn:=["book"]) (fv:=[0]) rfl rfl ↑5) (za3 (K:=K) rfl (pv 2)) (λ_ _ _ _ _=>⟨(zak (i:=0) (show (["row","book"]:List Str).Nodup by decide +kernel) rfl ⇑0 ↥3),(zrq (zaF zjK (zaO yac ↥1 rfl zaK ↑[pv 0]) (zaU (K:=K) rfl (pv 1) rfl) (zaM _))),(pv 0)⟩)) (zac (zao (i:=4) zfy.nd rfl ⇑0 (zaO ybV ↥1 rfl zaK ↑[pv 3,(zaw zcD ↑51 zah)])) (zac (zao (i:=5) zfy.nd rfl ⇑0 (zdI ↑82 (pv 4) zfC (zdS ↑51))) (zac (zco (zaF zgq ↑182 (zal ↑42 rfl T.len PySem.boot_len ↑[pv 2]) (zaM _)) (zac (zaJ (zgn ↑[zah,zi0 ydE yak ↥1 rfl T.Line ybT .nil zaK ↑[zaO yaT ↥1 rfl zaK ↑[pv 5]]])) zae) zae) (zac (zao (i:=6) zfy.nd rfl ⇑0 (za1 ↑7 (za1 ↑7 (pv 2) (zoZ zlw zah) ⇑3) ↑51 ⇑3)) (zac (zco (zaF zgq (pv 6) zah (zaM _)) (zac (zaJ (zgn ↑[zah,zj4])) zae) zae) (zac (zao (i:=7) zfy.nd rfl ⇑0 (zaO yaT ↥1 rfl zaK ↑[(zaw zdE (zbf ↑[(zaw zbA (za1 ↑7 (pv 4) ↑51 ⇑3) (pv 6))]) (pv 5))])) (zac (zaJ (zgn ↑[pv 6,(zi0 ydD yaG ↥1 rfl T.Rest yaH .nil zaK ↑[(za1 ↑7 (pv 7) zah ⇑3),(zdI ↑82 (pv 7) (zdS zah) zfC)])])) zae))))))))),.inl ?_⟩
 show L2.Run _ ([⇑[zct A.Book P0],⇑[dL ⇑4],.no,.no,.no,.no,.no,.no]:L2.Ctx) _ (↑111 (m_shown P0 P1))
 unfold m_shown
 exact (zam (m:=true) (x:=(za2 (↑221++[(P1++[⇑7])]))) ↑167 ↑111 (zau (x:=(↑221++[(P1++[⇑7])])) (zab (Ev.weak (K:=K) (EvO.ev (zcs (f:=lI) (xs:=↑221) (ys:=[(P1++[⇑7])]) (EvO.ev (EvO.conv (zbW (g:=(λ(x126:Ji)=>dL (List.map dI (x126++[(0:Int)])))) (zbY (m:=false) lI (xs:=P0.swaps) (Ev.weak (K:=K) (zbU ↑2 T.Book_cl T.Book_swaps rfl))) ↥((zlG hp).1) ⇑5 (λi127 x126 hx128=>have v128:=List.mem_of_getElem? hx128;(EvO.ev (EvO.anyI (m:=false) (zcs (f:=dI) (xs:=x126) (ys:=[(0:Int)]) ↑2 ↑75 ↥((zlG hp).2.1 _ ↥0)))))) ↑10)) (EvO.ev (zbV (zab (EvO.ev (EvO.anyI (m:=false) (zcs (f:=dI) (xs:=P1) (ys:=[⇑7]) ↑3 (EvO.ev (zbV (zab (zoI (x:=(1:Int)) zaG) zag) ↑135)) ↥((zlG hp).2.2.1)))) zag) ↑135)) ↥((zlG hp).2.2.2)))) zag) rfl (by show zfz (↑221++[(P1++[⇑7])]);exact zth hp) rfl) (λv129 hv129=>have hR:=hv129;(zam (m:=true) (x:=(List.map (λ(x130:Ji)=>x130) (List.filter (λ(x130:Ji)=>(decide ((zai x130)<P0.many))) v129))) ↑167 ↑111 (EvO.ev (EvO.conv (zop (c:=λ(x130:Ji)=>(decide ((zai x130)<P0.many))) (g:=(λ(x130:Ji)=>dL (List.map dI x130))) (zbY (m:=true) lI (xs:=v129) ↑58) ↥(ztQ hp hR) ⇑5 (λi131 x130 hx132=>have v132:=List.mem_of_getElem? hx132;(zav (zaQ (x:=(zai x130)) (y:=P0.many) (Ev.any (m:=true) (zau (x:=x130) (zab (Ev.old ↑90) zag) rfl (by show zbp x130;exact trivial) rfl)) (Ev.any (m:=false) (zbU ↑3 T.Book_cl T.Book_many rfl))))) (λi131 x130 hx132 hc=>have v132:=List.mem_of_getElem? hx132;↑2)) ↑10)) (λv133 hv133=>have hS:=hv133;(zam (m:=true) (x:=(za8 v133 (P0.many+(1:Int)))) lI ↑111 (zau (x:=(v133,(P0.many+(1:Int)))) (zab (Ev.old ↑18) (zab (zaQ (x:=P0.many) (y:=(1:Int)) ↑156 zaG) zag)) rfl (by show zeW v133 (P0.many+(1:Int));exact ztW hp hR hS) rfl) (λv134 hv134=>have hN:=hv134;(zam (m:=true) (x:=(cutD v134 none (some P0.many))) lI ↑111 (EvO.ev (EvO.anyI (m:=true) (zeN (f:=dI) (xs:=v134) (Ev.weak (K:=K) (zaa (i:=4) rfl)) zex (zc1 ↑156)))) (λv135 hv135=>have hW:=hv135;(zaS (b:=(decide (((v133.length:Nat):Int)=((v129.length:Nat):Int)))) ↑111 (zav (zeZ (x:=((v133.length:Nat):Int)) (y:=((v129.length:Nat):Int)) (zaZ (f:=lI) (xs:=v133) (Ev.old ↑18)) (zaZ (f:=lI) (xs:=v129) ↑84))) (λh136=>(zax (zaj (zaC (zgo (zab zaG (zab (zk0 (i:=(zaP v135)) (zab (Ev.old (Ev.weak (K:=K) (zau (x:=v135) (zab (Ev.old ↑112) zag) rfl (by show zdy v135;exact zrt hp hR hS hN hW ↥0) rfl))) zag) rfl (by show zbD (zaP v135);exact trivial)) zag)) ↑89))))) (λh136=>(zar (zam (m:=true) (x:=(ixD (ixD v129 ⇑7) P0.many)) dI ↑111 (Ev.any (m:=true) (zbP (f:=dI) (xs:=(ixD v129 ⇑7)) (Ev.weak (K:=K) (zbP (f:=lI) (xs:=v129) ↑58 (zoI (x:=(1:Int)) zaG) ↥((zsE hp hR hS ↥0).1))) ↑156 ↥((zsE hp hR hS ↥0).2))) (λv137 hv137=>have hM:=hv137;(zaS (b:=(decide (v137=(1:Int)))) ↑111 (zav (zeZ (x:=v137) (y:=(1:Int)) ↑78 zaG)) (λh138=>(zax (zaj (zaC (zgo (zab zaG ↑27) ↑89))))) (λh138=>(zar (zam (m:=true) (x:=(zaP ([((ixD v134 P0.many)*v137)]++v135))) lI ↑111 (zau (x:=([((ixD v134 P0.many)*v137)]++v135)) (zab (Ev.weak (K:=K) (EvO.ev (EvO.anyI (m:=true) (zcs (f:=dI) (xs:=[((ixD v134 P0.many)*v137)]) (ys:=v135) (EvO.ev (zbV (zab (zaH (x:=(ixD v134 P0.many)) (y:=v137) (Ev.any (m:=true) (zbP (f:=dI) (xs:=v134) (Ev.weak (K:=K) (zaa (i:=4) rfl)) ↑156 ↥(zt5 hp hR hS hN))) ↑78 ↥(zsf hp hR hS hN ↥0 hM)) zag) ↑135)) ↑81 ↥(zt6 hp hR hS hN hW))))) zag) rfl (by show zdy ([((ixD v134 P0.many)*v137)]++v135);exact zrB hp hR hS hN hW ↥0 hM) rfl) (λv139 hv139=>have hQ:=hv139;(zaj (zaC (zgo (zab ↑78 (zab (zk0 (i:=((ixD v139 (0:Int)),(cutD v139 (some (1:Int)) none))) (zab (Ev.any (m:=true) (zbP (f:=dI) (xs:=v139) ↑115 zaG ↥(zuK hQ))) (zab (Ev.weak (K:=K) (EvO.ev (EvO.anyI (m:=true) (zeN (f:=dI) (xs:=v139) ↑115 (zc1 zaG) zex)))) zag)) rfl (by show zc0 (ixD v139 (0:Int)) (cutD v139 (some (1:Int)) none);exact zqf hp hR hS hN hW ↥0 hM ↥0 hQ)) zag)) ↑89)))))))))))))))))))))
theorem zpp {b:BookD} {x:Ji} (h:SnP b x):∃ n:Nat,b.many=(n:Int) ∧
  ((∃ v,m_shown b x=(0,some (Sum.inl ⟨v⟩))∧Lat.Bit 700000 v∧v.length=n∧(∀ s∈b.swaps,Lat.dv v (Lat.vec s)=0)∧Lat.dv v (Lat.vec x)≠0∧∀ d:Int,Lat.SpL b.swaps (λi=>d*Lat.vec x i)->d=0) ∨
  (∃ c:Int,0<c∧c.natAbs≤2^8980∧Lat.SpL b.swaps (λi=>c*Lat.vec x i)∧(∀ d:Int,Lat.SpL b.swaps (λi=>d*Lat.vec x i)->c ∣ d) ∧
   ((c=1∧m_shown b x=(1,none))∨(2≤c∧∃ l r v,RsO n b.swaps x c l r v∧m_shown b x=(c,some (Sum.inr (zjE r v))))))):=by
 obtain ⟨n,s,E,h1,h2,h3,h4,h5,h6,h7,h8,h9,h10,h11⟩:=h.all
 refine ⟨n,h1,?_⟩
 have eR:za2 ↑40=snR b x:=ziB _
 have eS:=zrm (x:=x) (rows:=snR b x) h1 rfl rfl
 have eN:=ztm (b:=b) (x:=x) h1 rfl rfl
 have eW:=ztD (b:=b) (x:=x) h1 rfl rfl
 have hs:m_shown b x=bif decide ((((↑17).length:Nat):Int)=(((snR b x).length:Nat):Int)) then ((0:Int),some (Sum.inl (znL (zaP ((↑79).take n))))) else (bif (decide (ixD (ixD (snR b x) ⇑7) b.many=(1:Int))) then ((1:Int),none) else (ixD (ixD (snR b x) ⇑7) b.many,some (Sum.inr (zjE (ixD (zaP ([ixD ↑79 b.many*ixD (ixD (snR b x) ⇑7) b.many]++(↑79).take n)) (0:Int)) (cutD (zaP ([ixD ↑79 b.many*ixD (ixD (snR b x) ⇑7) b.many]++(↑79).take n)) (some (1:Int)) none))))):=by
  unfold m_shown
  show Let (za2 ↑40) _=_
  rw [eR]
  unfold Let
  dsimp only
  rw [eS,eN,eW]
 rw [hs]
 by_cases q:(↑17).length=(snR b x).length
 ·left
  rw [decide_eq_true (show (((↑17).length:Nat):Int)=(((snR b x).length:Nat):Int) by omega)]
  have e:=ztg h6 q
  obtain ⟨l1,l2,l3⟩:=h6.line e
  obtain ⟨v1,v2,v3,v4⟩:=h6.lv
  have sh:=zoq h6 h8 h9 h11 h3 q
  obtain ⟨d1,d2,d3⟩:=zhj ((↑79).take n)
  have g0:=sh.2.1
  have lb:=(Lat.zmK (ss:=snS n b x) (λt ht=>h7 t (h6.low t ht).1) ↑0).2
  have hsl:(↑17).length≤9:=by omega
  have hb9:=Nat.mul_le_mul hsl (show s+9000≤72028 by omega)
  refine ⟨zaP ((↑79).take n),rfl,λy hy=>?_,by rw [zgN,List.length_map,List.length_take];omega,λs hs=>?_,?_,l3⟩
  ·rw [zgN] at hy
   obtain ⟨z,hz,rfl⟩:=List.mem_map.mp hy
   exact Nat.le_trans (Lat.zhD g0) ((lb.mono ↑0) z (List.mem_of_mem_take hz))
  ·have:=(ziQ d2 (Lat.vec s)).1
   rw [l1 s hs] at this
   rw [zgN]
   rcases Int.mul_eq_zero.mp this with z | z
   ·exact z
   ·omega
  ·intro z
   rw [zgN] at z
   have:=(ziQ d2 (Lat.vec x)).1
   rw [l2,z] at this
   omega
 ·right
  rw [decide_eq_false (show ¬ (((↑17).length:Nat):Int)=(((snR b x).length:Nat):Int) by omega)]
  obtain ⟨t,t1,t2⟩:=zqE h6 q
  have ht:t∈snR b x:=by rw [t2];exact List.mem_append_right _ ↑137
  obtain ⟨r1,r2,r3,r4,r5⟩:=h6.rest t1 t2
  have T:=(h7 t ht).top
  rw [t1] at T
  have hb:=zkZ h8 h9 h11
  rw [t2,Lat.zkJ,t1] at hb
  obtain ⟨v1,v2,v3,v4⟩:=h6.lv
  have e1:ixD (ixD (snR b x) ⇑7) b.many=Lat.vec t n:=by rw [t2,zlg,h1,Lat.zb0]
  have e2:ixD ↑79 b.many=Lat.prh ↑17:=by rw [h1,Lat.zb0,v3]
  rw [e1,e2,cond_false]
  refine ⟨Lat.vec t n,r1,T,r4,r5,?_⟩
  by_cases q1:Lat.vec t n=1
  ·left
   rw [q1,decide_eq_true rfl]
   exact ⟨rfl,rfl⟩
  ·right
   rw [decide_eq_false q1,cond_false]
   obtain ⟨r,v,z⟩:=zsB h6 t1 t2 hb h3
   refine ⟨by omega,_,r,v,z,?_⟩
   rw [z.er,z.ev]
theorem zoy {b:BookD} {s:Ji} (h:SnP b s):(m_shown b s).2.isSome=true ↔ ¬ Lat.SpL b.swaps (Lat.vec s):=by
 obtain ⟨n,n1,n2⟩:=zpp h
 rcases n2 with ⟨v,e,z1,z2,z3,z4,z5⟩ | ⟨c,c1,c2,c3,c4,c5⟩
 ·rw [e]
  refine ⟨λ_ hs=>?_,λ_=>rfl⟩
  have:=z5 1 (hs.conv λi=>by omega)
  omega
 ·rcases c5 with ⟨q,e⟩ | ⟨q,l,r,v,z,e⟩
  ·rw [e]
   exact ⟨(λk=>by cases k),(λk=>absurd (c3.conv λi=>by rw [q];omega) k)⟩
  ·rw [e]
   refine ⟨λ_ hs=>?_,λ_=>rfl⟩
   have:=c4 1 (hs.conv λi=>by omega)
   have:=Int.le_of_dvd ⇑1 this
   omega
def zeu (P0:BookD) (P1:BookD) (P2:Jq):Unit:=()
def zbl (P0:BookD) (P1:BookD) (P2:Jq):Prop:=(P2.length:Int)=P0.many∧∀ r∈P2,(r.length:Int)=P1.many
def zcV (K:W.Frag) (A:Adr):Sp:=Spv (ι:=BookD×BookD×Jq) (λx=>[zct A.Book x.1,zct A.Book x.2.1,dQ K (List.map lI x.2.2)]) (λx=>zbl x.1 x.2.1 x.2.2) (λx=>↥[dN])
theorem zel:FnScope ["first","second","baskets","basket"] ["first","second","baskets"] (zad zbe):=↥4
theorem zf1 (F:Fun K "refuse_bad_baskets" "refuse_bad_baskets" zbe f fd) (T:Txt K mg A) :FnOk P w K mg base ↑1 1 f fd ["first","second","baskets"] (zcV K A):=by
 refine F.okV zel ↑4 ↥7
 obtain ⟨P0,P1,P2⟩:=x
 have hu:=hr.units
 replace hp:zbl P0 P1 P2:=hp
 unfold zbl at hp
 refine ⟨_,(zac (zco (zaF zfD (zal ↑42 rfl T.len PySem.boot_len ↑[pv 2]) ↑51 (zaM _)) (zac zeC zae) zae) (zac (zch PassesOwn.never rfl (za3 (K:=K) rfl (pv 2)) (zak (i:=3) zel.nd rfl ⇑0 ⇑0) (zac (zco (zaF zfD ↑182 (zaU (K:=K) rfl (pv 1) rfl) (zaM _)) (zac zeC zae) zae) zae)) zae)),.inr ⟨_,([⇑[zct A.Book P0],⇑[zct A.Book P1],⇑[dQ K (List.map lI P2)],.no]:L2.Ctx),rfl,?_⟩⟩
 show L2.Run _ ([⇑[zct A.Book P0],⇑[zct A.Book P1],⇑[dQ K (List.map lI P2)],.no]:L2.Ctx) _ _
 exact (zca (EvT.conv (zav (zdH (x:=((P2.length:Nat):Int)) (y:=P0.many) (zaZ (f:=lI) (xs:=P2) ↑19) ↑156)) ↥(zoz hp.1)) (zar (zjZ (s0:=()) (λ(s141:Unit)=>([⇑[zct A.Book P0],⇑[zct A.Book P1],⇑[dQ K (List.map lI P2)],.no]:L2.Ctx)) (λ(s141:Unit) (x142:Ji)=>()) (λ_ _=>True) (zbY (m:=false) lI (xs:=P2) ↑19) (.eq ↑114) trivial (λi143 x142 s141 hx144 hI145=>have v144:=List.mem_of_getElem? hx144;⟨trivial,(zca (EvT.conv (zav (zdH (x:=((x142.length:Nat):Int)) (y:=P1.many) (zaZ (f:=dI) (xs:=x142) ↑18) (Ev.any (m:=false) (zbU ↑3 T.Book_cl T.Book_many rfl)))) ↥(zoz (hp.2 _ (List.mem_of_getElem? ↥0)))) (zar (zap (.eq ↑171))))⟩) ↑122)))
def SeX (S:SenderD) (x:Ji):Prop:=∃ W2:Nat,S.second.many=(W2:Int)∧W2≤8∧(∀ r∈S.baskets,r.length=W2)∧∀ p∈List.zip S.baskets x,∀ y∈p.1,zdK y p.2
def SeP (S:SenderD) (x:Ji):Prop:=(x.length:Int)=S.first.many∧SeX S x
section
variable {S:SenderD} {x s r:Ji} {i:Nat} {p:Ji×Int}
theorem zvf (h:SeX S x):-(2^63)≤S.second.many∧S.second.many<2^63:=by obtain ⟨W,h1,h2,_⟩:=h;omega
theorem ztw (h:SeX S x):([(0:Int)]).length*S.second.many.toNat≤PySem.sizeLine:=by obtain ⟨W,h1,h2,_⟩:=h;exact zan ↑189
theorem zuZ (h:SeX S x) (hx:((List.zip S.baskets x))[i]?=some p):zbH p.1 p.2:=by
 obtain ⟨W,h1,h2,h3,h4⟩:=h
 exact ⟨by rw [h3 _ (List.mem_of_getElem? (zbL hx).1)];omega,h4 _ (List.mem_of_getElem? hx)⟩
theorem zpZ (h:SeX S x) (hx:((List.zip S.baskets x))[i]?=some p) (hs:(s.length:Int)=S.second.many):s.length=((zas p.1 p.2)).length∧s.length≤1000:=by
 obtain ⟨W,h1,h2,h3,h4⟩:=h
 have e:((zas p.1 p.2)).length=p.1.length:=Lat.zbt
 rw [e,h3 _ (List.mem_of_getElem? (zbL hx).1)]
 omega
theorem zvg (h:SeX S x) (hx:((List.zip S.baskets x))[i]?=some p) (hs:(s.length:Int)=S.second.many):zeY s (zas p.1 p.2):=zpZ h hx hs
theorem zuX (h:SeX S x) (hR:r=zd8 S.second.many [(0:Int)]):(r.length:Int)=S.second.many:=by
 obtain ⟨W,h1,h2,h3,h4⟩:=h
 rw [hR,h1,Lat.zer]
theorem zve (h:SeX S x) (hx:((List.zip S.baskets x))[i]?=some p) (hs:(s.length:Int)=S.second.many):((Let (zet s (zas p.1 p.2)) (λ(y:Ji)=>y)).length:Int)=S.second.many:=by
 have e:(zet s (zas p.1 p.2)).length=s.length:=Lat.zkH (zpZ h hx hs).1
 unfold Let
 rw [e];exact hs
end
def m_Sender_sent (P0:SenderD) (P1:Ji):Ji :=
 (Let (zd8 P0.second.many [(0:Int)]) (λ(v148:Ji)=>(Let (List.foldl (λ(s149:Ji) (x150:(Ji×Int))=>(Let (zet s149 (zas x150.1 x150.2)) (λ(v154:Ji)=>v154))) v148 (List.zip P0.baskets P1)) (λ(r155:Ji)=>r155))))
def zcl (P0:SenderD) (P1:Ji):Prop:=SeP P0 P1
def zd7 (K:W.Frag) (A:Adr):Sp:=Spv (ι:=SenderD×Ji) (λx=>[zbX A A.Sender x.1,dQ K ↑70]) (λx=>zcl x.1 x.2) (λx=>↥[dL (List.map dI (m_Sender_sent x.1 x.2))])
theorem zbb:FnScope ["self","basket","reached","image","many"] ["self","basket"] (zad zcu):=↥4
theorem ziv (F:Fun K "sent" "Sender.sent" zcu f fd) (T:Txt K mg A) (yaD:Callee P w K mg base ↑1 2 "plus" ↥9 (zif K A)) (yas:Callee P w K mg base ↑1 1 "refuse_bad_basket" ["book","basket"] (zc8 K A)) (yad:Callee P w K mg base ↑1 1 "times" ["some","many"] (ze3 K A)):FnOk P w K mg base ↑1 3 f fd ["self","basket"] (zd7 K A):=by
 refine F.okV zbb ↑4 ↥7
 obtain ⟨P0,P1⟩:=x
 have hu:=hr.units
 replace hp:zcl P0 P1:=hp
 unfold zcl at hp
 refine ⟨_,(zac (zcR (zaO yas ↥1 rfl zaK ↑[↑51,pv 1])) (zac (zao (i:=2) zbb.nd rfl ⇑0 (zaw zik ↑85 (zaU (K:=K) rfl ↑51 rfl))) (zac (zch PassesOwn.never rfl (zb8 (K:=K) rfl rfl T.zip ↑[↑51,pv 1]) (zba (K:=K) (n:=2) rfl rfl (zay (zak (i:=3) zbb.nd rfl ⇑0 ⇑0) (zay (zak (i:=4) zbb.nd rfl ⇑0 ⇑0) zbE))) (zac (zao (i:=2) zbb.nd rfl ⇑0 (zaO yaD ↥1 rfl zaK ↑[pv 2,zaO yad ↥1 rfl zaK ↑[pv 3,pv 4]])) zae)) (zac (zaJ (pv 2)) zae)))),.inl ?_⟩
 show L2.Run _ ([⇑[zbX A A.Sender P0],⇑[dQ K ⇑4],.no,.no,.no]:L2.Ctx) _ (↑23 (m_Sender_sent P0 P1))
 unfold m_Sender_sent
 exact (zgY (m:=true) (Ev.any (m:=true) (zau (x:=(P0.first,P1)) (zab (zbU ↑2 T.Sender_cl T.Sender_first rfl) (zab ↑3 zag)) rfl (by show zcb P0.first P1;exact hp.1) rfl)) (zam (m:=true) (x:=(zd8 P0.second.many [(0:Int)])) lI ↑23 (EvO.ev (zgD (f:=dI) (xs:=[(0:Int)]) (n:=P0.second.many) ↑75 (Ev.any (m:=false) (zbU (zbU ↑2 T.Sender_cl T.Sender_second rfl) T.Book_cl T.Book_many rfl)) ↥(zvf hp.2) ↥(ztw hp.2))) (λv148 hv148=>have hR:=hv148;(zbh (s0:=v148) (λ(s149:Ji)=>([⇑[zbX A A.Sender P0],⇑[dQ K ⇑4],↥[dL (List.map dI s149)],.no,.no]:L2.Ctx)) ↑23 (λ(s149:Ji) (x150:(Ji×Int))=>(Let (zet s149 (zas x150.1 x150.2)) (λ(v154:Ji)=>v154))) (λ(i:Nat) (s149:Ji)=>(s149.length:Int)=P0.second.many) (zen (m:=false) lI dI (xs:=P0.baskets) (ys:=P1) (Ev.weak (K:=K) (zbU ↑2 T.Sender_cl T.Sender_baskets rfl)) ↑3) ↑41 ↥(zuX hp.2 hR) (λi151 x150 s149 hx152 hI153=>have v152:=zbL hx152;⟨↥(zve hp.2 ↥0 ↥0),(zam (m:=true) (x:=(zet s149 (zas x150.1 x150.2))) lI (λz=>Oc.nx ((λ(s149:Ji)=>([⇑[zbX A A.Sender P0],⇑[dQ K ⇑4],↥[dL (List.map dI s149)],.no,.no]:L2.Ctx)) z)) (EvO.ev (EvO.anyI (m:=true) (zb5 (x:=(s149,(zas x150.1 x150.2))) (zab ↑84 (zab (Ev.weak (K:=K) (EvO.ev (EvO.anyI (m:=true) (zb5 (x:=(x150.1,x150.2)) (zab ↑18 (zab ↑62 zag)) rfl (by show zbH x150.1 x150.2;exact zuZ hp.2 ↥0) rfl)))) zag)) rfl (by show zeY s149 (zas x150.1 x150.2);exact zvg hp.2 ↥0 ↥0) rfl))) (λv154 hv154=>have hR:=hv154;(zap (.eq (.eq (.eq ↑46))))))⟩) (λr155 hr155 hI=>(zaj (zaC ↑19)))))))
def zbc (P0:SenderD) (P1:Ji):Except Xn Ji :=
 (zrK (zbR P0.first P1) (λ_=>(Let (zd8 P0.second.many [(0:Int)]) (λ(v156:Ji)=>(Let (List.foldl (λ(s157:Ji) (x158:(Ji×Int))=>(Let (zet s157 (zas x158.1 x158.2)) (λ(v162:Ji)=>v162))) v156 (List.zip P0.baskets P1)) (λ(r163:Ji)=>(Except.ok r163)))))))
def zdd (P0:SenderD) (P1:Ji):Prop:=SeX P0 P1
def zeS (K:W.Frag) (A:Adr):Sp:=Spv (ι:=SenderD×Ji) (λx=>[zbX A A.Sender x.1,dQ K ↑70]) (λx=>zdd x.1 x.2) (λx=>zq1 A.xc true lI (zbc x.1 x.2))
theorem zhU (F:Fun K "sent" "Sender.sent" zcu f fd) (T:Txt K mg A) (yaD:Callee P w K mg base ↑1 2 "plus" ↥9 (zif K A)) (yad:Callee P w K mg base ↑1 1 "times" ["some","many"] (ze3 K A)) (yal:Callee P w K mg base ↑1 1 "refuse_bad_basket" ["book","basket"] (zcL K A)):FnOk P w K mg base ↑1 3 f fd ["self","basket"] (zeS K A):=by
 refine F.okVX zbb ↑4 (λcdv Ar outer s H E x hr hp O=> ?_)
 obtain ⟨P0,P1⟩:=x
 have hu:=hr.units
 replace hp:zdd P0 P1:=hp
 unfold zdd at hp
 refine ⟨_,(zeR (zqd (zuG O yal ↥1 rfl ↑[↑51,pv 1])) (zeR (zhe (zao (i:=2) zbb.nd rfl ⇑0 (zaw zik ↑85 (zaU (K:=K) rfl ↑51 rfl)))) (zeR (zhe (zch PassesOwn.never rfl (zb8 (K:=K) rfl rfl T.zip ↑[↑51,pv 1]) (zba (K:=K) (n:=2) rfl rfl (zay (zak (i:=3) zbb.nd rfl ⇑0 ⇑0) (zay (zak (i:=4) zbb.nd rfl ⇑0 ⇑0) zbE))) (zac (zao (i:=2) zbb.nd rfl ⇑0 (zaO yaD ↥1 rfl zaK ↑[pv 2,zaO yad ↥1 rfl zaK ↑[pv 3,pv 4]])) zae))) (zeR (zhe (zaJ (pv 2))) ziL)))),.inl ?_⟩
 show L2.Run _ ([⇑[zbX A A.Sender P0],⇑[dQ K ⇑4],.no,.no,.no]:L2.Ctx) _ (zs9 5 (zq1 A.xc true lI (zbc P0 P1)))
 rw [znk]
 show L2.Run _ _ _ ((foX A.xc ([.no,.no,.no,.no,.no]:L2.Ctx) ↑23) (zbc P0 P1))
 unfold zbc
 exact (zm9 ↑23 (P0.first,P1) (zab (zbU ↑2 T.Sender_cl T.Sender_first rfl) (zab ↑3 zag)) rfl (by show zbT P0.first P1;exact trivial) rfl (.no (.no ↑114)) (λv164 hv164=>(zam (m:=true) (x:=(zd8 P0.second.many [(0:Int)])) lI (foX A.xc ([.no,.no,.no,.no,.no]:L2.Ctx) ↑23) (EvO.ev (zgD (f:=dI) (xs:=[(0:Int)]) (n:=P0.second.many) ↑75 (Ev.any (m:=false) (zbU (zbU ↑2 T.Sender_cl T.Sender_second rfl) T.Book_cl T.Book_many rfl)) ↥(zvf hp) ↥(ztw hp))) (λv156 hv156=>have hR:=hv156;(zbh (s0:=v156) (λ(s157:Ji)=>([⇑[zbX A A.Sender P0],⇑[dQ K ⇑4],↥[dL (List.map dI s157)],.no,.no]:L2.Ctx)) (foX A.xc ([.no,.no,.no,.no,.no]:L2.Ctx) ↑23) (λ(s157:Ji) (x158:(Ji×Int))=>(Let (zet s157 (zas x158.1 x158.2)) (λ(v162:Ji)=>v162))) (λ(i:Nat) (s157:Ji)=>(s157.length:Int)=P0.second.many) (zen (m:=false) lI dI (xs:=P0.baskets) (ys:=P1) (Ev.weak (K:=K) (zbU ↑2 T.Sender_cl T.Sender_baskets rfl)) ↑3) ↑41 ↥(zuX hp hR) (λi159 x158 s157 hx160 hI161=>have v160:=zbL hx160;⟨↥(zve hp ↥0 ↥0),(zam (m:=true) (x:=(zet s157 (zas x158.1 x158.2))) lI (λz=>Oc.nx ((λ(s157:Ji)=>([⇑[zbX A A.Sender P0],⇑[dQ K ⇑4],↥[dL (List.map dI s157)],.no,.no]:L2.Ctx)) z)) (EvO.ev (EvO.anyI (m:=true) (zb5 (x:=(s157,(zas x158.1 x158.2))) (zab ↑84 (zab (Ev.weak (K:=K) (EvO.ev (EvO.anyI (m:=true) (zb5 (x:=(x158.1,x158.2)) (zab ↑18 (zab ↑62 zag)) rfl (by show zbH x158.1 x158.2;exact zuZ hp ↥0) rfl)))) zag)) rfl (by show zeY s157 (zas x158.1 x158.2);exact zvg hp ↥0 ↥0) rfl))) (λv162 hv162=>have hR:=hv162;(zap (.eq (.eq (.eq ↑46))))))⟩) (λr163 hr163 hI=>(zaj (zaC ↑19))))))))
theorem zmU (S:SenderD) (x:Ji):zbc S x=if (x.length:Int)=S.first.many then .ok (m_Sender_sent S x) else .error .BadBasket:=by
 unfold zbc zbR zrK
 by_cases h:(x.length:Int)=S.first.many
 ·rw [if_pos h,zoz h];rfl
 ·have:(!decide (((x.length:Nat):Int)=S.first.many))=true:=by simp [h]
  rw [if_neg h,this];rfl
theorem zkz {S:SenderD} {x:Ji} {W1 W2:Nat} (h:S.second.many=(W2:Int)) (hb:∀ r∈S.baskets,r.length=W2) (hl:S.baskets.length=W1) (hx:x.length=W1):(m_Sender_sent S x).length=W2∧∀ i,Lat.vec (m_Sender_sent S x) i=Lat.lsum ((List.range W1).map λ(w:Nat)=>Lat.vec x w*Lat.vec (ixD S.baskets (w:Int)) i):=by
 have k:=Lat.zgg (W:=W2) (F:=λ(s:Ji) (p:Ji×Int)=>zet s (zas p.1 p.2)) (c:=λp i=>Lat.vec p.1 i*p.2) (List.zip S.baskets x) (zd8 S.second.many [(0:Int)]) (by rw [h,Lat.zer]) λs p hp hs=>by
  have hq:=hb _ (↑205).1
  have e:((zas p.1 p.2)).length=p.1.length:=Lat.zbt
  have e1:s.length=((zas p.1 p.2)).length:=by omega
  exact ⟨(Lat.zkH (s:=zas p.1 p.2) e1).trans hs,λi=>(Lat.zkG e1).trans (by rw [show Lat.vec (zas p.1 p.2) i=Lat.vec p.1 i*p.2 from Lat.zdT])⟩
 refine ⟨k.1,λi=>(k.2 i).trans ?_⟩
 rw [h,Lat.zgv,Int.zero_add,Lat.zjM hl hx,List.map_map]
 exact Lat.zds λw _=>by
  show Lat.vec (ixD S.baskets (w:Int)) i*ixD x (w:Int)=_
  rw [Lat.zb0,Int.mul_comm]
def SiP (a b:BookD) (bs:Jq):Prop:=zbl a b bs∧bs.length≤1000∧∀ s∈a.swaps,SeP ⟨a,b,bs⟩ s∧SnP b (m_Sender_sent ⟨a,b,bs⟩ s)∧Lat.SpL b.swaps (Lat.vec (m_Sender_sent ⟨a,b,bs⟩ s))
section
variable {a b:BookD} {bs:Jq} {i:Nat} {p:Int×Ji}
theorem zvm (h:SiP a b bs):bs.length≤PySem.sizeLine:=zan (by have:=h.2.1;omega)
theorem zuu (q:i<a.swaps.length∧p.1=(i:Int)∧a.swaps[i]?=some p.2):p.2∈a.swaps:=List.mem_of_getElem? q.2.2
theorem zvH (h:SiP a b bs) (q:i<a.swaps.length∧p.1=(i:Int)∧a.swaps[i]?=some p.2):SeP ⟨a,b,List.map ↑37 bs⟩ p.2:=by rw [zb6];exact (h.2.2 _ (zuu q)).1
theorem zvy (h:SiP a b bs) (q:i<a.swaps.length∧p.1=(i:Int)∧a.swaps[i]?=some p.2):SnP b (m_Sender_sent ⟨a,b,List.map ↑37 bs⟩ p.2):=by rw [zb6];exact (h.2.2 _ (zuu q)).2.1
theorem zvj {c:Option (LineD⊕RestD)} (h:SiP a b bs) (q:i<a.swaps.length∧p.1=(i:Int)∧a.swaps[i]?=some p.2) (hC:c=(m_shown b (m_Sender_sent ⟨a,b,List.map ↑37 bs⟩ p.2)).2):c.isSome=false:=by
 rw [zb6] at hC
 have k:=h.2.2 _ (zuu q)
 rw [hC]
 cases e:(m_shown b (m_Sender_sent ⟨a,b,bs⟩ p.2)).2.isSome with
 | false=>rfl
 | true=>exact absurd k.2.2 ((zoy k.2.1).mp e)
end
def m_Sender (P0:BookD) (P1:BookD) (P2:Jq):SenderD:=⟨P0,P1,↑159⟩
def zcA (P0:BookD) (P1:BookD) (P2:Jq):Prop:=SiP P0 P1 P2
def zeX (K:W.Frag) (A:Adr):Sp:=zu0 (ι:=BookD×BookD×Jq) A.Sender "first" "second" "baskets" (λx=>zct A.Book x.1) (λx=>zct A.Book x.2.1) (λx=>dQ K (List.map lI x.2.2)) (λx=>zcA x.1 x.2.1 x.2.2) (λx=>dL (List.map lI ((m_Sender x.1 x.2.1 x.2.2).baskets)))
theorem zcK:FnScope ["self","first","second","baskets","place","swap","scale"] ["self","first","second","baskets"] (zad zbm):=↥4
theorem zgV (F:Fun K "__init__" "Sender.__init__" zbm f fd) (T:Txt K mg A) (yah:CalleeM P w K mg base ↑1 3 A.Sender "sent" ["self","basket"] (zd7 K A)) (yam:Callee P w K mg base ↑1 1 "refuse_bad_baskets" ["first","second","baskets"] (zcV K A)) (yc0:Callee P w K mg base ↑1 6 "shown" ["book","basket"] (zje K A)):FnOk P w K mg base ↑1 7 f fd ["self","first","second","baskets"] (zeX K A):=by
 refine F.okI (ι:=V×V×BookD×BookD×Jq) zcK ↑4 ↥7
 obtain ⟨v1,v2,P0,P1,P2⟩:=x
 have hu:=hr.units
 replace hp:zcA P0 P1 P2:=hp
 unfold zcA at hp
 refine ⟨_,(zac (zcR (zaO yam ↥1 rfl zaK ↑[pv 1,pv 2,pv 3])) (zac (zhs (pv 0) (pv 1) rfl) (zac (zhs (pv 0) (pv 2) rfl) (zac (zhs (pv 0) (zbZ rfl (.of (osc:=(zad zbm)) (N:=["self","first","second","baskets","place","swap","scale"]) (own:=["basket"]) (fvn:=[]) (fv:=[]) rfl rfl ↑5) (za3 (K:=K) rfl (pv 3)) (λ_ _ _ _ _=>⟨(zak (i:=0) (show (["basket"]:List Str).Nodup by decide +kernel) rfl ⇑0 ↥3),za5,↑154⟩)) rfl) (zac (zch PassesOwn.never rfl (zjb rfl rfl T.enumerate ↑[(zaU (K:=K) rfl (pv 1) rfl)]) (zba (K:=K) (n:=2) rfl rfl (zay (zak (i:=4) zcK.nd rfl ⇑0 ⇑0) (zay (zak (i:=5) zcK.nd rfl ⇑0 ⇑0) zbE))) (zac (zao (i:=6) zcK.nd rfl ⇑0 (za1 ↑49 (zaO yc0 ↥1 rfl zaK ↑[pv 2,zmA (pv 0) T.Sender_cl yah ↥1 zaK ↑[pv 5]]) zah ⇑3)) (zac (zco (zaF zmW (pv 6) zj4 (zaM _)) (zac zeC zae) zae) zae))) zae))))),λp dx=>⟨([.ob true A.Sender p dx [("first",dV v1),("second",dV v2),("baskets",dL (List.map lI ↑159))],⇑[dX (v1) (zct A.Book P0)],⇑[dX (v2) (zct A.Book P1)],⇑[dQ K (List.map lI P2)],.no,.no,.no]:L2.Ctx),?_,rfl⟩⟩
 show L2.Run _ ([.ob true A.Sender p dx [],⇑[dX (v1) (zct A.Book P0)],⇑[dX (v2) (zct A.Book P1)],⇑[dQ K (List.map lI P2)],.no,.no,.no]:L2.Ctx) _ _
 exact (zgY (m:=true) (Ev.any (m:=true) (zau (x:=(P0,P1,P2)) (zab (zjg (i:=1) rfl) (zab (zjg (i:=2) rfl) (zab ↑29 zag))) rfl (by show zbl P0 P1 P2;exact hp.1) rfl)) (ze1 (i:=0) rfl (zm7 (i:=1) rfl) T.Sender_cl T.Sender_first [] rfl ↑5 ⇑1 (ze1 (i:=0) rfl (zm7 (i:=2) rfl) T.Sender_cl T.Sender_second ["first"] rfl ↑5 ⇑1 (ze1 (i:=0) rfl (EvO.ev (EvO.conv (zbW (g:=(λ(x165:Ji)=>dL (List.map dI x165))) (zbY (m:=false) lI (xs:=P2) ↑29) ↥(zvm hp) ⇑5 (λi166 x165 hx167=>have v167:=List.mem_of_getElem? hx167;↑249)) ↑10)) T.Sender_cl T.Sender_baskets ["first","second"] rfl ↑5 ⇑1 (zjZ (s0:=()) (λ(s168:Unit)=>([.ob true A.Sender p dx [("first",dV v1),("second",dV v2),("baskets",dL (List.map lI ↑159))],⇑[dX (v1) (zct A.Book P0)],⇑[dX (v2) (zct A.Book P1)],⇑[dQ K (List.map lI P2)],.no,.no,.no]:L2.Ctx)) (λ(s168:Unit) (x169:(Int×Ji))=>(Let ((m_shown P1 ↑247).2) (λ(v173:(Option (LineD⊕RestD)))=>()))) (λ_ _=>True) (zjs (m:=false) lI (xs:=P0.swaps) (Ev.weak (K:=K) (zbU (zjg (i:=1) rfl) T.Book_cl T.Book_swaps rfl))) ↑28 trivial (λi170 x169 s168 hx171 hI172=>have v171:=zfo hx171;⟨trivial,(zam (m:=true) (x:=(m_shown P1 ↑247).2) (kk:=λ(v173:(Option (LineD⊕RestD)))=>()) (dOpt (dSc A)) (λz=>Oc.nx ((λ(s168:Unit)=>([.ob true A.Sender p dx [("first",dV v1),("second",dV v2),("baskets",dL (List.map lI ↑159))],⇑[dX (v1) (zct A.Book P0)],⇑[dX (v2) (zct A.Book P1)],⇑[dQ K (List.map lI P2)],.no,.no,.no]:L2.Ctx)) z)) (EvN.ev (EvN.borrowBX (i:=0) (i1:=1) (i2:=2) rfl rfl ⇑1 ⇑1 rfl rfl (zjR (zbw (zau (x:=(P1,↑247)) (zab (zjg (i:=2) rfl) (zab (Ev.old (zkR (x:=((⟨P0,P1,↑159⟩:SenderD),x169.2)) ↑2 (zab ↑112 zag) rfl (by show zcl (⟨P0,P1,↑159⟩:SenderD) x169.2;exact zvH hp ↥0) rfl rfl)) zag)) rfl (by show zgM P1 ↑247;exact zvy hp ↥0) rfl) zaG rfl)))) (λv173 hv173=>have hC:=hv173;(zca (EvT.conv (zav (zht (x:=v173) (f:=(dSc A)) (Ev.old ↑72) zaG zvE)) ↥(zvj hp ↥0 hC)) (zar (zap (.eq (.eq (.eq (.eq (.no ↑46))))))))))⟩) ↑122)))))
def zcd (P0:Int):Bool :=
 (true&&(!false))
def zey (P0:Int):Prop:=True
def zf0 (K:W.Frag) (A:Adr):Sp:=Spv (ι:=Int) (λx=>[dI x]) (λx=>zey x) (λx=>↥[dB (zcd x)])
theorem zjW:FnScope ["_law_found"] ["_law_found"] (zad zdX):=↥4
theorem zkf (F:Fun K "_law_whole" "_law_whole" zdX f fd) (T:Txt K mg A) :FnOk P w K mg base ↑1 1 f fd ["_law_found"] (zf0 K A):=by
 refine F.okV zjW ↑4 ↑63
 have hu:=hr.units
 replace hp:zey P0:=hp
 unfold zey at hp
 refine ⟨_,(zac (zaJ (zmF (zal ↑15 rfl T.isinstance PyProof.Rows.boot_isinstance ↑[pv 0,(zin rfl T.int (v:=.ty "int") (u:=.type "int") ↑5 rfl)]) (znp (zr4 (zal ↑15 rfl T.isinstance PyProof.Rows.boot_isinstance ↑[pv 0,(zin rfl T.bool (v:=.ty "bool") (u:=.type "bool") ↑5 rfl)]))))) zae),.inl ?_⟩
 show L2.Run _ ([⇑[dI P0]]:L2.Ctx) _ (↥8 (zcd P0))
 unfold zcd
 exact (zaj (zaC (znb (b:=true) (zmX (λ_=>TyOf.int _) ↑9 T.kit_int_int) (λhb=>(ztb (zmX (λ_=>TyOf.int _) ↑9 T.kit_int_bool))))))
def zbq (P0:Ji) (P1:Ji):Bool :=
 (bif ((!true)||(!decide (↑31=↑118))) then false else ((((List.map (λ(x177:Int)=>(zcd x177)) P0)).all id)&&(decide (P0=P1))))
def zdm (P0:Ji) (P1:Ji):Prop:=P0.length≤1000
def zfH (K:W.Frag) (A:Adr):Sp:=Spv (ι:=Ji×Ji) (λx=>[dL (List.map dI x.1),dQ K ↑70]) (λx=>zdm x.1 x.2) (λx=>↥[dB (zbq x.1 x.2)])
theorem zkT:FnScope ["_law_found","_law_due"] ["_law_found","_law_due"] (zad zdO):=↥4
theorem zk2 (F:Fun K "_law_same" "_law_same" zdO f fd) (T:Txt K mg A) (ybF:Callee P w K mg base ↑1 1 "_law_whole" ["_law_found"] (zf0 K A)):FnOk P w K mg base ↑1 2 f fd ["_law_found","_law_due"] (zfH K A):=by
 refine F.okV zkT ↑4 ↥7
 obtain ⟨P0,P1⟩:=x
 have hu:=hr.units
 replace hp:zdm P0 P1:=hp
 unfold zdm at hp
 refine ⟨_,(zac (zco (PW.pt (zkV (zjQ (zj0 (zal ↑15 rfl T.isinstance PyProof.Rows.boot_isinstance ↑[pv 0,(zin rfl T.list (v:= .ty "list") (u:= .type "list") ↑5 rfl)]))) (zhV (zaF zfD ↑180 ↑181 (zaM _))))) ↑80 zae) (zac (zaJ (zmF (zal (ziR (K:=K) rfl rfl) rfl T.all PyProof.Rows.boot_all ↑[(zbZ rfl (.of (osc:=(zad zdO)) (N:=["_law_found","_law_due"]) (own:=["_law_one"]) (fvn:=[]) (fv:=[]) rfl rfl ↑5) (za3 (K:=K) rfl (pv 0)) (λ_ _ _ _ _=>⟨(zak (i:=0) (show (["_law_one"]:List Str).Nodup by decide +kernel) rfl ⇑0 ↥3),za5,(zaO ybF ↥1 rfl zaK ↑[pv 0])⟩))]) (znp (zid (znz (K:=K) rfl hu) (pv 0) (pv 1) (zaM _))))) zae)),.inl ?_⟩
 show L2.Run _ ([⇑[dL ↑8],⇑[dQ K ⇑4]]:L2.Ctx) _ (↥8 (zbq P0 P1))
 unfold zbq
 exact (zaS (b:=((!true)||(!decide (↑31=↑118)))) ↥8 (zhS (b:=(!true)) (zh0 (zh6 (zmT ↑2 T.kit_list_list))) (λhb=>(zav (zdH (x:=↑31) (y:=↑118) (zaZ (f:=dI) (xs:=P0) ↑90) (zaZ (f:=dI) (xs:=P1) ↑3))))) (λh176=>↑92) (λh176=>(zar (zaj (zaC (znb (b:=(((List.map (λ(x177:Int)=>(zcd x177)) P0)).all id)) (zpY (xs:=(List.map (λ(x177:Int)=>(zcd x177)) P0)) (Ev.weak (K:=K) (EvO.ev (EvO.conv (zbW (g:=(λ(x177:Int)=>dB (zcd x177))) (zbY (m:=false) dI (xs:=P0) ↑90) ↥(zan ↑0) ⇑5 (λi178 x177 hx179=>have v179:=List.mem_of_getElem? hx179;(Ev.any (m:=true) (zau (x:=x177) (zab ↑9 zag) rfl (by show zey x177;exact trivial) rfl)))) ↑10)))) (λhb=>(ziO (n:=0) (neg:=false) (xs:=P0) (ys:=P1) EqD.int ↑90 ↑3))))))))
def zcT (P0:(Option Xn)):(List Bool) :=
 (Let [(zdJ zeh P0),(zdJ zef P0),(zdJ zeO P0)] (λ(v180:(List Bool))=>(Let (v180++[(zdJ zdY P0),(zdJ zcY P0),(zdJ zdP P0)]) (λ(v181:(List Bool))=>(Let (v181++[(zdJ zd1 P0),(zdJ zdt P0),(zdJ zd2 P0)]) (λ(v182:(List Bool))=>(Let (v182++[(zdJ zdv P0),(zdJ zcH P0),(zdJ zcF P0)]) (λ(v183:(List Bool))=>(Let (v183++[(zdJ zd4 P0),(zdJ zc2 P0),(zdJ zeJ P0)]) (λ(v184:(List Bool))=>(Let (v184++[(zdJ zdo P0),(zdJ zeD P0),(zdJ zeI P0)]) (λ(v185:(List Bool))=>(v185++[(zdJ zfs P0)])))))))))))))
def zeA (P0:(Option Xn)):Prop:=True
def zf2 (K:W.Frag) (A:Adr):Sp:=Spv (ι:=(Option Xn)) (λx=>[dOpt ↑121 x]) (λx=>zeA x) (λx=>.ow true (List.map dB (zcT x)))
theorem zcQ:FnScope ["_law_caught","_law_flags_here"] ["_law_caught"] (zad zdV):=↥4
theorem zjH (F:Fun K "_law_flags" "_law_flags" zdV f fd) (T:Txt K mg A) :FnOk P w K mg base ↑1 1 f fd ["_law_caught"] (zf2 K A):=by
 refine F.okV zcQ ↑4 ↑63
 have hu:=hr.units
 replace hp:zeA P0:=hp
 unfold zeA at hp
 refine ⟨_,(zac (zao (i:=1) zcQ.nd rfl ⇑0 (zbf ↑[(zal ↑15 rfl T.isinstance PyProof.Rows.boot_isinstance ↑[pv 0,(zb1 (v:=.ref A.k_NotAlike) rfl T.k_NotAlike rfl)]),(zal ↑15 rfl T.isinstance PyProof.Rows.boot_isinstance ↑[pv 0,(zb1 (v:=.ref A.k_BadWares) rfl T.k_BadWares rfl)]),(zal ↑15 rfl T.isinstance PyProof.Rows.boot_isinstance ↑[pv 0,(zb1 (v:=.ref A.k_TooMany) rfl T.k_TooMany rfl)])])) (zac (zao (i:=1) zcQ.nd rfl ⇑0 (zaw zdE (pv 1) (zbf ↑[(zal ↑15 rfl T.isinstance PyProof.Rows.boot_isinstance ↑[pv 0,(zb1 (v:=.ref A.k_BadSwap) rfl T.k_BadSwap rfl)]),(zal ↑15 rfl T.isinstance PyProof.Rows.boot_isinstance ↑[pv 0,(zb1 (v:=.ref A.k_BadBasket) rfl T.k_BadBasket rfl)]),(zal ↑15 rfl T.isinstance PyProof.Rows.boot_isinstance ↑[pv 0,(zb1 (v:=.ref A.k_BadRoad) rfl T.k_BadRoad rfl)])]))) (zac (zao (i:=1) zcQ.nd rfl ⇑0 (zaw zdE (pv 1) (zbf ↑[(zal ↑15 rfl T.isinstance PyProof.Rows.boot_isinstance ↑[pv 0,(zb1 (v:=.ref A.k_Endless) rfl T.k_Endless rfl)]),(zal ↑15 rfl T.isinstance PyProof.Rows.boot_isinstance ↑[pv 0,(zb1 (v:=.ref A.k_TooGreat) rfl T.k_TooGreat rfl)]),(zal ↑15 rfl T.isinstance PyProof.Rows.boot_isinstance ↑[pv 0,(zb1 (v:=.ref A.k_BadRest) rfl T.k_BadRest rfl)])]))) (zac (zao (i:=1) zcQ.nd rfl ⇑0 (zaw zdE (pv 1) (zbf ↑[(zal ↑15 rfl T.isinstance PyProof.Rows.boot_isinstance ↑[pv 0,(zb1 (v:=.ref A.k_BadScale) rfl T.k_BadScale rfl)]),(zal ↑15 rfl T.isinstance PyProof.Rows.boot_isinstance ↑[pv 0,(zb1 (v:=.ref A.k_OtherWares) rfl T.k_OtherWares rfl)]),(zal ↑15 rfl T.isinstance PyProof.Rows.boot_isinstance ↑[pv 0,(zb1 (v:=.ref A.k_BadBaskets) rfl T.k_BadBaskets rfl)])]))) (zac (zao (i:=1) zcQ.nd rfl ⇑0 (zaw zdE (pv 1) (zbf ↑[(zal ↑15 rfl T.isinstance PyProof.Rows.boot_isinstance ↑[pv 0,(zb1 (v:=.ref A.k_NotKept) rfl T.k_NotKept rfl)]),(zal ↑15 rfl T.isinstance PyProof.Rows.boot_isinstance ↑[pv 0,(zb1 (v:=.ref A.k_OtherBook) rfl T.k_OtherBook rfl)]),(zal ↑15 rfl T.isinstance PyProof.Rows.boot_isinstance ↑[pv 0,(zb1 (v:=.ref A.k_NoLine) rfl T.k_NoLine rfl)])]))) (zac (zao (i:=1) zcQ.nd rfl ⇑0 (zaw zdE (pv 1) (zbf ↑[(zal ↑15 rfl T.isinstance PyProof.Rows.boot_isinstance ↑[pv 0,(zb1 (v:=.ref A.k_BadNames) rfl T.k_BadNames rfl)]),(zal ↑15 rfl T.isinstance PyProof.Rows.boot_isinstance ↑[pv 0,(zb1 (v:=.ref A.k_NoBook) rfl T.k_NoBook rfl)]),(zal ↑15 rfl T.isinstance PyProof.Rows.boot_isinstance ↑[pv 0,(zb1 (v:=.ref A.k_NoName) rfl T.k_NoName rfl)])]))) (zac (zaJ (zaw zdE (pv 1) (zbf ↑[(zal ↑15 rfl T.isinstance PyProof.Rows.boot_isinstance ↑[pv 0,(zb1 (v:=.ref A.k_NoSwap) rfl T.k_NoSwap rfl)])]))) zae))))))),.inl ?_⟩
 show L2.Run _ ([⇑[dOpt ↑121 P0],.no]:L2.Ctx) _ (↑165 (zcT P0))
 unfold zcT
 exact (zam (m:=true) (x:=[(zdJ zeh P0),(zdJ zef P0),(zdJ zeO P0)]) ↑186 ↑165 (EvO.ev (zbV (zab (zcx (xc:=A.xc) (x:=P0) (f:=zeh) ↑2 T.i0_NotAlike T.hx_NotAlike) (zab (zcx (xc:=A.xc) (x:=P0) (f:=zef) ↑2 T.i0_BadWares T.hx_BadWares) (zab (zcx (xc:=A.xc) (x:=P0) (f:=zeO) ↑2 T.i0_TooMany T.hx_TooMany) zag))) ↑136)) (λv180 hv180=>(zam (m:=true) (x:=(v180++[(zdJ zdY P0),(zdJ zcY P0),(zdJ zdP P0)])) ↑186 ↑165 (EvO.ev (EvO.anyB (m:=true) (zcs (f:=dB) (xs:=v180) (ys:=[(zdJ zdY P0),(zdJ zcY P0),(zdJ zdP P0)]) ↑3 (EvO.ev (zbV (zab (zcx (xc:=A.xc) (x:=P0) (f:=zdY) ↑2 T.i0_BadSwap T.hx_BadSwap) (zab (zcx (xc:=A.xc) (x:=P0) (f:=zcY) ↑2 T.i0_BadBasket T.hx_BadBasket) (zab (zcx (xc:=A.xc) (x:=P0) (f:=zdP) ↑2 T.i0_BadRoad T.hx_BadRoad) zag))) ↑136)) ↑110))) (λv181 hv181=>(zam (m:=true) (x:=(v181++[(zdJ zd1 P0),(zdJ zdt P0),(zdJ zd2 P0)])) ↑186 ↑165 (EvO.ev (EvO.anyB (m:=true) (zcs (f:=dB) (xs:=v181) (ys:=[(zdJ zd1 P0),(zdJ zdt P0),(zdJ zd2 P0)]) ↑3 (EvO.ev (zbV (zab (zcx (xc:=A.xc) (x:=P0) (f:=zd1) ↑2 T.i0_Endless T.hx_Endless) (zab (zcx (xc:=A.xc) (x:=P0) (f:=zdt) ↑2 T.i0_TooGreat T.hx_TooGreat) (zab (zcx (xc:=A.xc) (x:=P0) (f:=zd2) ↑2 T.i0_BadRest T.hx_BadRest) zag))) ↑136)) ↑110))) (λv182 hv182=>(zam (m:=true) (x:=(v182++[(zdJ zdv P0),(zdJ zcH P0),(zdJ zcF P0)])) ↑186 ↑165 (EvO.ev (EvO.anyB (m:=true) (zcs (f:=dB) (xs:=v182) (ys:=[(zdJ zdv P0),(zdJ zcH P0),(zdJ zcF P0)]) ↑3 (EvO.ev (zbV (zab (zcx (xc:=A.xc) (x:=P0) (f:=zdv) ↑2 T.i0_BadScale T.hx_BadScale) (zab (zcx (xc:=A.xc) (x:=P0) (f:=zcH) ↑2 T.i0_OtherWares T.hx_OtherWares) (zab (zcx (xc:=A.xc) (x:=P0) (f:=zcF) ↑2 T.i0_BadBaskets T.hx_BadBaskets) zag))) ↑136)) ↑110))) (λv183 hv183=>(zam (m:=true) (x:=(v183++[(zdJ zd4 P0),(zdJ zc2 P0),(zdJ zeJ P0)])) ↑186 ↑165 (EvO.ev (EvO.anyB (m:=true) (zcs (f:=dB) (xs:=v183) (ys:=[(zdJ zd4 P0),(zdJ zc2 P0),(zdJ zeJ P0)]) ↑3 (EvO.ev (zbV (zab (zcx (xc:=A.xc) (x:=P0) (f:=zd4) ↑2 T.i0_NotKept T.hx_NotKept) (zab (zcx (xc:=A.xc) (x:=P0) (f:=zc2) ↑2 T.i0_OtherBook T.hx_OtherBook) (zab (zcx (xc:=A.xc) (x:=P0) (f:=zeJ) ↑2 T.i0_NoLine T.hx_NoLine) zag))) ↑136)) ↑110))) (λv184 hv184=>(zam (m:=true) (x:=(v184++[(zdJ zdo P0),(zdJ zeD P0),(zdJ zeI P0)])) ↑186 ↑165 (EvO.ev (EvO.anyB (m:=true) (zcs (f:=dB) (xs:=v184) (ys:=[(zdJ zdo P0),(zdJ zeD P0),(zdJ zeI P0)]) ↑3 (EvO.ev (zbV (zab (zcx (xc:=A.xc) (x:=P0) (f:=zdo) ↑2 T.i0_BadNames T.hx_BadNames) (zab (zcx (xc:=A.xc) (x:=P0) (f:=zeD) ↑2 T.i0_NoBook T.hx_NoBook) (zab (zcx (xc:=A.xc) (x:=P0) (f:=zeI) ↑2 T.i0_NoName T.hx_NoName) zag))) ↑136)) ↑110))) (λv185 hv185=>(zeK (zhK (EvO.anyB (m:=true) (zcs (f:=dB) (xs:=v185) (ys:=[(zdJ zfs P0)]) ↑3 (EvO.ev (zbV (zab (zcx (xc:=A.xc) (x:=P0) (f:=zfs) ↑2 T.i0_NoSwap T.hx_NoSwap) zag) ↑135)) ↑110))))))))))))))))
def zdp (P0:(Option Xn)) (P1:Str):Bool :=
 (Let [("NotAlike":Str),("BadWares":Str),("TooMany":Str),("BadSwap":Str),("BadBasket" :Str),("BadRoad":Str),("Endless":Str),("TooGreat":Str)] (λ(v186:(List Str))=>(Let (v186++[("BadRest" :Str),("BadScale" :Str),("OtherWares" :Str),("BadBaskets" :Str),("NotKept" :Str),("OtherBook" :Str),("NoLine" :Str)]) (λ(v187:(List Str))=>(Let (v187++[("BadNames" :Str),("NoBook" :Str),("NoName" :Str),("NoSwap" :Str)]) (λ(v188:(List Str))=>((zdJ zdb P0)&&(decide ((zcT P0)=(List.map (λ(x189:Str)=>(decide (x189=P1))) v188))))))))))
def ze4 (P0:(Option Xn)) (P1:Str):Prop:=True
def zgs (K:W.Frag) (A:Adr):Sp:=Spv (ι:=(Option Xn)×Str) (λx=>[dOpt ↑121 x.1,dS x.2]) (λx=>ze4 x.1 x.2) (λx=>↥[dB (zdp x.1 x.2)])
theorem zfE:FnScope ["_law_caught","_law_name","_law_names"] ["_law_caught","_law_name"] (zad zdR):=↥4
theorem zkQ (F:Fun K "_law_only" "_law_only" zdR f fd) (T:Txt K mg A) (ybG:Callee P w K mg base ↑1 1 "_law_flags" ["_law_caught"] (zf2 K A)):FnOk P w K mg base ↑1 2 f fd ["_law_caught","_law_name"] (zgs K A):=by
 refine F.okV zfE ↑4 ↥7
 obtain ⟨P0,P1⟩:=x
 have hu:=hr.units
 replace hp:ze4 P0 P1:=hp
 unfold ze4 at hp
 refine ⟨_,(zac (zao (i:=2) zfE.nd rfl ⇑0 (zbf (zbx zc9 (zbx zc9 ↑[zc9,zc9,zc9,zc9,zc9,zc9])))) (zac (zao (i:=2) zfE.nd rfl ⇑0 (zaw zdE (pv 2) (zbf (zbx zc9 ↑[zc9,zc9,zc9,zc9,zc9,zc9])))) (zac (zao (i:=2) zfE.nd rfl ⇑0 (zaw zdE (pv 2) (zbf ↑[zc9,zc9,zc9,zc9]))) (zac (zaJ (zmF (zal ↑15 rfl T.isinstance PyProof.Rows.boot_isinstance ↑[pv 0,(zin rfl T.ValueError (v:=.ty "ValueError") (u:=.type "ValueError") ↑5 rfl)]) (znp (zid (znz (K:=K) rfl hu) (zaO ybG ↥1 rfl zaK ↑[pv 0]) (zbZ rfl (.of (osc:=(zad zdR)) (N:=["_law_caught","_law_name","_law_names"]) (own:=["_law_other"]) (fvn:=["_law_name"]) (fv:=[1]) rfl rfl ↑5) (za3 (K:=K) rfl (pv 2)) (λ_ _ _ _ _=>⟨(zak (i:=0) (show (["_law_other","_law_name"]:List Str).Nodup by decide +kernel) rfl ⇑0 ↥3),za5,(zid zgq (pv 0) (pv 1) (zaM _))⟩)) (zaM _))))) zae)))),.inl ?_⟩
 show L2.Run _ ([⇑[dOpt ↑121 P0],⇑[dS P1],.no]:L2.Ctx) _ (↥8 (zdp P0 P1))
 unfold zdp
 exact (zam (m:=true) (x:=[("NotAlike":Str),("BadWares":Str),("TooMany":Str),("BadSwap":Str),("BadBasket" :Str),("BadRoad":Str),("Endless":Str),("TooGreat":Str)]) (λ(xs:(List Str))=>dL (List.map dS xs)) ↥8 (EvO.ev (zbV (zab zaG (zab zaG (zab zaG (zab zaG (zab zaG (zab zaG (zab zaG ↑27))))))) (by show 8≤sizeLine;decide))) (λv186 hv186=>(zam (m:=true) (x:=(v186++[("BadRest" :Str),("BadScale" :Str),("OtherWares" :Str),("BadBaskets" :Str),("NotKept" :Str),("OtherBook" :Str),("NoLine" :Str)])) (λ(xs:(List Str))=>dL (List.map dS xs)) ↥8 (EvO.ev (EvO.anyS (m:=true) (zcs (f:=dS) (xs:=v186) (ys:=[("BadRest":Str),("BadScale":Str),("OtherWares":Str),("BadBaskets":Str),("NotKept":Str),("OtherBook":Str),("NoLine":Str)]) ↑19 (EvO.ev (zbV (zab zaG (zab zaG (zab zaG (zab zaG (zab zaG (zab zaG ↑27)))))) (by show 7≤sizeLine;decide))) ↑110))) (λv187 hv187=>(zam (m:=true) (x:=(v187++[("BadNames" :Str),("NoBook" :Str),("NoName" :Str),("NoSwap" :Str)])) (λ(xs:(List Str))=>dL (List.map dS xs)) ↥8 (EvO.ev (EvO.anyS (m:=true) (zcs (f:=dS) (xs:=v187) (ys:=[("BadNames":Str),("NoBook":Str),("NoName":Str),("NoSwap":Str)]) ↑19 (EvO.ev (zbV (zab zaG (zab zaG (zab zaG ↑27))) (by show 4≤sizeLine;decide))) ↑110))) (λv188 hv188=>(zaj (zaC (znb (b:=(zdJ zdb P0)) (zoH (xc:=A.xc) (x:=P0) (f:=zdb) ↑2 T.i0_ValueError T.hx_ValueError) (λhb=>(ziO (n:=0) (neg:=false) (xs:=(zcT P0)) (ys:=(List.map (λ(x189:Str)=>(decide (x189=P1))) v188)) EqD.bool (Ev.weak (K:=K) (EvO.ev (EvO.anyB (m:=true) (zb5 (x:=P0) (zab ↑2 zag) rfl (by show zeA P0;exact trivial) rfl)))) (Ev.weak (K:=K) (EvO.ev (EvO.conv (zbW (g:=(λ(x189:Str)=>dB (decide (x189=P1)))) (zbY (m:=true) dS (xs:=v188) ↑58) ↑110 ⇑5 (λi190 x189 hx191=>have v191:=List.mem_of_getElem? hx191;(zsc (x:=x189) (y:=P1) ↑91 ⇑6))) ↑10))))))))))))))
def zdW (P0:Ji) (P1:Int):Int :=
 (bif (decide (P1<↑31)) then ((ixD P0 P1)%↑36) else (0:Int))
def zem (P0:Ji) (P1:Int):Prop:=0≤P1
def zgB (K:W.Frag) (A:Adr):Sp:=Spv (ι:=Ji×Int) (λx=>[dQ K (List.map dI x.1),dI x.2]) (λx=>zem x.1 x.2) (λx=>↥[dI (zdW x.1 x.2)])
theorem zlb:FnScope ["_law_script","_law_k"] ["_law_script","_law_k"] (zad zeL):=↥4
theorem zkK (F:Fun K "_law_cell" "_law_cell" zeL f fd) (T:Txt K mg A) :FnOk P w K mg base ↑1 1 f fd ["_law_script","_law_k"] (zgB K A):=by
 refine F.okV zlb ↑4 ↥7
 obtain ⟨P0,P1⟩:=x
 have hu:=hr.units
 replace hp:zem P0 P1:=hp
 unfold zem at hp
 refine ⟨_,(zac (zco (zaF zjK (pv 1) ↑180 (zaM _)) (zac (zaJ (zaw zcI (za1 ↑7 (pv 0) (pv 1) ⇑3) zah)) zae) zae) (zac (zaJ zah) zae)),.inl ?_⟩
 show L2.Run _ ([⇑[dQ K ↑8],⇑[dI P1]]:L2.Ctx) _ (↑25 (zdW P0 P1))
 unfold zdW
 exact (zaS (b:=(decide (P1<↑31))) ↑25 (zav (zaQ (x:=P1) (y:=↑31) ⇑6 (zaZ (f:=dI) (xs:=P0) ↑2))) (λh192=>(zax (zaj (zaC (zaH (x:=(ixD P0 P1)) (y:=↑36) (Ev.any (m:=false) (zbP (f:=dI) (xs:=P0) ↑2 ⇑6 (by unfold InB;constructor<;>((try simp only [decide_eq_true_eq,decide_eq_false_iff_not,Bool.not_eq_true',Bool.not_eq_false',Bool.and_eq_true,Bool.or_eq_false_iff,Bool.or_eq_true,Bool.and_eq_false_iff,Bool.cond_eq_ite] at *)<;>omega)))) zaG ⇑1))))) (λh192=>(zar (zaj (zaC zaG)))))
theorem zmH {s:Ji} {i:Nat} {y:Int} (h:s.length≤i):(s++[y]).length≤i+1:=by simp;omega
theorem zs2 {s:Ji} {i n:Nat} {x lo:Int} (h:s.length≤i) (hx:i<n∧x=lo+(i:Int)) (hn:n≤400):s.length<PySem.sizeLine:=Nat.lt_of_le_of_lt (show _≤10000 by omega) ⇑1
def zbu (P0:Ji) (P1:Int):Int :=
 (bif (decide (P1<↑31)) then (ixD P0 P1) else (0:Int))
def zcv (P0:Ji) (P1:Int):Prop:=0≤P1
def zhf (K:W.Frag) (A:Adr):Sp:=Spv (ι:=Ji×Int) (λx=>[dQ K (List.map dI x.1),dI x.2]) (λx=>zcv x.1 x.2) (λx=>↥[dI (zbu x.1 x.2)])
theorem zlY:FnScope ["_law_script","_law_k"] ["_law_script","_law_k"] (zad zfm):=↥4
theorem zl6 (F:Fun K "_law_raw" "_law_raw" zfm f fd) (T:Txt K mg A) :FnOk P w K mg base ↑1 1 f fd ["_law_script","_law_k"] (zhf K A):=by
 refine F.okV zlY ↑4 ↥7
 obtain ⟨P0,P1⟩:=x
 have hu:=hr.units
 replace hp:zcv P0 P1:=hp
 unfold zcv at hp
 refine ⟨_,(zac (zco (zaF zjK (pv 1) ↑180 (zaM _)) (zac (zaJ (za1 ↑7 (pv 0) (pv 1) ⇑3)) zae) zae) (zac (zaJ zah) zae)),.inl ?_⟩
 show L2.Run _ ([⇑[dQ K ↑8],⇑[dI P1]]:L2.Ctx) _ (↑25 (zbu P0 P1))
 unfold zbu
 exact (zaS (b:=(decide (P1<↑31))) ↑25 (zav (zaQ (x:=P1) (y:=↑31) ⇑6 (zaZ (f:=dI) (xs:=P0) ↑2))) (λh193=>(zax (zaj (zaC (Ev.any (m:=false) (zbP (f:=dI) (xs:=P0) ↑2 ⇑6 (by unfold InB;simp only [decide_eq_true_eq] at *;omega))))))) (λh193=>(zar (zaj (zaC zaG)))))
def zaf (P0:Int) (P1:Int) (P2:Int):Int :=
 (Let (P0/↑36) (λ(v194:Int)=>(bif (decide ((v194%(2:Int))=(1:Int))) then (Let (v194/(2:Int)) (λ(v196:Int)=>(Let (List.foldl (λ(s197:Int) (x198:Int)=>(Let (s197/(60:Int)) (λ(v202:Int)=>v202))) v196 (zbo 0 P1.toNat)) (λ(r203:Int)=>((r203%(60:Int))%P2))))) else (Let (((((P0%↑36)*(48271:Int))+(((69621:Int)*P1)*P1))+((7:Int)*P1))%(2147483629:Int)) (λ(v204:Int)=>(Let ((v204*v204)%(2147483587:Int)) (λ(v205:Int)=>(((v205*(v205+(48271:Int)))%(2147483563:Int))%P2))))))))
def zaY (P0:Int) (P1:Int) (P2:Int):Prop:=0≤P1∧P1≤1000∧0<P2
def zcS (K:W.Frag) (A:Adr):Sp:=Spv (ι:=Int×Int×Int) (λx=>[dI x.1,dI x.2.1,dI x.2.2]) (λx=>zaY x.1 x.2.1 x.2.2) (λx=>↥[dI (zaf x.1 x.2.1 x.2.2)])
theorem zcM:FnScope ["_law_cell_here","_law_k","_law_many","_law_free","_law_step","_law_number"] ↑134 (zad zd0):=↥4
theorem zjY (F:Fun K "_law_thing" "_law_thing" zd0 f fd) (T:Txt K mg A) :FnOk P w K mg base ↑1 1 f fd ↑134 (zcS K A):=by
 refine F.okV zcM ↑4 ↥7
 obtain ⟨P0,P1,P2⟩:=x
 have hu:=hr.units
 replace hp:zaY P0 P1 P2:=hp
 unfold zaY at hp
 refine ⟨_,(zac (zao (i:=3) zcM.nd rfl ⇑0 (zaw zb7 (pv 0) zah)) (zac (zco (zaF zgq (zaw zcI (pv 3) zah) zah (zaM _)) (zac (zao (i:=3) zcM.nd rfl ⇑0 (zaw zb7 (pv 3) zah)) (zac (zch PassesOwn.never rfl (zb9 rfl T.range ↑[pv 1]) (zak (i:=4) zcM.nd rfl ⇑0 ⇑0) (zac (zao (i:=3) zcM.nd rfl ⇑0 (zaw zb7 (pv 3) zah)) zae)) (zac (zaJ (zaw zcI (zaw zcI (pv 3) zah) (pv 2))) zae))) zae) (zac (zao (i:=5) zcM.nd rfl ⇑0 (zaw zcI (zaw zcD (zaw zcD (zaw zbA (zaw zcI (pv 0) zah) zah) (zaw zbA (zaw zbA zah (pv 1)) (pv 1))) (zaw zbA zah (pv 1))) zah)) (zac (zao (i:=5) zcM.nd rfl ⇑0 (zaw zcI (zaw zbA (pv 5) (pv 5)) zah)) (zac (zaJ (zaw zcI (zaw zcI (zaw zbA (pv 5) (zaw zcD (pv 5) zah)) zah) (pv 2))) zae))))),.inl ?_⟩
 show L2.Run _ ([⇑[dI P0],⇑[dI P1],⇑[dI P2],.no,.no,.no]:L2.Ctx) _ (↑25 (zaf P0 P1 P2))
 unfold zaf
 exact (zam (m:=true) (x:=(P0/↑36)) dI ↑25 (zaH (x:=P0) (y:=↑36) ↑9 zaG ↥(⇑5)) (λv194 hv194=>(zaS (b:=(decide ((v194%(2:Int))=(1:Int)))) ↑25 (zav (zeZ (x:=(v194%(2:Int))) (y:=(1:Int)) (zaH (x:=v194) (y:=(2:Int)) ↑64 zaG ⇑1) zaG)) (λh195=>(zax (zam (m:=true) (x:=(v194/(2:Int))) dI ↑25 (zaH (x:=v194) (y:=(2:Int)) ↑64 zaG ↥(⇑5)) (λv196 hv196=>(zax (zbh (s0:=v196) (λ(s197:Int)=>([⇑[dI P0],⇑[dI P1],⇑[dI P2],↥[dI s197],.no,.no]:L2.Ctx)) ↑25 (λ(s197:Int) (x198:Int)=>(Let (s197/(60:Int)) (λ(v202:Int)=>v202))) (λ_ _=>True) (zdG (m:=true) (n:=P1) ⇑6 ↑133) (.eq ↑41) trivial (λi199 x198 s197 hx200 hI201=>have v200:=zbi hx200;⟨trivial,(zam (m:=true) (x:=(s197/(60:Int))) dI (λz=>Oc.nx ((λ(s197:Int)=>([⇑[dI P0],⇑[dI P1],⇑[dI P2],↥[dI s197],.no,.no]:L2.Ctx)) z)) (zaH (x:=s197) (y:=(60:Int)) ↑64 zaG ↥(⇑5)) (λv202 hv202=>(zap (.eq (.eq (.eq (.eq (.no (.eq .nil)))))))))⟩) (λr203 hr203 hI=>(zax (zaj (zaC (zaH (x:=(r203%(60:Int))) (y:=P2) (zaH (x:=r203) (y:=(60:Int)) ↑64 zaG ⇑1) ↑39 ↥(hp.2.2)))))))))))) (λh195=>(zar (zam (m:=true) (x:=(((((P0%↑36)*(48271:Int))+(((69621:Int)*P1)*P1))+((7:Int)*P1))%(2147483629:Int))) dI ↑25 (zaH (x:=((((P0%↑36)*(48271:Int))+(((69621:Int)*P1)*P1))+((7:Int)*P1))) (y:=(2147483629:Int)) (zaQ (x:=(((P0%↑36)*(48271:Int))+(((69621:Int)*P1)*P1))) (y:=((7:Int)*P1)) (zaQ (x:=((P0%↑36)*(48271:Int))) (y:=(((69621:Int)*P1)*P1)) (zaH (x:=(P0%↑36)) (y:=(48271:Int)) (zaH (x:=P0) (y:=↑36) ↑9 zaG ⇑1) zaG ↥(.inl ↑43)) (zaH (x:=((69621:Int)*P1)) (y:=P1) (zaH (x:=(69621:Int)) (y:=P1) zaG ⇑6 ↥(.inl ↑43)) ⇑6 ↥(.inl ↑43))) (zaH (x:=(7:Int)) (y:=P1) zaG ⇑6 ↥(.inl ↑43))) zaG ⇑1) (λv204 hv204=>have hNnumber204:=hv204;(zam (m:=true) (x:=((v204*v204)%(2147483587:Int))) dI ↑25 (zaH (x:=(v204*v204)) (y:=(2147483587:Int)) (zaH (x:=v204) (y:=v204) ↑24 ↑24 ↥(.inl ↑43)) zaG ⇑1) (λv205 hv205=>have hNnumber205:=hv205;(zaj (zaC (zaH (x:=((v205*(v205+(48271:Int)))%(2147483563:Int))) (y:=P2) (zaH (x:=(v205*(v205+(48271:Int)))) (y:=(2147483563:Int)) (zaH (x:=v205) (y:=(v205+(48271:Int))) ↑24 (zaQ (x:=v205) (y:=(48271:Int)) ↑24 zaG) ↥(.inl ↑43)) zaG ⇑1) ↑39 ↥(hp.2.2)))))))))))))
theorem zev {c k m:Int} (hm:0<m):0≤zaf c k m∧zaf c k m<m:=by
 unfold zaf Let
 dsimp only
 have key:∀ b:Bool,∀ x y:Int,0≤(bif b then x%m else y%m)∧(bif b then x%m else y%m)<m:=λb x y=>by
  cases b
  ·exact ⟨Int.emod_nonneg y ↑0,Int.emod_lt_of_pos y hm⟩
  ·exact ⟨Int.emod_nonneg x ↑0,Int.emod_lt_of_pos x hm⟩
 exact key _ _ _
def Sq (w:Nat) (n:Nat) (rows:Jq):Prop:=rows.length=n∧∀ r∈rows,r.length=w
def FrI (w:Nat) (s:Jq×Jq):Prop:=Sq w w s.1∧Sq w w s.2
theorem zmD {w n:Nat} {rows:Jq} {i:Int} {y:Ji} (h:Sq w n rows) (hy:y.length=w):Sq w n (zdl rows i y):=⟨by rw [zf9];exact h.1,λr hr=>by
 rcases Lat.zhF hr with rfl | hr
 ·exact hy
 ·exact h.2 r hr⟩
theorem znS {w n:Nat} {b:Bool} {rows ys:Jq} (h:Sq w n rows) (k:Sq w n ys):Sq w n (bif b then ys else rows):=by cases b<;>assumption
theorem zib {w n:Nat} {rows:Jq} {x:Int} (h:Sq w n rows) (h0:0≤x) (h1:x<(n:Int)):InB rows.length x:=by rw [h.1];unfold InB;omega
theorem zny {w n:Nat} {rows:Jq} {x:Int} (h:Sq w n rows) (h0:0≤x) (h1:x<(n:Int)):(ixD rows x).length=w:=h.2 _ (zce (zib h h0 h1))
theorem zrT {α:Type} {w n:Nat} {xs:List α} {f:α->Ji} (h:xs.length=n) (k:∀ x,(f x).length=w):Sq w n (List.map f xs):=⟨by rw [List.length_map];exact h,λr hr=>by obtain ⟨x,_,rfl⟩:=List.mem_map.mp hr;exact k x⟩
theorem zkb {w n m:Nat} {rows ys:Jq} {x y:Int} {f:Int×Int->Int} (h:Sq w n rows) (k:Sq w m ys) (h0:0≤x∧x<(n:Int)) (h1:0≤y∧y<(m:Int)):(List.map f (List.zip (ixD rows x) (ixD ys y))).length=w:=by
 rw [List.length_map,List.length_zip,zny h h0.1 h0.2,zny k h1.1 h1.2];omega
theorem znj {w n m:Nat} {rows ys:Jq} {x y:Int} (h:Sq w n rows) (h0:0≤x∧x<(n:Int)) (hw:w≤1000):(List.zip (ixD rows x) (ixD ys y)).length≤PySem.sizeLine:=zan (by rw [List.length_zip,zny h h0.1 h0.2];omega)
theorem zqP {W:Nat} {s:Jq×Jq} {x y:Int} (h:FrI W s) (hx:0≤x∧x<(W:Int)) (hw:W≤8):(List.zip (ixD s.1 x) (ixD s.1 y)).length≤PySem.sizeLine:=znj (ys:=s.1) (m:=0) h.1 hx ↑0
theorem zqY {W:Nat} {s:Jq×Jq} {x y:Int} (h:FrI W s) (hx:0≤x∧x<(W:Int)) (hw:W≤8):(List.zip (ixD s.2 x) (ixD s.2 y)).length≤PySem.sizeLine:=znj (ys:=s.2) (m:=0) h.2 hx ↑0
theorem zo6 {w:Int} {W:Nat} {a b:Jq} (hw:w=(W:Int)) (ha:a=List.map ↑153 ↑107) (hb:b=List.map ↑37 a):FrI W (a,b):=by
 have h1:Sq W W a:=by
  subst ha
  exact zrT ↑95 λx=>by rw [List.length_map,zaT];omega
 exact ⟨h1,by subst hb;rw [List.map_id'];exact h1⟩
theorem zru {W:Nat} {s:Jq×Jq} {b:Bool} {x y q:Int} (h:FrI W s) (hx:0≤x∧x<(W:Int)) (hy:0≤y∧y<(W:Int)):FrI W (bif b then (zdl s.1 y (List.map (λ(z:Int×Int)=>(z.1+(q*z.2))) (List.zip (ixD s.1 y) (ixD s.1 x)))) else s.1,bif b then (zdl s.2 x (List.map (λ(z:Int×Int)=>(z.1-(q*z.2))) (List.zip (ixD s.2 x) (ixD s.2 y)))) else s.2) :=
 ⟨znS h.1 (zmD h.1 (zkb h.1 h.1 hy hx)),znS h.2 (zmD h.2 (zkb h.2 h.2 hx hy))⟩
theorem ze8 {c k w x:Int} {W:Nat} (hw:w=(W:Int)) (h1:1≤w) (e:x=zaf c k w):0≤x∧x<(W:Int):=by
 subst e;have:=zev (c:=c) (k:=k) (m:=w) ↑0;omega
theorem zls {c k x:Int} (e:x=zaf c k (5:Int)-(2:Int)):-2≤x∧x≤2:=by
 subst e;have:=zev (c:=c) (k:=k) (m:=5) ⇑1;omega
theorem zrx {c k x:Int} (e:x=zaf c k (7:Int)):InB 7 x:=by
 subst e;have:=zev (c:=c) (k:=k) (m:=7) ⇑1;unfold InB;omega
def zbS (P0:Int) (P1:Ji):(Jq×Jq) :=
 (Let (List.map (λ(x206:Int)=>(List.map (λ(x209:Int)=>(if (decide (x209=x206)) then 1 else 0)) (zbo 0 P0.toNat))) (zbo 0 P0.toNat)) (λ(v212:Jq)=>(Let (List.map (λ(x213:Ji)=>x213) v212) (λ(v216:Jq)=>(Let (List.foldl (λ(s217:Jq×Jq) (x218:Int)=>(Let (zaf x218 (1:Int) P0) (λ(v222:Int)=>(Let (zaf x218 (2:Int) P0) (λ(v223:Int)=>(Let ((zaf x218 (3:Int) (5:Int))-(2:Int)) (λ(v224:Int)=>(Let (bif (!decide (v222=v223)) then (zdl s217.1 v223 ↑211) else s217.1) (λ(v232:Jq)=>(Let ↑241 (λ(v233:Jq)=>(v232,v233)))))))))))) (v212,v216) P1) (λ(r234:Jq×Jq)=>(r234.1,r234.2)))))))
def zeB (P0:Int) (P1:Ji):Prop:=1≤P0∧P0≤8
def zfV (K:W.Frag) (A:Adr):Sp:=Spv (ι:=Int×Ji) (λx=>[dI x.1,dQ K ↑70]) (λx=>zeB x.1 x.2) (λx=>↥[dT [dL (List.map lI ((zbS x.1 x.2).1)),dL (List.map lI ((zbS x.1 x.2).2))]])
theorem zcO:FnScope ↑216 ["_law_wide","_law_cells"] (zad zcf):=↥4
theorem zkl (F:Fun K "_law_frame" "_law_frame" zcf f fd) (T:Txt K mg A) (yab:Callee P w K mg base ↑1 1 "_law_thing" ↑134 (zcS K A)):FnOk P w K mg base ↑1 2 f fd ["_law_wide","_law_cells"] (zfV K A):=by
 refine F.okV zcO ↑4 ↥7
 obtain ⟨P0,P1⟩:=x
 have hu:=hr.units
 replace hp:zeB P0 P1:=hp
 unfold zeB at hp
 obtain ⟨W,hW⟩:∃ W:Nat,P0=(W:Int):=⟨P0.toNat,by omega⟩
 refine ⟨_,(zac (zfe (i:=2) rfl zcO.nd rfl rfl (.of (osc:=(zad zcf)) (N:=↑216) (own:=["_law_k"]) (fvn:=["_law_wide"]) (fv:=[0]) rfl rfl ↑5) (zb9 rfl T.range ↑[pv 0]) (λ_ _ _ _ _=>⟨(zak (i:=0) (show (["_law_k","_law_wide"]:List Str).Nodup by decide +kernel) rfl ↥3 ⇑0),za5,(zbZ rfl (.of (osc:=({ kind:=.function,names:=[(".0",.local),("_law_k",.cell),("range",.globalImplicit),("_law_wide",.cell)],isGenerator:=false,isCoroutine:=false }:Scope)) (N:=["_law_k","_law_wide"]) (own:=["_law_j"]) (fvn:=["_law_k"]) (fv:=[0]) rfl rfl ↑5) (zb9 rfl T.range ↑[pv 1]) (λ_ _ _ _ _=>⟨(zak (i:=0) (show (["_law_j","_law_k"]:List Str).Nodup by decide +kernel) rfl ⇑0 ↥3),za5,(zcB zjI rfl T.int ↑5 ↑[zid zgq (pv 0) (pv 1) (zaM _)])⟩))⟩)) (zac (zfe (i:=3) rfl zcO.nd rfl rfl (.of (osc:=(zad zcf)) (N:=↑216) (own:=["_law_row"]) (fvn:=[]) (fv:=[]) rfl rfl ↑5) (za3 (K:=K) rfl (pv 2)) (λ_ _ _ _ _=>⟨(zak (i:=0) (show (["_law_row"]:List Str).Nodup by decide +kernel) rfl ⇑0 ↥3),za5,↑154⟩)) (zac (zch PassesOwn.never rfl (za3 (K:=K) rfl (pv 1)) (zak (i:=4) zcO.nd rfl ⇑0 ⇑0) (zac (zao (i:=5) zcO.nd rfl ⇑0 (zaO yab ↥1 rfl zaK ↑[pv 4,zah,pv 0])) (zac (zao (i:=6) zcO.nd rfl ⇑0 (zaO yab ↥1 rfl zaK ↑[pv 4,zah,pv 0])) (zac (zao (i:=7) zcO.nd rfl ↥3 (zaw zfi (zaO yab ↥1 rfl zaK ↑[pv 4,zah,zah]) zah)) (zac (zco (zaF zfD (pv 5) (pv 6) (zaM _)) (zac (zhv (zbZ rfl (.of (osc:=(zad zcf)) (N:=↑216) (own:=↑96) (fvn:=["_law_many"]) (fv:=[7]) rfl rfl ↑5) (zb8 (K:=K) rfl rfl T.zip ↑[(za1 ↑7 (pv 2) (pv 6) ⇑3),(za1 ↑7 (pv 2) (pv 5) ⇑3)]) ↑208) (zjA (pv 2) (pv 6) zgS)) (zac (zhv (zbZ rfl (.of (osc:=(zad zcf)) (N:=↑216) (own:=↑96) (fvn:=["_law_many"]) (fv:=[7]) rfl rfl ↑5) (zb8 (K:=K) rfl rfl T.zip ↑[(za1 ↑7 (pv 3) (pv 5) ⇑3),(za1 ↑7 (pv 3) (pv 6) ⇑3)]) (λ_ _ _ _ _=>⟨(zba (K:=K) (n:=2) rfl rfl (zay (zak (i:=0) ↑232 rfl ⇑0 ↥3) (zay (zak (i:=1) ↑232 rfl ⇑0 ↥3) zbE))),za5,(zaw zfi (pv 0) (zaw zbA (pv 2) (pv 1)))⟩)) (zjA (pv 3) (pv 5) zgS)) zae)) zae) zae))))) (zac (zaJ (zgn ↑[pv 2,pv 3])) zae)))),.inl ?_⟩
 show L2.Run _ ([⇑[dI P0],⇑[dQ K ⇑4],.no,.no,.no,.no,.no,.no]:L2.Ctx) _ (↑86 (zbS P0 P1))
 unfold zbS
 exact (zgK (m:=true) (x:=(List.map (λ(x206:Int)=>(List.map (λ(x209:Int)=>(if (decide (x209=x206)) then 1 else 0)) (zbo 0 P0.toNat))) (zbo 0 P0.toNat))) (λz=>List.map lI z) ↑86 (EvO.conv (zbW (g:=(λ(x206:Int)=>dL (List.map dI (List.map (λ(x209:Int)=>(if (decide (x209=x206)) then 1 else 0)) (zbo 0 P0.toNat))))) (zdG (m:=true) (n:=P0) ↑9 ↑133) ↥(zan ↑95) ⇑5 (λi207 x206 hx208=>have v208:=zbi hx208;(EvO.ev (EvO.conv (zbW (g:=(λ(x209:Int)=>dI (if (decide (x209=x206)) then 1 else 0))) (zdG (m:=true) (n:=P0) ⇑6 ↑133) ↥(zan ↑95) ⇑5 (λi210 x209 hx211=>have v211:=zbi hx211;(znQ (b:=(decide (x209=x206))) (zab (zeZ (x:=x209) (y:=x206) ↑91 ↑60) zag)))) ↑10)))) ↑10) (λv212 hv212=>have hA:=hv212;(zgK (m:=true) (x:=(List.map (λ(x213:Ji)=>x213) v212)) (λz=>List.map lI z) ↑86 (zpH.evo (zpH.borrowO (i:=2) rfl (zqy (EvO.conv (zbW (g:=(λ(x213:Ji)=>dL (List.map dI x213))) (zbY (m:=false) lI (xs:=v212) ↑58) ↥(zan (by rw [hA,List.length_map,zaT];omega)) ⇑5 (λi214 x213 hx215=>have v215:=List.mem_of_getElem? hx215;↑249)) ↑10)))) (λv216 hv216=>have hF:=zo6 hW hA hv216;(zbh (s0:=(v212,v216)) ↑174 ↑86 (λ(s217:Jq×Jq) (x218:Int)=>(Let (zaf x218 (1:Int) P0) (λ(v222:Int)=>(Let (zaf x218 (2:Int) P0) (λ(v223:Int)=>(Let ((zaf x218 (3:Int) (5:Int))-(2:Int)) (λ(v224:Int)=>(Let (bif (!decide (v222=v223)) then (zdl s217.1 v223 ↑211) else s217.1) (λ(v232:Jq)=>(Let ↑241 (λ(v233:Jq)=>(v232,v233)))))))))))) (λ(i:Nat) (s217:Jq×Jq)=>FrI W s217) (zbY (m:=false) dI (xs:=P1) ↑3) (.eq ↑28) ↥(hF) (λi219 x218 s217 hx220 hI221=>have v220:=List.mem_of_getElem? hx220;⟨↥(zru ↥0 (ze8 hW hp.1 rfl) (ze8 hW hp.1 rfl)),(zam (m:=true) (x:=(zaf x218 (1:Int) P0)) dI (λz=>Oc.nx (↑174 z)) (Ev.any (m:=true) (zau (x:=(x218,(1:Int),P0)) (zab ↑62 (zab zaG (zab ↑9 zag))) rfl (by show zaY x218 (1:Int) P0;refine ⟨by omega,by omega,by omega⟩) rfl)) (λv222 hv222=>have hO:=ze8 hW hp.1 hv222;(zam (m:=true) (x:=(zaf x218 (2:Int) P0)) dI (λz=>Oc.nx (↑174 z)) (Ev.any (m:=true) (zau (x:=(x218,(2:Int),P0)) (zab ↑62 (zab zaG (zab ↑9 zag))) rfl (by show zaY x218 (2:Int) P0;refine ⟨by omega,by omega,by omega⟩) rfl)) (λv223 hv223=>have hT:=ze8 hW hp.1 hv223;(zam (m:=true) (x:=((zaf x218 (3:Int) (5:Int))-(2:Int))) dI (λz=>Oc.nx (↑174 z)) (zaQ (x:=(zaf x218 (3:Int) (5:Int))) (y:=(2:Int)) (Ev.any (m:=true) (zau (x:=(x218,(3:Int),(5:Int))) (zab ↑62 (zab zaG ↑27)) rfl (by show zaY x218 (3:Int) (5:Int);refine ⟨by omega,by omega,by omega⟩) rfl)) zaG) (λv224 hv224=>have hM:=zls hv224;(zed (b:=(!decide (v222=v223))) (λbb=>([⇑[dI P0],⇑[dQ K ⇑4],.ow true (List.map lI (bif bb then (zdl s217.1 v223 ↑211) else s217.1)),.ow true (List.map lI (bif bb then (zdl s217.2 v222 ↑260) else s217.2)),⇑[dI x218],↥[dI v222],↥[dI v223],↥[dI v224]]:L2.Ctx)) (zav (zdH (x:=v222) (y:=v223) ↑24 ↑78)) (λh225=>(zgb (f:=lI) (xs:=s217.1) (x:=↑211) rfl (EvO.ev (EvO.conv (zbW (g:=(λ(x226:↥6)=>dI (x226.1+(v224*x226.2)))) (zen (m:=true) dI dI (xs:=(ixD s217.1 v223)) (ys:=(ixD s217.1 v222)) (Ev.weak (K:=K) (zft (f:=lI) (xs:=s217.1) rfl ↑78 ↥(zib (↥0:FrI W _).1 hT.1 hT.2))) (Ev.weak (K:=K) (zft (f:=lI) (xs:=s217.1) rfl ↑24 ↥(zib (↥0:FrI W _).1 hO.1 hO.2)))) ↥(zqP ↥0 hT ↑0) ⇑5 (λi227 x226 hx228=>have v228:=zbL hx228;(zaQ (x:=x226.1) (y:=(v224*x226.2)) ↑91 (zaH (x:=v224) (y:=x226.2) ↑54 ↑60 ↥(.inl ↑43))))) ↑10)) ↑78 ↥(zib (↥0:FrI W _).1 hT.1 hT.2) (zgb (f:=lI) (xs:=s217.2) (x:=↑260) rfl (EvO.ev (EvO.conv (zbW (g:=(λ(x229:↥6)=>dI (x229.1-(v224*x229.2)))) (zen (m:=true) dI dI (xs:=(ixD s217.2 v222)) (ys:=(ixD s217.2 v223)) (Ev.weak (K:=K) (zft (f:=lI) (xs:=s217.2) rfl ↑24 ↥(zib (↥0:FrI W _).2 hO.1 hO.2))) (Ev.weak (K:=K) (zft (f:=lI) (xs:=s217.2) rfl ↑78 ↥(zib (↥0:FrI W _).2 hT.1 hT.2)))) ↥(zqY ↥0 hO ↑0) ⇑5 (λi230 x229 hx231=>have v231:=zbL hx231;(zaQ (x:=x229.1) (y:=(v224*x229.2)) ↑91 (zaH (x:=v224) (y:=x229.2) ↑54 ↑60 ↥(.inl ↑43))))) ↑10)) ↑24 ↥(zib (↥0:FrI W _).2 hO.1 hO.2) (zap (.eq ↑28))))) (λh225=>(zap (.eq ↑28))) (zep (x:=(bif (!decide (v222=v223)) then (zdl s217.1 v223 ↑211) else s217.1)) (λv232=>([⇑[dI P0],⇑[dQ K ⇑4],.ow true (List.map lI v232),.ow true (List.map lI ↑241),⇑[dI x218],↥[dI v222],↥[dI v223],↥[dI v224]]:L2.Ctx)) (λz=>Oc.nx (↑174 z)) (λv232 hv232=>have hR1:=hv232;(zep (x:=↑241) (λv233=>([⇑[dI P0],⇑[dQ K ⇑4],.ow true (List.map lI v232),.ow true (List.map lI v233),⇑[dI x218],↥[dI v222],↥[dI v223],↥[dI v224]]:L2.Ctx)) (λz=>Oc.nx (↑174 z)) (λv233 hv233=>(zap (.eq (.eq (.eq (.eq (.no (.no ↑46))))))))))))))))))⟩) (λr234 hr234 hI=>(zda (i:=2) rfl (zda (i:=3) rfl (zaj (zaC (zgo (zab ↑19 (zab ↑29 zag)) ↑89)))))))))))
def zaW (P0:Int) (P1:Int) (P2:Int):Ji :=
 (Let (List.foldl (λ(s235:Ji) (x236:Int)=>(Let (zaf P1 (P2+x236) (7:Int)) (λ(v240:Int)=>(Let (ixD [(0:Int),(1:Int),(2:Int),(3:Int),(6:Int),(0:Int),(4:Int)] v240) (λ(v241:Int)=>(Let (bif ((decide (v240=(6:Int))) && (decide ((P1%(2:Int))=(1:Int)))) then ((2:Int)+(zaf P1 ((P2+(20:Int))+x236) ↑67)) else v241) (λ(v243:Int)=>(s235++[v243])))))))) [] (zbo 0 P0.toNat)) (λ(r244:Ji)=>r244))
def zdA (P0:Int) (P1:Int) (P2:Int):Prop:=0≤P0∧P0≤8∧0≤P2∧P2≤100
def zff (K:W.Frag) (A:Adr):Sp:=Spv (ι:=Int×Int×Int) (λx=>[dI x.1,dI x.2.1,dI x.2.2]) (λx=>zdA x.1 x.2.1 x.2.2) (λx=>.ow true (List.map dI (zaW x.1 x.2.1 x.2.2)))
theorem zcG:FnScope ["_law_wide","_law_cell_here","_law_far","_law_found","_law_k","_law_way","_law_number"] ["_law_wide","_law_cell_here","_law_far"] (zad zcZ):=↥4
theorem ziu (F:Fun K "_law_bottoms" "_law_bottoms" zcZ f fd) (T:Txt K mg A) (yab:Callee P w K mg base ↑1 1 "_law_thing" ↑134 (zcS K A)):FnOk P w K mg base ↑1 2 f fd ["_law_wide","_law_cell_here","_law_far"] (zff K A):=by
 refine F.okV zcG ↑4 ↥7
 obtain ⟨P0,P1,P2⟩:=x
 have hu:=hr.units
 replace hp:zdA P0 P1 P2:=hp
 unfold zdA at hp
 refine ⟨_,(zac (zao (i:=3) zcG.nd rfl ⇑0 (zbf zeV)) (zac (zch PassesOwn.never rfl (zb9 rfl T.range ↑[pv 0]) (zak (i:=4) zcG.nd rfl ⇑0 ⇑0) (zac (zao (i:=5) zcG.nd rfl ⇑0 (zaO yab ↥1 rfl zaK ↑[pv 1,zaw zcD (pv 2) (pv 4),zah])) (zac (zao (i:=6) zcG.nd rfl ⇑0 (za1 ↑7 (zbf (zbx zah ↑[zah,zah,zah,zah,zah,zah])) (pv 5) ⇑3)) (zac (zco (PW.pt (zkr (zaF zgq (pv 5) zah (zaM _)) (zig (zaF zgq (zaw zcI (pv 1) zah) zah (zaM _))))) (zac (zao (i:=6) zcG.nd rfl ⇑0 (zaw zcD zah (zaO yab ↥1 rfl zaK ↑[pv 1,zaw zcD (zaw zcD (pv 2) zah) (pv 4),zaw zpC zah zah]))) zae) zae) (zac (zcR (zbO (K:=K) rfl (pv 3) ↑[pv 6])) zae))))) (zac (zaJ (pv 3)) zae))),.inl ?_⟩
 show L2.Run _ ([⇑[dI P0],⇑[dI P1],⇑[dI P2],.no,.no,.no,.no]:L2.Ctx) _ (↑166 (zaW P0 P1 P2))
 unfold zaW
 exact (zfx (m:=true) (ds:=List.map dI []) ↑119 (zbh (s0:=[]) ↑239 ↑166 (λ(s235:Ji) (x236:Int)=>(Let (zaf P1 (P2+x236) (7:Int)) (λ(v240:Int)=>(Let (ixD [(0:Int),(1:Int),(2:Int),(3:Int),(6:Int),(0:Int),(4:Int)] v240) (λ(v241:Int)=>(Let (bif ((decide (v240=(6:Int))) && (decide ((P1%(2:Int))=(1:Int)))) then ((2:Int)+(zaf P1 ((P2+(20:Int))+x236) ↑67)) else v241) (λ(v243:Int)=>(s235++[v243])))))))) (λ(i:Nat) (s235:Ji)=>s235.length≤i) (zdG (m:=true) (n:=P0) ↑9 ↑133) ↑28 ↥(Nat.le_refl 0) (λi237 x236 s235 hx238 hI239=>have v238:=zbi hx238;⟨↥(zmH ↥0),(zam (m:=true) (x:=(zaf P1 (P2+x236) (7:Int))) dI (λz=>Oc.nx (↑239 z)) (Ev.any (m:=true) (zau (x:=(P1,(P2+x236),(7:Int))) (zab ⇑6 (zab (zaQ (x:=P2) (y:=x236) ↑39 ↑38) ↑27)) rfl (by show zaY P1 (P2+x236) (7:Int);refine ⟨by omega,by omega,by first|decide|omega⟩) rfl)) (λv240 hv240=>have hY:=zrx hv240;(zam (m:=true) (x:=(ixD [(0:Int),(1:Int),(2:Int),(3:Int),(6:Int),(0:Int),(4:Int)] v240)) dI (λz=>Oc.nx (↑239 z)) (zbP (f:=dI) (xs:=[(0:Int),(1:Int),(2:Int),(3:Int),(6:Int),(0:Int),(4:Int)]) (Ev.weak (K:=K) (EvO.ev (zbV (zab zaG (zab zaG (zab zaG (zab zaG (zab zaG (zab zaG ↑27)))))) (by show 7≤sizeLine;decide)))) ↑24 ↥(hY)) (λv241 hv241=>(zed (b:=((decide (v240=(6:Int))) && (decide ((P1%(2:Int))=(1:Int))))) (λbb=>([⇑[dI P0],⇑[dI P1],⇑[dI P2],.ow true (List.map dI s235),↥[dI x236],↥[dI v240],↥[dI (bif bb then ((2:Int)+(zaf P1 ((P2+(20:Int))+x236) ↑67)) else v241)]]:L2.Ctx)) (zh8 (b:=(decide (v240=(6:Int)))) (zav (zeZ (x:=v240) (y:=(6:Int)) ↑24 zaG)) (λhb=>(zav (zeZ (x:=(P1%(2:Int))) (y:=(1:Int)) (zaH (x:=P1) (y:=(2:Int)) ⇑6 zaG ⇑1) zaG)))) (λh242=>(zcg (m:=true) (zaQ (x:=(2:Int)) (y:=(zaf P1 ((P2+(20:Int))+x236) ↑67)) zaG (Ev.any (m:=true) (zau (x:=(P1,((P2+(20:Int))+x236),↑67)) (zab ⇑6 (zab (zaQ (x:=(P2+(20:Int))) (y:=x236) (zaQ (x:=P2) (y:=(20:Int)) ↑39 zaG) ↑38) (zab (zaH (x:=(10:Int)) (y:=(9:Int)) zaG zaG ↥(⟨by decide,by decide,by decide⟩)) zag))) rfl (by show zaY P1 ((P2+(20:Int))+x236) ↑67;refine ⟨by omega,by omega,by first|decide|omega⟩) rfl))) (zap ↑28))) (λh242=>(zap ↑28)) (zep (x:=(bif ((decide (v240=(6:Int))) && (decide ((P1%(2:Int))=(1:Int)))) then ((2:Int)+(zaf P1 ((P2+(20:Int))+x236) ↑67)) else v241)) (λv243=>([⇑[dI P0],⇑[dI P1],⇑[dI P2],.ow true (List.map dI s235),↥[dI x236],↥[dI v240],↥[dI v243]]:L2.Ctx)) (λz=>Oc.nx (↑239 z)) (λv243 hv243=>(zcU (f:=dI) (xs:=s235) (x:=v243) rfl ↑78 ↥(zs2 ↥0 ↥0 ↑0) (zap (.eq (.eq (.eq (.eq (.no ↑46))))))))))))))⟩) (λr244 hr244 hI=>(zeK (ziU (i:=3) rfl)))))
theorem zp5 {w c f:Int} (hw:0≤w):(zaW w c f).length=w.toNat∧∀ b∈zaW w c f,0≤b∧b≤1000000001:=by
 unfold zaW Let
 dsimp only
 rw [Lat.zgP,List.nil_append]
 refine ⟨by rw [List.length_map,zaT],λb hb=>?_⟩
 obtain ⟨x,_,rfl⟩:=List.mem_map.mp hb
 have h7:=zev (c:=c) (k:=f+x) (m:=7) ⇑1
 generalize zaf c (f+x) 7=y at *
 have e10:(10:Int)^(9:Int).toNat=1000000000:=by decide +kernel
 rw [e10]
 have h9:=zev (c:=c) (k:=f+20+x) (m:=1000000000) ⇑1
 have key:0≤ixD [(0:Int),(1:Int),(2:Int),(3:Int),(6:Int),(0:Int),(4:Int)] y∧ixD [(0:Int),(1:Int),(2:Int),(3:Int),(6:Int),(0:Int),(4:Int)] y≤6:=by
  have hm:=zce (xs:=[(0:Int),(1:Int),(2:Int),(3:Int),(6:Int),(0:Int),(4:Int)]) (i:=y) (by show InB 7 y;unfold InB;omega)
  generalize ixD [(0:Int),(1:Int),(2:Int),(3:Int),(6:Int),(0:Int),(4:Int)] y=z at *
  simp at hm
  omega
 cases (decide (y=(6:Int))&&decide (c%(2:Int)=(1:Int)))
 ·rw [cond_false];omega
 ·rw [cond_true];omega
theorem zsP {s:Jq} {i w:Nat} {b:Bool} {y:Ji} (h:s.length≤i∧∀ r∈s,r.length=w) (hy:y.length=w):(bif b then (s++[y]) else s).length≤i+1∧∀ r∈(bif b then (s++[y]) else s),r.length=w:=by
 cases b
 ·exact ⟨by show s.length≤_;omega,h.2⟩
 ·refine ⟨by show (s++[y]).length≤_;rw [List.length_append,List.length_singleton];omega,λr hr=>?_⟩
  rcases List.mem_append.mp hr with hr | hr
  ·exact h.2 r hr
  ·rw [List.mem_singleton.mp hr];exact hy
def StP (rows:Jq) (bs:Ji) (idle:Int):Prop:=∃ W:Nat,1≤W∧W≤8∧Sq W W rows∧bs.length=W∧(∀ b∈bs,0≤b∧b≤1000000001)∧0≤idle∧idle≤3
theorem zvl {s rows:Jq} {bs:Ji} {W:Nat} (hI:s.length≤((List.zip rows bs)).length∧∀ r∈s,r.length=W) (hq:Sq W W rows) (w8:W≤8):s.length≤8∧∀ r∈s,r.length=W:=by
 refine ⟨?_,hI.2⟩
 have:=hI.1
 rw [List.length_zip] at this
 have:=hq.1
 omega
theorem zss {w:Nat} {rows a ys:Jq} {k idle:Int} (hw:rows.length=w) (h0:0≤idle) (h:a.length≤8∧∀ r∈a,r.length=w) (hk:k=↑93) (e:ys=a++List.map (λ(_:Int)=>zd8 ↑204 [(0:Int)]) ↑103):Sq w (k+idle).toNat ys:=by
 subst e
 refine ⟨by rw [List.length_append,List.length_map,zaT];omega,λr hr=>?_⟩
 rcases List.mem_append.mp hr with hr | hr
 ·exact h.2 r hr
 ·obtain ⟨x,_,rfl⟩:=List.mem_map.mp hr
  rw [Lat.zer];exact hw
theorem zrb {k idle:Int} {ts:Jq} (e:ts=List.map (λ(x:Int)=>List.map (λ(y:Int)=>(if (decide (y=(k+x))) then (1:Int) else 0)) (zbo 0 (k+idle).toNat)) ↑103):∀ t∈ts,t.length=(k+idle).toNat:=λt ht=>by
 subst e
 obtain ⟨x,_,rfl⟩:=List.mem_map.mp ht
 rw [List.length_map,zaT]
def StI (w n:Nat) (s:Jq×Jq):Prop:=Sq w n s.1∧∀ t∈s.2,t.length=n
theorem zhu {n:Nat} {w:Nat} {s:Jq} {c k x:Int} (h:Sq w n s) (e:x=zaf c k (max (1:Int) ((s.length:Nat):Int))):0≤x∧(x<(n:Int)∨x=0):=by
 subst e;have:=zev (c:=c) (k:=k) (m:=max (1:Int) ((s.length:Nat):Int)) ↑0;rw [h.1] at this ⊢;omega
theorem zhd {n:Nat} {x y:Int} (hx:0≤x∧(x<(n:Int)∨x=0)) (hy:0≤y∧(y<(n:Int)∨y=0)) (h:(!decide (x=y))=true):(0≤x∧x<(n:Int))∧0≤y∧y<(n:Int):=by
 have:x≠y:=by simpa using h
 omega
theorem zqK {n:Nat} {ns:Ji} {x:Int} (h:ns.length=n) (hx:0≤x∧x<(n:Int)):InB ns.length x:=by unfold InB;omega
theorem zqQ {w n:Nat} {s:Jq×Jq} {x y q:Int} (h:StI w n s) (hx:0≤x∧(x<(n:Int)∨x=0)) (hy:0≤y∧(y<(n:Int)∨y=0)) :
  StI w n (bif (!decide (x=y)) then (zdl s.1 y (List.map (λ(z:Int×Int)=>(z.1+(q*z.2))) (List.zip (ixD s.1 y) (ixD s.1 x)))) else s.1,bif (!decide (x=y)) then (List.map (λ(ns:Ji)=>zdl ns x (ixD ns x-(q*ixD ns y))) s.2) else s.2):=by
 by_cases e:x=y
 ·rw [decide_eq_true e];exact h
 ·rw [decide_eq_false e]
  have hl:=zhd hx hy (by simp [e])
  refine ⟨zmD h.1 (zkb h.1 h.1 hl.2 hl.1),λt ht=>?_⟩
  obtain ⟨z,hz,rfl⟩:=List.mem_map.mp ht
  rw [zf9];exact h.2 z hz
theorem zuz {w n:Nat} {s:Jq} {x y:Int} (h:Sq w n s) (hx:0≤x∧x<(n:Int)) (hw:w≤8):(List.zip (ixD s x) (ixD s y)).length≤PySem.sizeLine:=znj (ys:=s) (m:=0) h hx ↑0
theorem ztt {W:Nat} {rows:Jq} {r:Ji} (h:Sq W W rows) (hm:r∈rows) (hw:W≤8):r.length≤PySem.sizeLine:=zan (by have:=h.2 r hm;omega)
theorem zua {W:Nat} {rows:Jq} {bs:Ji} {i:Nat} {p:Ji×Int} (h:Sq W W rows) (hx:rows[i]?=some p.1∧bs[i]?=some p.2):i<W:=by have:=(List.getElem?_eq_some_iff.mp hx.1).1;rw [h.1] at this;exact this
def zaL (P0:Jq) (P1:Ji) (P2:Int) (P3:Ji):(Jq×Jq) :=
 (Let (List.foldl (λ(s245:Jq) (x246:(Ji×Int))=>(Let (bif (decide ((0:Int)<x246.2)) then (s245++[↑222]) else s245) (λ(v254:Jq)=>v254))) [] (List.zip P0 P1)) (λ(r255:Jq)=>(Let ((r255.length:Nat):Int) (λ(v256:Int)=>(Let (r255++(List.map (λ(x257:Int)=>(zd8 ↑31 [(0:Int)])) (zbo 0 P2.toNat))) (λ(v260:Jq)=>(Let (List.map (λ(x261:Int)=>(List.map (λ(x264:Int)=>↑248) (zbo 0 (v256+P2).toNat))) (zbo 0 P2.toNat)) (λ(v267:Jq)=>(Let (List.foldl (λ(s268:Jq×Jq) (x269:Int)=>(Let (zaf x269 (4:Int) ↑87) (λ(v273:Int)=>(Let (zaf x269 (5:Int) ↑87) (λ(v274:Int)=>(Let ((zaf x269 (6:Int) (5:Int))-(2:Int)) (λ(v275:Int)=>(Let (bif (!decide (v273=v274)) then (zdl s268.1 v274 ↑212) else s268.1) (λ(v281:Jq)=>(Let ↑234 (λ(v282:Jq)=>(v281,v282)))))))))))) (v260,v267) P3) (λ(r283:Jq×Jq)=>(r283.1,r283.2)))))))))))
def zdD (P0:Jq) (P1:Ji) (P2:Int) (P3:Ji):Prop:=StP P0 P1 P2
def zfb (K:W.Frag) (A:Adr):Sp:=Spv (ι:=Jq×Ji×Int×Ji) (λx=>[dQ K (List.map lI x.1),dQ K (List.map dI x.2.1),dI x.2.2.1,dQ K (List.map dI x.2.2.2)]) (λx=>zdD x.1 x.2.1 x.2.2.1 x.2.2.2) (λx=>↥[dT [dL (List.map lI ((zaL x.1 x.2.1 x.2.2.1 x.2.2.2).1)),dL (List.map lI ((zaL x.1 x.2.1 x.2.2.1 x.2.2.2).2))]])
theorem za4:FnScope ↑207 ["_law_rows","_law_bottoms_here","_law_idle","_law_cells"] (zad zbr):=↥4
theorem zix (F:Fun K "_law_stirred" "_law_stirred" zbr f fd) (T:Txt K mg A) (yab:Callee P w K mg base ↑1 1 "_law_thing" ↑134 (zcS K A)):FnOk P w K mg base ↑1 2 f fd ["_law_rows","_law_bottoms_here","_law_idle","_law_cells"] (zfb K A):=by
 refine F.okV za4 ↑4 ↥7
 obtain ⟨P0,P1,P2,P3⟩:=x
 have hu:=hr.units
 replace hp:zdD P0 P1 P2 P3:=hp
 unfold zdD at hp
 obtain ⟨W,w1,w8,hq,hb,hbb,hi0,hi3⟩:=hp
 refine ⟨_,(zac (zao (i:=4) za4.nd rfl ⇑0 (zbf zeV)) (zac (zch PassesOwn.never rfl (zb8 (K:=K) rfl rfl T.zip ↑[pv 0,pv 1]) (zba (K:=K) (n:=2) rfl rfl (zay (zak (i:=5) za4.nd rfl ⇑0 ⇑0) (zay (zak (i:=6) za4.nd rfl ↥3 ⇑0) zbE))) (zac (zco (zaF zkj (pv 6) zah (zaM _)) (zac (zcR (zbO (K:=K) rfl (pv 4) ↑[(zbZ rfl (.of (osc:=(zad zbr)) (N:=↑207) (own:=["_law_entry"]) (fvn:=["_law_number"]) (fv:=[6]) rfl rfl ↑5) (za3 (K:=K) rfl (pv 5)) (λ_ _ _ _ _=>⟨(zak (i:=0) (show (["_law_entry","_law_number"]:List Str).Nodup by decide +kernel) rfl ⇑0 ↥3),za5,(zaw zbA (pv 1) (pv 0))⟩))])) zae) zae) zae)) (zac (zao (i:=7) za4.nd rfl ↥3 (zal ↑42 rfl T.len PySem.boot_len ↑[pv 4])) (zac (zao (i:=4) za4.nd rfl ⇑0 (zaw zdE (pv 4) (zbZ rfl (.of (osc:=(zad zbr)) (N:=↑207) (own:=["_law_k"]) (fvn:=["_law_rows"]) (fv:=[0]) rfl rfl ↑5) (zb9 rfl T.range ↑[pv 2]) (λ_ _ _ _ _=>⟨(zak (i:=0) (show (["_law_k","_law_rows"]:List Str).Nodup by decide +kernel) rfl ⇑0 ↥3),za5,(zaw zik ↑85 ↑181)⟩)))) (zac (zfe (i:=8) rfl za4.nd rfl rfl (.of (osc:=(zad zbr)) (N:=↑207) (own:=["_law_k"]) (fvn:=["_law_kept","_law_idle"]) (fv:=[7,2]) rfl rfl ↑5) (zb9 rfl T.range ↑[pv 2]) (λ_ _ _ _ _=>⟨(zak (i:=0) (show (["_law_k","_law_kept","_law_idle"]:List Str).Nodup by decide +kernel) rfl ↥3 ⇑0),za5,(zbZ rfl (.of (osc:=({ kind:=.function,names:=[(".0",.local),("_law_k",.cell),("range",.globalImplicit),("_law_idle",.cell),("_law_kept",.cell)],isGenerator:=false,isCoroutine:=false }:Scope)) (N:=["_law_k","_law_kept","_law_idle"]) (own:=["_law_j"]) (fvn:=["_law_kept","_law_k"]) (fv:=[1,0]) rfl rfl ↑5) (zb9 rfl T.range ↑[zaw zcD (pv 1) (pv 2)]) (λ_ _ _ _ _=>⟨(zak (i:=0) (show (["_law_j","_law_kept","_law_k"]:List Str).Nodup by decide +kernel) rfl ⇑0 ↥3),za5,(zcB zjI rfl T.int ↑5 ↑[zid zgq (pv 0) (zaw zcD (pv 1) (pv 2)) (zaM _)])⟩))⟩)) (zac (zch PassesOwn.never rfl (za3 (K:=K) rfl (pv 3)) (zak (i:=9) za4.nd rfl ⇑0 ⇑0) (zac (zao (i:=10) za4.nd rfl ⇑0 (zaO yab ↥1 rfl zaK ↑[pv 9,zah,(zal (zjJ rfl) rfl T.max PyProof.Rows.boot_max ↑[zah,(zal ↑42 rfl T.len PySem.boot_len ↑[pv 4])])])) (zac (zao (i:=11) za4.nd rfl ⇑0 (zaO yab ↥1 rfl zaK ↑[pv 9,zah,(zal (zjJ rfl) rfl T.max PyProof.Rows.boot_max ↑[zah,(zal ↑42 rfl T.len PySem.boot_len ↑[pv 4])])])) (zac (zao (i:=12) za4.nd rfl ↥3 (zaw zfi (zaO yab ↥1 rfl zaK ↑[pv 9,zah,zah]) zah)) (zac (zco (zaF zfD (pv 10) (pv 11) (zaM _)) (zac (zhv (zbZ rfl (.of (osc:=(zad zbr)) (N:=↑207) (own:=↑96) (fvn:=["_law_many"]) (fv:=[12]) rfl rfl ↑5) (zb8 (K:=K) rfl rfl T.zip ↑[(za1 ↑7 (pv 4) (pv 11) ⇑3),(za1 ↑7 (pv 4) (pv 10) ⇑3)]) ↑208) (zjA (pv 4) (pv 11) zgS)) (zac (zch PassesOwn.never rfl (za3 (K:=K) rfl (pv 8)) (zak (i:=13) za4.nd rfl ⇑0 ⇑0) (zac (zhv (zaw zfi (za1 ↑7 (pv 13) (pv 10) ⇑3) (zaw zbA (pv 12) (za1 ↑7 (pv 13) (pv 11) ⇑3))) (zjA (pv 13) (pv 10) zgS)) zae)) zae)) zae) zae))))) (zac (zaJ (zgn ↑[pv 4,pv 8])) zae))))))),.inl ?_⟩
 show L2.Run _ ([⇑[dQ K ⇑8],⇑[dQ K ⇑4],⇑[dI P2],⇑[dQ K ↑125],.no,.no,.no,.no,.no,.no,.no,.no,.no,.no]:L2.Ctx) _ (↑86 (zaL P0 P1 P2 P3))
 unfold zaL
 exact (zfx (m:=true) (ds:=List.map lI []) ↑119 (zbh (s0:=[]) (λ(s245:Jq)=>([⇑[dQ K ⇑8],⇑[dQ K ⇑4],⇑[dI P2],⇑[dQ K ↑125],.ow true (List.map lI s245),.no,.no,.no,.no,.no,.no,.no,.no,.no]:L2.Ctx)) ↑86 (λ(s245:Jq) (x246:(Ji×Int))=>(Let (bif (decide ((0:Int)<x246.2)) then (s245++[↑222]) else s245) (λ(v254:Jq)=>v254))) (λ(i:Nat) (s245:Jq)=>s245.length≤i∧∀ r∈s245,r.length=W) (zen (m:=false) lI dI (xs:=P0) (ys:=P1) ↑2 ↑3) ↑195 ↥(⟨Nat.le_refl 0,λr hr=>by simp at hr⟩) (λi247 x246 s245 hx248 hI249=>have v248:=zbL hx248;⟨↥(zsP ↥0 (by rw [List.length_map];exact hq.2 _ (List.mem_of_getElem? (↥0:_∧_).1))),(zed (b:=(decide ((0:Int)<x246.2))) (λbb=>([⇑[dQ K ⇑8],⇑[dQ K ⇑4],⇑[dI P2],⇑[dQ K ↑125],.ow true (List.map lI (bif bb then (s245++[↑222]) else s245)),⇑[dL (List.map dI x246.1)],⇑[dI x246.2],.no,.no,.no,.no,.no,.no,.no]:L2.Ctx)) (zav (zaQ (x:=x246.2) (y:=(0:Int)) (Ev.any (m:=false) ↑72) zaG)) (λh250=>(zcU (f:=lI) (xs:=s245) (x:=↑222) rfl (EvO.ev (EvO.conv (zbW (g:=(λ(x251:Int)=>dI (x246.2*x251))) (zbY (m:=false) dI (xs:=x246.1) ↑112) ↥(ztt hq (List.mem_of_getElem? (↥0:_∧_).1) w8) ⇑5 (λi252 x251 hx253=>have v253:=List.mem_of_getElem? hx253;(zaH (x:=x246.2) (y:=x251) ⇑6 ↑9 (by have z:=hbb _ (List.mem_of_getElem? (↥0:_∧_).2);exact .inl ↑43)))) ↑10)) (by have z:=zua hq ↥0;exact Nat.lt_of_le_of_lt (show _≤1000 by omega) ⇑1) (zap ↑195))) (λh250=>(zap ↑195)) (zep (x:=(bif (decide ((0:Int)<x246.2)) then (s245++[↑222]) else s245)) (λv254=>([⇑[dQ K ⇑8],⇑[dQ K ⇑4],⇑[dI P2],⇑[dQ K ↑125],.ow true (List.map lI v254),⇑[dL (List.map dI x246.1)],⇑[dI x246.2],.no,.no,.no,.no,.no,.no,.no]:L2.Ctx)) (λz=>Oc.nx ((λ(s245:Jq)=>([⇑[dQ K ⇑8],⇑[dQ K ⇑4],⇑[dI P2],⇑[dQ K ↑125],.ow true (List.map lI s245),.no,.no,.no,.no,.no,.no,.no,.no,.no]:L2.Ctx)) z)) (λv254 hv254=>(zap (.eq (.eq (.eq (.eq (.eq (.no (.no ↑28)))))))))))⟩) (λr255 hr255 hI=>(zam (m:=true) (x:=((r255.length:Nat):Int)) dI ↑86 (zg3 (f:=lI) (xs:=r255) rfl) (λv256 hv256=>have hL:=zvl hI hq w8;have hK:=hv256;(zda (i:=4) rfl (zgK (m:=true) (x:=(r255++(List.map (λ(x257:Int)=>(zd8 ↑31 [(0:Int)])) (zbo 0 P2.toNat)))) (λz=>List.map lI z) ↑86 (zcs (f:=lI) (xs:=r255) (ys:=(List.map (λ(x257:Int)=>(zd8 ↑31 [(0:Int)])) (zbo 0 P2.toNat))) (zaa (i:=4) rfl) (EvO.ev (EvO.conv (zbW (g:=(λ(x257:Int)=>dL (List.map dI (zd8 ↑31 [(0:Int)])))) (zdG (m:=true) (n:=P2) ↑39 ↑133) ↥(zan ↑95) ⇑5 (λi258 x257 hx259=>have v259:=zbi hx259;(EvO.ev (zgD (f:=dI) (xs:=[(0:Int)]) (n:=↑31) ↑75 (zaZ (f:=lI) (xs:=P0) ↑3) (by have z:=hq.1;constructor<;>omega) (by show 1*_≤PySem.sizeLine;have z:=hq.1;exact zan ↑0))))) ↑10)) ↥(zan (by rw [List.length_map,zaT];omega))) (λv260 hv260=>have hS:=zss hq.1 hi0 hL hK hv260;(zi1 (x:=(List.map (λ(x261:Int)=>(List.map (λ(x264:Int)=>↑248) (zbo 0 (v256+P2).toNat))) (zbo 0 P2.toNat))) dRI ↑86 (zjR (zoM (ns:=λ(x261:Int)=>(List.map (λ(x264:Int)=>↑248) (zbo 0 (v256+P2).toNat))) (zdG (m:=true) (n:=P2) ↑39 ↑133) ↥(zan ↑95) ⇑5 (λi262 x261 hx263=>have v263:=zbi hx263;(EvO.conv (zbW (g:=(λ(x264:Int)=>dI ↑248)) (zdG (m:=true) (n:=(v256+P2)) (zaQ (x:=v256) (y:=P2) ⇑6 ↑39) ↑133) ↥(zan ↑95) ⇑5 (λi265 x264 hx266=>have v266:=zbi hx266;(znQ (b:=(decide (x264=(v256+x261)))) (zab (zeZ (x:=x264) (y:=(v256+x261)) ↑91 (zaQ (x:=v256) (y:=x261) ⇑6 ↑54)) zag)))) ↑10)))) (λv267 hv267=>have hTr:=zrb hv267;(zbh (s0:=(v260,v267)) ↑173 ↑86 (λ(s268:Jq×Jq) (x269:Int)=>(Let (zaf x269 (4:Int) ↑87) (λ(v273:Int)=>(Let (zaf x269 (5:Int) ↑87) (λ(v274:Int)=>(Let ((zaf x269 (6:Int) (5:Int))-(2:Int)) (λ(v275:Int)=>(Let (bif (!decide (v273=v274)) then (zdl s268.1 v274 ↑212) else s268.1) (λ(v281:Jq)=>(Let ↑234 (λ(v282:Jq)=>(v281,v282)))))))))))) (λ(i:Nat) (s268:Jq×Jq)=>StI W (v256+P2).toNat s268) (zbY (m:=false) dI (xs:=P3) ↑29) ↑195 ↥(⟨hS,hTr⟩) (λi270 x269 s268 hx271 hI272=>have v271:=List.mem_of_getElem? hx271;⟨↥(zqQ ↥0 (zhu (↑120).1 rfl) (zhu (↑120).1 rfl)),(zam (m:=true) (x:=(zaf x269 (4:Int) ↑87)) dI (λz=>Oc.nx (↑173 z)) (Ev.any (m:=true) (zau (x:=(x269,(4:Int),↑87)) (zab (Ev.any (m:=false) ↑126) (zab zaG (zab (zpw (x:=(1:Int)) (y:=((s268.1.length:Nat):Int)) (zab zaG (zab (zg3 (f:=lI) (xs:=s268.1) rfl) zag))) zag))) rfl (by show zaY x269 (4:Int) ↑87;refine ⟨by decide,by decide,by omega⟩) rfl)) (λv273 hv273=>have hO:=zhu (↑120).1 hv273;(zam (m:=true) (x:=(zaf x269 (5:Int) ↑87)) dI (λz=>Oc.nx (↑173 z)) (Ev.any (m:=true) (zau (x:=(x269,(5:Int),↑87)) (zab (Ev.any (m:=false) ↑126) (zab zaG (zab (zpw (x:=(1:Int)) (y:=((s268.1.length:Nat):Int)) (zab zaG (zab (zg3 (f:=lI) (xs:=s268.1) rfl) zag))) zag))) rfl (by show zaY x269 (5:Int) ↑87;refine ⟨by decide,by decide,by omega⟩) rfl)) (λv274 hv274=>have hT:=zhu (↑120).1 hv274;(zam (m:=true) (x:=((zaf x269 (6:Int) (5:Int))-(2:Int))) dI (λz=>Oc.nx (↑173 z)) (zaQ (x:=(zaf x269 (6:Int) (5:Int))) (y:=(2:Int)) (Ev.any (m:=true) (zau (x:=(x269,(6:Int),(5:Int))) (zab (Ev.any (m:=false) ↑126) (zab zaG ↑27)) rfl (by show zaY x269 (6:Int) (5:Int);refine ⟨by decide,by decide,by omega⟩) rfl)) zaG) (λv275 hv275=>have hM:=zls hv275;(zed (b:=(!decide (v273=v274))) (λbb=>([⇑[dQ K ⇑8],⇑[dQ K ⇑4],⇑[dI P2],⇑[dQ K ↑125],.ow true (List.map lI (bif bb then (zdl s268.1 v274 ↑212) else s268.1)),.no,.no,↥[dI v256],.tl (dRI (bif bb then (List.map (λ(ns280:Ji)=>zdl ns280 v273 ((ixD ns280 v273)-(v275*(ixD ns280 v274)))) s268.2) else s268.2)),⇑[dI x269],↥[dI v273],↥[dI v274],↥[dI v275],.no]:L2.Ctx)) (zav (zdH (x:=v273) (y:=v274) ↑190 (Ev.any (m:=true) (zaa (i:=11) rfl)))) (λh276=>(zgb (f:=lI) (xs:=s268.1) (x:=↑212) rfl (EvO.ev (EvO.conv (zbW (g:=(λ(x277:↥6)=>dI (x277.1+(v275*x277.2)))) (zen (m:=true) dI dI (xs:=(ixD s268.1 v274)) (ys:=(ixD s268.1 v273)) (Ev.weak (K:=K) (zft (f:=lI) (xs:=s268.1) rfl (Ev.any (m:=true) (zaa (i:=11) rfl)) ↥(zib (↑120).1 (↑97).2.1 (↑97).2.2))) (Ev.weak (K:=K) (zft (f:=lI) (xs:=s268.1) rfl ↑190 ↥(zib (↑120).1 (↑97).1.1 (↑97).1.2)))) ↥(zuz (↑120).1 (↑97).2 w8) ⇑5 (λi278 x277 hx279=>have v279:=zbL hx279;(zaQ (x:=x277.1) (y:=(v275*x277.2)) ↑91 (zaH (x:=v275) (y:=x277.2) ↑54 ↑60 ↥(.inl ↑43))))) ↑10)) (Ev.any (m:=true) (zaa (i:=11) rfl)) ↥(zib (↑120).1 (↑97).2.1 (↑97).2.2) (zlc (nss:=s268.2) (i:=8) (j:=13) (v:=λ(ns280:Ji)=>((ixD ns280 v273)-(v275*(ixD ns280 v274)))) (k:=v273) (P:=λ(ns280:Ji)=>ns280.length=(v256+P2).toNat) rfl rfl rfl ↥((↑120).2) (λns280 hns=>↥(zqK hns (↑97).1)) (λns280 hns=>Ev.borrow (m:=false) rfl (zaQ (x:=(ixD ns280 v273)) (y:=(v275*(ixD ns280 v274))) (Ev.any (m:=true) (zbP (f:=dI) (xs:=ns280) (Ev.weak (K:=K) (zaa (i:=13) rfl)) ↑190 ↥(zqK hns (↑97).1))) (zaH (x:=v275) (y:=(ixD ns280 v274)) (Ev.any (m:=true) (zaa (i:=12) rfl)) (Ev.any (m:=true) (zbP (f:=dI) (xs:=ns280) (Ev.weak (K:=K) (zaa (i:=13) rfl)) (Ev.any (m:=true) (zaa (i:=11) rfl)) ↥(zqK hns (↑97).2))) ↥(.inl ↑43)))) (λns280 hns=>Ev.borrow (m:=false) rfl ↑190) (zap ↑195)))) (λh276=>(zap ↑195)) (zep (x:=(bif (!decide (v273=v274)) then (zdl s268.1 v274 ↑212) else s268.1)) (λv281=>([⇑[dQ K ⇑8],⇑[dQ K ⇑4],⇑[dI P2],⇑[dQ K ↑125],.ow true (List.map lI v281),.no,.no,↥[dI v256],.tl (dRI ↑234),⇑[dI x269],↥[dI v273],↥[dI v274],↥[dI v275],.no]:L2.Ctx)) (λz=>Oc.nx (↑173 z)) (λv281 hv281=>(zep (x:=↑234) (λv282=>([⇑[dQ K ⇑8],⇑[dQ K ⇑4],⇑[dI P2],⇑[dQ K ↑125],.ow true (List.map lI v281),.no,.no,↥[dI v256],.tl (dRI v282),⇑[dI x269],↥[dI v273],↥[dI v274],↥[dI v275],.no]:L2.Ctx)) (λz=>Oc.nx (↑173 z)) (λv282 hv282=>(zap (.eq (.eq (.eq (.eq (.eq (.eq (.eq (.eq (.eq (.no (.no (.no (.no (.eq .nil))))))))))))))))))))))))))⟩) (λr283 hr283 hI=>(zhc rfl (zda (i:=4) rfl (zaj (zaC (zgo (zab (zaa (i:=4) rfl) (zab (ztS (zaa (i:=8) rfl)) zag)) ↑89)))))))))))))))))
theorem znt {b:Nat} {l t:Ji} {q:Int} (h:Lat.Bit b l) (k:Lat.Bit b t) (hq:-2≤q∧q≤2):Lat.Bit (b+2) (List.map (λ(x:Int×Int)=>x.1+(q*x.2)) (List.zip l t))∧Lat.Bit (b+2) (List.map (λ(x:Int×Int)=>x.1-(q*x.2)) (List.zip l t)):=by
 have a4:(2:Nat)^(b+2)=4*2^b:=by rw [Nat.pow_add];omega
 have key:∀ x:Int×Int,x∈List.zip l t->x.1.natAbs≤2^b∧(q*x.2).natAbs≤2*2^b:=λx hx=>by
  obtain ⟨h1,h2⟩:=List.of_mem_zip (a:=x.1) (b:=x.2) hx
  exact ⟨h _ h1,by rw [Int.natAbs_mul];exact Nat.mul_le_mul ↑0 (k _ h2)⟩
 refine ⟨λy hy=>?_,λy hy=>?_⟩ <;>
 ·obtain ⟨x,hx,rfl⟩:=List.mem_map.mp hy
  have:=key x hx
  rw [a4]
  omega
def FrJ (W b:Nat) (s:Jq×Jq):Prop:=(s.1.length=W∧Lat.RB W b s.1)∧s.2.length=W∧Lat.RB W b s.2
theorem zpO {W b:Nat} {rows:Jq} {i:Int} {y:Ji} (h:rows.length=W∧Lat.RB W b rows) (hy:y.length=W∧Lat.Bit (b+2) y):(zdl rows i y).length=W∧Lat.RB W (b+2) (zdl rows i y):=by
 refine ⟨by rw [zf9];exact h.1,λr hr=>?_⟩
 rcases Lat.zhF hr with rfl | hr
 ·exact hy
 ·exact ⟨(h.2 r hr).1,((h.2 r hr).2).mono ↑0⟩
theorem zr9 {W b:Nat} {rows:Jq} (h:rows.length=W∧Lat.RB W b rows):rows.length=W∧Lat.RB W (b+2) rows:=⟨h.1,λr hr=>⟨(h.2 r hr).1,((h.2 r hr).2).mono ↑0⟩⟩
theorem zl0 {W b n:Nat} {rows:Jq} (h:rows.length=n∧Lat.RB W b rows):Sq W n rows:=⟨h.1,λr hr=>(h.2 r hr).1⟩
def frF (w:Int):Jq×Jq->Int->Jq×Jq:=λs x=>Let (zaf x (1:Int) w) (λ(one:Int)=>Let (zaf x (2:Int) w) (λ(two:Int)=>Let ((zaf x (3:Int) (5:Int))-(2:Int)) (λ(many:Int)=>Let (bif (!decide (one=two)) then (zdl s.1 two (List.map (λ(x35:↥6)=>(x35.1+(many*x35.2))) (List.zip (ixD s.1 two) (ixD s.1 one)))) else s.1) (λ(rows41:Jq)=>Let (bif (!decide (one=two)) then (zdl s.2 one (List.map (λ(x38:↥6)=>(x38.1-(many*x38.2))) (List.zip (ixD s.2 one) (ixD s.2 two)))) else s.2) (λ(duals42:Jq)=>(rows41,duals42))))))
theorem zmy {w:Int} {W:Nat} (hw:w=(W:Int)) (h1:1≤w):∀ (cs:Ji) (b:Nat) (s:Jq×Jq),FrJ W b s->FrJ W (b+2*cs.length) (List.foldl (frF w) s cs)
 | [],b,s,h=>h
 | c :: cs,b,s,h=>by
  rw [List.foldl_cons,List.length_cons,show b+2*(cs.length+1)=b+2+2*cs.length by omega]
  refine zmy hw h1 cs (b+2) _ ?_
  have hO:=ze8 (c:=c) (k:=1) hw h1 rfl
  have hT:=ze8 (c:=c) (k:=2) hw h1 rfl
  have hM:=zls (c:=c) (k:=3) rfl
  unfold frF Let
  dsimp only
  generalize zaf c 1 w=one at *
  generalize zaf c 2 w=two at *
  generalize zaf c 3 5-2=many at *
  have q1:=zl0 h.1
  have q2:=zl0 h.2
  have m:∀ {rows:Jq} {x:Int},rows.length=W∧Lat.RB W b rows->0≤x∧x<(W:Int)->Lat.Bit b (ixD rows x):=λh hx=>(h.2 _ (zce (zib (zl0 h) hx.1 hx.2))).2
  cases (!decide (one=two))
  ·exact ⟨zr9 h.1,zr9 h.2⟩
  ·exact ⟨zpO h.1 ⟨zkb q1 q1 hT hO,(znt (m h.1 hT) (m h.1 hO) hM).1⟩,zpO h.2 ⟨zkb q2 q2 hO hT,(znt (m h.2 hO) (m h.2 hT) hM).2⟩⟩
theorem zll {w:Int} {W:Nat} {cs:Ji} (hw:w=(W:Int)) (h1:1≤w):FrJ W (2*cs.length) (zbS w cs):=by
 have h:=zmy hw h1 cs 0 (List.map ↑153 ↑107,List.map ↑37 (List.map ↑153 ↑107)) (by
  have h0:∀ x:Int,Lat.Bit 0 (List.map (λ(y:Int)=>(if (decide (y=x)) then (1:Int) else 0)) ↑107):=λx y hy=>by
   obtain ⟨z,_,rfl⟩:=List.mem_map.mp hy
   cases decide (z=x)<;>decide
  have hA:(((List.map ↑153 ↑107)).length=W)∧Lat.RB W 0 (List.map ↑153 ↑107):=by
   refine ⟨by rw [List.length_map,zaT];omega,λr hr=>?_⟩
   obtain ⟨x,_,rfl⟩:=List.mem_map.mp hr
   exact ⟨by rw [List.length_map,zaT];omega,h0 x⟩
  exact ⟨hA,by rw [List.map_id'];exact hA⟩)
 rw [Nat.zero_add] at h
 exact h
def zuR (n:Nat) (swaps trips:Jq):Prop:=∀ t∈trips,∀ j,j<n->Lat.comb t (swaps.map Lat.vec) j=0
def StJ (n k b c:Nat) (s:Jq×Jq):Prop:=(s.1.length=k∧Lat.RB n b s.1)∧(∀ t∈s.2,t.length=k∧Lat.Bit c t)∧zuR n s.1 s.2
theorem zpq {rows:Jq} {k:Nat} {y:Ji}:(rows.set k y).map Lat.vec=(rows.map Lat.vec).set k (Lat.vec y):=List.map_set
theorem zhY {α:Type} {xs:List α} {k:Nat} {x:α} (h:k<xs.length):zdl xs (k:Int) x=xs.set k x:=by
 unfold zdl ixN
 rw [if_pos ↑0,if_pos ↑0]
 show xs.set (k:Int).toNat x=_
 rw [Int.toNat_natCast]
def stF:Jq×Jq->Int->Jq×Jq:=λs x=>Let (zaf x (4:Int) ↑88) (λ(one:Int)=>Let (zaf x (5:Int) ↑88) (λ(two:Int)=>Let ((zaf x (6:Int) (5:Int))-(2:Int)) (λ(many:Int) =>
 Let (bif (!decide (one=two)) then (zdl s.1 two (List.map (λ(z:↥6)=>(z.1+(many*z.2))) (List.zip (ixD s.1 two) (ixD s.1 one)))) else s.1) (λ(swaps:Jq) =>
 Let (bif (!decide (one=two)) then (List.map (λ(ns:Ji)=>zdl ns one ((ixD ns one)-(many*(ixD ns two)))) s.2) else s.2) (λ(trips:Jq)=>(swaps,trips))))))
theorem zkX {n k:Nat}:∀ (cs:Ji) (b c:Nat) (s:Jq×Jq),StJ n k b c s->StJ n k (b+2*cs.length) (c+2*cs.length) (List.foldl stF s cs)
 | [],b,c,s,h=>h
 | x :: cs,b,c,s,h=>by
  rw [List.foldl_cons,List.length_cons,show b+2*(cs.length+1)=b+2+2*cs.length by omega,show c+2*(cs.length+1)=c+2+2*cs.length by omega]
  refine zkX cs (b+2) (c+2) _ ?_
  obtain ⟨h1,h2,h3⟩:=h
  have hq:=zl0 h1
  have hO:=zhu (c:=x) (k:=4) hq rfl
  have hT:=zhu (c:=x) (k:=5) hq rfl
  have hM:=zls (c:=x) (k:=6) rfl
  unfold stF Let
  dsimp only
  generalize zaf x 4 ↑88=one at *
  generalize zaf x 5 ↑88=two at *
  generalize zaf x 6 5-2=many at *
  by_cases e:one=two
  ·rw [decide_eq_true e]
   exact ⟨⟨h1.1,λr hr=>⟨(h1.2 r hr).1,((h1.2 r hr).2).mono ↑0⟩⟩,λt ht=>⟨(h2 t ht).1,((h2 t ht).2).mono ↑0⟩,h3⟩
  ·rw [decide_eq_false e]
   have hl:=zhd hO hT (by simp [e])
   obtain ⟨o,rfl⟩:∃ o:Nat,one=(o:Int):=⟨one.toNat,by omega⟩
   obtain ⟨w,rfl⟩:∃ w:Nat,two=(w:Int):=⟨two.toNat,by omega⟩
   have how:o≠w:=λz=>e (by rw [z])
   have ho:o<s.1.length:=by rw [h1.1];omega
   have hw:w<s.1.length:=by rw [h1.1];omega
   have ge:∀ {i:Nat} (hi:i<s.1.length),ixD s.1 (i:Int)=s.1[i]:=λhi=>zcr (List.getElem?_eq_getElem hi)
   show StJ n k (b+2) (c+2) (zdl s.1 (w:Int) _,List.map _ s.2)
   rw [ge ho,ge hw,zhY hw]
   have ro:=h1.2 _ (List.getElem_mem ho)
   have rw':=h1.2 _ (List.getElem_mem hw)
   refine ⟨⟨by rw [List.length_set];exact h1.1,λr hr=>?_⟩,λt ht=>?_,λt ht j hj=>?_⟩
   ·rcases List.mem_or_eq_of_mem_set hr with h' | rfl
    ·exact ⟨(h1.2 r h').1,((h1.2 r h').2).mono ↑0⟩
    ·exact ⟨by rw [List.length_map,List.length_zip,ro.1,rw'.1];omega,(znt rw'.2 ro.2 hM).1⟩
   ·obtain ⟨ns,hns,rfl⟩:=List.mem_map.mp ht
    have hn:=h2 ns hns
    refine ⟨by rw [zf9];exact hn.1,λy hy=>?_⟩
    have a4:(2:Nat)^(c+2)=4*2^c:=by rw [Nat.pow_add];omega
    rcases Lat.zhF hy with rfl | hy
    ·have b1:=hn.2 _ (zce (xs:=ns) (i:=(o:Int)) (by unfold InB;omega))
     have b2:=hn.2 _ (zce (xs:=ns) (i:=(w:Int)) (by unfold InB;omega))
     have b3:(many*ixD ns (w:Int)).natAbs≤2*2^c:=by rw [Int.natAbs_mul];exact Nat.mul_le_mul ↑0 b2
     rw [a4];omega
    ·have:=hn.2 y hy
     rw [a4];omega
   ·obtain ⟨ns,hns,rfl⟩:=List.mem_map.mp ht
    have hn:=h2 ns hns
    have no:o<ns.length:=by omega
    have nw:w<ns.length:=by omega
    have e1:ixD ns (o:Int)=ns[o]:=zcr (List.getElem?_eq_getElem no)
    have e2:ixD ns (w:Int)=ns[w]:=zcr (List.getElem?_eq_getElem nw)
    rw [zhY no,e1,e2,zpq]
    rw [Lat.zj8 (t1:=ns[o]) (t2:=ns[w]) (a1:=Lat.vec s.1[o]) (a2:=Lat.vec s.1[w]) how (List.getElem?_eq_getElem no) (List.getElem?_eq_getElem nw) (by rw [List.getElem?_map,List.getElem?_eq_getElem ho];rfl) (by rw [List.getElem?_map,List.getElem?_eq_getElem hw];rfl) (Lat.zfc (by rw [ro.1,rw'.1]))]
    exact h3 ns hns j hj
theorem znw {W b:Nat}:∀ (l:List (Ji×Int)) (acc:Jq),(∀ p∈l,p.1.length=W∧Lat.Bit b p.1∧0≤p.2∧p.2≤1000000001)->Lat.RB W (b+30) acc->(List.foldl ↑210 acc l).length≤acc.length+l.length∧Lat.RB W (b+30) (List.foldl ↑210 acc l)
 | [],acc,_,h=>⟨Nat.le_refl _,h⟩
 | p :: l,acc,hl,h=>by
  have hp:=hl p List.mem_cons_self
  rw [List.foldl_cons]
  have hn:((bif (decide ((0:Int)<p.2)) then (acc++[List.map (λ(y:Int)=>(p.2*y)) p.1]) else acc)).length≤acc.length+1∧Lat.RB W (b+30) (bif (decide ((0:Int)<p.2)) then (acc++[List.map (λ(y:Int)=>(p.2*y)) p.1]) else acc):=by
   cases decide ((0:Int)<p.2)
   ·exact ⟨Nat.le_succ _,h⟩
   ·refine ⟨by rw [cond_true,List.length_append,List.length_singleton];exact Nat.le_refl _,λr hr=>?_⟩
    rcases List.mem_append.mp hr with hr | hr
    ·exact h r hr
    ·rw [List.mem_singleton.mp hr]
     refine ⟨by rw [List.length_map];exact hp.1,λy hy=>?_⟩
     obtain ⟨z,hz,rfl⟩:=List.mem_map.mp hy
     rw [Int.natAbs_mul,Nat.pow_add,Nat.mul_comm]
     exact Nat.mul_le_mul (hp.2.1 z hz) (Nat.le_trans (show p.2.natAbs≤1000000001 by omega) ⇑1)
  have:=znw l _ (λq hq=>hl q (List.mem_cons_of_mem _ hq)) hn.2
  refine ⟨Nat.le_trans this.1 ?_,this.2⟩
  rw [List.length_cons]
  have:=hn.1
  omega
theorem zsW {W k:Nat} {a:Jq} {idle:Int} (h0:0≤idle) {w:Int}:zuR W (a++List.map (λ(_:Int)=>zd8 w [(0:Int)]) ↑103) (List.map (λ(x:Int)=>List.map (λ(y:Int)=>(if (decide (y=(↑93+x))) then (1:Int) else 0)) (zbo 0 (↑93+idle).toNat)) ↑103):=λt ht j _=>by
 obtain ⟨x,hx,rfl⟩:=List.mem_map.mp ht
 have hx0:=(zlL.mp hx).1
 refine Lat.zij λi y v h1 h2=>?_
 rw [List.getElem?_map] at h1 h2
 cases q:(zbo 0 (↑93+idle).toNat)[i]? with
 | none=>rw [q] at h1;cases h1
 | some z =>
  rw [q] at h1
  obtain ⟨g1,g2⟩:=zbi q
  have h1:(if (decide (z=(↑93+x))) then (1:Int) else 0)=y:=Option.some.inj h1
  by_cases e:i<a.length
  ·rw [decide_eq_false ↑0] at h1
   rw [← h1];simp
  ·rw [List.getElem?_append_right ↑0,List.getElem?_map] at h2
   cases q2:(↑103)[i-a.length]? with
   | none=>rw [q2] at h2;cases h2
   | some z2 =>
    rw [q2] at h2
    have h2:Lat.vec (zd8 w [(0:Int)])=v:=Option.some.inj h2
    rw [← h2]
    have:Lat.vec (zd8 w [(0:Int)]) j=0:=by
     by_cases hw:0≤w
     ·obtain ⟨n,rfl⟩:∃ n:Nat,w=(n:Int):=⟨w.toNat,by omega⟩
      exact Lat.zgv
     ·unfold zd8
      rw [show w.toNat=0 by omega]
      simp [Lat.vec]
    rw [this];simp
theorem ziK {W b:Nat} {rows:Jq} {bs cs:Ji} {idle:Int} (hr:rows.length=W∧Lat.RB W b rows) (hw:W≤8) (hb:∀ x∈bs,0≤x∧x≤1000000001) (hi:0≤idle∧idle≤3) :
  ∃ k,k≤11∧StJ W k (b+30+2*cs.length) (2*cs.length) (zaL rows bs idle cs):=by
 have h0:=znw (W:=W) (b:=b) (List.zip rows bs) [] (λp hp=>by
  have:=List.of_mem_zip (a:=p.1) (b:=p.2) hp
  exact ⟨(hr.2 _ this.1).1,(hr.2 _ this.1).2,hb _ this.2⟩) (λr hr=>by simp at hr)
 rw [List.length_zip,List.length_nil,Nat.zero_add] at h0
 unfold zaL
 generalize ha:(List.foldl ↑210 [] (List.zip rows bs))=a at h0
 show ∃ k,k≤11∧StJ W k _ _ (List.foldl stF (a++List.map (λ(_:Int)=>zd8 ↑204 [(0:Int)]) ↑103,List.map (λ(x:Int)=>List.map (λ(y:Int)=>(if (decide (y=(↑93+x))) then (1:Int) else 0)) (zbo 0 (↑93+idle).toNat)) ↑103) cs)
 have hl:=hr.1
 refine ⟨a.length+idle.toNat,by have:=h0.1;omega,?_⟩
 have:=zkX (n:=W) (k:=a.length+idle.toNat) cs (b+30) 0 (a++List.map (λ(_:Int)=>zd8 ↑204 [(0:Int)]) ↑103,List.map (λ(x:Int)=>List.map (λ(y:Int)=>(if (decide (y=(↑93+x))) then (1:Int) else 0)) (zbo 0 (↑93+idle).toNat)) ↑103) ⟨⟨by rw [List.length_append,List.length_map,zaT],λr hr'=>?_⟩,λt ht=>?_,zsW (k:=0) (a:=a) (w:=↑204) hi.1⟩
 ·rw [Nat.zero_add] at this
  exact this
 ·rcases List.mem_append.mp hr' with hr' | hr'
  ·exact h0.2 r hr'
  ·obtain ⟨x,_,rfl⟩:=List.mem_map.mp hr'
   refine ⟨by rw [Lat.zer];exact hl,λy hy=>?_⟩
   obtain ⟨j,_,rfl⟩:=Lat.zod hy
   rw [Lat.zgv];exact Nat.zero_le _
 ·obtain ⟨x,_,rfl⟩:=List.mem_map.mp ht
  refine ⟨by rw [List.length_map,zaT];omega,λy hy=> ?_⟩
  obtain ⟨z,_,rfl⟩:=List.mem_map.mp hy
  cases decide (z=(↑93+x))<;>decide
theorem ztH {xs:Ji} {h:Int} (e:h=((xs.length:Nat):Int)/(2:Int)) (hx:xs.length≤60):(cutD xs none (some h)).length≤31∧(cutD xs (some h) none).length≤33:=by
 obtain ⟨k,rfl⟩:∃ k:Nat,h=(k:Int):=⟨h.toNat,by omega⟩
 unfold cutD
 simp only [HT.sIx_nat,HT.sIx_none,List.length_take,List.length_drop]
 omega
theorem zpc:∀ (cs:Ji) (s:Jq×Jq),((List.foldl stF s cs)).2.length=s.2.length
 | [],_=>rfl
 | c :: cs,s=>by
  rw [List.foldl_cons,zpc cs]
  unfold stF Let
  dsimp only
  cases (!decide (zaf c (4:Int) ↑88=zaf c (5:Int) ↑88))
  ·rfl
  ·rw [cond_true,List.length_map]
abbrev Sd4:=T4 Jq Jq Ji Jq
theorem zuf {w x k i:Int} {cs o:Ji} {f:Jq×Jq} (hW:1≤w∧w≤8) (hF:f=zbS w cs) (hO:o=zaW w x k) (hI:0≤i∧i≤3):StP f.1 o i:=by
 obtain ⟨W,hWW⟩:∃ W:Nat,w=(W:Int):=⟨w.toNat,by omega⟩
 have h:=zll (cs:=cs) hWW hW.1
 rw [← hF] at h
 have b:=zp5 (w:=w) (c:=x) (f:=k) ↑0
 rw [← hO] at b
 exact ⟨W,by omega,by omega,zl0 h.1,by omega,b.2,hI.1,hI.2⟩
theorem znq {w:Int} {W:Nat} (hw:w=(W:Int)) (h1:1≤w):∀ (cs:Ji) (s:Jq×Jq),Lat.Du W s->Lat.Du W (List.foldl (frF w) s cs)
 | [],s,h=>h
 | c :: cs,s,h=>by
  rw [List.foldl_cons]
  refine znq hw h1 cs _ ?_
  have hO:=ze8 (c:=c) (k:=1) hw h1 rfl
  have hT:=ze8 (c:=c) (k:=2) hw h1 rfl
  unfold frF Let
  dsimp only
  generalize zaf c 1 w=one at *
  generalize zaf c 2 w=two at *
  generalize zaf c 3 5-2=many at *
  by_cases e:one=two
  ·rw [decide_eq_true e];exact h
  ·rw [decide_eq_false e]
   obtain ⟨o,rfl⟩:∃ o:Nat,one=(o:Int):=⟨one.toNat,by omega⟩
   obtain ⟨t,rfl⟩:∃ t:Nat,two=(t:Int):=⟨two.toNat,by omega⟩
   have ho1:o<s.1.length:=by rw [h.l1];omega
   have ht1:t<s.1.length:=by rw [h.l1];omega
   have ho2:o<s.2.length:=by rw [h.l2];omega
   have ht2:t<s.2.length:=by rw [h.l2];omega
   have g1:=List.getElem?_eq_getElem ho1;have g2:=List.getElem?_eq_getElem ht1
   have g3:=List.getElem?_eq_getElem ho2;have g4:=List.getElem?_eq_getElem ht2
   show Lat.Du W (zdl s.1 (t:Int) _,zdl s.2 (o:Int) _)
   rw [zcr g1,zcr g2,zcr g3,zcr g4,zhY ht1,zhY ho2]
   exact h.step many (λz=>e (by rw [z])) g1 g2 g3 g4
theorem zoN {w:Int} {W:Nat} {cs:Ji} (hw:w=(W:Int)) (h1:1≤w):Lat.Du W (zbS w cs):=by
 have h:=znq hw h1 cs (List.map ↑153 ↑107,List.map ↑37 (List.map ↑153 ↑107)) (by
  rw [List.map_id']
  exact Lat.Du.start (by rw [hw,Int.toNat_natCast]))
 exact h
theorem znu:∀ (cs:Ji) (s:Jq×Jq),((List.foldl stF s cs)).1.length=s.1.length
 | [],_=>rfl
 | c :: cs,s=>by
  rw [List.foldl_cons,znu cs]
  unfold stF Let
  dsimp only
  cases (!decide (zaf c (4:Int) ↑88=zaf c (5:Int) ↑88))
  ·rfl
  ·rw [cond_true,zf9]
theorem zsO {n k:Nat} {u:Lat.Vc}:∀ (cs:Ji) (b c:Nat) (s:Jq×Jq),StJ n k b c s->(Lat.SpL ((List.foldl stF s cs)).1 u ↔ Lat.SpL s.1 u)
 | [],_,_,_,_=>Iff.rfl
 | x :: cs,b,c,s,h=>by
  have h':=zkX [x] b c s h
  rw [List.foldl_cons]
  refine (zsO cs _ _ _ h').trans ?_
  obtain ⟨h1,h2,h3⟩:=h
  have hq:=zl0 h1
  have hO:=zhu (c:=x) (k:=4) hq rfl
  have hT:=zhu (c:=x) (k:=5) hq rfl
  show Lat.SpL (stF s x).1 u ↔ _
  unfold stF Let
  dsimp only
  generalize zaf x 4 ↑88=one at *
  generalize zaf x 5 ↑88=two at *
  generalize zaf x 6 5-2=many at *
  by_cases e:one=two
  ·rw [decide_eq_true e];exact Iff.rfl
  ·rw [decide_eq_false e]
   have hl:=zhd hO hT (by simp [e])
   obtain ⟨o,rfl⟩:∃ o:Nat,one=(o:Int):=⟨one.toNat,by omega⟩
   obtain ⟨t,rfl⟩:∃ t:Nat,two=(t:Int):=⟨two.toNat,by omega⟩
   have ho:o<s.1.length:=by rw [h1.1];omega
   have ht:t<s.1.length:=by rw [h1.1];omega
   have g1:=List.getElem?_eq_getElem ho;have g2:=List.getElem?_eq_getElem ht
   show Lat.SpL (zdl s.1 (t:Int) _) u ↔ _
   rw [zcr g1,zcr g2,zhY ht]
   exact Lat.zpo (λz=>e (by rw [z])) g1 g2 λk=>Lat.zfc (by rw [(h1.2 _ (List.mem_of_getElem? g1)).1,(h1.2 _ (List.mem_of_getElem? g2)).1])
theorem zlx:∀ (l:List (Ji×Int)) (acc:Jq),List.foldl ↑210 acc l=acc++(l.filter λp=>decide (0<p.2)).map λp=>List.map (λ(y:Int)=>p.2*y) p.1
 | [],acc=>by simp
 | p :: l,acc=>by
  rw [List.foldl_cons,zlx l]
  show (bif (decide ((0:Int)<p.2)) then (acc++[List.map (λ(y:Int)=>(p.2*y)) p.1]) else acc)++_=_
  by_cases q:(0:Int)<p.2
  ·rw [decide_eq_true q,List.filter_cons_of_pos ↥(decide_eq_true q),List.map_cons];simp
  ·rw [decide_eq_false q,List.filter_cons_of_neg (by simpa using q)];rfl
theorem ziC {W b:Nat} {rows:Jq} {bs cs:Ji} {idle:Int} {u:Lat.Vc} (hr:rows.length=W∧Lat.RB W b rows) (hw:W≤8) (hb:∀ x∈bs,0≤x∧x≤1000000001) (hi:0≤idle∧idle≤3) :
  (Lat.SpL ((zaL rows bs idle cs)).1 u ↔ Lat.SpL (Lat.scl rows bs) u)∧((zaL rows bs idle cs)).1.length≤W+idle.toNat:=by
 obtain ⟨k,k1,k2⟩:=ziK (cs:=[]) (bs:=bs) hr hw hb hi
 have e:zaL rows bs idle cs=List.foldl stF (zaL rows bs idle []) cs:=rfl
 have e0:(zaL rows bs idle []).1=Lat.scl rows bs++List.map (λ(_:Int)=>zd8 ↑204 [(0:Int)]) ↑103:=by
  show (List.foldl ↑210 [] (List.zip rows bs))++_=_
  rw [zlx,List.nil_append];rfl
 rw [e,znu]
 refine ⟨(zsO cs _ _ _ k2).trans ?_,?_⟩
 ·rw [e0]
  refine Lat.znP λs hs j=>?_
  obtain ⟨_,_,rfl⟩:=List.mem_map.mp hs
  exact Lat.zgv
 ·rw [e0,List.length_append,List.length_map,zaT]
  have:(Lat.scl rows bs).length≤rows.length:=by
   unfold Lat.scl
   rw [List.length_map]
   exact Nat.le_trans (List.length_filter_le _ _) ↑194
  have:=hr.1
  omega
theorem zlZ {W b:Nat} {rows:Jq} {bs cs:Ji} {idle:Int} (hr:rows.length=W∧Lat.RB W b rows) (hw:W≤8) (hb:∀ x∈bs,0≤x∧x≤1000000001) (hi:0≤idle∧idle≤3):Lat.RB W (b+30+2*cs.length) ((zaL rows bs idle cs)).1:=by
 obtain ⟨k,k1,k2⟩:=ziK (cs:=cs) (bs:=bs) hr hw hb hi
 exact k2.1.2
def zbd (P0:Ji) (P1:Int) (P2:Int) (P3:Int):⇑9 :=
 (Let (↑31/(2:Int)) (λ(hv284:Int)=>(Let (zbS P1 (cutD P0 none (some hv284))) (λ(p285:(Jq×Jq))=>(Let (zaW P1 P2 (7:Int)) (λ(v286:Ji)=>(Let ((zaL p285.1 v286 P3 (cutD P0 (some hv284) none)).1) (λ(v287:Jq)=>(T4.mk p285.1 p285.2 v286 v287)))))))))
def zek (P0:Ji) (P1:Int) (P2:Int) (P3:Int):Prop:=(1≤P1∧P1≤8)∧0≤P3∧P3≤3
def zgu (K:W.Frag) (A:Adr):Sp:=Spv (ι:=Ji×Int×Int×Int) (λx=>[dQ K (List.map dI x.1),dI x.2.1,dI x.2.2.1,dI x.2.2.2]) (λx=>zek x.1 x.2.1 x.2.2.1 x.2.2.2) (λx=>↥[dT [dL (List.map lI ((↑255).a)),dL (List.map lI ((↑255).b)),dL (List.map dI ((↑255).c)),dL (List.map lI ((↑255).d))]])
theorem zd5:FnScope ["_law_cells","_law_wide","_law_cell_here","_law_idle","_law_half","_law_rows","_law_duals","_law_bottoms_here","_law_swaps"] ["_law_cells","_law_wide","_law_cell_here","_law_idle"] (zad zeH):=↥4
theorem zkF (F:Fun K "_law_side" "_law_side" zeH f fd) (T:Txt K mg A) (yaW:Callee P w K mg base ↑1 2 "_law_bottoms" ["_law_wide","_law_cell_here","_law_far"] (zff K A)) (ybH:Callee P w K mg base ↑1 2 "_law_frame" ["_law_wide","_law_cells"] (zfV K A)) (yaX:Callee P w K mg base ↑1 2 "_law_stirred" ["_law_rows","_law_bottoms_here","_law_idle","_law_cells"] (zfb K A)):FnOk P w K mg base ↑1 3 f fd ["_law_cells","_law_wide","_law_cell_here","_law_idle"] (zgu K A):=by
 refine F.okV zd5 ↑4 ↥7
 obtain ⟨P0,P1,P2,P3⟩:=x
 have hu:=hr.units
 replace hp:zek P0 P1 P2 P3:=hp
 unfold zek at hp
 refine ⟨_,(zac (zao (i:=4) zd5.nd rfl ⇑0 (zaw zb7 ↑180 zah)) (zac (zhv (zaO ybH ↥1 rfl zaK ↑[pv 1,(zdI ↑82 (pv 0) zfC (zdS (pv 4)))]) (zba (K:=K) (n:=2) rfl rfl (zay (zak (i:=5) zd5.nd rfl ⇑0 ⇑0) (zay (zak (i:=6) zd5.nd rfl ⇑0 ⇑0) zbE)))) (zac (zao (i:=7) zd5.nd rfl ⇑0 (zaO yaW ↥1 rfl zaK ↑[pv 1,pv 2,zah])) (zac (zao (i:=8) zd5.nd rfl ⇑0 (za1 ↑49 (zaO yaX ↥1 rfl zaK ↑[pv 5,pv 7,pv 3,(zdI ↑82 (pv 0) (zdS (pv 4)) zfC)]) zah ⇑3)) (zac (zaJ (zgn ↑[pv 5,pv 6,pv 7,pv 8])) zae))))),.inl ?_⟩
 show L2.Run _ ([⇑[dQ K ↑8],⇑[dI P1],⇑[dI P2],⇑[dI P3],.no,.no,.no,.no,.no]:L2.Ctx) _ (↑209 (zbd P0 P1 P2 P3))
 unfold zbd
 exact (zam (m:=true) (x:=(↑31/(2:Int))) dI ↑209 (zaH (x:=↑31) (y:=(2:Int)) (zaZ (f:=dI) (xs:=P0) ↑2) zaG ↥(⇑5)) (λhv284 hhalf284=>(zkd (m:=true) (x:=(zbS P1 (cutD P0 none (some hv284)))) (λ(p285:(Jq×Jq))=>dL (List.map lI p285.1)) (λ(p285:(Jq×Jq))=>dL (List.map lI p285.2)) ↑209 (zau (x:=(P1,(cutD P0 none (some hv284)))) (zab ⇑6 (zab (Ev.weak (K:=K) (EvO.ev (EvO.anyI (m:=false) (zeN (f:=dI) (xs:=P0) ↑2 zex (zc1 ↑38))))) zag)) rfl (by show zeB P1 (cutD P0 none (some hv284));exact hp.1) rfl) (λp285 hp285=>have hF:=hp285;(zam (m:=true) (x:=(zaW P1 P2 (7:Int))) lI ↑209 (EvO.ev (EvO.anyI (m:=true) (zb5 (x:=(P1,P2,(7:Int))) (zab ⇑6 (zab ↑39 ↑27)) rfl (by show zdA P1 P2 (7:Int);exact ⟨by omega,by omega,by decide,by decide⟩) rfl))) (λv286 hv286=>have hB:=hv286;(zam (m:=true) (x:=(zaL p285.1 v286 P3 (cutD P0 (some hv284) none)).1) ↑167 ↑209 (zbw (zau (x:=(p285.1,v286,P3,(cutD P0 (some hv284) none))) (zab (Ev.old ↑112) (zab (Ev.old ↑115) (zab (Ev.any (m:=false) ↑29) (zab (Ev.weak (K:=K) (EvO.ev (EvO.anyI (m:=false) (zeN (f:=dI) (xs:=P0) ↑2 (zc1 ↑38) zex)))) zag)))) rfl (by show zdD p285.1 v286 P3 (cutD P0 (some hv284) none);exact zuf hp.1 hF hB hp.2) rfl) zaG rfl) (λv287 hv287=>(zaj (zaC (zgo (zab ↑81 (zab ↑72 (zab ↑55 (zab (zaa (i:=8) rfl) zag)))) (by show 4≤sizeLine;decide))))))))))))
structure Sd71 (W fb sb:Nat) (y:Sd4):Prop where
 w1:1≤W
 w8:W≤8
 du:Lat.Du W (y.a,y.b)
 ra:∀ r∈y.a,Lat.Bit fb r
 rb:∀ r∈y.b,Lat.Bit fb r
 bl:y.c.length=W
 b0:∀ b∈y.c,0≤b∧b≤1000000001
 ln:y.d.length≤W+1
 sr:∀ r∈y.d,r.length=W∧Lat.Bit sb r
 sp:∀ u,Lat.SpL y.d u ↔ Lat.SpL (Lat.scl y.a y.c) u
theorem zmz {W h:Nat} {w c idle:Int} {cs:Ji} (hw:w=(W:Int)) (h1:1≤w∧w≤8) (hI:0≤idle∧idle≤1) (hc:cs.length≤2*h):Sd71 W (2*h) (2*h+30+2*h) (zbd cs w c idle):=by
 unfold zbd Let
 dsimp only
 obtain ⟨n,hn⟩:∃ n:Nat,((cs.length:Nat):Int)/2=(n:Int):=⟨cs.length/2,by omega⟩
 rw [hn]
 have c1:(cutD cs none (some (n:Int))).length≤h:=by
  have:(cutD cs none (some (n:Int))).length≤n:=by unfold cutD;simp only [HT.sIx_nat,HT.sIx_none,List.length_take,List.length_drop];omega
  omega
 have c2:(cutD cs (some (n:Int)) none).length≤h:=by
  have:(cutD cs (some (n:Int)) none).length≤cs.length-n:=by unfold cutD;simp only [HT.sIx_nat,HT.sIx_none,List.length_take,List.length_drop];omega
  omega
 generalize cutD cs none (some (n:Int))=ca at *
 generalize cutD cs (some (n:Int)) none=cb at *
 have hF:=zll (cs:=ca) hw h1.1
 have b:=zp5 (w:=w) (c:=c) (f:=7) ↑0
 have sb:=zlZ (cs:=cb) (bs:=zaW w c 7) hF.1 ↑0 b.2 ⟨hI.1,by omega⟩
 refine ⟨by omega,by omega,zoN hw h1.1,λr hr=>((hF.1.2 r hr).2).mono ↑0,λd hd=>((hF.2.2 d hd).2).mono ↑0,by have:=b.1;show (zaW w c 7).length=W;omega,b.2,?_,λr hr=>⟨(sb r hr).1,((sb r hr).2).mono ↑0⟩,λu=>(ziC (u:=u) hF.1 ↑0 b.2 ⟨hI.1,by omega⟩).1⟩
 have:=(ziC (cs:=cb) (bs:=zaW w c 7) (u:=λ_=>0) hF.1 ↑0 b.2 ⟨hI.1,by omega⟩).2
 show (zaL _ _ _ _).1.length≤_
 omega
def GcI (a b:Int) (p:Int×Int):Prop:=0≤p.1∧0≤p.2∧Int.gcd p.1 p.2=Int.gcd a b
theorem GcI.start {a b:Int} (h:0≤a∧0≤b):GcI a b (a,b):=⟨h.1,h.2,rfl⟩
theorem GcI.step {a b:Int} {p:Int×Int} (I:GcI a b p) (h:decide ((0:Int)<p.2)=true):GcI a b (p.2,p.1%p.2)∧(p.1%p.2).toNat<p.2.toNat:=by
 have h:=of_decide_eq_true h
 obtain ⟨h1,h2,h3⟩:=I
 have m0:=Int.emod_nonneg p.1 (show p.2≠0 by omega)
 have m1:=Int.emod_lt_of_pos p.1 h
 refine ⟨⟨by omega,m0,?_⟩,by omega⟩
 rw [← h3]
 show Int.gcd p.2 (p.1%p.2)=_
 rw [Int.gcd_comm p.1 p.2,Int.gcd_comm p.2 (p.1%p.2)]
 obtain ⟨x,hx⟩:∃ x:Nat,p.1=(x:Int):=⟨p.1.toNat,by omega⟩
 obtain ⟨y,hy⟩:∃ y:Nat,p.2=(y:Int):=⟨p.2.toNat,by omega⟩
 rw [hx,hy,← Int.natCast_emod,Int.gcd_natCast_natCast,Int.gcd_natCast_natCast]
 exact (Nat.gcd_rec y x).symm
def zaz (P0:Int) (P1:Int):Int :=
 (Let (whl (λ(s288:Int×Int)=>(decide ((0:Int)<s288.2))) (λ(s288:Int×Int)=>(s288.2,(s288.1%s288.2))) (P1.toNat) (P0,P1)) (λ(r291:Int×Int)=>r291.1))
def zea (P0:Int) (P1:Int):Prop:=0≤P0∧0≤P1
def zfB (K:W.Frag) (A:Adr):Sp:=Spv (ι:=Int×Int) (λx=>[dI x.1,dI x.2]) (λx=>zea x.1 x.2) (λx=>↥[dI (zaz x.1 x.2)])
theorem zgO:FnScope ["_law_one","_law_other"] ["_law_one","_law_other"] (zad zdq):=↥4
theorem zjx (F:Fun K "_law_shared" "_law_shared" zdq f fd) (T:Txt K mg A) :FnOk P w K mg base ↑1 1 f fd ["_law_one","_law_other"] (zfB K A):=by
 refine F.okV zgO ↑4 ↥7
 obtain ⟨P0,P1⟩:=x
 have hu:=hr.units
 replace hp:zea P0 P1:=hp
 unfold zea at hp
 refine ⟨_,(zac (zja PassesOwn.never (zaF zkj (pv 1) zah (zaM _)) (zac (zrQ (i:=0) (j:=1) rfl zgO.nd rfl rfl ⇑1 rfl rfl ↑[pv 1,zaw zcI (pv 0) (pv 1)] rfl) zae)) (zac (zaJ (pv 0)) zae)),.inl ?_⟩
 show L2.Run _ ([⇑[dI P0],⇑[dI P1]]:L2.Ctx) _ (↑25 (zaz P0 P1))
 unfold zaz
 exact (zhW (s0:=(P0,P1)) (λ(s288:Int×Int)=>([⇑[dI s288.1],⇑[dI s288.2]]:L2.Ctx)) ↑25 (λ(s288:Int×Int)=>(decide ((0:Int)<s288.2))) (λ(s288:Int×Int)=>(s288.2,(s288.1%s288.2))) (λ(s288:Int×Int)=>GcI P0 P1 s288) (λ(s288:Int×Int)=>(s288.2).toNat) (P1.toNat) (.eq (.eq .nil)) ↥(GcI.start hp) ↥(Nat.le_refl _) (λs288 hI289=>⟨(zav (zaQ (x:=s288.2) (y:=(0:Int)) ⇑6 zaG)),λhc290=>⟨↥(GcI.step ↥0 ↥0),(run_par (x:=s288.2) (y:=(s288.1%s288.2)) ⇑6 (zaH (x:=s288.1) (y:=s288.2) ↑9 ⇑6 (by show (0:Int)<_;exact of_decide_eq_true ↥0)) (zap (.eq (.eq .nil))))⟩⟩) (λr291 hr291 hI hc=>(zaj (zaC ↑9))))
theorem znK {a b:Int} (h:0≤a∧0≤b):zaz a b=((Int.gcd a b:Nat):Int):=by
 obtain ⟨⟨h1,h2,h3⟩,h4⟩:=zhM (c:=λ(s:Int×Int)=>decide ((0:Int)<s.2)) (f:=λ(s:Int×Int)=>(s.2,(s.1%s.2))) (I:=GcI a b) (μ:=λs=>s.2.toNat) (λs hs hc=>GcI.step hs hc) (n:=b.toNat) (s:=(a,b)) (GcI.start h) ↑11
 show (whl (λ(s:Int×Int)=>decide ((0:Int)<s.2)) (λ(s:Int×Int)=>(s.2,(s.1%s.2))) b.toNat (a,b)).1=_
 generalize whl (λ(s:Int×Int)=>decide ((0:Int)<s.2)) (λ(s:Int×Int)=>(s.2,(s.1%s.2))) b.toNat (a,b)=r at *
 have h4:=of_decide_eq_false h4
 have e:r.2=0:=by omega
 rw [e,Int.gcd_zero_right] at h3
 omega
def ImP (f s:Sd4) (far:Int):Prop:=f.c.length≤8∧s.c.length≤8∧s.a.length=s.c.length∧(∀ r∈s.a,r.length=s.c.length)∧∀ b∈s.c,0≤b∧b≤1000000001
section
variable {f s:Sd4} {far x y b c m m0 k:Int} {i n:Nat} {l r t:Ji}
theorem zvp (h:ImP f s far) (q:i<(↑140).toNat∧x=0+(i:Int)) (e:b=ixD s.c x):0≤b∧b≤1000000001:=by
 rw [e];exact h.2.2.2.2 _ (zce (by unfold InB;omega))
theorem ziw {α:Type} {l:List α} (q:i<((l.length:Nat):Int).toNat∧x=0+(i:Int)):InB l.length x:=by unfold InB;omega
theorem zs6 (h:ImP f s far) (q:i<(↑140).toNat∧x=0+(i:Int)):InB s.a.length x:=by rw [h.2.2.1];exact ziw q
theorem zjT (hB:0≤b∧b≤1000000001) (h1:↑160=false) (h2:↑143=true):0<b:=by
 rw [h2] at h1
 have h1:decide (b=0)=false:=h1
 have:=of_decide_eq_false h1
 omega
theorem zuk (hB:0≤b∧b≤1000000001) (h1:↑160=false) (h2:↑143=true):0≤b∧0≤y%b:=⟨hB.1,Int.emod_nonneg _ (by have:=zjT hB h1 h2;omega)⟩
theorem ztF (hb:0<b):0<zaz b (y%b)∧zaz b (y%b) ∣ b∧zaz b (y%b) ∣ y:=by
 have hy:=Int.emod_nonneg y (show b≠0 by omega)
 rw [znK ⟨by omega,hy⟩]
 have d1:((Int.gcd b (y%b):Nat):Int) ∣ b:=Int.gcd_dvd_left ..
 have d2:((Int.gcd b (y%b):Nat):Int) ∣ y%b:=Int.gcd_dvd_right ..
 have:0<Int.gcd b (y%b):=Int.gcd_pos_of_ne_zero_left _ ↑0
 refine ⟨by omega,d1,?_⟩
 have e:=Int.dvd_add (Int.dvd_trans d1 (Int.dvd_mul_right b (y/b))) d2
 rw [Int.mul_ediv_add_emod] at e
 exact e
theorem zuy (hb:0<b):zaz b (y%b)≤b:=Int.le_of_dvd hb (ztF hb).2.1
theorem zrP (hB:0≤b∧b≤1000000001) (h1:↑160=false) (h2:↑143=true):zgy b (zaz b (y%b)):=by
 have hb:=zjT hB h1 h2
 have g:=ztF (y:=y) hb
 have:=zuy (y:=y) hb
 exact Lat.zgy.of (b:=30) g.1 (show _≤1073741824 by omega) ⇑1
theorem zrW (hM0:m0=zaf c k (7:Int)-(3:Int)):-3≤m0∧m0≤3:=by
 have:=zev (c:=c) (k:=k) (m:=7) ⇑1;omega
theorem zut (hM0:m0=zaf c k (7:Int)-(3:Int)):-(2^64)<m0∧m0<2^64:=by have:=zrW hM0;omega
theorem zuV (hM0:m0=zaf c k (7:Int)-(3:Int)) (hB:0≤b∧b≤1000000001) (h:m=bif ↑160 then (0:Int) else (bif ↑143 then (m0*(b/(zaz b (y%b)))) else m0)):-3000000003≤m∧m≤3000000003:=by
 have h3:=zrW hM0
 cases q1:↑160 with
 | true=>rw [q1] at h;have h:m=0:=h;omega
 | false =>
  rw [q1,cond_false] at h
  cases q2:↑143 with
  | false=>rw [q2,cond_false] at h;omega
  | true =>
   rw [q2,cond_true] at h
   have hb:=zjT hB q1 q2
   have g:=ztF (y:=y) hb
   have d1:0≤b/zaz b (y%b):=Int.ediv_nonneg hB.1 ↑0
   have d2:b/zaz b (y%b)≤b:=Int.ediv_le_self _ hB.1
   generalize b/zaz b (y%b)=z at *
   have:m0=-3∨m0=-2∨m0=-1∨m0=0∨m0=1∨m0=2∨m0=3:=by omega
   rcases this with e | e | e | e | e | e | e<;>(rw [e] at h;omega)
theorem zr7 (hy:0≤y) (hB:0≤b∧b≤1000000001) (h:m=bif ↑160 then (0:Int) else (bif ↑143 then (m0*(b/(zaz b (y%b)))) else m0)):b ∣ y*m:=by
 cases q1:↑160 with
 | true=>rw [q1] at h;have h:m=0:=h;rw [h,Int.mul_zero];exact Int.dvd_zero _
 | false =>
  rw [q1,cond_false] at h
  cases q2:↑143 with
  | false=>have:=of_decide_eq_false q2;rw [show y=0 by omega,Int.zero_mul];exact Int.dvd_zero _
  | true =>
   rw [q2,cond_true] at h
   obtain ⟨g1,⟨u,hu⟩,⟨v,hv⟩⟩:=ztF (y:=y) (zjT hB q1 q2)
   generalize zaz b (y%b)=g at *
   have e:b/g=u:=by rw [hu];exact Int.mul_ediv_cancel_left _ ↑0
   rw [h,e,hv,hu]
   exact ⟨v*m0,by grind⟩
theorem zvG (h:r=zd8 ((n:Nat):Int) [(0:Int)]):r.length=n:=by rw [h,Lat.zer]
theorem ztu (h:ImP f s far) (q:i<(↑140).toNat∧x=0+(i:Int)):(ixD s.a x).length=s.c.length:=h.2.2.2.1 _ (zce (zs6 h q))
theorem ztJ (h:ImP f s far) (hr:r.length=s.c.length):(List.zip r t).length≤PySem.sizeLine:=zan (by rw [List.length_zip];have:=h.2.1;omega)
theorem ztK {ys:Jq} (h:ImP f s far) (hl:ys.length≤i) (q:i<(↑14).toNat∧x=0+(i:Int)):ys.length<PySem.sizeLine:=Nat.lt_of_le_of_lt (show ys.length≤1000 by have:=h.1;omega) ⇑1
end
def m_law_images (P0:⇑9) (P1:⇑9) (P2:Int) (P3:Int):Jq :=
 (Let (List.foldl (λ(s292:Jq) (x293:Int)=>(Let (zd8 ↑53 [(0:Int)]) (λ(v297:Ji)=>(Let (List.foldl (λ(s298:Ji) (x299:Int)=>(Let (↑219-(3:Int)) ↑258)) v297 (zbo 0 (↑53).toNat)) (λ(r312:Ji)=>(s292++[r312])))))) [] (zbo 0 (↑170).toNat)) (λ(r313:Jq)=>r313))
def zd9 (P0:⇑9) (P1:⇑9) (P2:Int) (P3:Int):Prop:=ImP P0 P1 P3
def zfI (K:W.Frag) (A:Adr):Sp:=Spv (ι:=⇑9×⇑9×Int×Int) (λx=>[dT [dL (List.map lI x.1.a),dL (List.map lI x.1.b),dL (List.map dI x.1.c),dL (List.map lI x.1.d)],dT [dL (List.map lI x.2.1.a),dL (List.map lI x.2.1.b),dL (List.map dI x.2.1.c),dL (List.map lI x.2.1.d)],dI x.2.2.1,dI x.2.2.2]) (λx=>zd9 x.1 x.2.1 x.2.2.1 x.2.2.2) (λx=>↥[dL (List.map lI (m_law_images x.1 x.2.1 x.2.2.1 x.2.2.2))])
theorem zbs:FnScope ["_law_first","_law_second","_law_cell_here","_law_far","_law_found","_law_k","_law_image","_law_j","_law_many","_law_bottom"] ["_law_first","_law_second","_law_cell_here","_law_far"] (zad zcW):=↥4
theorem zjz (F:Fun K "_law_images" "_law_images" zcW f fd) (T:Txt K mg A) (ybf:Callee P w K mg base ↑1 1 "_law_shared" ["_law_one","_law_other"] (zfB K A)) (yab:Callee P w K mg base ↑1 1 "_law_thing" ↑134 (zcS K A)):FnOk P w K mg base ↑1 2 f fd ["_law_first","_law_second","_law_cell_here","_law_far"] (zfI K A):=by
 refine F.okV zbs ↑4 ↥7
 obtain ⟨P0,P1,P2,P3⟩:=x
 have hu:=hr.units
 replace hp:zd9 P0 P1 P2 P3:=hp
 unfold zd9 at hp
 refine ⟨_,(zac (zao (i:=4) zbs.nd rfl ⇑0 (zbf zeV)) (zac (zch PassesOwn.never rfl ↑265 (zak (i:=5) zbs.nd rfl ⇑0 ⇑0) (zac (zao (i:=6) zbs.nd rfl ⇑0 (zaw zik ↑85 ↑152)) (zac (zch PassesOwn.never rfl (zb9 rfl T.range ↑[↑152]) (zak (i:=7) zbs.nd rfl ⇑0 ⇑0) (zac (zao (i:=8) zbs.nd rfl ↥3 (zaw zfi (zaO yab ↥1 rfl zaK ↑[pv 2,zaw zcI (zaw zcD (zaw zcD (pv 3) (zaw zbA zah (pv 5))) (pv 7)) zah,zah]) zah)) (zac (zao (i:=9) zbs.nd rfl ⇑0 (za1 ↑7 ↑197 (pv 7) ⇑3)) (zac (zco (PW.pt (zkr (zaF zkj (za1 ↑7 (za1 ↑49 (pv 0) zah ⇑3) (pv 5) ⇑3) zah (zaM _)) (zig (zaF zgq (pv 9) zah (zaM _))))) (zac (zao (i:=8) zbs.nd rfl ↥3 zah) zae) (zac (zco (zaF zkj (za1 ↑7 (za1 ↑49 (pv 0) zah ⇑3) (pv 5) ⇑3) zah (zaM _)) (zac (zao (i:=8) zbs.nd rfl ↥3 (zaw zbA (pv 8) (zaw zb7 (pv 9) (zaO ybf ↥1 rfl zaK ↑[pv 9,(zaw zcI (za1 ↑7 (za1 ↑49 (pv 0) zah ⇑3) (pv 5) ⇑3) (pv 9))])))) zae) zae) zae)) (zac (zfe (i:=6) rfl zbs.nd rfl rfl (.of (osc:=(zad zcW)) (N:=["_law_first","_law_second","_law_cell_here","_law_far","_law_found","_law_k","_law_image","_law_j","_law_many","_law_bottom"]) (own:=↑96) (fvn:=["_law_many"]) (fv:=[8]) rfl rfl ↑5) (zb8 (K:=K) rfl rfl T.zip ↑[pv 6,(za1 ↑7 ↑197 (pv 7) ⇑3)]) ↑208) zae))))) (zac (zcR (zbO (K:=K) rfl (pv 4) ↑[pv 6])) zae)))) (zac (zaJ (pv 4)) zae))),.inl ?_⟩
 show L2.Run _ ([⇑[dT [dL ↑99,dL ↑100,dL ↑98,dL ↑101]],⇑[dT [dL ↑146,dL ↑147,dL ↑145,dL ↑148]],⇑[dI P2],⇑[dI P3],.no,.no,.no,.no,.no,.no]:L2.Ctx) _ (↑129 (m_law_images P0 P1 P2 P3))
 unfold m_law_images
 exact (zfx (m:=true) (ds:=List.map lI []) ↑119 (zbh (s0:=[]) ↑259 ↑129 (λ(s292:Jq) (x293:Int)=>(Let (zd8 ↑53 [(0:Int)]) (λ(v297:Ji)=>(Let (List.foldl (λ(s298:Ji) (x299:Int)=>(Let (↑219-(3:Int)) ↑258)) v297 (zbo 0 (↑53).toNat)) (λ(r312:Ji)=>(s292++[r312])))))) (λ(i:Nat) (s292:Jq)=>s292.length≤i) (zdG (m:=true) (n:=↑170) (zaZ (f:=dI) (xs:=P0.c) ↑192) (by have z1:=hp.1;have z2:=hp.2.1;refine ⟨?_,?_⟩<;>omega)) ↑127 ↥(Nat.le_refl 0) (λi294 x293 s292 hx295 hI296=>have v295:=zbi hx295;⟨↥(zpM ↥0),(zam (m:=true) (x:=(zd8 ↑53 [(0:Int)])) lI (λz=>Oc.nx (↑259 z)) (EvO.ev (zgD (f:=dI) (xs:=[(0:Int)]) (n:=↑53) ↑75 (zaZ (f:=dI) (xs:=P1.c) ↑65) (by have z2:=hp.2.1;constructor<;>omega) (by have z2:=hp.2.1;exact zan ↑189))) (λv297 hv297=>have hI:=hv297;(zbh (s0:=v297) ↑206 (λz=>Oc.nx (↑259 z)) (λ(s298:Ji) (x299:Int)=>(Let (↑219-(3:Int)) ↑258)) (λ(i:Nat) (s298:Ji)=>s298.length=P1.c.length) (zdG (m:=true) (n:=↑53) (zaZ (f:=dI) (xs:=P1.c) ↑65) (by have z1:=hp.1;have z2:=hp.2.1;refine ⟨?_,?_⟩<;>omega)) ↑127 ↥(zvG hI) (λi300 x299 s298 hx301 hI302=>have v301:=zbi hx301;⟨(by unfold Let;rw [List.length_map,List.length_zip,ztu hp ↥0];omega),(zam (m:=true) (x:=(↑219-(3:Int))) dI (λz=>Oc.nx (↑206 z)) (zaQ (x:=↑219) (y:=(3:Int)) (Ev.any (m:=true) (zau (x:=(P2,(((P3+((8:Int)*x293))+x299)%(60:Int)),(7:Int))) (zab ↑39 (zab (zaH (x:=((P3+((8:Int)*x293))+x299)) (y:=(60:Int)) (zaQ (x:=(P3+((8:Int)*x293))) (y:=x299) (zaQ (x:=P3) (y:=((8:Int)*x293)) (Ev.any (m:=false) ↑29) (zaH (x:=(8:Int)) (y:=x293) zaG ↑24 ↥(.inl ⇑5))) (Ev.any (m:=true) ↑55)) zaG ⇑1) ↑27)) rfl (by show zaY P2 (((P3+((8:Int)*x293))+x299)%(60:Int)) (7:Int);exact ⟨Int.emod_nonneg _ ⇑1,Int.le_of_lt (Int.lt_of_lt_of_le (Int.emod_lt_of_pos _ ⇑1) ⇑1),by decide⟩) rfl)) zaG) (λv303 hv303=>have hM0:=hv303;(zam (m:=true) (x:=(ixD P1.c x299)) dI (λz=>Oc.nx (↑206 z)) (Ev.any (m:=false) (zbP (f:=dI) (xs:=P1.c) ↑65 (Ev.any (m:=true) ↑55) ↥(ziw ↥0))) (λv304 hv304=>have hB:=zvp hp ↥0 hv304;(zed (b:=(↑131 &&(decide (v304=(0:Int))))) (λbb=>([⇑[dT [dL ↑99,dL ↑100,dL ↑98,dL ↑101]],⇑[dT [dL ↑146,dL ↑147,dL ↑145,dL ↑148]],⇑[dI P2],⇑[dI P3],.ow true (List.map lI s292),↥[dI x293],↥[dL (List.map dI s298)],↥[dI x299],↥[dI (bif bb then (0:Int) else (bif ↑131 then (v303*↑226) else v303))],↥[dI v304]]:L2.Ctx)) (zh8 (b:=↑131) (zav (zaQ (x:=(ixD P0.c x293)) (y:=(0:Int)) (Ev.any (m:=false) (zbP (f:=dI) (xs:=P0.c) ↑192 ↑24 ↥(ziw ↥0))) zaG)) (λhb=>(zav (zeZ (x:=v304) (y:=(0:Int)) (Ev.any (m:=true) ↑126) zaG)))) (λh305=>(zcg (m:=true) zaG (zap ↑127))) (λh305=>(zed (b:=↑131) (λbb=>([⇑[dT [dL ↑99,dL ↑100,dL ↑98,dL ↑101]],⇑[dT [dL ↑146,dL ↑147,dL ↑145,dL ↑148]],⇑[dI P2],⇑[dI P3],.ow true (List.map lI s292),↥[dI x293],↥[dL (List.map dI s298)],↥[dI x299],↥[dI (bif bb then (v303*↑226) else v303)],↥[dI v304]]:L2.Ctx)) (zav (zaQ (x:=(ixD P0.c x293)) (y:=(0:Int)) (Ev.any (m:=false) (zbP (f:=dI) (xs:=P0.c) ↑192 ↑24 ↥(ziw ↥0))) zaG)) (λh306=>(zcg (m:=true) (zaH (x:=v303) (y:=↑226) (Ev.any (m:=true) (zaa (i:=8) rfl)) (zaH (x:=v304) (y:=(zaz v304 ((ixD P0.c x293)%v304))) (Ev.any (m:=true) ↑126) (Ev.any (m:=true) (zau (x:=(v304,((ixD P0.c x293)%v304))) (zab (Ev.any (m:=true) ↑126) (zab (zaH (x:=(ixD P0.c x293)) (y:=v304) (Ev.any (m:=false) (zbP (f:=dI) (xs:=P0.c) ↑192 ↑24 ↥(ziw ↥0))) (Ev.any (m:=true) ↑126) (by show (0:Int)<_;exact zjT hB ↥0 ↥0)) zag)) rfl (by show zea v304 ((ixD P0.c x293)%v304);exact zuk hB ↥0 ↥0) rfl)) ↥(zrP hB ↥0 ↥0)) ↥(.inl (zut hM0))) (zap ↑127))) (λh306=>(zap ↑127)) (zap ↑127))) (zep (x:=(bif (↑131 &&(decide (v304=(0:Int)))) then (0:Int) else (bif ↑131 then (v303*↑226) else v303))) (λv307=>([⇑[dT [dL ↑99,dL ↑100,dL ↑98,dL ↑101]],⇑[dT [dL ↑146,dL ↑147,dL ↑145,dL ↑148]],⇑[dI P2],⇑[dI P3],.ow true (List.map lI s292),↥[dI x293],↥[dL (List.map dI s298)],↥[dI x299],↥[dI v307],↥[dI v304]]:L2.Ctx)) (λz=>Oc.nx (↑206 z)) (λv307 hv307=>have hM:=zuV hM0 hB hv307;(zam (m:=true) (x:=(List.map (λ(x308:↥6)=>(x308.1+(v307*x308.2))) (List.zip s298 (ixD P1.a x299)))) lI (λz=>Oc.nx (↑206 z)) (EvO.ev (EvO.conv (zbW (g:=(λ(x308:↥6)=>dI (x308.1+(v307*x308.2)))) (zen (m:=false) dI dI (xs:=s298) (ys:=(ixD P1.a x299)) ↑185 (Ev.weak (K:=K) (zbP (f:=lI) (xs:=P1.a) ↑65 (Ev.any (m:=true) ↑55) ↥(zs6 hp ↥0)))) ↥(ztJ hp ↥0) ⇑5 (λi309 x308 hx310=>have v310:=zbL hx310;(zaQ (x:=x308.1) (y:=(v307*x308.2)) ↑9 (zaH (x:=v307) (y:=x308.2) ↑54 ⇑6 ↥(.inl ↑43))))) ↑10)) (λv311 hv311=>have hI:=hv311;(zap (.eq (.eq (.eq (.eq (.eq (.eq (.eq (.no ↑46))))))))))))))))))⟩) (λr312 hr312 hI=>(zcU (f:=lI) (xs:=s292) (x:=r312) rfl ↑72 ↥(ztK hp ↥0 ↥0) (zap (.eq (.eq (.eq (.eq (.eq (.no (.no ↑114)))))))))))))⟩) (λr313 hr313 hI=>(zda (i:=4) rfl (zaj (zaC (zaa (i:=4) rfl)))))))
def imM (f s:Sd4) (c far x y:Int):Int:=bif ((decide ((0:Int)<(ixD f.c x)))&&(decide ((ixD s.c y)=(0:Int)))) then (0:Int) else (bif (decide ((0:Int)<(ixD f.c x))) then ((zaf c (((far+((8:Int)*x))+y)%(60:Int)) (7:Int)-(3:Int))*((ixD s.c y)/(zaz (ixD s.c y) ((ixD f.c x)%(ixD s.c y))))) else (zaf c (((far+((8:Int)*x))+y)%(60:Int)) (7:Int)-(3:Int)))
def imR (f s:Sd4) (c far x:Int):Ji:=List.foldl (λ(a:Ji) (y:Int)=>List.map (λ(p:Int×Int)=>(p.1+(imM f s c far x y*p.2))) (List.zip a (ixD s.a y))) (zd8 ↑140 [(0:Int)]) (zbo 0 (↑140).toNat)
theorem zor (f s:Sd4) (c far:Int):m_law_images f s c far=((zbo 0 (↑14).toNat)).map (imR f s c far):=by
 show List.foldl (λ(a:Jq) (x:Int)=>a++[imR f s c far x]) [] _=_
 rw [Lat.zgP,List.nil_append]
theorem zi9 {β:Type} (n:Nat) (g:Int->β):(zbo 0 ((n:Nat):Int).toNat).map g=(List.range n).map λ(k:Nat)=>g (k:Int):=by
 unfold zbo
 rw [List.map_map,Int.toNat_natCast]
 exact List.map_congr_left λk _=>by simp
theorem zp3 {W1 W2 fa fb sa sb:Nat} {f s:Sd4} {c far x:Int} (h:Sd71 W2 fb sb s):(imR f s c far x).length=W2∧(∀ i,Lat.vec (imR f s c far x) i=Lat.lsum ((List.range W2).map λ(j:Nat)=>imM f s c far x (j:Int)*Lat.vec (ixD s.a (j:Int)) i)):=by
 have hl:=h.du.l1
 have hr:=h.du.r
 have k:=Lat.zgg (W:=W2) (F:=λ(a:Ji) (y:Int)=>List.map (λ(p:Int×Int)=>(p.1+(imM f s c far x y*p.2))) (List.zip a (ixD s.a y))) (c:=λy i=>imM f s c far x y*Lat.vec (ixD s.a y) i) (zbo 0 (↑140).toNat) (zd8 ↑140 [(0:Int)]) (by rw [Lat.zer,h.bl]) λa y hy ha=>by
  obtain ⟨i,hi⟩:=List.getElem?_of_mem hy
  have q:=zbi hi
  have hm:(ixD s.a y).length=W2:=hr _ (zce (by rw [hl];have:=h.bl;unfold InB;omega))
  exact ↑268
 refine ⟨k.1,λi=>(k.2 i).trans ?_⟩
 rw [Lat.zgv,Int.zero_add,zi9,h.bl]
structure Ims (W1 W2 ib:Nat) (f s:Sd4) (im:Jq):Prop where
 l:im.length=W1
 r:∀ t∈im,t.length=W2∧Lat.Bit ib t
 d:∀ k,k<W1->∀ (j:Nat) (t:Ji) (b:Int),s.b[j]?=some t->s.c[j]?=some b->b ∣ ixD f.c (k:Int)*Lat.dv t (Lat.vec (ixD im (k:Int)))
theorem zn1 {W1 W2 fa fb sa sb:Nat} {f s:Sd4} {c far:Int} (h1:Sd71 W1 fa sa f) (h2:Sd71 W2 fb sb s):Ims W1 W2 (fb+35) f s (m_law_images f s c far):=by
 have hm:∀ (x:Int) (j:Nat),j<W2->-3000000003≤imM f s c far x (j:Int)∧imM f s c far x (j:Int)≤3000000003:=λx j hj=>zuV rfl (h2.b0 _ (zce (by rw [h2.bl];unfold InB;omega))) rfl
 have e:m_law_images f s c far=(List.range W1).map λ(k:Nat)=>imR f s c far (k:Int):=by rw [zor,zi9,h1.bl]
 have g:∀ k,k<W1->ixD (m_law_images f s c far) (k:Int)=imR f s c far (k:Int):=λk hk=>zcr (by rw [e,List.getElem?_map,List.getElem?_range hk];rfl)
 refine ⟨by rw [e,List.length_map,List.length_range],λt ht=>?_,λk hk j t b ht hb=>?_⟩
 ·rw [e] at ht
  obtain ⟨k,hk,rfl⟩:=List.mem_map.mp ht
  obtain ⟨q1,q2⟩:=zp3 (W1:=W1) (fa:=fa) (sa:=sa) (f:=f) (c:=c) (far:=far) (x:=(k:Int)) h2
  refine ⟨q1,?_⟩
  have:=Lat.zlf (n:=3) (b:=32+fb) q2 (by rw [List.length_range];exact h2.w8) λj hj i=>Lat.zi6 (a:=32) (by have:=hm (k:Int) j (List.mem_range.mp hj);show _≤4294967296;omega) ((h2.ra _ (Lat.ziD (by rw [h2.du.l1];exact List.mem_range.mp hj))).vec i)
  exact this.mono ↑0
 ·rw [g k hk]
  obtain ⟨q1,q2⟩:=zp3 (W1:=W1) (fa:=fa) (sa:=sa) (f:=f) (c:=c) (far:=far) (x:=(k:Int)) h2
  rw [Lat.zjr q2,Lat.zkY,← Lat.zg0]
  refine Lat.ziY λi hi=>?_
  have hi:=List.mem_range.mp hi
  have hrow:s.a[i]?=some (ixD s.a (i:Int)):=by
   have hl:i<s.a.length:=by rw [h2.du.l1];exact hi
   rw [zcr (List.getElem?_eq_getElem hl)];exact List.getElem?_eq_getElem hl
  rw [h2.du.A j i t _ ht hrow]
  by_cases z:j=i
  ·subst z
   rw [if_pos rfl,Int.mul_one]
   have eb:ixD s.c (j:Int)=b:=zcr hb
   have:=zr7 (m:=imM f s c far (k:Int) (j:Int)) (h1.b0 _ (zce (i:=(k:Int)) (by rw [h1.bl];unfold InB;omega))).1 (h2.b0 _ (List.mem_of_getElem? hb)) (m0:=zaf c (((far+((8:Int)*(k:Int)))+(j:Int))%(60:Int)) (7:Int)-(3:Int)) (by rw [← eb];rfl)
   exact this
  ·rw [if_neg z,Int.mul_zero,Int.mul_zero];exact Int.dvd_zero _
def WsP (f:Sd4) (im:Jq) (w:Int):Prop:=∃ W1 W2:Nat,f.c.length=W1∧W1≤8∧f.b.length=W1∧(∀ r∈f.b,r.length=W1∧Lat.Bit 100 r)∧im.length=W1∧w=(W2:Int)∧W2≤8∧∀ r∈im,r.length=W2∧Lat.Bit 200 r
section
variable {f:Sd4} {im:Jq} {w x y:Int} {i j n:Nat} {l r t:Ji} {p:Int×Int}
theorem zp6 (h:WsP f im w):-(2^62)≤↑14∧↑14<2^62:=by obtain ⟨W1,W2,h1,h2,_⟩:=h;omega
theorem zsQ (h:WsP f im w):-(2^63)≤w∧w<2^63:=by obtain ⟨W1,W2,h1,h2,h3,h4,h5,h6,h7,h8⟩:=h;omega
theorem zt3 (h:WsP f im w):([(0:Int)]).length*w.toNat≤PySem.sizeLine:=by obtain ⟨W1,W2,h1,h2,h3,h4,h5,h6,h7,h8⟩:=h;exact zan ↑189
theorem zvI (h:WsP f im w) (e:r=zd8 w [(0:Int)]):(r.length:Int)=w:=by obtain ⟨W1,W2,h1,h2,h3,h4,h5,h6,h7,h8⟩:=h;rw [e,h6,Lat.zer]
theorem zqe (h:WsP f im w) (q:i<(↑14).toNat∧x=0+(i:Int)):InB f.b.length x:=by obtain ⟨W1,W2,h1,h2,h3,_⟩:=h;unfold InB;omega
theorem zqn (h:WsP f im w) (q:i<(↑14).toNat∧x=0+(i:Int)):InB im.length x:=by obtain ⟨W1,W2,h1,h2,h3,h4,h5,_⟩:=h;unfold InB;omega
theorem zrO (h:WsP f im w) (q:i<(↑14).toNat∧x=0+(i:Int)) (q2:j<(↑14).toNat∧y=0+(j:Int)):InB (ixD f.b x).length y:=by
 have hm:=zce (zqe h q)
 obtain ⟨W1,W2,h1,h2,h3,h4,_⟩:=h
 rw [(h4 _ hm).1];unfold InB;omega
theorem zs5 (h:WsP f im w) (q:i<(↑14).toNat∧x=0+(i:Int)) (q2:j<(↑14).toNat∧y=0+(j:Int)) (hp:l[n]?=some p.1∧(ixD im x)[n]?=some p.2):zdK (ixD (ixD f.b x) y) p.2:=by
 have hy:=zce (zrO h q q2)
 have hm:=zce (zqe h q)
 have hi:=zce (zqn h q)
 obtain ⟨W1,W2,h1,h2,h3,h4,h5,h6,h7,h8⟩:=h
 exact Lat.zdK.of ((h4 _ hm).2 _ hy) ((h8 _ hi).2 _ (List.mem_of_getElem? hp.2)) ⇑1 ⇑1
theorem zuj (h:WsP f im w) (hr:(r.length:Int)=w):(List.zip r t).length≤PySem.sizeLine:=by
 obtain ⟨W1,W2,h1,h2,h3,h4,h5,h6,h7,h8⟩:=h
 exact zan ↑194
theorem zvB (h:WsP f im w) (q:i<(↑14).toNat∧x=0+(i:Int)) (hr:(r.length:Int)=w) {g:Int×Int->Int}:((Let (List.map g (List.zip r (ixD im x))) (λ(z:Ji)=>z)).length:Int)=w:=by
 have hi:=zce (zqn h q)
 obtain ⟨W1,W2,h1,h2,h3,h4,h5,h6,h7,h8⟩:=h
 unfold Let
 rw [List.length_map,List.length_zip,(h8 _ hi).1];omega
theorem ztR {ys:Jq} (h:WsP f im w) (hl:ys.length≤i) (q:i<(↑14).toNat∧x=0+(i:Int)):ys.length<PySem.sizeLine:=by
 obtain ⟨W1,W2,h1,h2,_⟩:=h
 exact Nat.lt_of_le_of_lt (show ys.length≤1000 by omega) ⇑1
end
def m_law_wares_sent (P0:⇑9) (P1:Jq) (P2:Int):Jq :=
 (Let (List.foldl (λ(s314:Jq) (x315:Int)=>(Let (zd8 P2 [(0:Int)]) (λ(v319:Ji)=>(Let (List.foldl (λ(s320:Ji) (x321:Int)=>(Let ↑236 (λ(v328:Ji)=>v328))) v319 (zbo 0 (↑170).toNat)) (λ(r329:Ji)=>(s314++[r329])))))) [] (zbo 0 (↑170).toNat)) (λ(r330:Jq)=>r330))
def zcJ (P0:⇑9) (P1:Jq) (P2:Int):Prop:=WsP P0 P1 P2
def zd6 (K:W.Frag) (A:Adr):Sp:=Spv (ι:=⇑9×Jq×Int) (λx=>[dT [dL (List.map lI x.1.a),dL (List.map lI x.1.b),dL (List.map dI x.1.c),dL (List.map lI x.1.d)],dQ K (List.map lI x.2.1),dI x.2.2]) (λx=>zcJ x.1 x.2.1 x.2.2) (λx=>↥[dL (List.map lI (m_law_wares_sent x.1 x.2.1 x.2.2))])
theorem zbF:FnScope ["_law_first","_law_images_here","_law_wide","_law_baskets","_law_ware","_law_basket_here","_law_k"] ["_law_first","_law_images_here","_law_wide"] (zad zbz):=↥4
theorem zg9 (F:Fun K "_law_wares_sent" "_law_wares_sent" zbz f fd) (T:Txt K mg A) :FnOk P w K mg base ↑1 1 f fd ["_law_first","_law_images_here","_law_wide"] (zd6 K A):=by
 refine F.okV zbF ↑4 ↥7
 obtain ⟨P0,P1,P2⟩:=x
 have hu:=hr.units
 replace hp:zcJ P0 P1 P2:=hp
 unfold zcJ at hp
 refine ⟨_,(zac (zao (i:=3) zbF.nd rfl ⇑0 (zbf zeV)) (zac (zch PassesOwn.never rfl ↑265 (zak (i:=4) zbF.nd rfl ↥3 ⇑0) (zac (zao (i:=5) zbF.nd rfl ⇑0 (zaw zik ↑85 (pv 2))) (zac (zch PassesOwn.never rfl ↑265 (zak (i:=6) zbF.nd rfl ↥3 ⇑0) (zac (zfe (i:=5) rfl zbF.nd rfl rfl (.of (osc:=(zad zbz)) (N:=["_law_first","_law_images_here","_law_wide","_law_baskets","_law_ware","_law_basket_here","_law_k"]) (own:=↑96) (fvn:=["_law_first","_law_k","_law_ware"]) (fv:=[0,6,4]) rfl rfl ↑5) (zb8 (K:=K) rfl rfl T.zip ↑[pv 5,(za1 ↑7 (pv 1) (pv 6) ⇑3)]) (λ_ _ _ _ _=>⟨(zba (K:=K) (n:=2) rfl rfl (zay (zak (i:=0) (show (["_law_a","_law_b","_law_first","_law_k","_law_ware"]:List Str).Nodup by decide+kernel) rfl ⇑0 ↥3) (zay (zak (i:=1) (show (["_law_a","_law_b","_law_first","_law_k","_law_ware"]:List Str).Nodup by decide+kernel) rfl ⇑0 ↥3) zbE))),za5,(zaw zcD (pv 0) (zaw zbA (za1 ↑7 (za1 ↑7 ↑138 (pv 3) ⇑3) (pv 4) ⇑3) (pv 1)))⟩)) zae)) (zac (zcR (zbO (K:=K) rfl (pv 3) ↑[pv 5])) zae)))) (zac (zaJ (pv 3)) zae))),.inl ?_⟩
 show L2.Run _ ([⇑[dT [dL ↑99,dL ↑100,dL ↑98,dL ↑101]],⇑[dQ K ↑71],⇑[dI P2],.no,.no,.no,.no]:L2.Ctx) _ (↑129 (m_law_wares_sent P0 P1 P2))
 unfold m_law_wares_sent
 exact (zfx (m:=true) (ds:=List.map lI []) ↑119 (zbh (s0:=[]) ↑262 ↑129 (λ(s314:Jq) (x315:Int)=>(Let (zd8 P2 [(0:Int)]) (λ(v319:Ji)=>(Let (List.foldl (λ(s320:Ji) (x321:Int)=>(Let ↑236 (λ(v328:Ji)=>v328))) v319 (zbo 0 (↑170).toNat)) (λ(r329:Ji)=>(s314++[r329])))))) (λ(i:Nat) (s314:Jq)=>s314.length≤i) (zdG (m:=true) (n:=↑170) (zaZ (f:=dI) (xs:=P0.c) ↑192) ↥(zp6 hp)) ↑28 ↥(Nat.le_refl 0) (λi316 x315 s314 hx317 hI318=>have v317:=zbi hx317;⟨↥(zpM ↥0),(zam (m:=true) (x:=(zd8 P2 [(0:Int)])) lI (λz=>Oc.nx (↑262 z)) (EvO.ev (zgD (f:=dI) (xs:=[(0:Int)]) (n:=P2) ↑75 ↑39 ↥(zsQ hp) ↥(zt3 hp))) (λv319 hv319=>have hI:=hv319;(zbh (s0:=v319) (λ(s320:Ji)=>([⇑[dT [dL ↑99,dL ↑100,dL ↑98,dL ↑101]],⇑[dQ K ↑71],⇑[dI P2],.ow true (List.map lI s314),↥[dI x315],↥[dL (List.map dI s320)],.no]:L2.Ctx)) (λz=>Oc.nx (↑262 z)) (λ(s320:Ji) (x321:Int)=>(Let ↑236 (λ(v328:Ji)=>v328))) (λ(i:Nat) (s320:Ji)=>(s320.length:Int)=P2) (zdG (m:=true) (n:=↑170) (zaZ (f:=dI) (xs:=P0.c) ↑192) ↥(zp6 hp)) ↑28 ↥(zvI hp hI) (λi322 x321 s320 hx323 hI324=>have v323:=zbi hx323;⟨↥(zvB hp ↥0 ↥0),(zam (m:=true) (x:=↑236) lI (λz=>Oc.nx ((λ(s320:Ji)=>([⇑[dT [dL ↑99,dL ↑100,dL ↑98,dL ↑101]],⇑[dQ K ↑71],⇑[dI P2],.ow true (List.map lI s314),↥[dI x315],↥[dL (List.map dI s320)],.no]:L2.Ctx)) z)) (EvO.ev (EvO.conv (zbW (g:=(λ(x325:↥6)=>dI (x325.1+((ixD (ixD P0.b x321) x315)*x325.2)))) (zen (m:=false) dI dI (xs:=s320) (ys:=(ixD P1 x321)) (Ev.old ↑112) (Ev.weak (K:=K) (zbP (f:=lI) (xs:=P1) ↑3 ↑78 ↥(zqn hp ↥0)))) ↥(zuj hp ↥0) ⇑5 (λi326 x325 hx327=>have v327:=zbL hx327;(zaQ (x:=x325.1) (y:=((ixD (ixD P0.b x321) x315)*x325.2)) ↑9 (zaH (x:=(ixD (ixD P0.b x321) x315)) (y:=x325.2) (Ev.any (m:=false) (zbP (f:=dI) (xs:=(ixD P0.b x321)) (Ev.weak (K:=K) (zbP (f:=lI) (xs:=P0.b) ↑130 ↑64 ↥(zqe hp ↥0))) ↑38 ↥(zrO hp ↥0 ↥0))) ⇑6 ↥(zs5 hp ↥0 ↥0 ↥0))))) ↑10)) (λv328 hv328=>have hI:=hv328;(zap (.eq (.eq (.eq (.eq ↑171)))))))⟩) (λr329 hr329 hI=>(zcU (f:=lI) (xs:=s314) (x:=r329) rfl ↑81 ↥(ztR hp ↥0 ↥0) (zap (.eq (.eq (.eq (.eq (.no (.no (.eq .nil)))))))))))))⟩) (λr330 hr330 hI=>(zda (i:=3) rfl (zaj (zaC ↑29))))))
def wsR (f:Sd4) (im:Jq) (w x:Int):Ji:=List.foldl (λ(a:Ji) (y:Int)=>List.map (λ(p:Int×Int)=>(p.1+((ixD (ixD f.b y) x)*p.2))) (List.zip a (ixD im y))) (zd8 w [(0:Int)]) (zbo 0 (↑14).toNat)
theorem zoO (f:Sd4) (im:Jq) (w:Int):m_law_wares_sent f im w=((zbo 0 (↑14).toNat)).map (wsR f im w):=by
 show List.foldl (λ(a:Jq) (x:Int)=>a++[wsR f im w x]) [] _=_
 rw [Lat.zgP,List.nil_append]
theorem zoD {W1 W2 fa sa ib:Nat} {f s:Sd4} {im:Jq} {w:Int} (h1:Sd71 W1 fa sa f) (hi:Ims W1 W2 ib f s im) (hw:w=(W2:Int)):(m_law_wares_sent f im w).length=W1∧(∀ r∈m_law_wares_sent f im w,r.length=W2∧Lat.Bit (3+(fa+ib)) r)∧∀ k,k<W1->∀ i,Lat.vec (ixD (m_law_wares_sent f im w) (k:Int)) i=Lat.lsum ((List.range W1).map λ(j:Nat)=>Lat.vec (ixD f.b (j:Int)) k*Lat.vec (ixD im (j:Int)) i):=by
 have e:m_law_wares_sent f im w=(List.range W1).map λ(k:Nat)=>wsR f im w (k:Int):=by rw [zoO,zi9,h1.bl]
 have key:∀ k:Nat,(wsR f im w (k:Int)).length=W2∧∀ i,Lat.vec (wsR f im w (k:Int)) i=Lat.lsum ((List.range W1).map λ(j:Nat)=>Lat.vec (ixD f.b (j:Int)) k*Lat.vec (ixD im (j:Int)) i):=λk=>by
  have q:=Lat.zgg (W:=W2) (F:=λ(a:Ji) (y:Int)=>List.map (λ(p:Int×Int)=>(p.1+((ixD (ixD f.b y) (k:Int))*p.2))) (List.zip a (ixD im y))) (c:=λy i=>(ixD (ixD f.b y) (k:Int))*Lat.vec (ixD im y) i) (zbo 0 (↑14).toNat) (zd8 w [(0:Int)]) (by rw [hw,Lat.zer]) λa y hy ha=>by
   obtain ⟨i,hi'⟩:=List.getElem?_of_mem hy
   have q:=zbi hi'
   have hm:(ixD im y).length=W2:=(hi.r _ (zce (by rw [hi.l];have:=h1.bl;unfold InB;omega))).1
   exact ↑268
  refine ⟨q.1,λi=>(q.2 i).trans ?_⟩
  rw [hw,Lat.zgv,Int.zero_add,zi9,h1.bl]
  exact Lat.zds λj _=>by rw [Lat.zb0]
 refine ⟨by rw [e,List.length_map,List.length_range],λr hr=>?_,λk hk i=>?_⟩
 ·rw [e] at hr
  obtain ⟨k,hk,rfl⟩:=List.mem_map.mp hr
  exact ⟨(key k).1,Lat.zlf (n:=3) (b:=fa+ib) (key k).2 (by rw [List.length_range];exact h1.w8) λj hj i=>Lat.zi6 ((h1.rb _ (Lat.ziD (by rw [h1.du.l2];exact List.mem_range.mp hj))).vec k) ((((hi.r _ (Lat.ziD (by rw [hi.l];exact List.mem_range.mp hj)))).2).vec i)⟩
 ·rw [zcr (x:=wsR f im w (k:Int)) (by rw [e,List.getElem?_map,List.getElem?_range hk];rfl)]
  exact (key k).2 i
structure Snt (W1 W2:Nat) (f s:Sd4) (im bs:Jq) (xb:Nat):Prop where
 l:bs.length=W1
 r:∀ t∈bs,t.length=W2∧Lat.Bit xb t
 v:∀ k,k<W1->∀ i,Lat.vec (ixD bs (k:Int)) i=Lat.lsum ((List.range W1).map λ(j:Nat)=>Lat.vec (ixD f.b (j:Int)) k*Lat.vec (ixD im (j:Int)) i)
theorem zhH {W1 W2 fa sa xb:Nat} {f s:Sd4} {im bs:Jq} {a b:BookD} {x:Ji} (h1:Sd71 W1 fa sa f) (hs:Snt W1 W2 f s im bs xb) (hb:b.many=(W2:Int)) (hx:x.length=W1):((m_Sender_sent ⟨a,b,bs⟩ x)).length=W2∧∀ i,Lat.vec (m_Sender_sent ⟨a,b,bs⟩ x) i=Lat.Phi W1 f.b im (Lat.vec x) i:=by
 obtain ⟨k1,k2⟩:=zkz (S:=⟨a,b,bs⟩) (x:=x) (W1:=W1) (W2:=W2) hb (λr hr=>(hs.r r hr).1) hs.l hx
 exact ⟨k1,λi=>(k2 i).trans (Lat.zs1 h1.du.l2 h1.du.d hs.v i)⟩
theorem zlu {W1 W2 fa sa xb n:Nat} {f s:Sd4} {im bs:Jq} {a b:BookD} {x:Ji} (h1:Sd71 W1 fa sa f) (hs:Snt W1 W2 f s im bs xb) (hb:b.many=(W2:Int)) (hx:x.length=W1) (hn:Lat.Bit n x):Lat.Bit (3+(n+xb)) (m_Sender_sent ⟨a,b,bs⟩ x):=by
 obtain ⟨k1,k2⟩:=zkz (S:=⟨a,b,bs⟩) (x:=x) (W1:=W1) (W2:=W2) hb (λr hr=>(hs.r r hr).1) hs.l hx
 exact Lat.zlf (n:=3) (b:=n+xb) k2 (by rw [List.length_range];exact h1.w8) λw hw i=>Lat.zi6 (hn.vec w) (((hs.r _ (Lat.ziD (by rw [show ({ first:=a,second:=b,baskets:=bs }:SenderD).baskets.length=W1 from hs.l];exact List.mem_range.mp hw))).2).vec i)
theorem zp7 {W1 W2 fa sa fb sb ib:Nat} {f s:Sd4} {im:Jq} {u:Lat.Vc} (h1:Sd71 W1 fa sa f) (h2:Sd71 W2 fb sb s) (hi:Ims W1 W2 ib f s im) (hu:Lat.SpL f.d u):Lat.SpL (Lat.scl s.a s.c) (Lat.Phi W1 f.b im u):=by
 refine Lat.zpN (s:=(s.a,s.b)) h2.du h2.bl (λb hb=>(h2.b0 b hb).1) (λk hk=>?_) λj t b ht hb=>?_
 ·unfold Lat.Phi
  rw [Lat.zds (g:=λ_=>0) λj hj=>by rw [Lat.zc6 (by rw [((hi.r _ (Lat.ziD (by rw [hi.l];exact List.mem_range.mp hj)))).1];exact hk),Int.mul_zero],Lat.zia]
 ·refine Lat.zqm (cs:=f.c) (λk hk=>?_) λk hk=>hi.d k hk j t b ht hb
  have hd:f.b[k]?=some (ixD f.b (k:Int)):=by
   have hl:k<f.b.length:=by rw [h1.du.l2];exact hk
   rw [zcr (List.getElem?_eq_getElem hl)];exact List.getElem?_eq_getElem hl
  have hc:f.c[k]?=some (ixD f.c (k:Int)):=by
   have hl:k<f.c.length:=by rw [h1.bl];exact hk
   rw [zcr (List.getElem?_eq_getElem hl)];exact List.getElem?_eq_getElem hl
  exact Lat.zpS (s:=(f.a,f.b)) h1.du ((h1.sp u).mp hu) hd hc
theorem ztr {W1 W2 fa sa ib:Nat} {f s:Sd4} {im:Jq} {w:Int} (h1:Sd71 W1 fa sa f) (hi:Ims W1 W2 ib f s im) (hw:w=(W2:Int)) (h2:W2≤8) (ha:fa≤100) (hb:ib≤200):WsP f im w:=⟨W1,W2,h1.bl,h1.w8,h1.du.l2,λr hr=>⟨h1.du.d r hr,(h1.rb r hr).mono ha⟩,hi.l,hw,h2,λr hr=>⟨(hi.r r hr).1,((hi.r r hr).2).mono hb⟩⟩
theorem ztx {W1 W2 fa sa fb sb:Nat} {f s:Sd4} {far:Int} (h1:Sd71 W1 fa sa f) (h2:Sd71 W2 fb sb s):ImP f s far:=⟨by rw [h1.bl];exact h1.w8,by rw [h2.bl];exact h2.w8,by rw [h2.bl];exact h2.du.l1,λr hr=>by rw [h2.bl];exact h2.du.r r hr,h2.b0⟩
def SmP (bs:Jq) (x:Ji) (w:Int):Prop:=∃ W:Nat,w=(W:Int)∧W≤8∧(∀ r∈bs,r.length=W∧Lat.Bit 300 r)∧Lat.Bit 300 x
section
variable {bs:Jq} {x r l t:Ji} {w:Int} {i n:Nat} {p:Int×Ji} {q:Int×Int}
theorem zrL (h:SmP bs x w):-(2^63)≤w∧w<2^63:=by obtain ⟨W,h1,h2,_⟩:=h;omega
theorem ztT (h:SmP bs x w):([(0:Int)]).length*w.toNat≤PySem.sizeLine:=by obtain ⟨W,h1,h2,_⟩:=h;exact zan ↑189
theorem zvx (h:SmP bs x w) (e:r=zd8 w [(0:Int)]):(r.length:Int)=w:=by obtain ⟨W,h1,h2,_⟩:=h;rw [e,h1,Lat.zer]
theorem zsS (h:SmP bs x w) (hx:x[i]?=some p.1∧bs[i]?=some p.2) (hq:l[n]?=some q.1∧p.2[n]?=some q.2):zdK p.1 q.2:=by
 obtain ⟨W,h1,h2,h3,h4⟩:=h
 exact Lat.zdK.of (h4 _ (List.mem_of_getElem? hx.1)) ((h3 _ (List.mem_of_getElem? hx.2)).2 _ (List.mem_of_getElem? hq.2)) ⇑1 ⇑1
theorem zuD (h:SmP bs x w) (hr:(r.length:Int)=w):(List.zip r t).length≤PySem.sizeLine:=by
 obtain ⟨W,h1,h2,h3,h4⟩:=h
 exact zan ↑194
theorem zvt (h:SmP bs x w) (hx:x[i]?=some p.1∧bs[i]?=some p.2) (hr:(r.length:Int)=w) {g:Int×Int->Int}:((Let (List.map g (List.zip r p.2)) (λ(z:Ji)=>z)).length:Int)=w:=by
 obtain ⟨W,h1,h2,h3,h4⟩:=h
 unfold Let
 rw [List.length_map,List.length_zip,(h3 _ (List.mem_of_getElem? hx.2)).1];omega
end
def ShP (ds:Jq) (x:Ji):Prop:=ds.length≤1000∧(∀ d∈ds,Lat.Bit 60 d)∧Lat.Bit 300 x
theorem zrw {ds:Jq} {x d:Ji} {i:Nat} {p:Int×Int} (h:ShP ds x) (hd:d∈ds) (hp:d[i]?=some p.1∧x[i]?=some p.2):zdK p.1 p.2:=Lat.zdK.of (h.2.1 d hd _ (List.mem_of_getElem? hp.1)) (h.2.2 _ (List.mem_of_getElem? hp.2)) ⇑1 ⇑1
theorem zs4 {ds:Jq} {x d s:Ji} {i:Nat} (h:ShP ds x) (hl:s.length≤i) (hi:ds[i]?=some d):s.length<PySem.sizeLine:=Nat.lt_of_le_of_lt (show s.length≤1000 by have:=((List.getElem?_eq_some_iff.mp hi)).1;have:=h.1;omega) ⇑1
def PW (w:Ji):Prop:=∃ a b:Int,w=[a,b]∧1≤a∧a≤4∧1≤b∧b≤4
section
variable {w w0 xs cs:Ji} {c h z:Int} {b:Bool} {f s:Sd4} {im:Jq}
theorem zuY (hW0:w0=[((1:Int)+(c%(3:Int))),((1:Int)+((c/(3:Int))%(3:Int)))]) (e:w=bif b then [(4:Int),(4:Int)] else w0):PW w:=by
 cases b
 ·exact ⟨_,_,e.trans hW0,by omega,by omega,by omega,by omega⟩
 ·exact ⟨4,4,e,by decide,by decide,by decide,by decide⟩
theorem zuI (hW:PW w):InB w.length (0:Int):=by obtain ⟨a,b,rfl,_⟩:=hW;unfold InB;simp
theorem zte (hW:PW w):InB w.length (1:Int):=by obtain ⟨a,b,rfl,_⟩:=hW;unfold InB;simp
theorem zsq (hW:PW w):1≤ixD w (0:Int)∧ixD w (0:Int)≤8:=by obtain ⟨a,b,rfl,h1,h2,h3,h4⟩:=hW;show 1≤a∧a≤8;omega
theorem zpr (hW:PW w):1≤ixD w (1:Int)∧ixD w (1:Int)≤8:=by obtain ⟨a,b,rfl,h1,h2,h3,h4⟩:=hW;show 1≤b∧b≤8;omega
theorem zuQ (hW:PW w):(ixD w (0:Int)).toNat≤4∧((ixD w (1:Int))).toNat≤4:=by obtain ⟨a,b,rfl,h1,h2,h3,h4⟩:=hW;show a.toNat≤4∧b.toNat≤4;omega
theorem zst:0≤z%(2:Int)∧z%(2:Int)≤3:=by omega
theorem ztq (hC:cs=cutD xs (some (3:Int)) (some (63:Int))) (hH:h=((cs.length:Nat):Int)/(2:Int)):(cutD cs none (some h)).length≤2*15∧(cutD cs (some h) none).length≤2*15:=by
 have l:cs.length≤60:=by
  rw [hC];unfold cutD
  simp only [show (3:Int)=((3:Nat):Int) from rfl,show (63:Int)=((63:Nat):Int) from rfl,HT.sIx_nat,List.length_take,List.length_drop];omega
 obtain ⟨n,hn⟩:∃ n:Nat,h=(n:Int):=⟨h.toNat,by omega⟩
 subst hn
 unfold cutD
 simp only [HT.sIx_nat,HT.sIx_none,List.length_take,List.length_drop]
 omega
theorem zu8 {c2:Int} (hW:PW w) (hC:cs=cutD xs (some (3:Int)) (some (63:Int))) (hH:h=((cs.length:Nat):Int)/(2:Int)) (e:f=zbd (cutD cs none (some h)) (ixD w (0:Int)) c (z%(2:Int))):Sd71 (ixD w (0:Int)).toNat 30 90 f:=by
 rw [e];have:=zsq hW
 exact zmz (h:=15) ↑0 this ↑0 (ztq hC hH).1
theorem zuT (hW:PW w) (hC:cs=cutD xs (some (3:Int)) (some (63:Int))) (hH:h=((cs.length:Nat):Int)/(2:Int)) (e:f=zbd (cutD cs (some h) none) (ixD w (1:Int)) c (z%(2:Int))):Sd71 ((ixD w (1:Int))).toNat 30 90 f:=by
 rw [e];have:=zpr hW
 exact zmz (h:=15) ↑0 this ↑0 (ztq hC hH).2
theorem zuN {W1 W2:Nat} {far:Int} (hF:Sd71 W1 30 90 f) (hS:Sd71 W2 30 90 s) (e:im=m_law_images f s c far):Ims W1 W2 65 f s im:=by rw [e];exact zn1 hF hS
theorem ztN {W1:Nat} (hW:PW w) (hF:Sd71 W1 30 90 f) (hI:Ims W1 ((ixD w (1:Int))).toNat 65 f s im):WsP f im (ixD w (1:Int)):=by
 have:=zpr hW
 exact ztr hF hI ↑0 ↑0 ⇑1 ⇑1
end
def m_law_pair (P0:Ji):(T3 ⇑9 ⇑9 Jq) :=
 (Let (zdW P0 (0:Int)) (λ(v331:Int)=>(Let [((1:Int)+(v331%(3:Int))),((1:Int)+((v331/(3:Int))%(3:Int)))] (λ(v332:Ji)=>(Let (bif (decide (((v331/(9:Int))%(8:Int))=(3:Int))) then [(4:Int),(4:Int)] else v332) (λ(v334:Ji)=>(Let ↑225 (λ(v335:Ji)=>(Let (((v335.length:Nat):Int)/(2:Int)) (λ(hv336:Int)=>(Let (zbd (cutD v335 none (some hv336)) (ixD v334 (0:Int)) (zbu P0 (1:Int)) ((v331/(72:Int))%(2:Int))) (λ(v337:⇑9)=>(Let (zbd (cutD v335 (some hv336) none) (ixD v334 (1:Int)) (zbu P0 (2:Int)) ((v331/(144:Int))%(2:Int))) (λ(v338:⇑9)=>(Let (m_law_images v337 v338 (zbu P0 (0:Int)) (0:Int)) (λ(v339:Jq)=>(T3.mk v337 v338 (m_law_wares_sent v337 v339 (ixD v334 (1:Int))))))))))))))))))))
def ze7 (P0:Ji):Prop:=P0.length≤63
def zgE (K:W.Frag) (A:Adr):Sp:=Spv (ι:=Ji) ↑168 (λx=>ze7 x) (λx=>↥[dT [dT [dL (List.map lI (((↑124).a).a)),dL (List.map lI (((↑124).a).b)),dL (List.map dI (((↑124).a).c)),dL (List.map lI (((↑124).a).d))],dT [dL (List.map lI (((↑124).b).a)),dL (List.map lI (((↑124).b).b)),dL (List.map dI (((↑124).b).c)),dL (List.map lI (((↑124).b).d))],dL (List.map lI ((↑124).c))]])
theorem zcy:FnScope ["_law_script","_law_cell_here","_law_wides","_law_cells","_law_half","_law_first","_law_second","_law_images_here"] ["_law_script"] (zad zeG):=↥4
theorem zk6 (F:Fun K "_law_pair" "_law_pair" zeG f fd) (T:Txt K mg A) (ybW:Callee P w K mg base ↑1 1 "_law_cell" ["_law_script","_law_k"] (zgB K A)) (ybg:Callee P w K mg base ↑1 2 "_law_images" ["_law_first","_law_second","_law_cell_here","_law_far"] (zfI K A)) (yaV:Callee P w K mg base ↑1 1 "_law_raw" ["_law_script","_law_k"] (zhf K A)) (ya5:Callee P w K mg base ↑1 3 "_law_side" ["_law_cells","_law_wide","_law_cell_here","_law_idle"] (zgu K A)) (yaz:Callee P w K mg base ↑1 1 "_law_wares_sent" ["_law_first","_law_images_here","_law_wide"] (zd6 K A)):FnOk P w K mg base ↑1 4 f fd ["_law_script"] (zgE K A):=by
 refine F.okV zcy ↑4 ↑63
 have hu:=hr.units
 replace hp:ze7 P0:=hp
 unfold ze7 at hp
 refine ⟨_,(zac (zao (i:=1) zcy.nd rfl ⇑0 (zaO ybW ↥1 rfl zaK ↑[pv 0,zah])) (zac (zao (i:=2) zcy.nd rfl ⇑0 (zbf ↑[zaw zcD zah (zaw zcI (pv 1) zah),zaw zcD zah (zaw zcI (zaw zb7 (pv 1) zah) zah)])) (zac (zco (zaF zgq (zaw zcI (zaw zb7 (pv 1) zah) zah) zah (zaM _)) (zac (zao (i:=2) zcy.nd rfl ⇑0 (zbf ↑[zah,zah])) zae) zae) (zac (zao (i:=3) zcy.nd rfl ⇑0 (zdI ↑82 (pv 0) (zdS zah) (zdS zah))) (zac (zao (i:=4) zcy.nd rfl ⇑0 (zaw zb7 ↑182 zah)) (zac (zao (i:=5) zcy.nd rfl ⇑0 (zaO ya5 ↥1 rfl zaK ↑[(zdI ↑82 (pv 3) zfC (zdS (pv 4))),(za1 ↑7 (pv 2) zah ⇑3),zaO yaV ↥1 rfl zaK ↑[pv 0,zah],zaw zcI (zaw zb7 (pv 1) zah) zah])) (zac (zao (i:=6) zcy.nd rfl ⇑0 (zaO ya5 ↥1 rfl zaK ↑[(zdI ↑82 (pv 3) (zdS (pv 4)) zfC),(za1 ↑7 (pv 2) zah ⇑3),zaO yaV ↥1 rfl zaK ↑[pv 0,zah],zaw zcI (zaw zb7 (pv 1) zah) zah])) (zac (zao (i:=7) zcy.nd rfl ⇑0 (zaO ybg ↥1 rfl zaK ↑[pv 5,pv 6,zaO yaV ↥1 rfl zaK ↑[pv 0,zah],zah])) (zac (zaJ (zgn ↑[pv 5,pv 6,(zaO yaz ↥1 rfl zaK ↑[pv 5,pv 7,(za1 ↑7 (pv 2) zah ⇑3)])])) zae))))))))),.inl ?_⟩
 show L2.Run _ ([⇑[dQ K ↑8],.no,.no,.no,.no,.no,.no,.no]:L2.Ctx) _ (↑109 (m_law_pair P0))
 unfold m_law_pair
 exact (zam (m:=true) (x:=(zdW P0 (0:Int))) dI ↑109 (Ev.any (m:=true) (zau (x:=(P0,(0:Int))) (zab ↑2 ↑27) rfl (by show zem P0 (0:Int);unfold zem;decide) rfl)) (λv331 hv331=>(zam (m:=true) (x:=[((1:Int)+(v331%(3:Int))),((1:Int)+((v331/(3:Int))%(3:Int)))]) lI ↑109 (EvO.ev (zbV (zab (zaQ (x:=(1:Int)) (y:=(v331%(3:Int))) zaG (zaH (x:=v331) (y:=(3:Int)) ↑60 zaG ⇑1)) (zab (zaQ (x:=(1:Int)) (y:=((v331/(3:Int))%(3:Int))) zaG (zaH (x:=(v331/(3:Int))) (y:=(3:Int)) (zaH (x:=v331) (y:=(3:Int)) ↑60 zaG ↥(⇑5)) zaG ⇑1)) zag)) ↑89)) (λv332 hv332=>have hW0:=hv332;(zed (b:=(decide (((v331/(9:Int))%(8:Int))=(3:Int)))) (λbb=>([⇑[dQ K ↑8],↥[dI v331],↥[dL (List.map dI (bif bb then [(4:Int),(4:Int)] else v332))],.no,.no,.no,.no,.no]:L2.Ctx)) (zav (zeZ (x:=((v331/(9:Int))%(8:Int))) (y:=(3:Int)) (zaH (x:=(v331/(9:Int))) (y:=(8:Int)) (zaH (x:=v331) (y:=(9:Int)) ↑60 zaG ↥(⇑5)) zaG ⇑1) zaG)) (λh333=>(zcg (m:=true) (EvO.ev (zbV (zab zaG ↑27) ↑89)) (zap (.eq ↑28)))) (λh333=>(zap (.eq ↑28))) (zep (x:=(bif (decide (((v331/(9:Int))%(8:Int))=(3:Int))) then [(4:Int),(4:Int)] else v332)) (λv334=>([⇑[dQ K ↑8],↥[dI v331],↥[dL (List.map dI v334)],.no,.no,.no,.no,.no]:L2.Ctx)) ↑109 (λv334 hv334=>have hW:=zuY hW0 hv334;(zam (m:=true) (x:=↑225) lI ↑109 (EvO.ev (EvO.anyI (m:=false) (zeN (f:=dI) (xs:=P0) ↑2 (zc1 zaG) (zc1 zaG)))) (λv335 hv335=>have hC:=hv335;(zam (m:=true) (x:=(((v335.length:Nat):Int)/(2:Int))) dI ↑109 (zaH (x:=((v335.length:Nat):Int)) (y:=(2:Int)) (zaZ (f:=dI) (xs:=v335) (Ev.old ↑18)) zaG ↥(⇑5)) (λhv336 hhalf336=>have hH:=hhalf336;(zam (m:=true) (x:=(zbd (cutD v335 none (some hv336)) (ixD v334 (0:Int)) (zbu P0 (1:Int)) ((v331/(72:Int))%(2:Int)))) (λ(p:⇑9)=>dT [dL (List.map lI p.a),dL (List.map lI p.b),dL (List.map dI p.c),dL (List.map lI p.d)]) ↑109 (zau (x:=((cutD v335 none (some hv336)),(ixD v334 (0:Int)),(zbu P0 (1:Int)),((v331/(72:Int))%(2:Int)))) (zab (Ev.weak (K:=K) (EvO.ev (EvO.anyI (m:=true) (zeN (f:=dI) (xs:=v335) ↑18 zex (zc1 ↑38))))) (zab (Ev.any (m:=true) (zbP (f:=dI) (xs:=v334) ↑58 zaG ↥(zuI hW))) (zab (Ev.any (m:=true) (zau (x:=(P0,(1:Int))) (zab ↑2 ↑27) rfl (by show zcv P0 (1:Int);unfold zcv;decide) rfl)) (zab (zaH (x:=(v331/(72:Int))) (y:=(2:Int)) (zaH (x:=v331) (y:=(72:Int)) ↑60 zaG ↥(⇑5)) zaG ⇑1) zag)))) rfl (by show zek (cutD v335 none (some hv336)) (ixD v334 (0:Int)) (zbu P0 (1:Int)) ((v331/(72:Int))%(2:Int));exact ⟨zsq hW,zst⟩) rfl) (λv337 hv337=>have hF:=zu8 (c2:=0) hW hC hH hv337;(zam (m:=true) (x:=(zbd (cutD v335 (some hv336) none) (ixD v334 (1:Int)) (zbu P0 (2:Int)) ((v331/(144:Int))%(2:Int)))) (λ(p:⇑9)=>dT [dL (List.map lI p.a),dL (List.map lI p.b),dL (List.map dI p.c),dL (List.map lI p.d)]) ↑109 (zau (x:=((cutD v335 (some hv336) none),(ixD v334 (1:Int)),(zbu P0 (2:Int)),((v331/(144:Int))%(2:Int)))) (zab (Ev.weak (K:=K) (EvO.ev (EvO.anyI (m:=true) (zeN (f:=dI) (xs:=v335) ↑18 (zc1 ↑38) zex)))) (zab (Ev.any (m:=true) (zbP (f:=dI) (xs:=v334) ↑58 zaG ↥(zte hW))) (zab (Ev.any (m:=true) (zau (x:=(P0,(2:Int))) (zab ↑2 ↑27) rfl (by show zcv P0 (2:Int);unfold zcv;decide) rfl)) (zab (zaH (x:=(v331/(144:Int))) (y:=(2:Int)) (zaH (x:=v331) (y:=(144:Int)) ↑60 zaG ↥(⇑5)) zaG ⇑1) zag)))) rfl (by show zek (cutD v335 (some hv336) none) (ixD v334 (1:Int)) (zbu P0 (2:Int)) ((v331/(144:Int))%(2:Int));exact ⟨zpr hW,zst⟩) rfl) (λv338 hv338=>have hS:=zuT hW hC hH hv338;(zam (m:=true) (x:=(m_law_images v337 v338 (zbu P0 (0:Int)) (0:Int))) ↑167 ↑109 (zau (x:=(v337,v338,(zbu P0 (0:Int)),(0:Int))) (zab (Ev.old ↑81) (zab (Ev.old ↑72) (zab (Ev.any (m:=true) (zau (x:=(P0,(0:Int))) (zab ↑2 ↑27) rfl (by show zcv P0 (0:Int);unfold zcv;decide) rfl)) ↑27))) rfl (by show zd9 v337 v338 (zbu P0 (0:Int)) (0:Int);exact ztx hF hS) rfl) (λv339 hv339=>have hI:=zuN hF hS hv339;(zaj (zaC (zgo (zab ↑81 (zab ↑72 (zab (zau (x:=(v337,v339,(ixD v334 (1:Int)))) (zab (Ev.old ↑81) (zab (Ev.old ↑115) (zab (Ev.any (m:=true) (zbP (f:=dI) (xs:=v334) ↑58 zaG ↥(zte hW))) zag))) rfl (by show zcJ v337 v339 (ixD v334 (1:Int));exact ztN hW hF hI) rfl) zag))) ↑136))))))))))))))))))))
theorem zgU {α β:Type} {P:β->Prop} {x:α} {f:α->β} (h:∀ y,y=x->P (f y)):P (Let x f):=h x rfl
theorem zf3 {α β:Type} {x:α} {f:α->β} {b:β} (h:∀ y,y=x->f y=b):Let x f=b:=h x rfl
def P71 (y:T3 Sd4 Sd4 Jq):Prop:=∃ (W1 W2:Nat) (im:Jq),W1≤4∧W2≤4∧Sd71 W1 30 90 y.a∧Sd71 W2 30 90 y.b∧Ims W1 W2 65 y.a y.b im∧Snt W1 W2 y.a y.b im y.c 98
theorem zmP {xs:Ji} {y:T3 Sd4 Sd4 Jq} (e:y=m_law_pair xs):P71 y:=by
 rw [e]
 unfold m_law_pair
 refine zgU (P:=P71) λc _=>zgU (P:=P71) λw0 h0=>zgU (P:=P71) λw hw=>zgU (P:=P71) λcs hC=>zgU (P:=P71) λh hH=>zgU (P:=P71) λf hf=>zgU (P:=P71) λs hs=>zgU (P:=P71) λim hi=>?_
 have hW:=zuY h0 hw
 have hF:=zu8 (c2:=0) hW hC hH hf
 have hS:=zuT hW hC hH hs
 have hI:=zuN hF hS hi
 have p1:=zpr hW
 obtain ⟨k1,k2,k3⟩:=zoD hF hI (w:=ixD w (1:Int)) ↑0
 exact ⟨_,_,im,(zuQ hW).1,(zuQ hW).2,hF,hS,hI,⟨k1,k2,k3⟩⟩
def G71 (S:SenderD) (f s:Sd4) (bs:Jq):Prop:=∃ (W1 W2:Nat) (im:Jq) (a b:BookD),(W1≤4∧W2≤4)∧Sd71 W1 30 90 f∧Sd71 W2 30 90 s∧Ims W1 W2 65 f s im∧Snt W1 W2 f s im bs 98∧a.many=(W1:Int)∧b.many=(W2:Int)∧S=⟨a,b,bs⟩
def za7 (P0:Jq) (P1:Ji) (P2:Int):Ji :=
 (Let (zd8 P2 [(0:Int)]) (λ(v340:Ji)=>(Let (List.foldl (λ(s341:Ji) (x342:(Int×Ji))=>(Let (List.map (λ(x346:↥6)=>(x346.1+(x342.1*x346.2))) (List.zip s341 x342.2)) (λ(v349:Ji)=>v349))) v340 (List.zip P1 P0)) (λ(r350:Ji)=>r350))))
def zei (P0:Jq) (P1:Ji) (P2:Int):Prop:=SmP P0 P1 P2
def zgF (K:W.Frag) (A:Adr):Sp:=Spv (ι:=Jq×Ji×Int) (λx=>[dQ K (List.map lI x.1),dQ K (List.map dI x.2.1),dI x.2.2]) (λx=>zei x.1 x.2.1 x.2.2) (λx=>↥[dL (List.map dI (za7 x.1 x.2.1 x.2.2))])
theorem zeP:FnScope ["_law_baskets","_law_basket_here","_law_wide","_law_found","_law_many","_law_row"] ["_law_baskets","_law_basket_here","_law_wide"] (zad zdZ):=↥4
theorem zk4 (F:Fun K "_law_sums" "_law_sums" zdZ f fd) (T:Txt K mg A) :FnOk P w K mg base ↑1 1 f fd ["_law_baskets","_law_basket_here","_law_wide"] (zgF K A):=by
 refine F.okV zeP ↑4 ↥7
 obtain ⟨P0,P1,P2⟩:=x
 have hu:=hr.units
 replace hp:zei P0 P1 P2:=hp
 unfold zei at hp
 refine ⟨_,(zac (zao (i:=3) zeP.nd rfl ⇑0 (zaw zik ↑85 (pv 2))) (zac (zch PassesOwn.never rfl (zb8 (K:=K) rfl rfl T.zip ↑[pv 1,pv 0]) (zba (K:=K) (n:=2) rfl rfl (zay (zak (i:=4) zeP.nd rfl ↥3 ⇑0) (zay (zak (i:=5) zeP.nd rfl ⇑0 ⇑0) zbE))) (zac (zfe (i:=3) rfl zeP.nd rfl rfl (.of (osc:=(zad zdZ)) (N:=["_law_baskets","_law_basket_here","_law_wide","_law_found","_law_many","_law_row"]) (own:=↑96) (fvn:=["_law_many"]) (fv:=[4]) rfl rfl ↑5) (zb8 (K:=K) rfl rfl T.zip ↑[pv 3,pv 5]) ↑208) zae)) (zac (zaJ (pv 3)) zae))),.inl ?_⟩
 show L2.Run _ ([⇑[dQ K ⇑8],⇑[dQ K ⇑4],⇑[dI P2],.no,.no,.no]:L2.Ctx) _ (↑23 (za7 P0 P1 P2))
 unfold za7
 exact (zam (m:=true) (x:=(zd8 P2 [(0:Int)])) lI ↑23 (EvO.ev (zgD (f:=dI) (xs:=[(0:Int)]) (n:=P2) ↑75 ↑39 ↥(zrL hp) ↥(ztT hp))) (λv340 hv340=>have hF:=hv340;(zbh (s0:=v340) (λ(s341:Ji)=>([⇑[dQ K ⇑8],⇑[dQ K ⇑4],⇑[dI P2],↥[dL (List.map dI s341)],.no,.no]:L2.Ctx)) ↑23 (λ(s341:Ji) (x342:(Int×Ji))=>(Let (List.map (λ(x346:↥6)=>(x346.1+(x342.1*x346.2))) (List.zip s341 x342.2)) (λ(v349:Ji)=>v349))) (λ(i:Nat) (s341:Ji)=>(s341.length:Int)=P2) (zen (m:=false) dI lI (xs:=P1) (ys:=P0) ↑3 ↑2) (.eq ↑41) ↥(zvx hp hF) (λi343 x342 s341 hx344 hI345=>have v344:=zbL hx344;⟨↥(zvt hp ↥0 ↥0),(zam (m:=true) (x:=(List.map (λ(x346:↥6)=>(x346.1+(x342.1*x346.2))) (List.zip s341 x342.2))) lI (λz=>Oc.nx ((λ(s341:Ji)=>([⇑[dQ K ⇑8],⇑[dQ K ⇑4],⇑[dI P2],↥[dL (List.map dI s341)],.no,.no]:L2.Ctx)) z)) (EvO.ev (EvO.conv (zbW (g:=(λ(x346:↥6)=>dI (x346.1+(x342.1*x346.2)))) (zen (m:=false) dI dI (xs:=s341) (ys:=x342.2) (Ev.old ↑18) ↑112) ↥(zuD hp ↥0) ⇑5 (λi347 x346 hx348=>have v348:=zbL hx348;(zaQ (x:=x346.1) (y:=(x342.1*x346.2)) ↑9 (zaH (x:=x342.1) (y:=x346.2) ↑39 ⇑6 ↥(zsS hp ↥0 ↥0))))) ↑10)) (λv349 hv349=>have hF:=hv349;(zap (.eq (.eq (.eq (.eq ↑46)))))))⟩) (λr350 hr350 hI=>(zaj (zaC ↑29))))))
theorem zqt {W1 W2:Nat} {bs:Jq} {x:Ji} {w:Int} (hw:w=(W2:Int)) (hb:∀ r∈bs,r.length=W2) (hl:bs.length=W1) (hx:x.length=W1):(za7 bs x w).length=W2∧∀ i,Lat.vec (za7 bs x w) i=Lat.lsum ((List.range W1).map λ(k:Nat)=>Lat.vec x k*Lat.vec (ixD bs (k:Int)) i):=by
 have k:=Lat.zgg (W:=W2) (F:=λ(s:Ji) (p:Int×Ji)=>List.map (λ(q:Int×Int)=>(q.1+(p.1*q.2))) (List.zip s p.2)) (c:=λp i=>p.1*Lat.vec p.2 i) (List.zip x bs) (zd8 w [(0:Int)]) (by rw [hw,Lat.zer]) λs p hp hs=>by
  have hq:=hb _ (↑205).2
  exact ⟨by rw [List.length_map,List.length_zip,hq];omega,λi=>Lat.zfc ↑0⟩
 refine ⟨k.1,λi=>(k.2 i).trans ?_⟩
 rw [hw,Lat.zgv,Int.zero_add,Lat.zjM hx hl,List.map_map]
 exact Lat.zds λw _=>by
  show ixD x (w:Int)*Lat.vec (ixD bs (w:Int)) i=_
  rw [Lat.zb0]
theorem zn9 {W1 W2:Nat} {bs:Jq} {x:Ji} {w:Int} {a b:BookD} (hw:w=(W2:Int)) (hm:b.many=(W2:Int)) (hb:∀ r∈bs,r.length=W2) (hl:bs.length=W1) (hx:x.length=W1):za7 bs x w=m_Sender_sent ⟨a,b,bs⟩ x:=by
 obtain ⟨k1,k2⟩:=zqt hw hb hl hx
 obtain ⟨j1,j2⟩:=zkz (S:=⟨a,b,bs⟩) (x:=x) hm hb hl hx
 exact Lat.zqZ (k1.trans j1.symm) λi=>(k2 i).trans (j2 i).symm
def zcp (P0:Jq) (P1:Ji):Ji :=
 (Let (List.foldl (λ(s351:Ji) (x352:Ji)=>(Let (List.foldl (λ(s356:Int) (x357:↥6)=>(Let (s356+(x357.1*x357.2)) (λ(v361:Int)=>v361))) (0:Int) (List.zip x352 P1)) (λ(r362:Int)=>(s351++[r362])))) [] P0) (λ(r363:Ji)=>r363))
def zee (P0:Jq) (P1:Ji):Prop:=ShP P0 P1
def zfw (K:W.Frag) (A:Adr):Sp:=Spv (ι:=Jq×Ji) (λx=>[dQ K (List.map lI x.1),dQ K ↑70]) (λx=>zee x.1 x.2) (λx=>.ow true (List.map dI (zcp x.1 x.2)))
theorem zcq:FnScope ["_law_duals","_law_basket_here","_law_found","_law_weights","_law_total","_law_one","_law_other"] ["_law_duals","_law_basket_here"] (zad zdn):=↥4
theorem zi5 (F:Fun K "_law_shares" "_law_shares" zdn f fd) (T:Txt K mg A) :FnOk P w K mg base ↑1 1 f fd ["_law_duals","_law_basket_here"] (zfw K A):=by
 refine F.okV zcq ↑4 ↥7
 obtain ⟨P0,P1⟩:=x
 have hu:=hr.units
 replace hp:zee P0 P1:=hp
 unfold zee at hp
 refine ⟨_,(zac (zao (i:=2) zcq.nd rfl ⇑0 (zbf zeV)) (zac (zch PassesOwn.never rfl (za3 (K:=K) rfl (pv 0)) (zak (i:=3) zcq.nd rfl ⇑0 ⇑0) (zac (zao (i:=4) zcq.nd rfl ⇑0 zah) (zac (zch PassesOwn.never rfl (zb8 (K:=K) rfl rfl T.zip ↑[pv 3,pv 1]) (zba (K:=K) (n:=2) rfl rfl (zay (zak (i:=5) zcq.nd rfl ⇑0 ⇑0) (zay (zak (i:=6) zcq.nd rfl ⇑0 ⇑0) zbE))) (zac (zao (i:=4) zcq.nd rfl ⇑0 (zaw zcD (pv 4) (zaw zbA (pv 5) (pv 6)))) zae)) (zac (zcR (zbO (K:=K) rfl (pv 2) ↑[pv 4])) zae)))) (zac (zaJ (pv 2)) zae))),.inl ?_⟩
 show L2.Run _ ([⇑[dQ K ⇑8],⇑[dQ K ⇑4],.no,.no,.no,.no,.no]:L2.Ctx) _ (↑166 (zcp P0 P1))
 unfold zcp
 exact (zfx (m:=true) (ds:=List.map dI []) ↑119 (zbh (s0:=[]) (λ(s351:Ji)=>([⇑[dQ K ⇑8],⇑[dQ K ⇑4],.ow true (List.map dI s351),.no,.no,.no,.no]:L2.Ctx)) ↑166 (λ(s351:Ji) (x352:Ji)=>(Let (List.foldl (λ(s356:Int) (x357:↥6)=>(Let (s356+(x357.1*x357.2)) (λ(v361:Int)=>v361))) (0:Int) (List.zip x352 P1)) (λ(r362:Int)=>(s351++[r362])))) (λ(i:Nat) (s351:Ji)=>s351.length≤i) (zbY (m:=false) lI (xs:=P0) ↑2) ↑28 ↥(Nat.le_refl 0) (λi353 x352 s351 hx354 hI355=>have v354:=List.mem_of_getElem? hx354;⟨↥(zmH ↥0),(zcg (m:=true) zaG (zbh (s0:=(0:Int)) (λ(s356:Int)=>([⇑[dQ K ⇑8],⇑[dQ K ⇑4],.ow true (List.map dI s351),⇑[dL (List.map dI x352)],↥[dI s356],.no,.no]:L2.Ctx)) (λz=>Oc.nx ((λ(s351:Ji)=>([⇑[dQ K ⇑8],⇑[dQ K ⇑4],.ow true (List.map dI s351),.no,.no,.no,.no]:L2.Ctx)) z)) (λ(s356:Int) (x357:↥6)=>(Let (s356+(x357.1*x357.2)) (λ(v361:Int)=>v361))) (λ_ _=>True) (zen (m:=false) dI dI (xs:=x352) (ys:=P1) ↑18 ↑3) ↑28 trivial (λi358 x357 s356 hx359 hI360=>have v359:=zbL hx359;⟨trivial,(zam (m:=true) (x:=(s356+(x357.1*x357.2))) dI (λz=>Oc.nx ((λ(s356:Int)=>([⇑[dQ K ⇑8],⇑[dQ K ⇑4],.ow true (List.map dI s351),⇑[dL (List.map dI x352)],↥[dI s356],.no,.no]:L2.Ctx)) z)) (zaQ (x:=s356) (y:=(x357.1*x357.2)) ↑38 (zaH (x:=x357.1) (y:=x357.2) (Ev.any (m:=false) ↑81) (Ev.any (m:=false) ↑72) ↥(zrw hp ↥0 ↥0))) (λv361 hv361=>(zap (.eq (.eq (.eq (.eq (.eq ↑46))))))))⟩) (λr362 hr362 hI=>(zcU (f:=dI) (xs:=s351) (x:=r362) rfl ↑38 ↥(zs4 hp ↥0 ↥0) (zap (.eq (.eq (.eq (.no (.no (.eq (.eq .nil))))))))))))⟩) (λr363 hr363 hI=>(zeK (ziU (i:=2) rfl)))))
def zb3 (P0:Jq) (P1:Ji) (P2:Ji):Bool :=
 (zmn (zcm (λ(s364:Unit) (x365:↥6)=>(((bif (((decide (x365.2=(0:Int))) && (!decide (x365.1=(0:Int))))||((decide ((0:Int)<x365.2)) && (!decide ((x365.1%x365.2)=(0:Int))))) then (Sum.inr false) else (Sum.inl ()))):(Unit)⊕Bool)) () (List.zip (zcp P0 P2) P1)) (λ(r370:Unit)=>true) (λb=>b))
def zdz (P0:Jq) (P1:Ji) (P2:Ji):Prop:=ShP P0 P2
def zfd (K:W.Frag) (A:Adr):Sp:=Spv (ι:=Jq×Ji×Ji) (λx=>[dQ K (List.map lI x.1),dQ K (List.map dI x.2.1),dQ K (List.map dI x.2.2)]) (λx=>zdz x.1 x.2.1 x.2.2) (λx=>↥[dB (zb3 x.1 x.2.1 x.2.2)])
theorem zfh:FnScope ["_law_duals","_law_bottoms_here","_law_basket_here","_law_share","_law_number"] ["_law_duals","_law_bottoms_here","_law_basket_here"] (zad zc4):=↥4
theorem ziy (F:Fun K "_law_nothing" "_law_nothing" zc4 f fd) (T:Txt K mg A) (ybh:Callee P w K mg base ↑1 1 "_law_shares" ["_law_duals","_law_basket_here"] (zfw K A)):FnOk P w K mg base ↑1 2 f fd ["_law_duals","_law_bottoms_here","_law_basket_here"] (zfd K A):=by
 refine F.okV zfh ↑4 ↥7
 obtain ⟨P0,P1,P2⟩:=x
 have hu:=hr.units
 replace hp:zdz P0 P1 P2:=hp
 unfold zdz at hp
 refine ⟨_,(zac (zch PassesOwn.never rfl (zb8 (K:=K) rfl rfl T.zip ↑[zaO ybh ↥1 rfl zaK ↑[pv 0,pv 2],pv 1]) (zba (K:=K) (n:=2) rfl rfl (zay (zak (i:=3) zfh.nd rfl ⇑0 ⇑0) (zay (zak (i:=4) zfh.nd rfl ⇑0 ⇑0) zbE))) (zac (zco (PW.pt (zkV (PW.pt (zkr (zaF zgq (pv 4) zah (zaM _)) (zig (zaF zfD (pv 3) zah (zaM _))))) (zhV (PW.pt (zkr (zaF zkj (pv 4) zah (zaM _)) (zig (zaF zfD (zaw zcI (pv 3) (pv 4)) zah (zaM _)))))))) ↑80 zae) zae)) ↑80),.inl ?_⟩
 show L2.Run _ ([⇑[dQ K ⇑8],⇑[dQ K ⇑4],⇑[dQ K (List.map dI P2)],.no,.no]:L2.Ctx) _ (↥8 (zb3 P0 P1 P2))
 unfold zb3
 exact (zhJ (s0:=()) (λ(s364:Unit)=>([⇑[dQ K ⇑8],⇑[dQ K ⇑4],⇑[dQ K (List.map dI P2)],.no,.no]:L2.Ctx)) ↥8 (λb=>b) (λ(s364:Unit) (x365:↥6)=>(((bif (((decide (x365.2=(0:Int))) && (!decide (x365.1=(0:Int))))||((decide ((0:Int)<x365.2)) && (!decide ((x365.1%x365.2)=(0:Int))))) then (Sum.inr false) else (Sum.inl ()))):(Unit)⊕Bool)) (λ_ _=>True) (λb=> .inl ⟨_,_,rfl⟩) (zen (m:=false) dI dI (xs:=(zcp P0 P2)) (ys:=P1) (Ev.weak (K:=K) (EvO.ev (EvO.anyI (m:=true) (zb5 (x:=(P0,P2)) (zab ↑2 (zab ↑19 zag)) rfl (by show zee P0 P2;exact hp) rfl)))) ↑3) ↑41 trivial (λi366 x365 s364 hx367 hI368=>have v367:=zbL hx367;⟨(λ_ _=>trivial),(zaS (b:=(((decide (x365.2=(0:Int))) && (!decide (x365.1=(0:Int))))||((decide ((0:Int)<x365.2)) && (!decide ((x365.1%x365.2)=(0:Int)))))) (ziW (λ(s364:Unit)=>([⇑[dQ K ⇑8],⇑[dQ K ⇑4],⇑[dQ K (List.map dI P2)],.no,.no]:L2.Ctx)) ↥8) (zhS (b:=((decide (x365.2=(0:Int)))&&(!decide (x365.1=(0:Int))))) (zh8 (b:=(decide (x365.2=(0:Int)))) (zav (zeZ (x:=x365.2) (y:=(0:Int)) ↑62 zaG)) (λhb=>(zav (zdH (x:=x365.1) (y:=(0:Int)) (Ev.any (m:=false) ↑29) zaG)))) (λhb=>(zh8 (b:=(decide ((0:Int)<x365.2))) (zav (zaQ (x:=x365.2) (y:=(0:Int)) ↑62 zaG)) (λhb=>(zav (zdH (x:=(x365.1%x365.2)) (y:=(0:Int)) (zaH (x:=x365.1) (y:=x365.2) (Ev.any (m:=false) ↑29) ↑62 (by show (0:Int)<_;exact of_decide_eq_true ↥0)) zaG)))))) (λh369=>↑92) (λh369=>(zar (zap (.eq (.eq (.eq ↑46)))))))⟩) (λr370 hr370 hI=>(zaj (zaC zaG))))
theorem zpU:∀ (w t:Ji) (a:Int),List.foldl (λ(s:Int) (x:Int×Int)=>Let (s+(x.1*x.2)) (λ(y:Int)=>y)) a (List.zip w t)=a+(↑246).sum
 | [],_,a=>by show a=a+0;omega
 | _ :: _,[],a=>by show a=a+0;omega
 | x :: w,y :: t,a=>by
  show List.foldl _ (a+x*y) (List.zip w t)=a+(x*y+(↑246).sum)
  rw [zpU w t];omega
theorem zna (ds:Jq) (x:Ji):zcp ds x=ds.map λd=>Lat.dv d (Lat.vec x):=by
 show List.foldl (λ(s:Ji) (d:Ji)=>s++[List.foldl (λ(s:Int) (x:Int×Int)=>Let (s+(x.1*x.2)) (λ(y:Int)=>y)) 0 (List.zip d x)]) [] ds=_
 rw [Lat.zgP,List.nil_append]
 refine List.map_congr_left λd _=>?_
 rw [zpU,Int.zero_add,Lat.zmY]
theorem zrr {γ β:Type} {f:Unit->γ->Unit ⊕ β} {p:γ} {l:List γ} (h:f () p=.inl ()):zcm f () (p :: l)=zcm f () l:=by
 rw [zcm,h]
theorem zqj {γ β:Type} {f:Unit->γ->Unit ⊕ β} {p:γ} {l:List γ} {v:β} (h:f () p=.inr v):zcm f () (p :: l)=.inr v:=by
 rw [zcm,h]
theorem zka {γ:Type} {c:γ->Bool}:∀ (l:List γ),zmn (zcm (λ(_:Unit) (p:γ)=>((bif c p then (Sum.inr false) else (Sum.inl ())):Unit ⊕ Bool)) () l) (λ_=>true) (λb=>b)=l.all λp=>!c p
 | []=>rfl
 | p :: l=>by
  rw [List.all_cons]
  cases q:c p
  ·rw [zrr (by show (bif c p then _ else _)=_;rw [q];rfl),zka l];rfl
  ·rw [zqj (v:=false) (by show (bif c p then _ else _)=_;rw [q];rfl)];rfl
theorem zrY {W:Nat} {f:Jq×Jq} {bs x:Ji} (h:Lat.Du W f) (hb:bs.length=W) (h0:∀ b∈bs,0≤b) (hx:x.length=W):zb3 f.2 bs x=true ↔ Lat.SpL (Lat.scl f.1 bs) (Lat.vec x):=by
 unfold zb3
 rw [zka,List.all_eq_true,zna]
 have cd:∀ a b:Int,0≤b->((!(((decide (b=(0:Int)))&&(!decide (a=(0:Int))))||((decide ((0:Int)<b))&&(!decide ((a%b)=(0:Int))))))=true ↔ b ∣ a):=λa b hb=>by
  by_cases q:b=0
  ·subst q
   simp
  ·have:0<b:=by omega
   rw [decide_eq_false q,decide_eq_true this]
   simp [Int.dvd_iff_emod_eq_zero]
 constructor
 ·intro k
  refine Lat.zpN h hb h0 (λj hj=>Lat.zc6 ↑0) λi t b ht hbi=>?_
  have hz:(List.zip (f.2.map λd=>Lat.dv d (Lat.vec x)) bs)[i]?=some (Lat.dv t (Lat.vec x),b):=by
   rw [List.getElem?_zip_eq_some]
   exact ⟨by rw [List.getElem?_map,ht];rfl,hbi⟩
  exact (cd _ _ (h0 b (List.mem_of_getElem? hbi))).mp (k _ (List.mem_of_getElem? hz))
 ·intro k p hp
  obtain ⟨i,hi⟩:=List.getElem?_of_mem hp
  obtain ⟨i1,i2⟩:=zbL hi
  rw [List.getElem?_map] at i1
  cases q:f.2[i]? with
  | none=>rw [q] at i1;cases i1
  | some t =>
   rw [q] at i1
   have i1:Lat.dv t (Lat.vec x)=p.1:=Option.some.inj i1
   refine (cd _ _ (h0 _ (List.mem_of_getElem? i2))).mpr ?_
   rw [← i1]
   exact Lat.zpS h k q i2
def zby (P0:SenderD) (P1:Ji):((Option Ji)×(Option Xn)) :=
 (Let () (λ(v371:Unit)=>(Let () (λ(v372:Unit)=>(Let (zrK (zbc P0 P1) (λ(v374:Ji)=>(Except.ok v374))) (λ(r375:Except Xn Ji)=>((okO r375),(zuw r375))))))))
def zez (P0:SenderD) (P1:Ji):Prop:=SeX P0 P1
def zfW (K:W.Frag) (A:Adr):Sp:=Spv (ι:=SenderD×Ji) (λx=>[zbX A A.Sender x.1,dQ K ↑70]) (λx=>zez x.1 x.2) (λx=>↥[dT [dOpt lI ((zby x.1 x.2).1),dOpt ↑121 ((zby x.1 x.2).2)]])
theorem zej:FnScope ["_law_sender","_law_basket_here","_law_found","_law_caught","e"] ["_law_sender","_law_basket_here"] (zad zdQ):=↥4
theorem zj5 (F:Fun K "_law_asked" "_law_asked" zdQ f fd) (T:Txt K mg A)  (yaP:CalleeM P w K mg base ↑1 3 A.Sender "sent" ["self","basket"] (zeS K A)):FnOk P w K mg base ↑1 4 f fd ["_law_sender","_law_basket_here"] (zfW K A):=by
 refine F.okVX zej ↑4 (λcdv Ar outer s H E x hr hp O=> ?_)
 obtain ⟨P0,P1⟩:=x
 have hu:=hr.units
 replace hp:zez P0 P1:=hp
 unfold zez at hp
 refine ⟨_,(zeR (zhe (zao (i:=2) zej.nd rfl ⇑0 zj4)) (zeR (zhe (zao (i:=3) zej.nd rfl ⇑0 zj4)) (zeR (zsF (K:=K) O rfl zej.nd (i:=4) (j:=3) rfl rfl rfl ⇑0 ↥3 rfl T.k_SwapError (zeR (zsG (i:=2) zej.nd rfl ⇑0 (zrM O (pv 0) T.Sender_cl yaP ↥1 ↑[pv 1])) ziL)) (zeR (zhe (zaJ (zgn ↑[pv 2,pv 3]))) ziL)))),.inl ?_⟩
 show L2.Run _ ([⇑[zbX A A.Sender P0],⇑[dQ K ⇑4],.no,.no,.no]:L2.Ctx) _ (↑240 (zby P0 P1))
 unfold zby
 exact (zam (m:=true) (x:=()) (λ_=>dN) ↑240 zaG (λv371 hv371=>(zam (m:=true) (x:=()) (λ_=>dN) ↑240 zaG (λv372 hv372=>(zoF (xc:=A.xc) (λ(z373:Ji)=>([⇑[zbX A A.Sender P0],⇑[dQ K ⇑4],↥[dL (List.map dI z373)],↥[dN],.no]:L2.Ctx)) ([⇑[zbX A A.Sender P0],⇑[dQ K ⇑4],↥[dN],↥[dN],.no]:L2.Ctx) (λ(r375:Except Xn Ji)=>([⇑[zbX A A.Sender P0],⇑[dQ K ⇑4],↥[dOpt lI (okO r375)],↥[dOpt ↑121 (zuw r375)],.no]:L2.Ctx)) ↑240 (λE1=>(znZ (λv=>Oc.nx ((λ(z373:Ji)=>([⇑[zbX A A.Sender P0],⇑[dQ K ⇑4],↥[dL (List.map dI z373)],↥[dN],.no]:L2.Ctx)) v)) (zqI (x:=(P0,P1)) ↑2 (zab ↑3 zag) rfl (by show zdd P0 P1;exact hp) rfl rfl) ↑41 (λv374 hv374=>(zap ↑41)))) (λz373=>↑41) (λe=>⟨match e with | .BadBasket=>T.exm_BadBasket,↑41⟩) (λr375 hr375=>(zaj (zaC (zgo (zab ↑19 (zab ↑29 zag)) ↑89)))))))))
theorem zhI (S:SenderD) (x:Ji):zby S x=(okO (zbc S x),zuw (zbc S x)):=by
 unfold zby Let zrK
 cases zbc S x<;>rfl
theorem zf7 {S:SenderD} {x:Ji} {p:Option Ji×Option Xn} (e:p=zby S x) (h:p.2.isSome=false):p.1.isSome=true:=by
 rw [e,zhI] at *
 cases q:zbc S x with
 | ok v=>rfl
 | error e=>rw [q] at h;cases h
theorem zu3 {a b:Bool} (h:(a||b)=false):a=false:=by cases a<;>simp_all
def zaI (P0:Int) (P1:Int) (P2:Int):Int :=
 (bif ((decide ((29:Int)<P2)) && (decide (((P0/↑36)%(2:Int))=(1:Int)))) then ((zaf P0 P1 (60:Int))-(30:Int)) else ((zaf P0 P1 (((2:Int)*P2)+(1:Int)))-P2))
def zdB (P0:Int) (P1:Int) (P2:Int):Prop:=0≤P1∧P1≤1000∧0≤P2∧P2≤1000000000
def ze9 (K:W.Frag) (A:Adr):Sp:=Spv (ι:=Int×Int×Int) (λx=>[dI x.1,dI x.2.1,dI x.2.2]) (λx=>zdB x.1 x.2.1 x.2.2) (λx=>↥[dI (zaI x.1 x.2.1 x.2.2)])
theorem zkp:FnScope ["_law_cell_here","_law_k","_law_size"] ["_law_cell_here","_law_k","_law_size"] (zad zdU):=↥4
theorem zj9 (F:Fun K "_law_count" "_law_count" zdU f fd) (T:Txt K mg A) (yab:Callee P w K mg base ↑1 1 "_law_thing" ↑134 (zcS K A)):FnOk P w K mg base ↑1 2 f fd ["_law_cell_here","_law_k","_law_size"] (ze9 K A):=by
 refine F.okV zkp ↑4 ↥7
 obtain ⟨P0,P1,P2⟩:=x
 have hu:=hr.units
 replace hp:zdB P0 P1 P2:=hp
 unfold zdB at hp
 refine ⟨_,(zac (zco (PW.pt (zkr (zaF zkj (pv 2) zah (zaM _)) (zig (zaF zgq (zaw zcI (zaw zb7 (pv 0) zah) zah) zah (zaM _))))) (zac (zaJ (zaw zfi (zaO yab ↥1 rfl zaK ↑[pv 0,pv 1,zah]) zah)) zae) zae) (zac (zaJ (zaw zfi (zaO yab ↥1 rfl zaK ↑[pv 0,pv 1,zaw zcD (zaw zbA zah (pv 2)) zah]) (pv 2))) zae)),.inl ?_⟩
 show L2.Run _ ([⇑[dI P0],⇑[dI P1],⇑[dI P2]]:L2.Ctx) _ (↑25 (zaI P0 P1 P2))
 unfold zaI
 exact (zaS (b:=((decide ((29:Int)<P2)) && (decide (((P0/↑36)%(2:Int))=(1:Int))))) ↑25 (zh8 (b:=(decide ((29:Int)<P2))) (zav (zaQ (x:=P2) (y:=(29:Int)) ↑39 zaG)) (λhb=>(zav (zeZ (x:=((P0/↑36)%(2:Int))) (y:=(1:Int)) (zaH (x:=(P0/↑36)) (y:=(2:Int)) (zaH (x:=P0) (y:=↑36) ↑9 zaG ↥(⇑5)) zaG ⇑1) zaG)))) (λh376=>(zax (zaj (zaC (zaQ (x:=(zaf P0 P1 (60:Int))) (y:=(30:Int)) (Ev.any (m:=true) (zau (x:=(P0,P1,(60:Int))) (zab ↑9 (zab ⇑6 ↑27)) rfl (by show zaY P0 P1 (60:Int);exact ⟨hp.1,hp.2.1,by decide⟩) rfl)) zaG))))) (λh376=>(zar (zaj (zaC (zaQ (x:=(zaf P0 P1 (((2:Int)*P2)+(1:Int)))) (y:=P2) (Ev.any (m:=true) (zau (x:=(P0,P1,(((2:Int)*P2)+(1:Int)))) (zab ↑9 (zab ⇑6 (zab (zaQ (x:=((2:Int)*P2)) (y:=(1:Int)) (zaH (x:=(2:Int)) (y:=P2) zaG ↑39 ↥(.inl ⇑5)) zaG) zag))) rfl (by show zaY P0 P1 (((2:Int)*P2)+(1:Int));exact ⟨hp.1,hp.2.1,by omega⟩) rfl)) ↑39))))))
theorem zlR {c k z:Int} (hz:0≤z):-(z+30)≤zaI c k z∧zaI c k z≤z+30∧(z≤29->-z≤zaI c k z∧zaI c k z≤z):=by
 unfold zaI
 have t1:=zev (c:=c) (k:=k) (m:=60) ⇑1
 have t2:=zev (c:=c) (k:=k) (m:=(2:Int)*z+(1:Int)) ↑0
 cases q:((decide ((29:Int)<z))&&(decide (((c/↑36)%(2:Int))=(1:Int)))) with
 | false=>rw [cond_false];omega
 | true =>
  have:(29:Int)<z:=by
   have:=(Bool.and_eq_true_iff.mp q).1
   exact of_decide_eq_true this
  rw [cond_true];omega
theorem zr5 {w:Int} {r:Ji} {g:Int->Int} (hp:1≤w∧w≤8) (hF:r=List.map g ↑107):r.length+([(0:Int)]).length≤PySem.sizeLine:=by
 rw [hF,List.length_map,zaT,List.length_singleton];exact zan ↑0
def zaR (P0:Int) (P1:Int):Ji :=
 (Let (List.map (λ(x377:Int)=>(zaI P0 x377 ↑67)) (zbo 0 P1.toNat)) (λ(v380:Ji)=>(bif (decide ((P0%(8:Int))=(1:Int))) then (cutD v380 (some (1:Int)) none) else (bif (decide ((P0%(8:Int))=(2:Int))) then (v380++[(0:Int)]) else v380))))
def zeb (P0:Int) (P1:Int):Prop:=1≤P1∧P1≤8
def zfA (K:W.Frag) (A:Adr):Sp:=Spv (ι:=Int×Int) (λx=>[dI x.1,dI x.2]) (λx=>zeb x.1 x.2) (λx=>↥[dL (List.map dI (zaR x.1 x.2))])
theorem zgW:FnScope ["_law_cell_here","_law_wide","_law_found"] ["_law_cell_here","_law_wide"] (zad zcX):=↥4
theorem zjk (F:Fun K "_law_basket" "_law_basket" zcX f fd) (T:Txt K mg A) (yaq:Callee P w K mg base ↑1 2 "_law_count" ["_law_cell_here","_law_k","_law_size"] (ze9 K A)):FnOk P w K mg base ↑1 3 f fd ["_law_cell_here","_law_wide"] (zfA K A):=by
 refine F.okV zgW ↑4 ↥7
 obtain ⟨P0,P1⟩:=x
 have hu:=hr.units
 replace hp:zeb P0 P1:=hp
 unfold zeb at hp
 refine ⟨_,(zac (zfe (i:=2) rfl zgW.nd rfl rfl (.of (osc:=(zad zcX)) (N:=["_law_cell_here","_law_wide","_law_found"]) (own:=["_law_k"]) (fvn:=["_law_cell_here"]) (fv:=[0]) rfl rfl ↑5) (zb9 rfl T.range ↑[pv 1]) (λ_ _ _ _ _=>⟨(zak (i:=0) (show (["_law_k","_law_cell_here"]:List Str).Nodup by decide +kernel) rfl ⇑0 ↥3),za5,(zaO yaq ↥1 rfl zaK ↑[pv 1,pv 0,zaw zpC zah zah])⟩)) (zac (zco (zaF zgq (zaw zcI (pv 0) zah) zah (zaM _)) (zac (zaJ (zdI ↑82 (pv 2) (zdS zah) zfC)) zae) zae) (zac (zco (zaF zgq (zaw zcI (pv 0) zah) zah (zaM _)) (zac (zaJ (zaw zdE (pv 2) ↑85)) zae) zae) (zac (zaJ (pv 2)) zae)))),.inl ?_⟩
 show L2.Run _ ([⇑[dI P0],⇑[dI P1],.no]:L2.Ctx) _ (↑23 (zaR P0 P1))
 unfold zaR
 exact (zam (m:=true) (x:=(List.map (λ(x377:Int)=>(zaI P0 x377 ↑67)) (zbo 0 P1.toNat))) lI ↑23 (EvO.ev (EvO.conv (zbW (g:=(λ(x377:Int)=>dI (zaI P0 x377 ↑67))) (zdG (m:=true) (n:=P1) ⇑6 ↑133) ↥(zan ↑95) ⇑5 (λi378 x377 hx379=>have v379:=zbi hx379;(Ev.any (m:=true) (zau (x:=(P0,x377,↑67)) (zab ⇑6 (zab ↑91 (zab (zaH (x:=(10:Int)) (y:=(9:Int)) zaG zaG ↥(⟨by decide,by decide,by decide⟩)) zag))) rfl (by show zdB P0 x377 ↑67;refine ⟨by omega,by omega,by decide,by decide⟩) rfl)))) ↑10)) (λv380 hv380=>have hF:=hv380;(zaS (b:=(decide ((P0%(8:Int))=(1:Int)))) ↑23 (zav (zeZ (x:=(P0%(8:Int))) (y:=(1:Int)) (zaH (x:=P0) (y:=(8:Int)) ↑9 zaG ⇑1) zaG)) (λh381=>(zax (zaj (zaC (EvO.ev (EvO.anyI (m:=true) (zeN (f:=dI) (xs:=v380) ↑58 (zc1 zaG) zex))))))) (λh381=>(zar (zaS (b:=(decide ((P0%(8:Int))=(2:Int)))) ↑23 (zav (zeZ (x:=(P0%(8:Int))) (y:=(2:Int)) (zaH (x:=P0) (y:=(8:Int)) ↑9 zaG ⇑1) zaG)) (λh382=>(zax (zaj (zaC (EvO.ev (EvO.anyI (m:=true) (zcs (f:=dI) (xs:=v380) (ys:=[(0:Int)]) ↑19 ↑75 ↥(zr5 hp hF)))))))) (λh382=>(zar (zaj (zaC ↑19))))))))))
theorem zph {w c:Int} (hp:1≤w∧w≤8):(zaR c w).length≤9∧Lat.Bit 31 (zaR c w):=by
 unfold zaR
 refine zgU (P:=λz=>List.length z≤9∧Lat.Bit 31 z) λr hr=>?_
 have k:r.length≤8∧Lat.Bit 31 r:=by
  rw [hr]
  refine ⟨by rw [List.length_map,zaT];omega,λy hy=> ?_⟩
  obtain ⟨x,_,rfl⟩:=List.mem_map.mp hy
  have:=zlR (c:=c) (k:=x) (z:=10^(9:Int).toNat) ⇑1
  have e:(10:Int)^(9:Int).toNat=1000000000:=by decide +kernel
  rw [e] at this ⊢
  show _≤2147483648
  omega
 cases decide ((c%(8:Int))=(1:Int))
 ·cases decide ((c%(8:Int))=(2:Int))
  ·exact ⟨by show r.length≤9;omega,k.2⟩
  ·refine ⟨by show (r++[(0:Int)]).length≤9;simp;omega,λy hy=>?_⟩
   have hy:y∈r++[(0:Int)]:=hy
   rcases List.mem_append.mp hy with q | q
   ·exact k.2 y q
   ·rw [List.mem_singleton.mp q];exact Nat.zero_le _
 ·refine ⟨Nat.le_trans (m:=r.length) (by show (cutD r _ _).length≤_;unfold cutD;rw [List.length_take,List.length_drop];omega) ↑0,λy hy=>k.2 y (Lat.zrc hy)⟩
section
variable {S:SenderD} {f s:Sd4} {bs:Jq} {c x m:Int} {r t l:Ji} {i:Nat} {p:Option Ji×Option Xn}
theorem zrJ (h:G71 S f s bs):1≤↑14∧↑14≤8:=by
 obtain ⟨W1,W2,im,a,b,hW,hF,hS,hI,hB,ha,hb,e⟩:=h
 have:=hF.bl;have:=hF.w1;have:=hF.w8;omega
theorem zrZ (h:G71 S f s bs) (hr:Lat.Bit 98 r):SeX S r:=by
 obtain ⟨W1,W2,im,a,b,hW,hF,hS,hI,hB,ha,hb,e⟩:=h
 subst e
 exact ⟨W2,hb,hS.w8,λt ht=>(hB.r t ht).1,λp hp y hy=>Lat.zdK.of ((hB.r _ (↑205).1).2 y hy) (hr _ (↑205).2) ⇑1 ⇑1⟩
theorem zu9 (h:G71 S f s bs) (hB:r=zaR c ↑14):SeX S r:=zrZ h (by rw [hB];exact (zph (zrJ h)).2.mono ⇑1)
theorem ztI (h:G71 S f s bs):S.first.many=↑14:=by
 obtain ⟨W1,W2,im,a,b,hW,hF,hS,hI,hB,ha,hb,e⟩:=h
 subst e;rw [hF.bl];exact ha
theorem zva {a b:Int} (h:(!decide (a=b))=false):a=b:=by simpa using h
theorem znx (h:G71 S f s bs) (hB:r=zaR c ↑14) (q:↑162=false):SeP S r:=⟨by rw [ztI h];exact zva q,zu9 h hB⟩
theorem zsz (h:G71 S f s bs):f.d.length≤5∧∀ t∈f.d,t.length=f.c.length∧Lat.Bit 90 t:=by
 obtain ⟨W1,W2,im,a,b,hW,hF,hS,hI,hB,ha,hb,e⟩:=h
 exact ⟨by have:=hF.ln;omega,λt ht=>⟨by rw [hF.bl];exact (hF.sr t ht).1,(hF.sr t ht).2⟩⟩
theorem zrG (h:G71 S f s bs) (I:r.length=f.c.length∧Lat.Bit (93+(↑191).length) r):SeP S r:=by
 have:=(zsz h).1
 exact ⟨by rw [ztI h,I.1],zrZ h (I.2.mono ↑95)⟩
theorem zpX (h:G71 S f s bs) {r:Ji} (hr:(r.length:Int)=S.first.many):(m_Sender_sent S r).length≤8:=by
 obtain ⟨W1,W2,im,a,b,hW,hF,hS,hI,hB,ha,hb,e⟩:=h
 subst e
 have:=(zhH (a:=a) hF hB hb (x:=r) (by have:(r.length:Int)=a.many:=hr;omega)).1
 have:=hS.w8;omega
theorem zri (h:G71 S f s bs) (e:p=zby S r):(gS p.1).length≤8:=by
 rw [e,zhI,zmU]
 by_cases q:(r.length:Int)=S.first.many
 ·rw [if_pos q];exact zpX h q
 ·rw [if_neg q];exact Nat.zero_le _
theorem zre (h:G71 S f s bs) (hB:r=zaR c ↑14) (q:↑162=false) (e:t=m_Sender_sent S r):t.length≤1000:=by
 rw [e];exact Nat.le_trans (zpX h (znx h hB q).1) ⇑1
theorem zsN (h:G71 S f s bs) (hB:r=zaR c ↑14) (hw:x=↑140):SmP bs r x:=by
 have k:=(zph (c:=c) (zrJ h)).2
 rw [← hB] at k
 obtain ⟨W1,W2,im,a,b,hW,hF,hS,hI,hB,ha,hb,e⟩:=h
 exact ⟨W2,by rw [hw,hS.bl],hS.w8,λt ht=>⟨(hB.r t ht).1,((hB.r t ht).2).mono ⇑1⟩,k.mono ⇑1⟩
theorem zr1 (h:G71 S f s bs):-(2^62)≤((f.d.length:Nat):Int)∧((f.d.length:Nat):Int)<2^62:=by have:=(zsz h).1;omega
theorem zsd (e:m=zaI c x (4:Int)):-4≤m∧m≤4:=by
 have:=zlR (c:=c) (k:=x) (z:=4) ⇑1
 rw [e];exact this.2.2 ⇑1
theorem zub (h:G71 S f s bs) (q:i<(((f.d.length:Nat):Int)).toNat∧x=0+(i:Int)):0≤(12:Int)+x∧(12:Int)+x≤1000∧(0:Int)≤4∧(4:Int)≤1000000000:=by
 have:=(zsz h).1;omega
theorem ztM (h:G71 S f s bs) (hr:r.length=f.c.length):(List.zip r t).length≤PySem.sizeLine:=zan (by rw [List.length_zip];have:=zrJ h;omega)
theorem ztZ (h:G71 S f s bs) (q:i<(((f.d.length:Nat):Int)).toNat∧x=0+(i:Int)) (I:r.length=f.c.length∧Lat.Bit (93+i) r):((Let (zaI c ((12:Int)+x) (4:Int)) (λ(m:Int)=>Let (List.map (λ(z:Int×Int)=>(z.1+(m*z.2))) (List.zip r (ixD f.d x))) (λ(y:Ji)=>y)))).length=f.c.length∧Lat.Bit (93+(i+1)) (Let (zaI c ((12:Int)+x) (4:Int)) (λ(m:Int)=>Let (List.map (λ(z:Int×Int)=>(z.1+(m*z.2))) (List.zip r (ixD f.d x))) (λ(y:Ji)=>y))):=by
 obtain ⟨k1,k2⟩:=(zsz h).2 _ (zce (ziw q))
 unfold Let
 have hc:=zsd (c:=c) (x:=(12:Int)+x) rfl
 generalize zaI c ((12:Int)+x) (4:Int)=m at *
 refine ⟨by rw [List.length_map,List.length_zip,k1];omega,Lat.Bit.of λj=>?_⟩
 rw [Lat.zfc ↑0]
 have a1:=I.2.vec j
 have a2:=Lat.zi6 (x:=m) (a:=2) (show m.natAbs≤4 by omega) (k2.vec j)
 have a3:2^(2+90)≤2^(93+i):=Nat.pow_le_pow_right ⇑1 ↑0
 have a4:2^(93+(i+1))=2^(93+i)*2:=by rw [← Nat.add_assoc,Nat.pow_succ]
 rw [a4]
 omega
theorem zvK (h:G71 S f s bs) (hB:r=zaR c ↑14) (q:↑162=false):r.length=f.c.length∧Lat.Bit (93+0) r:=⟨by have:=zva q;omega,by rw [hB];exact (zph (zrJ h)).2.mono ⇑1⟩
theorem zse (h:G71 S f s bs) {n:Nat} (hr:(r.length:Int)=S.first.many) (hb:Lat.Bit n r):Lat.Bit (3+(n+98)) (m_Sender_sent S r):=by
 obtain ⟨W1,W2,im,a,b,hW,hF,hS,hI,hB,ha,hbm,e⟩:=h
 subst e
 exact zlu hF hB hbm (by have:(r.length:Int)=a.many:=hr;omega) hb
theorem zug (h:G71 S f s bs) (hB:r=zaR c ↑14) (q:↑162=false) (hF:t=m_Sender_sent S r) (I:l.length=f.c.length∧Lat.Bit (93+(↑191).length) l) {o:Ji} (hO:o=m_Sender_sent S l):ShP s.b (List.map (λ(z:Int×Int)=>(z.1-z.2)) (List.zip t o)):=by
 have k1:=zse h (znx h hB q).1 (n:=31) (by rw [hB];exact (zph (zrJ h)).2)
 have k2:=zse h (zrG h I).1 I.2
 have hl:=(zsz h).1
 rw [← hF] at k1;rw [← hO] at k2
 obtain ⟨W1,W2,im,a,b,hW,hF,hS,hI,hB,ha,hbm,e⟩:=h
 refine ⟨by rw [hS.du.l2];have:=hS.w8;omega,λd hd=>(hS.rb d hd).mono ⇑1,λy hy=>?_⟩
 obtain ⟨z,hz,rfl⟩:=List.mem_map.mp hy
 have z1:=k1 _ (List.of_mem_zip hz).1
 have z2:=k2 _ (List.of_mem_zip hz).2
 have e1:2^(3+(31+98))≤2^299:=Nat.pow_le_pow_right ⇑1 ⇑1
 have e2:2^(3+(93+(↑191).length+98))≤2^299:=Nat.pow_le_pow_right ⇑1 ↑95
 have e3:(2:Nat)^300=2^299*2:=by rw [← Nat.pow_succ]
 rw [e3]
 omega
theorem zuM (h:G71 S f s bs) (hB:r=zaR c ↑14) (q:↑162=false) (hF:t=m_Sender_sent S r) {o:Ji}:(List.zip t o).length≤PySem.sizeLine:=zan (by rw [List.length_zip];have:=zre h hB q hF;omega)
end
def m_law_good (P0:SenderD) (P1:⇑9) (P2:⇑9) (P3:Jq) (P4:Int):Bool :=
 (Let ((P2.c.length:Nat):Int) (λ(v383:Int)=>(Let (zaR P4 ↑53) (λ(v384:Ji)=>(Let (zby P0 v384) (λ(p385:((Option Ji)×(Option Xn)))=>(bif (!decide (v384=v384)) then false else (bif (!decide (((v384.length:Nat):Int)=↑53)) then (zdp p385.2 ("BadBasket" :Str)) else (bif (p385.2.isSome||(!(zbq (gS p385.1) ↑150))) then false else (Let (m_Sender_sent P0 v384) (λ(v389:Ji)=>(bif (!(zbq v389 ↑150)) then false else (Let (List.foldl (λ(s391:Ji) (x392:Int)=>(Let (zaI P4 ((12:Int)+x392) (4:Int)) (λ(v396:Int)=>(Let (List.map (λ(x397:↥6)=>(x397.1+(v396*x397.2))) (List.zip s391 (ixD P1.d x392))) (λ(hv400:Ji)=>hv400))))) v384 (zbo 0 ((P1.d.length:Nat):Int).toNat)) (λ(r401:Ji)=>(Let (m_Sender_sent P0 r401) (λ(v402:Ji)=>(zb3 P2.b P2.c (List.map (λ(x403:↥6)=>(x403.1-x403.2)) (List.zip v389 v402)))))))))))))))))))
def zfa (P0:SenderD) (P1:⇑9) (P2:⇑9) (P3:Jq) (P4:Int):Prop:=G71 P0 P1 P2 P3
def zgr (K:W.Frag) (A:Adr):Sp:=Spv (ι:=SenderD×⇑9×⇑9×Jq×Int) (λx=>[zbX A A.Sender x.1,dT [dL (List.map lI x.2.1.a),dL (List.map lI x.2.1.b),dL (List.map dI x.2.1.c),dL (List.map lI x.2.1.d)],dT [dL (List.map lI x.2.2.1.a),dL (List.map lI x.2.2.1.b),dL (List.map dI x.2.2.1.c),dL (List.map lI x.2.2.1.d)],dL (List.map lI x.2.2.2.1),dI x.2.2.2.2]) (λx=>zfa x.1 x.2.1 x.2.2.1 x.2.2.2.1 x.2.2.2.2) (λx=>↥[dB (m_law_good x.1 x.2.1 x.2.2.1 x.2.2.2.1 x.2.2.2.2)])
theorem zbN:FnScope ["_law_sender","_law_first","_law_second","_law_baskets","_law_cell_here","_law_wide","_law_basket_here","_law_handed","_law_found","_law_caught","_law_k","_law_many","_law_other"] ["_law_sender","_law_first","_law_second","_law_baskets","_law_cell_here"] (zad zdu):=↥4
theorem zkB (F:Fun K "_law_good" "_law_good" zdu f fd) (T:Txt K mg A) (yah:CalleeM P w K mg base ↑1 3 A.Sender "sent" ["self","basket"] (zd7 K A)) (ybI:Callee P w K mg base ↑1 4 "_law_asked" ["_law_sender","_law_basket_here"] (zfW K A)) (ybi:Callee P w K mg base ↑1 3 "_law_basket" ["_law_cell_here","_law_wide"] (zfA K A)) (yaq:Callee P w K mg base ↑1 2 "_law_count" ["_law_cell_here","_law_k","_law_size"] (ze9 K A)) (yaY:Callee P w K mg base ↑1 2 "_law_nothing" ["_law_duals","_law_bottoms_here","_law_basket_here"] (zfd K A)) (ybX:Callee P w K mg base ↑1 2 "_law_only" ["_law_caught","_law_name"] (zgs K A)) (yan:Callee P w K mg base ↑1 2 "_law_same" ["_law_found","_law_due"] (zfH K A)) (ya6:Callee P w K mg base ↑1 1 "_law_sums" ["_law_baskets","_law_basket_here","_law_wide"] (zgF K A)):FnOk P w K mg base ↑1 5 f fd ["_law_sender","_law_first","_law_second","_law_baskets","_law_cell_here"] (zgr K A):=by
 refine F.okV zbN ↑4 ↥7
 obtain ⟨P0,P1,P2,P3,P4⟩:=x
 have hu:=hr.units
 replace hp:zfa P0 P1 P2 P3 P4:=hp
 unfold zfa at hp
 refine ⟨_,(zac (zao (i:=5) zbN.nd rfl ⇑0 (zal ↑42 rfl T.len PySem.boot_len ↑[↑138])) (zac (zao (i:=6) zbN.nd rfl ⇑0 (zaO ybi ↥1 rfl zaK ↑[pv 4,↑152])) (zac (zao (i:=7) zbN.nd rfl ⇑0 (zcB (zcc (K:=K) rfl) rfl T.list PyProof.Rows.boot_list ↑[pv 6])) (zac (zhv (zaO ybI ↥1 rfl zaK ↑[pv 0,pv 7]) (zba (K:=K) (n:=2) rfl rfl (zay (zak (i:=8) zbN.nd rfl ⇑0 ⇑0) (zay (zak (i:=9) zbN.nd rfl ⇑0 ⇑0) zbE)))) (zac (zco (zaF (zjp (K:=K) rfl hu) (pv 7) (pv 6) (zaM _)) ↑80 zae) (zac (zco (zaF zfD (zal ↑42 rfl T.len PySem.boot_len ↑[pv 6]) ↑152 (zaM _)) (zac (zaJ (zaO ybX ↥1 rfl zaK ↑[pv 9,zc9])) zae) zae) (zac (zco (PW.pt (zkV (zaF zmW (pv 9) zj4 (zaM _)) (zhV (zjQ (zj0 (zaO yan ↥1 rfl zaK ↑[pv 8,zaO ya6 ↥1 rfl zaK ↑[pv 3,pv 6,pv 5]])))))) ↑80 zae) (zac (zcR (zbO (K:=K) rfl (pv 8) ↑[zah])) (zac (zao (i:=8) zbN.nd rfl ⇑0 (zmA (pv 0) T.Sender_cl yah ↥1 zaK ↑[pv 7])) (zac (zco (zjQ (zj0 (zaO yan ↥1 rfl zaK ↑[pv 8,zaO ya6 ↥1 rfl zaK ↑[pv 3,pv 6,pv 5]]))) ↑80 zae) (zac (zch PassesOwn.never rfl (zb9 rfl T.range ↑[↑152]) (zak (i:=10) zbN.nd rfl ⇑0 ⇑0) (zac (zao (i:=11) zbN.nd rfl ↥3 (zaO yaq ↥1 rfl zaK ↑[pv 4,zaw zcD zah (pv 10),zah])) (zac (zfe (i:=7) rfl zbN.nd rfl rfl (.of (osc:=(zad zdu)) (N:=["_law_sender","_law_first","_law_second","_law_baskets","_law_cell_here","_law_wide","_law_basket_here","_law_handed","_law_found","_law_caught","_law_k","_law_many","_law_other"]) (own:=↑96) (fvn:=["_law_many"]) (fv:=[11]) rfl rfl ↑5) (zb8 (K:=K) rfl rfl T.zip ↑[pv 7,(za1 ↑7 ↑197 (pv 10) ⇑3)]) ↑208) zae))) (zac (zao (i:=12) zbN.nd rfl ⇑0 (zmA (pv 0) T.Sender_cl yah ↥1 zaK ↑[pv 7])) (zac (zaJ (zaO yaY ↥1 rfl zaK ↑[↑138,↑138,(zbZ rfl (.of (osc:=(zad zdu)) (N:=["_law_sender","_law_first","_law_second","_law_baskets","_law_cell_here","_law_wide","_law_basket_here","_law_handed","_law_found","_law_caught","_law_k","_law_many","_law_other"]) (own:=↑96) (fvn:=[]) (fv:=[]) rfl rfl ↑5) (zb8 (K:=K) rfl rfl T.zip ↑[pv 8,pv 12]) (λ_ _ _ _ _=>⟨(zba (K:=K) (n:=2) rfl rfl (zay (zak (i:=0) (show (↑96:List Str).Nodup by decide+kernel) rfl ⇑0 ↥3) (zay (zak (i:=1) (show (↑96:List Str).Nodup by decide+kernel) rfl ⇑0 ↥3) zbE))),za5,(zaw zfi (pv 0) (pv 1))⟩))])) zae))))))))))))),.inl ?_⟩
 show L2.Run _ ([⇑[zbX A A.Sender P0],⇑[dT [dL ↑146,dL ↑147,dL ↑145,dL ↑148]],⇑[dT [dL (List.map lI P2.a),dL (List.map lI P2.b),dL (List.map dI P2.c),dL (List.map lI P2.d)]],⇑[dL (List.map lI P3)],⇑[dI P4],.no,.no,.no,.no,.no,.no,.no,.no]:L2.Ctx) _ (↥8 (m_law_good P0 P1 P2 P3 P4))
 unfold m_law_good
 exact (zam (m:=true) (x:=((P2.c.length:Nat):Int)) dI ↥8 (zaZ (f:=dI) (xs:=P2.c) ↑130) (λv383 hv383=>have hW:=hv383;(zam (m:=true) (x:=(zaR P4 ↑53)) lI ↥8 (zau (x:=(P4,↑53)) (zab ↑62 (zab (zaZ (f:=dI) (xs:=P1.c) ↑65) zag)) rfl (by show zeb P4 ↑53;exact zrJ hp) rfl) (λv384 hv384=>have hB:=hv384;(zcg (m:=true) (EvO.ev (EvO.anyI (m:=true) (zfg (Ev.weak (K:=K) ↑72)))) (zj7 (x:=(zby P0 v384)) (λ(p:((Option Ji)×(Option Xn)))=>dOpt lI p.1) (λ(p:((Option Ji)×(Option Xn)))=>dOpt ↑121 p.2) ↥8 (zjR (zau (x:=(P0,v384)) (zab ↑2 (zab ↑115 zag)) rfl (by show zez P0 v384;exact zu9 hp hB) rfl)) (λp385 hp385=>have hP:=hp385;(zaS (b:=(!decide (v384=v384))) ↥8 (zav (ziO (n:=0) (neg:=true) (xs:=v384) (ys:=v384) EqD.int (Ev.old ↑115) ↑185)) (λh386=>↑92) (λh386=>(zar (zaS (b:=(!decide (((v384.length:Nat):Int)=↑53))) ↥8 (zav (zdH (x:=((v384.length:Nat):Int)) (y:=↑53) (zaZ (f:=dI) (xs:=v384) ↑185) (zaZ (f:=dI) (xs:=P1.c) ↑65))) (λh387=>(zax (zhc rfl (zaj (zaC (Ev.any (m:=true) (zau (x:=(p385.2,("BadBasket" :Str))) (zab (Ev.old ↑126) ↑27) rfl (by show ze4 p385.2 ("BadBasket" :Str);exact trivial) rfl))))))) (λh387=>(zar (zaS (b:=(p385.2.isSome||(!(zbq (gS p385.1) ↑150)))) ↥8 (EvT.borrow rfl (zhS (b:=p385.2.isSome) (zav (zht (x:=p385.2) (f:=↑121) (Ev.old ↑126) zaG NN.exc)) (λhb=>(zh0 (zh6 (Ev.any (m:=true) (zau (x:=((gS p385.1),↑150)) (zab (Ev.old (ev_some (f:=lI) (x:=p385.1) (zaa (i:=8) rfl) (by first|exact zf7 hP ↥0|exact zf7 hP (zu3 ↥0)))) (zab (Ev.old (Ev.weak (K:=K) (zau (x:=(P3,v384,v383)) (zab ↑18 (zab ↑185 (zab ↑24 zag))) rfl (by show zei P3 v384 v383;exact zsN hp hB hW) rfl))) zag)) rfl (by show zdm (gS p385.1) ↑150;first | exact Nat.le_trans (zri hp hP) ⇑1 | exact zre hp hB ↥0 hF) rfl))))))) (λh388=>↑92) (λh388=>(zar (zmd (m:=true) rfl (zq8 (i:=8) rfl (by first|exact zf7 hP ↥0|exact zf7 hP (zu3 ↥0))) zaG ↥(Nat.lt_of_le_of_lt (zri hp hP) ⇑1) (zi1 (x:=(m_Sender_sent P0 v384)) lI ↥8 (zjR (zkR (x:=(P0,v384)) ↑2 (zab ↑115 zag) rfl (by show zcl P0 v384;first | exact znx hp hB ↥0 | exact zrG hp ↥0) rfl rfl)) (λv389 hv389=>have hF:=hv389;(zaS (b:=(!(zbq v389 ↑150))) ↥8 (EvT.borrow rfl (zh0 (zh6 (Ev.any (m:=true) (zau (x:=(v389,↑150)) (zab (Ev.old (zaa (i:=8) rfl)) (zab (Ev.old (Ev.weak (K:=K) (zau (x:=(P3,v384,v383)) (zab ↑18 (zab ↑185 (zab ↑24 zag))) rfl (by show zei P3 v384 v383;exact zsN hp hB hW) rfl))) zag)) rfl (by show zdm v389 ↑150;first | exact Nat.le_trans (zri hp hP) ⇑1 | exact zre hp hB ↥0 hF) rfl))))) (λh390=>↑92) (λh390=>(zar (zbh (s0:=v384) ↑257 ↥8 (λ(s391:Ji) (x392:Int)=>(Let (zaI P4 ((12:Int)+x392) (4:Int)) (λ(v396:Int)=>(Let (List.map (λ(x397:↥6)=>(x397.1+(v396*x397.2))) (List.zip s391 (ixD P1.d x392))) (λ(hv400:Ji)=>hv400))))) (λ(i:Nat) (s391:Ji)=>s391.length=P1.c.length∧Lat.Bit (93+i) s391) (zdG (m:=true) (n:=((P1.d.length:Nat):Int)) (zaZ (f:=lI) (xs:=P1.d) ↑65) ↥(zr1 hp)) (.eq (.eq (.eq ↑127))) ↥(zvK hp hB ↥0) (λi393 x392 s391 hx394 hI395=>have v394:=zbi hx394;⟨↥(ztZ hp ↥0 ↥0),(zam (m:=true) (x:=(zaI P4 ((12:Int)+x392) (4:Int))) dI (λz=>Oc.nx (↑257 z)) (Ev.any (m:=true) (zau (x:=(P4,((12:Int)+x392),(4:Int))) (zab ↑62 (zab (zaQ (x:=(12:Int)) (y:=x392) zaG ↑190) ↑27)) rfl (by show zdB P4 ((12:Int)+x392) (4:Int);exact zub hp ↥0) rfl)) (λv396 hv396=>have hM:=zsd hv396;(zam (m:=true) (x:=(List.map (λ(x397:↥6)=>(x397.1+(v396*x397.2))) (List.zip s391 (ixD P1.d x392)))) lI (λz=>Oc.nx (↑257 z)) (EvO.ev (EvO.conv (zbW (g:=(λ(x397:↥6)=>dI (x397.1+(v396*x397.2)))) (zen (m:=false) dI dI (xs:=s391) (ys:=(ixD P1.d x392)) (Ev.old ↑115) (Ev.weak (K:=K) (zbP (f:=lI) (xs:=P1.d) ↑65 ↑190 ↥(ziw ↥0)))) ↥(ztM hp (And.left ↥0)) ⇑5 (λi398 x397 hx399=>have v399:=zbL hx399;(zaQ (x:=x397.1) (y:=(v396*x397.2)) ↑9 (zaH (x:=v396) (y:=x397.2) ↑54 ⇑6 ↥(.inl ↑43))))) ↑10)) (λhv400 hhanded400=>(zap (.eq (.eq (.eq (.eq (.eq (.eq (.eq (.eq (.eq (.eq (.no (.no (.eq .nil))))))))))))))))))⟩) (λr401 hr401 hI=>(zam (m:=true) (x:=(m_Sender_sent P0 r401)) lI ↥8 (zkR (x:=(P0,r401)) ↑2 (zab (Ev.old ↑115) zag) rfl (by show zcl P0 r401;first | exact znx hp hB ↥0 | exact zrG hp ↥0) rfl rfl) (λv402 hv402=>have hO:=hv402;(zhc rfl (zaj (zaC (Ev.any (m:=true) (zau (x:=(P2.b,P2.c,(List.map (λ(x403:↥6)=>(x403.1-x403.2)) (List.zip v389 v402)))) (zab ↑130 (zab ↑130 (zab (Ev.weak (K:=K) (EvO.ev (EvO.conv (zbW (g:=(λ(x403:↥6)=>dI (x403.1-x403.2))) (zen (m:=true) dI dI (xs:=v389) (ys:=v402) (Ev.weak (K:=K) (zaa (i:=8) rfl)) (Ev.weak (K:=K) (zaa (i:=12) rfl))) ↥(zuM hp hB ↥0 hF) ⇑5 (λi404 x403 hx405=>have v405:=zbL hx405;(zaQ (x:=x403.1) (y:=x403.2) ↑91 ↑60))) ↑10))) zag))) rfl (by show zdz P2.b P2.c (List.map (λ(x403:↥6)=>(x403.1-x403.2)) (List.zip v389 v402));exact zug hp hB ↥0 hF ↥0 hO) rfl)))))))))))))))))))))))))))))))
theorem ztl:zdp (some Xn.BadBasket) ("BadBasket" :Str)=true:=by
 unfold zdp zcT Let
 decide +kernel
theorem zir (v:Ji):zbq v v=true:=by
 unfold zbq zcd
 simp
theorem zmC {S:SenderD} {f s:Sd4} {bs:Jq} {c:Int} (h:G71 S f s bs):m_law_good S f s bs c=true:=by
 unfold m_law_good
 refine zf3 λw hw=>zf3 λr hB=>zf3 λp hp=>?_
 have e0:(!decide (r=r))=false:=by simp
 rw [e0,cond_false]
 by_cases q:(r.length:Int)=S.first.many
 ·have q1:↑162=false:=by rw [← ztI h];exact zoz q
  have hs1:=znx h hB q1
  have I:∀ m:Nat,(↑191).length=m->True:=λ_ _=>trivial
  obtain ⟨W1,W2,im,a,b,hW,hF,hS,hI,hN,ha,hb,e⟩:=id h
  subst e
  have hx:r.length=W1:=by have:(r.length:Int)=a.many:=q;omega
  have eS:za7 bs r w=m_Sender_sent ⟨a,b,bs⟩ r:=zn9 (by rw [hw,hS.bl]) hb (λt ht=>(hN.r t ht).1) hN.l hx
  rw [q1,cond_false,hp,zhI,zmU,if_pos q,eS]
  show (bif (false||(!(zbq (m_Sender_sent ⟨a,b,bs⟩ r) (m_Sender_sent ⟨a,b,bs⟩ r)))) then false else _)=true
  rw [zir,show (false||!true)=false from rfl,cond_false]
  refine zf3 λt ht=>?_
  rw [ht,zir,show (!true)=false from rfl,cond_false]
  refine zf3 λl hl=>zf3 λo ho=>?_
  have kl:=Lat.zgg (W:=W1) (F:=λ(a:Ji) (x:Int)=>Let (zaI c ((12:Int)+x) (4:Int)) (λ(m:Int)=>Let (List.map (λ(z:Int×Int)=>(z.1+(m*z.2))) (List.zip a (ixD f.d x))) (λ(y:Ji)=>y))) (c:=λx i=>zaI c ((12:Int)+x) (4:Int)*Lat.vec (ixD f.d x) i) ↑191 r hx λa x hx' ha=>by
   obtain ⟨i,hi⟩:=List.getElem?_of_mem hx'
   have hm:=(hF.sr _ (zce (ziw (zbi hi)))).1
   unfold Let
   exact ↑268
  rw [← hl] at kl
  obtain ⟨p1,p2⟩:=zhH (a:=a) hF hN hb hx
  obtain ⟨o1,o2⟩:=zhH (a:=a) hF hN hb kl.1
  rw [ho]
  refine (zrY (f:=(s.a,s.b)) hS.du hS.bl (λb hb=>(hS.b0 b hb).1) ?_).mpr ?_
  ·rw [List.length_map,List.length_zip,p1,o1];omega
  ·have hu:Lat.SpL f.d (λi=>Lat.vec r i+(-1)*Lat.vec l i):=by
    have sp:∀ (xs:Ji),(∀ x∈xs,InB f.d.length x)->Lat.SpL f.d (λi=>Lat.lsum (xs.map λx=>zaI c ((12:Int)+x) (4:Int)*Lat.vec (ixD f.d x) i)):=by
     intro xs
     induction xs with
     | nil=>exact λ_=>Lat.Sp.zero
     | cons x xs ih =>
      intro hxs
      refine (Lat.Sp.add (zaI c ((12:Int)+x) (4:Int)) (ih λy hy=>hxs y ↑198) ⟨_,zce (hxs x List.mem_cons_self),rfl⟩).conv λi=>?_
      show _=_+_
      exact Int.add_comm _ _
    have:=(sp ↑191 λx hx=>by
     obtain ⟨i,hi⟩:=List.getElem?_of_mem hx
     exact ziw (zbi hi)).smul (-1)
    refine this.conv λi=>?_
    rw [kl.2 i]
    omega
   have:=zp7 hF hS hI hu
   refine this.conv λi=>?_
   rw [Lat.zrH]
   show _=Lat.vec (Lat.sub _ _) i
   rw [Lat.zi4 (p1.trans o1.symm),p2 i,o2 i]
   omega
 ·have q1:↑162=true:=by rw [← ztI h];simp [q]
  rw [q1,cond_true,hp,zhI,zmU,if_neg q]
  exact ztl
section
variable {y:T3 Sd4 Sd4 Jq} {one two:BookD} {hd:Jq} {S:SenderD} {x:Int} {i:Nat}
theorem zt4 (h:P71 y):y.a.d.length≤PySem.sizeLine∧y.b.d.length≤PySem.sizeLine∧y.c.length≤PySem.sizeLine:=by
 obtain ⟨W1,W2,im,w1,w2,hF,hS,hI,hN⟩:=h
 have:=hF.ln;have:=hS.ln;have:=hN.l
 exact ⟨zan ↑0,zan ↑0,zan ↑0⟩
theorem zvv (h:P71 y):zdi ((y.a.c.length:Nat):Int) (List.map ↑37 y.a.d):=by
 obtain ⟨W1,W2,im,w1,w2,hF,hS,hI,hN⟩:=h
 have:=hF.ln;have:=hF.w1;have:=hF.w8;have:=hF.bl
 rw [zb6]
 exact ⟨by omega,by omega,by omega,λs hs=>by rw [(hF.sr s hs).1];omega⟩
theorem zvn (h:P71 y):zdi ((y.b.c.length:Nat):Int) (List.map ↑37 y.b.d):=by
 obtain ⟨W1,W2,im,w1,w2,hF,hS,hI,hN⟩:=h
 have:=hS.ln;have:=hS.w1;have:=hS.w8;have:=hS.bl
 rw [zb6]
 exact ⟨by omega,by omega,by omega,λs hs=>by rw [(hS.sr s hs).1];omega⟩
theorem zvD (h:P71 y) (h1:one=zbK ((y.a.c.length:Nat):Int) (List.map ↑37 y.a.d)) (h2:two=zbK ((y.b.c.length:Nat):Int) (List.map ↑37 y.b.d)) (hd':hd=List.map ↑37 y.c):SiP one two hd:=by
 obtain ⟨W1,W2,im,w1,w2,hF,hS,hI,hN⟩:=h
 rw [zb6,zkm,hF.bl] at h1
 rw [zb6,zkm,hS.bl] at h2
 rw [zb6] at hd'
 subst h1 h2 hd'
 refine ⟨⟨by rw [hN.l],λr hr=>by rw [(hN.r r hr).1]⟩,by have:=hN.l;omega,λs hs=>?_⟩
 obtain ⟨s1,s2⟩:=hF.sr s hs
 obtain ⟨p1,p2⟩:=zhH (a:=⟨(W1:Int),y.a.d⟩) (b:=⟨(W2:Int),y.b.d⟩) hF hN rfl s1
 have k1:SeP ⟨⟨(W1:Int),y.a.d⟩,⟨(W2:Int),y.b.d⟩,y.c⟩ s:=⟨by show (s.length:Int)=(W1:Int);rw [s1],W2,rfl,hS.w8,λr hr=>(hN.r r hr).1,λp hp z hz=>Lat.zdK.of (a:=98) (b:=90) ((hN.r _ (↑205).1).2 z hz) (s2 _ (↑205).2) ⇑1 ⇑1⟩
 have k2:Lat.Bit 191 (m_Sender_sent ⟨⟨(W1:Int),y.a.d⟩,⟨(W2:Int),y.b.d⟩,y.c⟩ s):=zlu (n:=90) (xb:=98) hF hN rfl s1 s2
 have k3:SnP ⟨(W2:Int),y.b.d⟩ (m_Sender_sent ⟨⟨(W1:Int),y.a.d⟩,⟨(W2:Int),y.b.d⟩,y.c⟩ s):=by
  refine ⟨W2,6,191,rfl,hS.w1,hS.w8,p1,λr hr=>⟨(hS.sr r hr).1,((hS.sr r hr).2).mono ⇑1⟩,k2,?_,by decide,by decide,?_⟩
  ·show y.b.d.length+1≤6
   have:=hS.ln;omega
  ·rw [show Lat.eB 191 6=1386 from rfl]
   omega
 exact ⟨k1,k3,(hS.sp _).mpr ((zp7 hF hS hI (Lat.Sp.mem ⟨s,hs,rfl⟩)).conv λi=>(p2 i).symm)⟩
theorem l_g (h:P71 y) (h1:one=zbK ((y.a.c.length:Nat):Int) (List.map ↑37 y.a.d)) (h2:two=zbK ((y.b.c.length:Nat):Int) (List.map ↑37 y.b.d)) (hd':hd=List.map ↑37 y.c) (hS:S=m_Sender one two hd):G71 S y.a y.b y.c:=by
 obtain ⟨W1,W2,im,w1,w2,hF,hS',hI,hN⟩:=h
 rw [zb6,zkm,hF.bl] at h1
 rw [zb6,zkm,hS'.bl] at h2
 refine ⟨W1,W2,im,one,two,⟨w1,w2⟩,hF,hS',hI,hN,by rw [h1],by rw [h2],?_⟩
 rw [hS];unfold m_Sender;rw [zb6,hd',zb6]
theorem zvF (h:P71 y) (hd':hd=List.map ↑37 y.c):InB hd.length (0:Int):=by
 obtain ⟨W1,W2,im,w1,w2,hF,hS,hI,hN⟩:=h
 rw [hd',zb6,hN.l];have:=hF.w1;unfold InB;omega
theorem zvA (h:P71 y) (hd':hd=List.map ↑37 y.c):∀ l∈hd,l.length<PySem.sizeLine:=λl hl=>by
 obtain ⟨W1,W2,im,w1,w2,hF,hS,hI,hN⟩:=h
 rw [hd',zb6] at hl
 exact Nat.lt_of_le_of_lt (show l.length≤1000 by rw [(hN.r l hl).1];omega) ⇑1
theorem zvz (h:P71 y) (hd':hd=List.map ↑37 y.c):hd.length<PySem.sizeLine:=by
 obtain ⟨W1,W2,im,w1,w2,hF,hS,hI,hN⟩:=h
 exact Nat.lt_of_le_of_lt (show hd.length≤1000 by rw [hd',zb6,hN.l];omega) ⇑1
theorem l_b (h:P71 y) (g:G71 S y.a y.b y.c):S.baskets=y.c:=by obtain ⟨_,_,_,a,b,_,_,_,_,_,_,_,e⟩:=g;rw [e]
theorem zuo (h:P71 y) (g:G71 S y.a y.b y.c) (q:i<(((y.c.length:Nat):Int)).toNat∧x=0+(i:Int)):InB S.baskets.length x∧InB y.c.length x∧(ixD S.baskets x).length≤1000:=by
 rw [l_b h g]
 have hx:=ziw q
 obtain ⟨W1,W2,im,w1,w2,hF,hS,hI,hN⟩:=h
 exact ⟨hx,hx,by rw [(hN.r _ (zce hx)).1];omega⟩
theorem zvr (h:P71 y):-(2^62)≤((y.c.length:Nat):Int)∧((y.c.length:Nat):Int)<2^62:=by
 obtain ⟨W1,W2,im,w1,w2,hF,hS,hI,hN⟩:=h
 have:=hN.l;omega
theorem zvk (h:P71 y):(zbo 0 (((y.c.length:Nat):Int)).toNat).length≤PySem.sizeLine:=by
 obtain ⟨W1,W2,im,w1,w2,hF,hS,hI,hN⟩:=h
 have:=hN.l;rw [zaT];exact zan ↑0
end
theorem cut_l {xs:Ji} {lo hi:Option Int} (h:xs.length≤63:=by assumption):(cutD xs lo hi).length≤63:=Nat.le_trans (by unfold cutD;rw [List.length_take,List.length_drop];omega) h
def zk8 (P0:Ji):Bool :=
 (Let (m_law_pair P0) (λ(p406:(T3 ⇑9 ⇑9 Jq))=>(Let (zbK ↑139 (List.map (λ(x407:Ji)=>x407) p406.a.d)) (λ(v410:BookD)=>(Let (zbK ↑169 (List.map (λ(x411:Ji)=>x411) p406.b.d)) (λ(v414:BookD)=>(Let (List.map (λ(x415:Ji)=>x415) p406.c) (λ(hv418:Jq)=>(Let (m_Sender v410 v414 hv418) (λ(v419:SenderD)=>(bif (!decide (hv418=p406.c)) then false else (zmn (zcm (λ(s421:Unit) (x422:Int)=>(((bif (!(m_law_good v419 p406.a p406.b p406.c x422)) then (Sum.inr false) else (Sum.inl ()))):(Unit)⊕Bool)) () (↑225++[(0:Int)])) (λ(r427:Unit)=>(bif ((!decide (v419.first.swaps=p406.a.d))||(!decide (v419.second.swaps=p406.b.d))) then false else (bif ((!decide (v419.first.many=↑139))||(!decide (v419.second.many=↑169))) then false else (bif ((!true)||(!decide (((v419.baskets.length:Nat):Int)=↑200))) then false else (((List.map (λ(x431:Int)=>(zbq (ixD v419.baskets x431) (ixD p406.c x431))) (zbo 0 (↑200).toNat))).all id))))) (λb=>b)))))))))))))
def zla (P0:Ji):Prop:=P0.length≤63
def zpR (K:W.Frag) (A:Adr):Sp:=Spv (ι:=Ji) ↑168 (λx=>zla x) (λx=>↥[dB (zk8 x)])
theorem zgG:FnScope ↑213 ["_law_script"] (zad zg2):=↥4
theorem zsZ (F:Fun K "law" "law" zg2 f fd) (T:Txt K mg A) (ybY:Callee P w K mg base ↑1 5 "_law_good" ["_law_sender","_law_first","_law_second","_law_baskets","_law_cell_here"] (zgr K A)) (ybZ:Callee P w K mg base ↑1 4 "_law_pair" ["_law_script"] (zgE K A)) (yan:Callee P w K mg base ↑1 2 "_law_same" ["_law_found","_law_due"] (zfH K A)) (ybv:Callee P w K mg base ↑1 3 "book_of" ["many","swaps"] (zhb K A)) {ydF:Addr} {ydn:FuncData} (ycI:Mk K A.Sender ydF) (yaw:FnOk P w K mg base ↑1 7 ydF ydn ["self","first","second","baskets"] (zeX K A)) (yax:zgl K ydn ["self","first","second","baskets"] []):FnOk P w K mg base ↑1 9 f fd ["_law_script"] (zpR K A):=by
 refine F.okV zgG ↑4 ↑63
 have hu:=hr.units
 replace hp:zla P0:=hp
 unfold zla at hp
 refine ⟨_,(zac (zhv (zaO ybZ ↥1 rfl zaK ↑[pv 0]) (zba (K:=K) (n:=3) rfl rfl (zay (zak (i:=1) zgG.nd rfl ⇑0 ⇑0) (zay (zak (i:=2) zgG.nd rfl ⇑0 ⇑0) (zay (zak (i:=3) zgG.nd rfl ↥3 ⇑0) zbE))))) (zac (zao (i:=4) zgG.nd rfl ⇑0 (zaO ybv ↥1 rfl zaK ↑[↑152,(zbZ rfl (.of (osc:=(zad zg2)) (N:=↑213) (own:=["_law_swap"]) (fvn:=[]) (fv:=[]) rfl rfl ↑5) (za3 (K:=K) rfl ↑197) (λ_ _ _ _ _=>⟨(zak (i:=0) (show (["_law_swap"]:List Str).Nodup by decide+kernel) rfl ⇑0 ↥3),za5,↑154⟩))])) (zac (zao (i:=5) zgG.nd rfl ⇑0 (zaO ybv ↥1 rfl zaK ↑[(zal ↑42 rfl T.len PySem.boot_len ↑[↑138]),(zbZ rfl (.of (osc:=(zad zg2)) (N:=↑213) (own:=["_law_swap"]) (fvn:=[]) (fv:=[]) rfl rfl ↑5) (za3 (K:=K) rfl ↑138) (λ_ _ _ _ _=>⟨(zak (i:=0) (show (["_law_swap"]:List Str).Nodup by decide+kernel) rfl ⇑0 ↥3),za5,↑154⟩))])) (zac (zfe (i:=6) rfl zgG.nd rfl rfl (.of (osc:=(zad zg2)) (N:=↑213) (own:=["_law_basket_here"]) (fvn:=[]) (fv:=[]) rfl rfl ↑5) (za3 (K:=K) rfl (pv 3)) (λ_ _ _ _ _=>⟨(zak (i:=0) (show (["_law_basket_here"]:List Str).Nodup by decide +kernel) rfl ⇑0 ↥3),za5,↑154⟩)) (zac (zao (i:=7) zgG.nd rfl ↥3 (zi0 ycI yaw ↥1 rfl T.Sender yax .nil zaK ↑[pv 4,pv 5,pv 6])) (zac (zco (zaF (zjp (K:=K) rfl hu) (pv 6) (pv 3) (zaM _)) ↑80 zae) (zac (zcR (zbO (K:=K) rfl (za1 ↑7 (pv 6) zah ⇑3) ↑[zah])) (zac (zcR (zbO (K:=K) rfl (pv 6) ↑[zbf zeV])) (zac (zch PassesOwn.never rfl (za3 (K:=K) rfl (zaw zdE (zdI ↑82 (pv 0) (zdS zah) (zdS zah)) ↑85)) (zak (i:=8) zgG.nd rfl ⇑0 ⇑0) (zac (zco (zjQ (zj0 (zaO ybY ↥1 rfl zaK ↑[pv 7,pv 1,pv 2,pv 3,pv 8]))) ↑80 zae) zae)) (zac (zco (PW.pt (zkV (zaF (zjp (K:=K) rfl hu) (zaU (K:=K) rfl ↑199 rfl) ↑197 (zaM _)) (zhV (zaF (zjp (K:=K) rfl hu) (zaU (K:=K) rfl ↑199 rfl) ↑138 (zaM _))))) ↑80 zae) (zac (zco (PW.pt (zkV (zaF zfD (zaU (K:=K) rfl ↑199 rfl) ↑152 (zaM _)) (zhV (zaF zfD (zaU (K:=K) rfl ↑199 rfl) (zal ↑42 rfl T.len PySem.boot_len ↑[↑138]) (zaM _))))) ↑80 zae) (zac (zco (PW.pt (zkV (zjQ (zj0 (zal ↑15 rfl T.isinstance PyProof.Rows.boot_isinstance ↑[↑199,(zin rfl T.list (v:= .ty "list") (u:= .type "list") ↑5 rfl)]))) (zhV (zaF zfD (zal ↑42 rfl T.len PySem.boot_len ↑[↑199]) ↑182 (zaM _))))) ↑80 zae) (zac (zaJ (zal (ziR (K:=K) rfl rfl) rfl T.all PyProof.Rows.boot_all ↑[(zbZ rfl (.of (osc:=(zad zg2)) (N:=↑213) (own:=["_law_k"]) (fvn:=["_law_sender","_law_baskets"]) (fv:=[7,3]) rfl rfl ↑5) (zb9 rfl T.range ↑[↑182]) (λ_ _ _ _ _=>⟨(zak (i:=0) (show (["_law_k","_law_sender","_law_baskets"]:List Str).Nodup by decide +kernel) rfl ⇑0 ↥3),za5,(zaO yan ↥1 rfl zaK ↑[(za1 ↑7 (zaU (K:=K) rfl (pv 1) rfl) (pv 0) ⇑3),(za1 ↑7 (pv 2) (pv 0) ⇑3)])⟩))])) zae))))))))))))),.inl ?_⟩
 show L2.Run _ ([⇑[dQ K ↑8],.no,.no,.no,.no,.no,.no,.no,.no]:L2.Ctx) _ (↥8 (zk8 P0))
 unfold zk8
 exact (zjj (m:=true) (x:=(m_law_pair P0)) (λ(p406:(T3 ⇑9 ⇑9 Jq))=>dT [dL (List.map lI p406.a.a),dL (List.map lI p406.a.b),dL (List.map dI p406.a.c),dL (List.map lI p406.a.d)]) (λ(p406:(T3 ⇑9 ⇑9 Jq))=>dT [dL (List.map lI p406.b.a),dL (List.map lI p406.b.b),dL (List.map dI p406.b.c),dL (List.map lI p406.b.d)]) (λ(p406:(T3 ⇑9 ⇑9 Jq))=>dL (List.map lI p406.c)) ↥8 (zau (x:=P0) (zab ↑2 zag) rfl (by show ze7 P0;exact hp) rfl) (λp406 hp406=>have hP:=zmP hp406;(zam (m:=true) (x:=(zbK ↑139 (List.map (λ(x407:Ji)=>x407) p406.a.d))) (zct A.Book) ↥8 (zau (x:=(↑139,(List.map (λ(x407:Ji)=>x407) p406.a.d))) (zab (zaZ (f:=dI) (xs:=p406.a.c) (Ev.old ↑65)) (zab (Ev.weak (K:=K) (EvO.ev (EvO.conv (zbW (g:=(λ(x407:Ji)=>dL (List.map dI x407))) (zbY (m:=true) lI (xs:=p406.a.d) ↑65) ↥((zt4 hP).1) ⇑5 (λi408 x407 hx409=>have v409:=List.mem_of_getElem? hx409;(EvO.ev (EvO.anyI (m:=true) (zfg ↑90))))) ↑10))) zag)) rfl (by show zdi ↑139 (List.map (λ(x407:Ji)=>x407) p406.a.d);exact zvv hP) rfl) (λv410 hv410=>have h1:=hv410;(zam (m:=true) (x:=(zbK ↑169 (List.map (λ(x411:Ji)=>x411) p406.b.d))) (zct A.Book) ↥8 (zau (x:=(↑169,(List.map (λ(x411:Ji)=>x411) p406.b.d))) (zab (zaZ (f:=dI) (xs:=p406.b.c) (Ev.old ↑130)) (zab (Ev.weak (K:=K) (EvO.ev (EvO.conv (zbW (g:=(λ(x411:Ji)=>dL (List.map dI x411))) (zbY (m:=true) lI (xs:=p406.b.d) ↑130) ↥((zt4 hP).2.1) ⇑5 (λi412 x411 hx413=>have v413:=List.mem_of_getElem? hx413;(EvO.ev (EvO.anyI (m:=true) (zfg ↑90))))) ↑10))) zag)) rfl (by show zdi ↑169 (List.map (λ(x411:Ji)=>x411) p406.b.d);exact zvn hP) rfl) (λv414 hv414=>have h2:=hv414;(zi1 (x:=(List.map (λ(x415:Ji)=>x415) p406.c)) ↑167 ↥8 (zjR (EvO.ev (EvO.conv (zbW (g:=(λ(x415:Ji)=>dL (List.map dI x415))) (zbY (m:=false) lI (xs:=p406.c) ↑18) ↥((zt4 hP).2.2) ⇑5 (λi416 x415 hx417=>have v417:=List.mem_of_getElem? hx417;↑249)) ↑10))) (λhv418 hhanded418=>have hH:=hhanded418;(zam (m:=false) (x:=(m_Sender v410 v414 hv418)) (zbX A A.Sender) ↥8 (zmV (x:=(v410,v414,hv418)) (i1:=4) (i2:=5) (i3:=6) rfl rfl rfl (λ_ _ h=>dLQ h) rfl (by show zcA v410 v414 hv418;exact zvD hP h1 h2 hH)) (λv419 hv419=>have hG:=l_g hP h1 h2 hH hv419;(zaS (b:=(!decide (hv418=p406.c))) ↥8 (EvT.borrow rfl (zav (ziO (n:=1) (neg:=true) (xs:=hv418) (ys:=p406.c) (EqD.list EqD.int) ↑185 (Ev.old ↑18)))) (λh420=>↑92) (λh420=>(zar (zmR (m:=false) (i:=6) (xss:=hv418) (k:=(0:Int)) rfl rfl zaG ↥(zvF hP hH) zaG ↥(zvA hP hH) (zk9 (m:=true) rfl (zln (i:=6) rfl) (EvO.ev ↑119) ↥(zvz hP hH) (zhJ (s0:=()) (λ(s421:Unit)=>([⇑[dQ K ↑8],↥[dT [dL (List.map lI p406.a.a),dL (List.map lI p406.a.b),dL (List.map dI p406.a.c),dL (List.map lI p406.a.d)]],↥[dT [dL (List.map lI p406.b.a),dL (List.map lI p406.b.b),dL (List.map dI p406.b.c),dL (List.map lI p406.b.d)]],↥[dL (List.map lI p406.c)],↥[zct A.Book v410],↥[zct A.Book v414],.no,⇑[zbX A A.Sender v419],.no]:L2.Ctx)) ↥8 (λb=>b) (λ(s421:Unit) (x422:Int)=>(((bif (!(m_law_good v419 p406.a p406.b p406.c x422)) then (Sum.inr false) else (Sum.inl ()))):(Unit)⊕Bool)) (λ_ _=>True) (λb=> .inl ⟨_,_,rfl⟩) (zbY (m:=true) dI (xs:=(↑225++[(0:Int)])) (Ev.weak (K:=K) (EvO.ev (zcs (f:=dI) (xs:=↑225) (ys:=[(0:Int)]) (EvO.ev (EvO.anyI (m:=false) (zeN (f:=dI) (xs:=P0) ↑2 (zc1 zaG) (zc1 zaG)))) ↑75 ↥(zan (by have z:=cut_l (xs:=P0) (lo:=some 3) (hi:=some 63) hp;rw [List.length_singleton];omega)))))) (.eq (.eq ↑28)) trivial (λi423 x422 s421 hx424 hI425=>have v424:=List.mem_of_getElem? hx424;⟨(λ_ _=>trivial),(zaS (b:=(!(m_law_good v419 p406.a p406.b p406.c x422))) (ziW (λ(s421:Unit)=>([⇑[dQ K ↑8],↥[dT [dL (List.map lI p406.a.a),dL (List.map lI p406.a.b),dL (List.map dI p406.a.c),dL (List.map lI p406.a.d)]],↥[dT [dL (List.map lI p406.b.a),dL (List.map lI p406.b.b),dL (List.map dI p406.b.c),dL (List.map lI p406.b.d)]],↥[dL (List.map lI p406.c)],↥[zct A.Book v410],↥[zct A.Book v414],.no,⇑[zbX A A.Sender v419],.no]:L2.Ctx)) ↥8) (zh0 (zh6 (Ev.any (m:=true) (zau (x:=(v419,p406.a,p406.b,p406.c,x422)) (zab ↑55 (zab (Ev.old ↑3) (zab (Ev.old ↑19) (zab (Ev.old ↑29) (zab (Ev.any (m:=true) (zaa (i:=8) rfl)) zag))))) rfl (by show zfa v419 p406.a p406.b p406.c x422;exact hG) rfl)))) (λh426=>↑92) (λh426=>(zar (zap (.eq (.eq (.eq (.eq (.eq (.eq ↑171))))))))))⟩) (λr427 hr427 hI=>(zaS (b:=((!decide (v419.first.swaps=p406.a.d))||(!decide (v419.second.swaps=p406.b.d)))) ↥8 (zhS (b:=(!decide (v419.first.swaps=p406.a.d))) (zav (ziO (n:=1) (neg:=true) (xs:=v419.first.swaps) (ys:=p406.a.d) (EqD.list EqD.int) (Ev.weak (K:=K) (zbU (zbU ↑55 T.Sender_cl T.Sender_first rfl) T.Book_cl T.Book_swaps rfl)) (Ev.old ↑65))) (λhb=>(zav (ziO (n:=1) (neg:=true) (xs:=v419.second.swaps) (ys:=p406.b.d) (EqD.list EqD.int) (Ev.weak (K:=K) (zbU (zbU ↑55 T.Sender_cl T.Sender_second rfl) T.Book_cl T.Book_swaps rfl)) (Ev.old ↑130))))) (λh428=>↑92) (λh428=>(zar (zaS (b:=((!decide (v419.first.many=↑139))||(!decide (v419.second.many=↑169)))) ↥8 (zhS (b:=(!decide (v419.first.many=↑139))) (zav (zdH (x:=v419.first.many) (y:=↑139) (Ev.any (m:=false) (zbU (zbU ↑55 T.Sender_cl T.Sender_first rfl) T.Book_cl T.Book_many rfl)) (zaZ (f:=dI) (xs:=p406.a.c) (Ev.old ↑65)))) (λhb=>(zav (zdH (x:=v419.second.many) (y:=↑169) (Ev.any (m:=false) (zbU (zbU ↑55 T.Sender_cl T.Sender_second rfl) T.Book_cl T.Book_many rfl)) (zaZ (f:=dI) (xs:=p406.b.c) (Ev.old ↑130)))))) (λh429=>↑92) (λh429=>(zar (zaS (b:=((!true)||(!decide (((v419.baskets.length:Nat):Int)=↑200)))) ↥8 (zhS (b:=(!true)) (zh0 (zh6 (zmT (zbU ↑55 T.Sender_cl T.Sender_baskets rfl) T.kit_list_list))) (λhb=>(zav (zdH (x:=((v419.baskets.length:Nat):Int)) (y:=↑200) (zaZ (f:=lI) (xs:=v419.baskets) (Ev.weak (K:=K) (zbU ↑55 T.Sender_cl T.Sender_baskets rfl))) (zaZ (f:=lI) (xs:=p406.c) (Ev.old ↑18)))))) (λh430=>↑92) (λh430=>(zar (zaj (zaC (zpY (xs:=(List.map (λ(x431:Int)=>(zbq (ixD v419.baskets x431) (ixD p406.c x431))) (zbo 0 (↑200).toNat))) (Ev.weak (K:=K) (EvO.ev (EvO.conv (zbW (g:=(λ(x431:Int)=>dB (zbq (ixD v419.baskets x431) (ixD p406.c x431)))) (zdG (m:=true) (n:=↑200) (zaZ (f:=lI) (xs:=p406.c) (Ev.old ↑18)) ↥(zvr hP)) ↥(zvk hP) ⇑5 (λi432 x431 hx433=>have v433:=zbi hx433;(Ev.any (m:=true) (zau (x:=((ixD v419.baskets x431),(ixD p406.c x431))) (zab (zbP (f:=lI) (xs:=v419.baskets) (Ev.weak (K:=K) (zbU ↑3 T.Sender_cl T.Sender_baskets rfl)) ↑91 ↥((zuo hP hG ↥0).1)) (zab (Ev.old (Ev.weak (K:=K) (zbP (f:=lI) (xs:=p406.c) ↑58 ↑91 ↥((zuo hP hG ↥0).2.1)))) zag)) rfl (by show zdm (ixD v419.baskets x431) (ixD p406.c x431);exact (zuo hP hG ↥0).2.2) rfl)))) ↑10))))))))))))))))))))))))))))))))
theorem ziF {γ β:Type} {f:Unit->γ->Unit ⊕ β}:∀ {xs:List γ},(∀ x∈xs,f () x=.inl ())->zcm f () xs=.inl ()
 | [],_=>rfl
 | x :: xs,h=>by
  simp only [zcm,h x List.mem_cons_self]
  exact ziF λy hy=>h y ↑198
theorem zo8 (xs:Ji) (hp:xs.length≤63):zk8 xs=true:=by
 unfold zk8
 refine zf3 λy hy=>zf3 λone h1=>zf3 λtwo h2=>zf3 λhd hh=>zf3 λS hS=>?_
 have hP:=zmP hy
 have g:=l_g hP h1 h2 hh hS
 have e0:(!decide (hd=y.c))=false:=by rw [hh,zb6];simp
 rw [e0,cond_false,ziF λx _=>by rw [zmC g];rfl]
 show (bif _ then false else _)=true
 rw [zkm,zb6] at h1 h2
 have e1:S.first=one∧S.second=two:=by rw [hS];exact ⟨rfl,rfl⟩
 have e2:=l_b hP g
 rw [e1.1,e1.2,h1,h2,e2]
 simp
 intro x hx
 exact zir _
def zo3 (K:W.Frag):Sp:=λvs H Q _=>∃ (a:Addr) (ns:Ji),vs=[.ref a]∧SqL K H a ↑47∧ns.length≤63∧∀ H',Q (.bl true) H'
theorem zsn {K:W.Frag} {A:Adr} {vs:List V} {H:Hp} {Q:VK} {E:XK} (h:zo3 K vs H Q E):zpR K A vs H Q E:=by
 obtain ⟨a,ns,rfl,hS,hl,q⟩:=h
 refine ⟨ns,H,Same.refl _,.cons ⟨a,_,rfl,hS,?_⟩ .nil,hl,λv F' H' _ hv=>?_⟩
 ·clear hS hl
  induction ns with
  | nil=>exact .nil
  | cons n ns ih=>exact .cons rfl ih
 ·have hv:v=.bl (zk8 ns):=hv
  rw [hv,zo8 ns hl]
  exact q _
def FA (K:W.Frag) (f:Addr) (sn n:Str) (st:Stmt):Prop:=∃ (oc kV dc pm cd ct:Value) (od an:Option Addr) (sl:Array (Option Value)),K.lookup f=some ⟨oc,od,.func (W.fnOf sn n (zaE st) (zaA st) (zad st) .none kV dc pm an cd ct),sl⟩∧W.codeIn K cd n=true∧W.keepIn K (.ref f)=true
section
variable {K:W.Frag} {ad:Addr} {sn n:Str} {st:Stmt}
theorem FA.gm {oc kV dc pm cd ct:Value} {od an:Option Addr} {sl:Array (Option Value)} (l:K.lookup ad=some ⟨oc,od,.func (W.fnOf sn n (zaE st) (zaA st) (zad st) .none kV dc pm an cd ct),sl⟩) (c:W.codeIn K cd n=true) (k:W.keepIn K (.ref ad)=true):FA K ad sn n st:=⟨_,_,_,_,_,_,_,_,_,l,c,k⟩
theorem FA.gx (q:FA K ad sn n st):∃ fd,Fun K sn n st ad fd:=by
 obtain ⟨_,_,_,_,_,_,_,_,_,l,c,k⟩:=q
 exact ⟨_,za0 (st:=st) l c k⟩
noncomputable def FA.gd (q:FA K ad sn n st):FuncData:=Classical.choose q.gx
theorem FA.gf (q:FA K ad sn n st):Fun K sn n st ad q.gd:=Classical.choose_spec q.gx
theorem FA.gk (q:FA K ad sn n st):W.keepIn K (.ref ad)=true:=by
 obtain ⟨_,_,_,_,_,_,_,_,_,l,c,k⟩:=q
 exact k
end
theorem cm (l:W.OpenLaw) (w:World) (base:Heap) {K:W.Frag} {mg:Str->Option Value} {k:Nat} {x:Str} {f:Addr} {fd:FuncData} {ps:List Str} {sp:Sp} (h:FnOk l.prog w K mg base (CXE l.prog w) k f fd ps sp) (m:mg x=some (.ref f)) (z:W.keepIn K (.ref f)=true) (b:zgl K fd ps []):Callee l.prog w K mg base (CXE l.prog w) k x ps sp:=⟨_,_,h,m,z,b⟩
theorem zr2 {l:W.OpenLaw} {w:World} {K:W.Frag} {h:Heap} {mg:Str->Option Value} {fa f0 f1 f2 f3 f4 f5 f6 f7 f8 f9 f10 f11 f12 f13 f14 f15 f16 f17 f18 f19 f20 f21 f22 f23 f24 f25 f26 f27 f28 f29 f30 f31 f32 f33 f34 f35 f36 f37 f38 f39 f40 f41 f42 f43 f44 f45 f46 f47 yao yag yav yap yaf yaa yaI ya7 ybw ybx ya8 yby ya9 ybz yb0 yb1 yb2 yb3 yba ybA yaU yaJ yar ybb ybB:Addr} (X:K.In h) (G:h.Ns mainGlobals mg) (hfa:mg "law"=some (.ref fa))
  {ybe ybd:Tok}
  (yc1:W.nsIn K mainGlobals "Book"=some (some (.ref yao)))
  (ycJ:W.nsIn K mainGlobals "Scale"=some (some (.ref yag)))
  (yc2:W.nsIn K mainGlobals "Line"=some (some (.ref yav)))
  (yc3:W.nsIn K mainGlobals "Rest"=some (some (.ref yap)))
  (yck:W.nsIn K mainGlobals "Sender"=some (some (.ref yaf)))
  (a0:W.nsIn K mainGlobals "refuse_unlike"=some (some (.ref f0)))
  (q0:FA K f0 "refuse_unlike" "refuse_unlike" zci)
  (a1:W.nsIn K mainGlobals "plus"=some (some (.ref f1)))
  (q1:FA K f1 "plus" "plus" zic)
  (a2:W.nsIn K mainGlobals "less"=some (some (.ref f2)))
  (q2:FA K f2 "less" "less" zhZ)
  (a3:W.nsIn K mainGlobals "times"=some (some (.ref f3)))
  (q3:FA K f3 "times" "times" zgz)
  (a4:W.nsIn K mainGlobals "weighed"=some (some (.ref f4)))
  (q4:FA K f4 "weighed" "weighed" zeQ)
  (a5:W.nsIn K mainGlobals "head_of"=some (some (.ref f5)))
  (q5:FA K f5 "head_of" "head_of" zfp)
  (a6:W.nsIn K mainGlobals "common"=some (some (.ref f6)))
  (q6:FA K f6 "common" "common" zgi)
  (a7:W.nsIn K mainGlobals "upright"=some (some (.ref f7)))
  (q7:FA K f7 "upright" "upright" zfl)
  (a8:W.nsIn K mainGlobals "lowered"=some (some (.ref f8)))
  (q8:FA K f8 "lowered" "lowered" zfj)
  (a9:W.nsIn K mainGlobals "merged"=some (some (.ref f9)))
  (q9:FA K f9 "merged" "merged" zge)
  (a10:W.nsIn K mainGlobals "taken_in"=some (some (.ref f10)))
  (q10:FA K f10 "taken_in" "taken_in" zeF)
  (a11:W.nsIn K mainGlobals "settled"=some (some (.ref f11)))
  (q11:FA K f11 "settled" "settled" zfv)
  (a12:W.nsIn K mainGlobals "climbed"=some (some (.ref f12)))
  (q12:FA K f12 "climbed" "climbed" zfn)
  (a13:W.nsIn K mainGlobals "book_of"=some (some (.ref f13)))
  (q13:FA K f13 "book_of" "book_of" zfr)
  (a14:W.nsIn K mainGlobals "refuse_bad_basket"=some (some (.ref f14)))
  (q14:FA K f14 "refuse_bad_basket" "refuse_bad_basket" za6)
  (a15:W.nsIn K mainGlobals "levelled"=some (some (.ref f15)))
  (q15:FA K f15 "levelled" "levelled" zeE)
  (a16:W.nsIn K mainGlobals "divisor"=some (some (.ref f16)))
  (q16:FA K f16 "divisor" "divisor" zfu)
  (a17:W.nsIn K mainGlobals "shortened"=some (some (.ref f17)))
  (q17:FA K f17 "shortened" "shortened" zde)
  (a18:W.nsIn K mainGlobals "shown"=some (some (.ref f18)))
  (q18:FA K f18 "shown" "shown" zfT)
  (a19:W.nsIn K mainGlobals "refuse_bad_baskets"=some (some (.ref f19)))
  (q19:FA K f19 "refuse_bad_baskets" "refuse_bad_baskets" zbe)
  (a20:W.nsIn K mainGlobals "_law_whole"=some (some (.ref f20)))
  (q20:FA K f20 "_law_whole" "_law_whole" zdX)
  (a21:W.nsIn K mainGlobals "_law_same"=some (some (.ref f21)))
  (q21:FA K f21 "_law_same" "_law_same" zdO)
  (a22:W.nsIn K mainGlobals "_law_flags"=some (some (.ref f22)))
  (q22:FA K f22 "_law_flags" "_law_flags" zdV)
  (a23:W.nsIn K mainGlobals "_law_only"=some (some (.ref f23)))
  (q23:FA K f23 "_law_only" "_law_only" zdR)
  (a24:W.nsIn K mainGlobals "_law_cell"=some (some (.ref f24)))
  (q24:FA K f24 "_law_cell" "_law_cell" zeL)
  (a25:W.nsIn K mainGlobals "_law_raw"=some (some (.ref f25)))
  (q25:FA K f25 "_law_raw" "_law_raw" zfm)
  (a26:W.nsIn K mainGlobals "_law_thing"=some (some (.ref f26)))
  (q26:FA K f26 "_law_thing" "_law_thing" zd0)
  (a27:W.nsIn K mainGlobals "_law_frame"=some (some (.ref f27)))
  (q27:FA K f27 "_law_frame" "_law_frame" zcf)
  (a28:W.nsIn K mainGlobals "_law_bottoms"=some (some (.ref f28)))
  (q28:FA K f28 "_law_bottoms" "_law_bottoms" zcZ)
  (a29:W.nsIn K mainGlobals "_law_stirred"=some (some (.ref f29)))
  (q29:FA K f29 "_law_stirred" "_law_stirred" zbr)
  (a30:W.nsIn K mainGlobals "_law_side"=some (some (.ref f30)))
  (q30:FA K f30 "_law_side" "_law_side" zeH)
  (a31:W.nsIn K mainGlobals "_law_shared"=some (some (.ref f31)))
  (q31:FA K f31 "_law_shared" "_law_shared" zdq)
  (a32:W.nsIn K mainGlobals "_law_images"=some (some (.ref f32)))
  (q32:FA K f32 "_law_images" "_law_images" zcW)
  (a33:W.nsIn K mainGlobals "_law_wares_sent"=some (some (.ref f33)))
  (q33:FA K f33 "_law_wares_sent" "_law_wares_sent" zbz)
  (a34:W.nsIn K mainGlobals "_law_pair"=some (some (.ref f34)))
  (q34:FA K f34 "_law_pair" "_law_pair" zeG)
  (a35:W.nsIn K mainGlobals "_law_sums"=some (some (.ref f35)))
  (q35:FA K f35 "_law_sums" "_law_sums" zdZ)
  (a36:W.nsIn K mainGlobals "_law_shares"=some (some (.ref f36)))
  (q36:FA K f36 "_law_shares" "_law_shares" zdn)
  (a37:W.nsIn K mainGlobals "_law_nothing"=some (some (.ref f37)))
  (q37:FA K f37 "_law_nothing" "_law_nothing" zc4)
  (a38:W.nsIn K mainGlobals "_law_asked"=some (some (.ref f38)))
  (q38:FA K f38 "_law_asked" "_law_asked" zdQ)
  (a39:W.nsIn K mainGlobals "_law_count"=some (some (.ref f39)))
  (q39:FA K f39 "_law_count" "_law_count" zdU)
  (a40:W.nsIn K mainGlobals "_law_basket"=some (some (.ref f40)))
  (q40:FA K f40 "_law_basket" "_law_basket" zcX)
  (a41:W.nsIn K mainGlobals "_law_good"=some (some (.ref f41)))
  (q41:FA K f41 "_law_good" "_law_good" zdu)
  (a42:W.nsIn K mainGlobals "law"=some (some (.ref f42)))
  (q42:FA K f42 "law" "law" zg2)
  (ybc:W.findIn K (.ref yaf) "sent"=some (some (.ref f43)))
  (i43:W.isFn K (.ref f43)=true)
  (q43:FA K f43 "sent" "Sender.sent" zcu)
  (a44:W.findIn K (.ref yao) "__init__"=some (some (.ref f44)))
  (i44:W.isFn K (.ref f44)=true)
  (q44:FA K f44 "__init__" "Book.__init__" zbI)
  (a45:W.findIn K (.ref yag) "__init__"=some (some (.ref f45)))
  (i45:W.isFn K (.ref f45)=true)
  (ycK:W.findIn K (.ref yav) "__init__"=some (some (.ref f45)))
  (bg45:W.specialIn K (.ref yag) "__getattribute__"=some (some (.builtin "type.__getattribute__")))
  (br45:W.readsIn K yag (.type "type")=true)
  (bf45:W.findCls K (.ref yag) (.type "type") "__init__"=some (.val (.ref f45)))
  (q45:FA K f45 "__init__" "Scale.__init__" zdc)
  (a46:W.findIn K (.ref yap) "__init__"=some (some (.ref f46)))
  (i46:W.isFn K (.ref f46)=true)
  (q46:FA K f46 "__init__" "Rest.__init__" zbJ)
  (a47:W.findIn K (.ref yaf) "__init__"=some (some (.ref f47)))
  (i47:W.isFn K (.ref f47)=true)
  (q47:FA K f47 "__init__" "Sender.__init__" zbm)
  (yc4:W.plainGet K yao Str.empty=true)
  (yc5:W.hasDictIn K yao=true)
  (yc6:W.plainOver K yao=true)
  (yc7:W.findIn K (.ref yao) "__setattr__"=some ↑163)
  (yc8:W.makesIn K yao=true)
  (yc9:W.keepIn K (.ref yao)=true)
  (ybJ:W.findIn K (.ref yao) "many"=some none)
  (ybj:W.findIn K (.ref yao) "swaps"=some none)
  (ycL:W.plainGet K yag Str.empty=true)
  (ycM:W.hasDictIn K yag=true)
  (ycN:W.plainOver K yag=true)
  (ycO:W.findIn K (.ref yag) "__setattr__"=some ↑163)
  (ydG:W.makesIn K yag=true)
  (ydH:W.keepIn K (.ref yag)=true)
  (yaK:W.findIn K (.ref yag) "weights"=some none)
  (yda:W.plainGet K yav Str.empty=true)
  (ydb:W.hasDictIn K yav=true)
  (ydc:W.plainOver K yav=true)
  (ydd:W.findIn K (.ref yav) "__setattr__"=some ↑163)
  (yde:W.makesIn K yav=true)
  (ydf:W.keepIn K (.ref yav)=true)
  (yaQ:W.findIn K (.ref yav) "weights"=some none)
  (ydg:W.plainGet K yap Str.empty=true)
  (ydh:W.hasDictIn K yap=true)
  (ydi:W.plainOver K yap=true)
  (ydj:W.findIn K (.ref yap) "__setattr__"=some ↑163)
  (ydk:W.makesIn K yap=true)
  (ydl:W.keepIn K (.ref yap)=true)
  (yaR:W.findIn K (.ref yap) "weights"=some none)
  (ybK:W.findIn K (.ref yap) "rest"=some none)
  (ycl:W.plainGet K yaf Str.empty=true)
  (ycm:W.hasDictIn K yaf=true)
  (ycn:W.plainOver K yaf=true)
  (yco:W.findIn K (.ref yaf) "__setattr__"=some ↑163)
  (ycp:W.makesIn K yaf=true)
  (ycq:W.keepIn K (.ref yaf)=true)
  (yaS:W.findIn K (.ref yaf) "first"=some none)
  (yaL:W.findIn K (.ref yaf) "second"=some none)
  (yaA:W.findIn K (.ref yaf) "baskets"=some none)
  (ybk:W.nsIn K mainGlobals "ValueError"=some none)
  (yd2:W.nsIn K mainGlobals "abs"=some none)
  (yd3:W.nsIn K mainGlobals "all"=some none)
  (ydI:W.nsIn K mainGlobals "bool"=some none)
  (ybL:W.nsIn K mainGlobals "enumerate"=some none)
  (yd4:W.nsIn K mainGlobals "int"=some none)
  (ybl:W.nsIn K mainGlobals "isinstance"=some none)
  (yd5:W.nsIn K mainGlobals "len"=some none)
  (ydJ:W.nsIn K mainGlobals "list"=some none)
  (yd6:W.nsIn K mainGlobals "max"=some none)
  (ydm:W.nsIn K mainGlobals "range"=some none)
  (yb4:W.nsIn K mainGlobals "reversed"=some none)
  (yd7:W.nsIn K mainGlobals "sum"=some none)
  (yd8:W.nsIn K mainGlobals "zip"=some none)
  (g_MOST_WARES:W.nsIn K mainGlobals "MOST_WARES"=some (some (.int 8 ybe)))
  (g_MOST_SWAPS:W.nsIn K mainGlobals "MOST_SWAPS"=some (some (.int 12 ybd)))
  (yaM:W.nsIn K mainGlobals "BadBasket"=some (some ↑12))
  (yaZ:W.nsIn K mainGlobals "BadBaskets"=some (some (.ref yaI)))
  (ybM:W.nsIn K mainGlobals "BadNames"=some (some (.ref ya7)))
  (yb5:W.nsIn K mainGlobals "BadRest"=some (some (.ref ybw)))
  (yb6:W.nsIn K mainGlobals "BadRoad"=some (some (.ref ybx)))
  (ybN:W.nsIn K mainGlobals "BadScale"=some (some (.ref ya8)))
  (yb7:W.nsIn K mainGlobals "BadSwap"=some (some (.ref yby)))
  (ybO:W.nsIn K mainGlobals "BadWares"=some (some (.ref ya9)))
  (yb8:W.nsIn K mainGlobals "Endless"=some (some (.ref ybz)))
  (ycr:W.nsIn K mainGlobals "NoBook"=some (some (.ref yb0)))
  (ycs:W.nsIn K mainGlobals "NoLine"=some (some (.ref yb1)))
  (yct:W.nsIn K mainGlobals "NoName"=some (some (.ref yb2)))
  (ycu:W.nsIn K mainGlobals "NoSwap"=some (some (.ref yb3)))
  (ybP:W.nsIn K mainGlobals "NotAlike"=some (some (.ref yba)))
  (yb9:W.nsIn K mainGlobals "NotKept"=some (some (.ref ybA)))
  (ybm:W.nsIn K mainGlobals "OtherBook"=some (some (.ref yaU)))
  (ya0:W.nsIn K mainGlobals "OtherWares"=some (some (.ref yaJ)))
  (ybn:W.nsIn K mainGlobals "SwapError"=some (some (.ref yar)))
  (ybQ:W.nsIn K mainGlobals "TooGreat"=some (some (.ref ybb)))
  (yca:W.nsIn K mainGlobals "TooMany"=some (some (.ref ybB)))
  (x_gt:W.specialIn K ↑113 "__get__"=some (some ↑252))
  (x_tk:W.takesIn K ↑113=some true)
  (xi_BadBasket:W.excIn K yaa [.type "ValueError",.type "Exception",.type "BaseException",.type "object"] "ValueError.__new__"=true)
  (ya1:W.findIn K ↑12 "__getattribute__"=some (some (.builtin "BaseException.__getattribute__")))
  (ya2:W.findIn K ↑12 "__getattr__"=some none)
  (ybo:W.findIn K ↑12 "__class__"=some (some ↑113))
  (ybp:W.mroIn K yaa (.type "object")=some true)
  (ybq:W.mroIn K yaa (.type "BaseException")=some true)
  (ybr:W.subIn K ↑12 (.ref yar)=some true)
  (eb:W.subIn K (.ref yar) (.type "BaseException")=some true)
  (eo:W.mroIn K yar (.type "object")=some true)
  (et:W.typeIn K (.ref yar)=some (.type "type"))
  (i0_BadBasket:W.kitOne K ↑6 ↑12=some false)
  (i_BadBasket_BadBasket:W.kitOne K ↑12 ↑12=some true)
  (i0_BadBaskets:W.kitOne K ↑6 (.ref yaI)=some false)
  (i_BadBasket_BadBaskets:W.kitOne K ↑12 (.ref yaI)=some false)
  (i0_BadNames:W.kitOne K ↑6 (.ref ya7)=some false)
  (i_BadBasket_BadNames:W.kitOne K ↑12 (.ref ya7)=some false)
  (i0_BadRest:W.kitOne K ↑6 (.ref ybw)=some false)
  (i_BadBasket_BadRest:W.kitOne K ↑12 (.ref ybw)=some false)
  (i0_BadRoad:W.kitOne K ↑6 (.ref ybx)=some false)
  (i_BadBasket_BadRoad:W.kitOne K ↑12 (.ref ybx)=some false)
  (i0_BadScale:W.kitOne K ↑6 (.ref ya8)=some false)
  (i_BadBasket_BadScale:W.kitOne K ↑12 (.ref ya8)=some false)
  (i0_BadSwap:W.kitOne K ↑6 (.ref yby)=some false)
  (i_BadBasket_BadSwap:W.kitOne K ↑12 (.ref yby)=some false)
  (i0_BadWares:W.kitOne K ↑6 (.ref ya9)=some false)
  (i_BadBasket_BadWares:W.kitOne K ↑12 (.ref ya9)=some false)
  (i0_Endless:W.kitOne K ↑6 (.ref ybz)=some false)
  (i_BadBasket_Endless:W.kitOne K ↑12 (.ref ybz)=some false)
  (i0_NoBook:W.kitOne K ↑6 (.ref yb0)=some false)
  (i_BadBasket_NoBook:W.kitOne K ↑12 (.ref yb0)=some false)
  (i0_NoLine:W.kitOne K ↑6 (.ref yb1)=some false)
  (i_BadBasket_NoLine:W.kitOne K ↑12 (.ref yb1)=some false)
  (i0_NoName:W.kitOne K ↑6 (.ref yb2)=some false)
  (i_BadBasket_NoName:W.kitOne K ↑12 (.ref yb2)=some false)
  (i0_NoSwap:W.kitOne K ↑6 (.ref yb3)=some false)
  (i_BadBasket_NoSwap:W.kitOne K ↑12 (.ref yb3)=some false)
  (i0_NotAlike:W.kitOne K ↑6 (.ref yba)=some false)
  (i_BadBasket_NotAlike:W.kitOne K ↑12 (.ref yba)=some false)
  (i0_NotKept:W.kitOne K ↑6 (.ref ybA)=some false)
  (i_BadBasket_NotKept:W.kitOne K ↑12 (.ref ybA)=some false)
  (i0_OtherBook:W.kitOne K ↑6 (.ref yaU)=some false)
  (i_BadBasket_OtherBook:W.kitOne K ↑12 (.ref yaU)=some false)
  (i0_OtherWares:W.kitOne K ↑6 (.ref yaJ)=some false)
  (i_BadBasket_OtherWares:W.kitOne K ↑12 (.ref yaJ)=some false)
  (i0_TooGreat:W.kitOne K ↑6 (.ref ybb)=some false)
  (i_BadBasket_TooGreat:W.kitOne K ↑12 (.ref ybb)=some false)
  (i0_TooMany:W.kitOne K ↑6 (.ref ybB)=some false)
  (i_BadBasket_TooMany:W.kitOne K ↑12 (.ref ybB)=some false)
  (i0_ValueError:W.kitOne K ↑6 (.type "ValueError")=some false)
  (i_BadBasket_ValueError:W.kitOne K ↑12 (.type "ValueError")=some true)
  (kit_int_bool:W.kitOne K (.type "int") (.type "bool")=some false)
  (kit_int_int:W.kitOne K (.type "int") (.type "int")=some true)
  (kit_list_list:W.kitOne K (.type "list") (.type "list")=some true) :
  ∃ fd:FuncData,(∀ (s:Shared) (v:Value),BindsTo s fd ⟨[v],[]⟩ [("_law_script",v)])∧∀ base:Heap,K.In base->base.Ns mainGlobals mg->FnOk l.prog w K mg base (CXE l.prog w) 9 fa fd ["_law_script"] (zo3 K):=by
 have e:=hfa.symm.trans (W.mg_of X G a42)
 cases e
 have ybC:=q0.gf
 have ycQ:=ybC.binds (ps:=↥9) ↥992
 have zf4:=W.mg_of X G a0
 have yel:=q1.gf
 have yeB:=yel.binds (ps:=↥9) ↥992
 have zet:=W.mg_of X G a1
 have yem:=q2.gf
 have yeC:=yem.binds (ps:=↥9) ↥992
 have zfM:=W.mg_of X G a2
 have yd0:=q3.gf
 have yez:=yd0.binds (ps:=["some","many"]) ↥992
 have zas:=W.mg_of X G a3
 have ydo:=q4.gf
 have yen:=ydo.binds (ps:=↥9) ↥992
 have zcj:=W.mg_of X G a4
 have ydp:=q5.gf
 have yeo:=ydp.binds (ps:=["row"]) ↥991
 have zai:=W.mg_of X G a5
 have ydK:=q6.gf
 have yew:=ydK.binds (ps:=↥9) ↥992
 have zdC:=W.mg_of X G a6
 have ydq:=q7.gf
 have yep:=ydq.binds (ps:=["row"]) ↥991
 have zbM:=W.mg_of X G a7
 have ydr:=q8.gf
 have yeq:=ydr.binds (ps:=["row","steps"]) ↥992
 have m_lowered:=W.mg_of X G a8
 have ydL:=q9.gf
 have yex:=ydL.binds (ps:=["step","row"]) ↥992
 have zbv:=W.mg_of X G a9
 have ycR:=q10.gf
 have yd9:=ycR.binds (ps:=["steps","row"]) ↥992
 have m_taken_in:=W.mg_of X G a10
 have yds:=q11.gf
 have yer:=yds.binds (ps:=["steps"]) ↥991
 have zcP:=W.mg_of X G a11
 have ydt:=q12.gf
 have yes:=ydt.binds (ps:=["rows"]) ↥991
 have za2:=W.mg_of X G a12
 have ydu:=q13.gf
 have yet:=ydu.binds (ps:=["many","swaps"]) ↥992
 have zbK:=W.mg_of X G a13
 have yat:=q14.gf
 have yaO:=yat.binds (ps:=["book","basket"]) ↥992
 have zdg:=W.mg_of X G a14
 have ycS:=q15.gf
 have yea:=ycS.binds (ps:=["steps","length"]) ↥992
 have za8:=W.mg_of X G a15
 have ydv:=q16.gf
 have yeu:=ydv.binds (ps:=["numbers"]) ↥991
 have zbk:=W.mg_of X G a16
 have ycz:=q17.gf
 have ydQ:=ycz.binds (ps:=["numbers"]) ↥991
 have zaP:=W.mg_of X G a17
 have yd1:=q18.gf
 have yeA:=yd1.binds (ps:=["book","basket"]) ↥992
 have m_shown:=W.mg_of X G a18
 have yaN:=q19.gf
 have ycb:=yaN.binds (ps:=["first","second","baskets"]) ↥993
 have zeu:=W.mg_of X G a19
 have ycA:=q20.gf
 have ydR:=ycA.binds (ps:=["_law_found"]) ↥991
 have zcd:=W.mg_of X G a20
 have ycT:=q21.gf
 have yeb:=ycT.binds (ps:=["_law_found","_law_due"]) ↥992
 have zbq:=W.mg_of X G a21
 have ycB:=q22.gf
 have ydS:=ycB.binds (ps:=["_law_caught"]) ↥991
 have zcT:=W.mg_of X G a22
 have ycU:=q23.gf
 have yec:=ycU.binds (ps:=["_law_caught","_law_name"]) ↥992
 have zdp:=W.mg_of X G a23
 have ycV:=q24.gf
 have yed:=ycV.binds (ps:=["_law_script","_law_k"]) ↥992
 have zdW:=W.mg_of X G a24
 have ydw:=q25.gf
 have yev:=ydw.binds (ps:=["_law_script","_law_k"]) ↥992
 have zbu:=W.mg_of X G a25
 have ycC:=q26.gf
 have ydT:=ycC.binds (ps:=↑134) ↥993
 have zaf:=W.mg_of X G a26
 have ycD:=q27.gf
 have ydU:=ycD.binds (ps:=["_law_wide","_law_cells"]) ↥992
 have zbS:=W.mg_of X G a27
 have ycc:=q28.gf
 have ydx:=ycc.binds (ps:=["_law_wide","_law_cell_here","_law_far"]) ↥993
 have zaW:=W.mg_of X G a28
 have ycd:=q29.gf
 have ydy:=ycd.binds (ps:=["_law_rows","_law_bottoms_here","_law_idle","_law_cells"]) ↥994
 have zaL:=W.mg_of X G a29
 have ycW:=q30.gf
 have yee:=ycW.binds (ps:=["_law_cells","_law_wide","_law_cell_here","_law_idle"]) ↥994
 have zbd:=W.mg_of X G a30
 have ycv:=q31.gf
 have ydM:=ycv.binds (ps:=["_law_one","_law_other"]) ↥992
 have zaz:=W.mg_of X G a31
 have ycw:=q32.gf
 have ydN:=ycw.binds (ps:=["_law_first","_law_second","_law_cell_here","_law_far"]) ↥994
 have m_law_images:=W.mg_of X G a32
 have ybs:=q33.gf
 have ycP:=ybs.binds (ps:=["_law_first","_law_images_here","_law_wide"]) ↥993
 have m_law_wares_sent:=W.mg_of X G a33
 have ycX:=q34.gf
 have yef:=ycX.binds (ps:=["_law_script"]) ↥991
 have m_law_pair:=W.mg_of X G a34
 have ycY:=q35.gf
 have yeg:=ycY.binds (ps:=["_law_baskets","_law_basket_here","_law_wide"]) ↥993
 have za7:=W.mg_of X G a35
 have ycx:=q36.gf
 have ydO:=ycx.binds (ps:=["_law_duals","_law_basket_here"]) ↥992
 have zcp:=W.mg_of X G a36
 have yce:=q37.gf
 have ydz:=yce.binds (ps:=["_law_duals","_law_bottoms_here","_law_basket_here"]) ↥993
 have zb3:=W.mg_of X G a37
 have ycE:=q38.gf
 have ydV:=ycE.binds (ps:=["_law_sender","_law_basket_here"]) ↥992
 have zby:=W.mg_of X G a38
 have ycF:=q39.gf
 have ydW:=ycF.binds (ps:=["_law_cell_here","_law_k","_law_size"]) ↥993
 have zaI:=W.mg_of X G a39
 have ycy:=q40.gf
 have ydP:=ycy.binds (ps:=["_law_cell_here","_law_wide"]) ↥992
 have zaR:=W.mg_of X G a40
 have ycZ:=q41.gf
 have yeh:=ycZ.binds (ps:=["_law_sender","_law_first","_law_second","_law_baskets","_law_cell_here"]) ↥995
 have m_law_good:=W.mg_of X G a41
 obtain ⟨_,kV42,dc42,pm42,cd42,ct42,_,an42,_,l42,c42,k42⟩:=q42
 have yey:=za0 (st:=zg2) l42 c42 k42
 have yeD:=yey.binds (ps:=["_law_script"]) ↥991
 have zk8:=W.mg_of X G a42
 have ya3:=q43.gf
 have ycf:=ya3.binds (ps:=["self","basket"]) ↥992
 have ybD:=q44.gf
 have yaF:=ybD.binds (ps:=["self","many","swaps"]) ↥993
 have yaB:=q45.gf
 have ybt:=yaB.binds (ps:=["self","weights"]) ↥992
 have ybE:=q46.gf
 have yaH:=ybE.binds (ps:=["self","rest","weights"]) ↥993
 have ya4:=q47.gf
 have yax:=ya4.binds (ps:=["self","first","second","baskets"]) ↥994
 have T:Txt K mg ⟨(),yao,yag,yav,yap,yaf,λe=>match e with | .BadBasket=>yaa,yaa,yaI,ya7,ybw,ybx,ya8,yby,ya9,ybz,yb0,yb1,yb2,yb3,yba,ybA,yaU,yaJ,yar,ybb,ybB⟩:=⟨W.mg_none_of X G ybk,W.mg_none_of X G yd2,W.mg_none_of X G yd3,W.mg_none_of X G ydI,W.mg_none_of X G ybL,W.mg_none_of X G yd4,W.mg_none_of X G ybl,W.mg_none_of X G yd5,W.mg_none_of X G ydJ,W.mg_none_of X G yd6,W.mg_none_of X G ydm,W.mg_none_of X G yb4,W.mg_none_of X G yd7,W.mg_none_of X G yd8,W.mg_of X G yc1,⟨yc4,yc5,yc6,yc7⟩,ybJ,ybj,W.mg_of X G ycJ,⟨ycL,ycM,ycN,ycO⟩,yaK,W.mg_of X G yc2,⟨yda,ydb,ydc,ydd⟩,yaQ,W.mg_of X G yc3,⟨ydg,ydh,ydi,ydj⟩,yaR,ybK,W.mg_of X G yck,⟨ycl,ycm,ycn,yco⟩,yaS,yaL,yaA,⟨ybe,W.mg_of X G g_MOST_WARES⟩,⟨ybd,W.mg_of X G g_MOST_SWAPS⟩,W.mg_of X G yaM,W.mg_of X G yaZ,W.mg_of X G ybM,W.mg_of X G yb5,W.mg_of X G yb6,W.mg_of X G ybN,W.mg_of X G yb7,W.mg_of X G ybO,W.mg_of X G yb8,W.mg_of X G ycr,W.mg_of X G ycs,W.mg_of X G yct,W.mg_of X G ycu,W.mg_of X G ybP,W.mg_of X G yb9,W.mg_of X G ybm,W.mg_of X G ya0,W.mg_of X G ybn,W.mg_of X G ybQ,W.mg_of X G yca,W.mg_of X G yaM,xi_BadBasket,⟨ya1,ya2,ybo,ybp,ybq,x_gt,x_tk⟩,exm_of eb eo et ybr,i0_BadBasket,i_BadBasket_BadBasket,i0_BadBaskets,i_BadBasket_BadBaskets,i0_BadNames,i_BadBasket_BadNames,i0_BadRest,i_BadBasket_BadRest,i0_BadRoad,i_BadBasket_BadRoad,i0_BadScale,i_BadBasket_BadScale,i0_BadSwap,i_BadBasket_BadSwap,i0_BadWares,i_BadBasket_BadWares,i0_Endless,i_BadBasket_Endless,i0_NoBook,i_BadBasket_NoBook,i0_NoLine,i_BadBasket_NoLine,i0_NoName,i_BadBasket_NoName,i0_NoSwap,i_BadBasket_NoSwap,i0_NotAlike,i_BadBasket_NotAlike,i0_NotKept,i_BadBasket_NotKept,i0_OtherBook,i_BadBasket_OtherBook,i0_OtherWares,i_BadBasket_OtherWares,i0_TooGreat,i_BadBasket_TooGreat,i0_TooMany,i_BadBasket_TooMany,i0_ValueError,i_BadBasket_ValueError,kit_int_bool,kit_int_int,kit_list_list⟩
 refine ⟨W.fnOf "law" "law" (zaE zg2) (zaA zg2) (zad zg2) .none kV42 dc42 pm42 an42 cd42 ct42,λs v=>.of_eq rfl,λbase _ _=>?_⟩
 have ydA:Mk K yao f44:=⟨yc8,a44,i44,yc9⟩
 have ydE:Mk K yav f45:=⟨yde,ycK,i45,ydf⟩
 have yai:ByCls K yag f45 "__init__":=⟨bg45,br45,bf45,q45.gk⟩
 have ydD:Mk K yap f46:=⟨ydk,a46,i46,ydl⟩
 have ycI:Mk K yaf f47:=⟨ycp,a47,i47,ycq⟩
 have yae:=cm l w base (zhC ybC T) zf4 q0.gk ycQ
 have yaD:=cm l w base (zqD yel T yae) zet q1.gk yeB
 have ybR:=cm l w base (zqh yem T yae) zfM q2.gk yeC
 have yad:=cm l w base (zo9 yd0 T) zas q3.gk yez
 have ych:=cm l w base (zmi ydo T yae) zcj q4.gk yen
 have yac:=cm l w base (zl4 ydp T) zai q5.gk yeo
 have ycG:=cm l w base (zn5 ydK T) zdC q6.gk yew
 have ybu:=cm l w base (zmc ydq T yac yad) zbM q7.gk yep
 have yau:=cm l w base (zl9 ydr T yac ybR yad) m_lowered q8.gk yeq
 have ycH:=cm l w base (zm6 ydL T ycG yac ybR yaD yad) zbv q9.gk yex
 have ybU:=cm l w base (zkv ycR T yac yau ycH ybu) m_taken_in q10.gk yd9
 have ycg:=cm l w base (zme yds T yau) zcP q11.gk yer
 have ycj:=cm l w base (zlV ydt T ycg ybU) za2 q12.gk yes
 have yaE:=zhy (P:=l.prog) (w:=w) (base:=base) ybD T
 have ybv:=cm l w base (zl7 ydu T  ydA yaE yaF) zbK q13.gk yet
 have yas:=cm l w base (zgj yat T) zdg q14.gk yaO
 have yal:=cm l w base (zfY yat T) zdg q14.gk yaO
 have yak:=zfO (P:=l.prog) (w:=w) (base:=base) yaB T
 have yaj:=zfP (P:=l.prog) (w:=w) (base:=base) yaB T
 have yaG:=zhx (P:=l.prog) (w:=w) (base:=base) ybE T  yai yaj ybt
 have ybV:=cm l w base (zk5 ycS T yac yad ych) za8 q15.gk yea
 have yci:=cm l w base (zmb ydv T) zbk q16.gk yeu
 have yaT:=cm l w base (zjC ycz T yci) zaP q17.gk ydQ
 have yc0:=cm l w base (zoJ yd1 T ycj yac ybV yaT ydD yaG yaH ydE yak ybt) m_shown q18.gk yeA
 have yam:=cm l w base (zf1 yaN T) zeu q19.gk ycb
 have yah:CalleeM l.prog w K mg base (CXE l.prog w) 3 yaf "sent" ["self","basket"] (zd7 K _):=⟨_,_,ziv ya3 T yaD yas yad ,⟨ybc,i43,q43.gk⟩,ycf⟩
 have yaP:CalleeM l.prog w K mg base (CXE l.prog w) 3 yaf "sent" ["self","basket"] (zeS K _):=⟨_,_,zhU ya3 T yaD yad yal,⟨ybc,i43,q43.gk⟩,ycf⟩
 have yaw:=zgV (P:=l.prog) (w:=w) (base:=base) ya4 T  yah yam yc0
 have ybF:=cm l w base (zkf ycA T) zcd q20.gk ydR
 have yan:=cm l w base (zk2 ycT T ybF) zbq q21.gk yeb
 have ybG:=cm l w base (zjH ycB T) zcT q22.gk ydS
 have ybX:=cm l w base (zkQ ycU T ybG) zdp q23.gk yec
 have ybW:=cm l w base (zkK ycV T) zdW q24.gk yed
 have yaV:=cm l w base (zl6 ydw T) zbu q25.gk yev
 have yab:=cm l w base (zjY ycC T) zaf q26.gk ydT
 have ybH:=cm l w base (zkl ycD T yab) zbS q27.gk ydU
 have yaW:=cm l w base (ziu ycc T yab) zaW q28.gk ydx
 have yaX:=cm l w base (zix ycd T yab) zaL q29.gk ydy
 have ya5:=cm l w base (zkF ycW T yaW ybH yaX) zbd q30.gk yee
 have ybf:=cm l w base (zjx ycv T) zaz q31.gk ydM
 have ybg:=cm l w base (zjz ycw T ybf yab) m_law_images q32.gk ydN
 have yaz:=cm l w base (zg9 ybs T) m_law_wares_sent q33.gk ycP
 have ybZ:=cm l w base (zk6 ycX T ybW ybg yaV ya5 yaz) m_law_pair q34.gk yef
 have ya6:=cm l w base (zk4 ycY T) za7 q35.gk yeg
 have ybh:=cm l w base (zi5 ycx T) zcp q36.gk ydO
 have yaY:=cm l w base (ziy yce T ybh) zb3 q37.gk ydz
 have ybI:=cm l w base (zj5 ycE T  yaP) zby q38.gk ydV
 have yaq:=cm l w base (zj9 ycF T yab) zaI q39.gk ydW
 have ybi:=cm l w base (zjk ycy T yaq) zaR q40.gk ydP
 have ybY:=cm l w base (zkB ycZ T yah ybI ybi yaq yaY ybX yan ya6) m_law_good q41.gk yeh
 exact (zsZ yey T ybY ybZ yan ybv ycI yaw yax ).imp λ_ _ _ _ q=>zsn q
theorem zvw {l:W.OpenLaw} {q:Program} {loose:List Str} {XP:(Str->Option Value)->Heap->Prop} {YP:World->Heap->Prop} {d:DefRec} {K:Params->W.Frag} (hn:l.most=some 63) (hdf:d.params.defaults=[])
  (hY:∀ (w:World) (h:Heap),YP w h->(K w.params).In h)
  (F:∀ (w:World) (mg:Str->Option Value) (fa:Addr) (h:Heap),(K w.params).In h->h.Ns mainGlobals mg->mg d.name=some (.ref fa) →
   ∃ fd:FuncData,(∀ (s:Shared) (u:Value),BindsTo s fd ⟨[u],[]⟩ [("_law_script",u)])∧∀ base:Heap,(K w.params).In base->base.Ns mainGlobals mg->FnOk l.prog w (K w.params) mg base (CXE l.prog w) 9 fa fd ["_law_script"] (zo3 (K w.params))) :
  W.WalkO q loose XP YP l.row.toRowW d [] (λf vs=>PySem.call f vs) :=
 L2.zqF (n:=63) (k:=9) (x:="_law_script") (CX:=λw=>CXE l.prog w) (sp:=λw=>zo3 (K w.params)) hn ⇑1 hdf ⟨rfl,by decide,by decide⟩ hY F (λ_ _ a ns hl _ hS=>⟨a,ns,rfl,hS,hl,λ_=>rfl⟩) λ_ _ _ _ _ ⟨_,_,_,_,_,_,_,_,_,_,z⟩=>z
end
end My
section
open PySem PySem.W PyProof.Rows
set_option maxRecDepth 100000 in
set_option maxHeartbeats 0 in
theorem PySem.Challenge.cw_swapbook_k71_sent_holds : PySem.Challenge.rw_swapbook_k71_sent.Holds := by
 refine My.headT ?hc
 k_fill
 refine My.zvw (l:=PySem.Challenge.rw_swapbook_k71_sent) rfl rfl (λw h Y=>W.kIn_of Y) ?F
 case F =>
  intro w mg fa h KX G hmg
  refine' My.zr2 KX G hmg ?yc1 ?ycJ ?yc2 ?yc3 ?yck ?a0 ?q0 ?a1 ?q1 ?a2 ?q2 ?a3 ?q3 ?a4 ?q4 ?a5 ?q5 ?a6 ?q6 ?a7 ?q7 ?a8 ?q8 ?a9 ?q9 ?a10 ?q10 ?a11 ?q11 ?a12 ?q12 ?a13 ?q13 ?a14 ?q14 ?a15 ?q15 ?a16 ?q16 ?a17 ?q17 ?a18 ?q18 ?a19 ?q19 ?a20 ?q20 ?a21 ?q21 ?a22 ?q22 ?a23 ?q23 ?a24 ?q24 ?a25 ?q25 ?a26 ?q26 ?a27 ?q27 ?a28 ?q28 ?a29 ?q29 ?a30 ?q30 ?a31 ?q31 ?a32 ?q32 ?a33 ?q33 ?a34 ?q34 ?a35 ?q35 ?a36 ?q36 ?a37 ?q37 ?a38 ?q38 ?a39 ?q39 ?a40 ?q40 ?a41 ?q41 ?a42 ?q42 ?ybc ?i43 ?q43 ?a44 ?i44 ?q44 ?a45 ?i45 ?ycK ?bg45 ?br45 ?bf45 ?q45 ?a46 ?i46 ?q46 ?a47 ?i47 ?q47 ?yc4 ?yc5 ?yc6 ?yc7 ?yc8 ?yc9 ?ybJ ?ybj ?ycL ?ycM ?ycN ?ycO ?ydG ?ydH ?yaK ?yda ?ydb ?ydc ?ydd ?yde ?ydf ?yaQ ?ydg ?ydh ?ydi ?ydj ?ydk ?ydl ?yaR ?ybK ?ycl ?ycm ?ycn ?yco ?ycp ?ycq ?yaS ?yaL ?yaA ?ybk ?yd2 ?yd3 ?ydI ?ybL ?yd4 ?ybl ?yd5 ?ydJ ?yd6 ?ydm ?yb4 ?yd7 ?yd8 ?g_MOST_WARES ?g_MOST_SWAPS ?yaM ?yaZ ?ybM ?yb5 ?yb6 ?ybN ?yb7 ?ybO ?yb8 ?ycr ?ycs ?yct ?ycu ?ybP ?yb9 ?ybm ?ya0 ?ybn ?ybQ ?yca ?x_gt ?x_tk ?xi_BadBasket ?ya1 ?ya2 ?ybo ?ybp ?ybq ?ybr ?eb ?eo ?et ?i0_BadBasket ?i_BadBasket_BadBasket ?i0_BadBaskets ?i_BadBasket_BadBaskets ?i0_BadNames ?i_BadBasket_BadNames ?i0_BadRest ?i_BadBasket_BadRest ?i0_BadRoad ?i_BadBasket_BadRoad ?i0_BadScale ?i_BadBasket_BadScale ?i0_BadSwap ?i_BadBasket_BadSwap ?i0_BadWares ?i_BadBasket_BadWares ?i0_Endless ?i_BadBasket_Endless ?i0_NoBook ?i_BadBasket_NoBook ?i0_NoLine ?i_BadBasket_NoLine ?i0_NoName ?i_BadBasket_NoName ?i0_NoSwap ?i_BadBasket_NoSwap ?i0_NotAlike ?i_BadBasket_NotAlike ?i0_NotKept ?i_BadBasket_NotKept ?i0_OtherBook ?i_BadBasket_OtherBook ?i0_OtherWares ?i_BadBasket_OtherWares ?i0_TooGreat ?i_BadBasket_TooGreat ?i0_TooMany ?i_BadBasket_TooMany ?i0_ValueError ?i_BadBasket_ValueError ?kit_int_bool ?kit_int_int ?kit_list_list
  (case yc1|ycJ|yc2|yc3|yck|a0|a1|a2|a3|a4|a5|a6|a7|a8|a9|a10|a11|a12|a13|a14|a15|a16|a17|a18|a19|a20|a21|a22|a23|a24|a25|a26|a27|a28|a29|a30|a31|a32|a33|a34|a35|a36|a37|a38|a39|a40|a41|a42|ybc|i43|a44|i44|a45|i45|ycK|bg45|br45|bf45|a46|i46|a47|i47|yc4|yc5|yc6|yc7|yc8|yc9|ybJ|ybj|ycL|ycM|ycN|ycO|ydG|ydH|yaK|yda|ydb|ydc|ydd|yde|ydf|yaQ|ydg|ydh|ydi|ydj|ydk|ydl|yaR|ybK|ycl|ycm|ycn|yco|ycp|ycq|yaS|yaL|yaA|ybk|yd2|yd3|ydI|ybL|yd4|ybl|yd5|ydJ|yd6|ydm|yb4|yd7|yd8|g_MOST_WARES|g_MOST_SWAPS|yaM|yaZ|ybM|yb5|yb6|ybN|yb7|ybO|yb8|ycr|ycs|yct|ycu|ybP|yb9|ybm|ya0|ybn|ybQ|yca|x_gt|x_tk|ya1|ya2|ybo|ybp|ybq|ybr|eb|eo|et=>k_is)
  (case q0|q1|q2|q3|q4|q5|q6|q7|q8|q9|q10|q11|q12|q13|q14|q15|q16|q17|q18|q19|q20|q21|q22|q23|q24|q25|q26|q27|q28|q29|q30|q31|q32|q33|q34|q35|q36|q37|q38|q39|q40|q41|q42|q43|q44|q45|q46|q47=>apply My.FA.gm<;>k_is)
  (case xi_BadBasket=>k_exc)
  (case i0_BadBasket|i_BadBasket_BadBasket|i0_BadBaskets|i_BadBasket_BadBaskets|i0_BadNames|i_BadBasket_BadNames|i0_BadRest|i_BadBasket_BadRest|i0_BadRoad|i_BadBasket_BadRoad|i0_BadScale|i_BadBasket_BadScale|i0_BadSwap|i_BadBasket_BadSwap|i0_BadWares|i_BadBasket_BadWares|i0_Endless|i_BadBasket_Endless|i0_NoBook|i_BadBasket_NoBook|i0_NoLine|i_BadBasket_NoLine|i0_NoName|i_BadBasket_NoName|i0_NoSwap|i_BadBasket_NoSwap|i0_NotAlike|i_BadBasket_NotAlike|i0_NotKept|i_BadBasket_NotKept|i0_OtherBook|i_BadBasket_OtherBook|i0_OtherWares|i_BadBasket_OtherWares|i0_TooGreat|i_BadBasket_TooGreat|i0_TooMany|i_BadBasket_TooMany|i0_ValueError|i_BadBasket_ValueError|kit_int_bool|kit_int_int|kit_list_list=>kit_is)
end
