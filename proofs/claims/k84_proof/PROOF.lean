import PyProof.Rows.All
import Wide.All
import OpenK.AllK
import Wide.FinOn
import Lean
import PyProof.EqAt
import PyProof.EqKinds
import PyProof.TupleCall
import KE.KIntText
import PyProof.StrLawsTight
import PyProof.StrLawsChain
import PyProof.StrLawsJoin
import PyProof.FitsReplace
import PyProof.StrLawsOccR
import PySem.Challenge.RW_swapbook_k84_plain_roads_of_a_desk
set_option Elab.async false
set_option linter.all false
set_option maxRecDepth 100000
namespace Hd
open PySem PySem.W PyProof.Rows
def runT (p:Program) (w:World) (m:Nat) (a:Option Value):Nat->SharedT->Thread->Option SharedT
 | 0,_,_=>none
 | n+1,s,t=>match through t with
  |true=>some s
  |false=>match stepOk m a t with
   |true=>(match stepT (denote treeTable) p w s t with|some x=>runT p w m a n x.1 x.2|none=>none)
   |false=>none
theorem zpC {p:Program} {w:World} {m:Nat} {a:Option Value}:∀ {n:Nat} {s z:SharedT} {t:Thread},runT p w m a n s t=some z->topRun treeTable p w m a n s.abs t=some z.abs
 | 0,_,_,_,h=>by cases h
 | n+1,s,z,t,h=>by
  rw [runT] at h
  rw [topRun]
  cases h1:through t<;>rw [h1] at h
  ·
   cases h2:stepOk m a t<;>rw [h2] at h
   ·cases h
   ·
    cases h3:stepT (denote treeTable) p w s t with
     |none=>rw [h3] at h;cases h
     |some x=>rw [h3] at h;rw [stepT_spec (s':=x.1) (t':=x.2) h3];exact zpC h
  ·cases h;rfl
def tr:List Obj->Nat->BT->BT
 | [],_,t=>t
 | o :: r,n,t=>tr r (n+1) (t.ins n o)
noncomputable def zuG (P:Params) (os:OsState):SharedT:=⟨tr (boot_heap P).objs.toList 0 .nil,11,(boot_heap P).life,Array.mk [],boot_drawn,boot_toks,os⟩
theorem zoK (P:Params) (os:OsState):(zuG P os).abs=⟨boot_heap P,Array.mk [],boot_drawn,boot_toks,os⟩:=by kernel_rfl
theorem zp8 (P:Params):((boot_heap P).isNs mainGlobals && (Array.mk ([]:List GenState)).size==0)=true:=by kernel_rfl
theorem zrJ (P:Params):(boot_heap P).objs.size=11:=by kernel_rfl
theorem zqB (P:Params):(boot_heap P).nsMap mainGlobals "__annotations__" =some (.ref 6):=by kernel_rfl
noncomputable def lk (p:Program) (w:World) (s:Shared):Bool:=staticsOk (importedModules p.main.body) (boot_heap w.params) s.heap && namesBound p s.heap && gensDone s && laidKept (boot_heap w.params) s.heap
def getT (s:SharedT) (a:Nat):Option Obj:=match Nat.blt a s.n with|true=>alive ((s.tree.get a).getD default)|false=>none
theorem zrB (s:SharedT) (a:Nat):s.abs.heap.get? a=getT s a:=by
 show (absHeap s.tree s.n s.life).get? a=_
 unfold Heap.get? getT
 rw [absHeap_at]
 by_cases h:a<s.n
 ·
  have e:Nat.blt a s.n=true:=by simpa [Nat.blt_eq] using h
  rw [if_pos h,e]
  generalize (s.tree.get a).getD default=o
  obtain ⟨c,d,dt,sl⟩:=o
  cases dt<;>rfl
 ·
  have e:Nat.blt a s.n=false:=by
   cases q:Nat.blt a s.n with
    |false=>rfl
    |true=>exact absurd (by simpa [Nat.blt_eq] using q) h
  rw [if_neg h,e]
theorem y_is (as:List Addr) (s:SharedT):as.map s.abs.heap.get? =as.map (getT s):=by
 congr 1
 funext a
 exact zrB s a
theorem left_of {p q:Program} {loose:List Str} {Xt:Shared->Bool} {α:Type} {Yf:Shared->α} {Ya:World->α} {N:Nat} {g0:Bool} {YT:SharedT->α}
  (e:opening p=plainProg p.main.scope.names) (hN:Nat.ble 600 N=true) (f:∀s,fenceModules? p s=some s) (hy:∀s:SharedT,Yf s.abs=YT s)
  (h:∀w os,(runT p w 11 (some (.ref 6)) N (zuG w.params os) (topStub p)).map (λs=>(lk p w s.abs,openSeen q loose (importedModules p.main.body) Xt g0 s.abs,YT s))=some (true,openGood q loose,Ya w)):LeftO p q loose Xt Yf Ya N g0:=λw=>by
   obtain ⟨s,h1,h2⟩:=Option.map_eq_some_iff.mp (boot_open e hN f w)
   obtain ⟨hp,gs,dr,tk,os⟩:=s
   have h3:hp=boot_heap w.params∧gs=Array.mk []∧dr=boot_drawn∧tk=boot_toks:=by simpa using h2
   obtain ⟨rfl,rfl,rfl,rfl⟩:=h3
   obtain ⟨z,h4,h5⟩:=Option.map_eq_some_iff.mp (h w os)
   have h6:=zpC h4
   rw [zoK] at h6
   obtain ⟨l1,l2,l3⟩:_∧_∧_:=by simpa only [Prod.mk.injEq] using h5
   unfold openEnds
   rw [h1]
   show (topFrom treeTable p w N _).map _=_
   have h7:topFrom treeTable p w N ⟨boot_heap w.params,Array.mk [],boot_drawn,boot_toks,os⟩=some z.abs:=by
    unfold topFrom
    dsimp only
    rw [zp8,zrJ,zqB,h6]
    show (match lk p w z.abs with|true=>_|false=>_)=_
    rw [l1]
   rw [h7]
   exact congrArg some (Prod.ext l2 ((hy z).trans l3))
end Hd
set_option maxRecDepth 100000
namespace My
open PySem PySem.W PyProof.Rows
noncomputable def hdF (q:Program) (as:List Addr) (N:Nat) (w:World) (os:OsState) (bh:Heap) :=
 (Hd.runT PySem.Challenge.rw_swapbook_k84_plain_roads_of_a_desk.row.prog w 11 (some (.ref 6)) N ⟨Hd.tr bh.objs.toList 0 .nil,11,bh.life,Array.mk [],boot_drawn,boot_toks,os⟩ (topStub PySem.Challenge.rw_swapbook_k84_plain_roads_of_a_desk.row.prog)).map (λs=>(staticsOk (importedModules PySem.Challenge.rw_swapbook_k84_plain_roads_of_a_desk.row.prog.main.body) bh s.abs.heap && namesBound PySem.Challenge.rw_swapbook_k84_plain_roads_of_a_desk.row.prog s.abs.heap && gensDone s.abs && laidKept bh s.abs.heap,seen ((recsOf q).map (·.name)) (ownsOf q) [] {s.abs with gens:= #[]},s.abs.heap.bltView,as.map (Hd.getT s)))
noncomputable def hdG (q:Program) (K:Params->Frag) (w:World):=some (true,expectedOf q,bltViewBooted,(K w.params).map λp=>some p.2)
noncomputable def hdX (q:Program) (N:Nat) (w:World) (os:OsState) (bh:Heap) :=
 (Hd.runT PySem.Challenge.rw_swapbook_k84_plain_roads_of_a_desk.row.prog w 11 (some (.ref 6)) N ⟨Hd.tr bh.objs.toList 0 .nil,11,bh.life,Array.mk [],boot_drawn,boot_toks,os⟩ (topStub PySem.Challenge.rw_swapbook_k84_plain_roads_of_a_desk.row.prog)).map (λs=>(openSeen q [] (importedModules PySem.Challenge.rw_swapbook_k84_plain_roads_of_a_desk.row.prog.main.body) (λs=>xlAt q [] s && recOk (RowW.records PySem.Challenge.rw_swapbook_k84_plain_roads_of_a_desk.row.toRowW) s) true s.abs).2.2)
noncomputable def hdY (q:Program):=some (openGood q []).2.2
noncomputable def hdQ:Program:=view PySem.Challenge.rw_swapbook_k84_plain_roads_of_a_desk.row.prog [0,2,3,4,5,6,7,8,9,10,11,12,13,14,16,17,18,19,20,22,23,24,25,26,27,29,30,31,32,33,34,35,36,37,38,39,40,42,43,45,46,48,49,50,51,52,53,54,55,56,57,58,59,60,61,62,63,64,65,66,67,68,70,71,72,74,75,76,77,78,79,80,81,83,85,86,88,89,90,91,92,93]
end My
set_option Elab.async false
lay_quick My.hdF My.hdG My.hdX My.hdY
namespace My
open PySem PySem.W PyProof.Rows
theorem hB {q:Program} (e:q=hdQ):∀w os,W.Fast.tw8334794887856251620 q 12504 w os (boot_heap w.params)=W.Fast.tw7019343924994599381 q:=by
 subst e
 intro w os
 kernel_rfl
theorem zr1 {q:Program} {K:Params->Frag} {as:List Addr} {N:Nat} {e:∀P,as=(K P).map (·.1)} (hN:Nat.ble 600 N=true)
  (h2:∀w os,W.Fast.tw8334794887856251620 q N w os (boot_heap w.params)=W.Fast.tw7019343924994599381 q)
  (h:∀w os,W.Fast.tw6084617276858994590 q as N w os (boot_heap w.params)=W.Fast.tw7309032369996461460 q K w) :
  LeftO PySem.Challenge.rw_swapbook_k84_plain_roads_of_a_desk.row.prog q [] (λs=>xlAt q [] s && recOk (RowW.records PySem.Challenge.rw_swapbook_k84_plain_roads_of_a_desk.row.toRowW) s) (kHook K as e).obs (kHook K as e).val N:=by
   rw [←W.Fast.te6084617276858994590,←W.Fast.te7309032369996461460] at h
   rw [←W.Fast.te8334794887856251620,←W.Fast.te7019343924994599381] at h2
   refine Hd.left_of (by kernel_rfl) hN (λs=>by kernel_rfl) (Hd.y_is as) λw os=> ?_
   obtain ⟨s,hs,e1⟩:=Option.map_eq_some_iff.mp (h w os)
   obtain ⟨t,ht,e2⟩:=Option.map_eq_some_iff.mp (h2 w os)
   have z:s=t:=Option.some.inj (hs.symm.trans ht)
   subst z
   obtain ⟨a1,a2⟩:=Prod.mk.inj e1
   obtain ⟨a2,a3⟩:=Prod.mk.inj a2
   obtain ⟨a3,a4⟩:=Prod.mk.inj a3
   refine (congrArg (Option.map _) hs).trans ?_
   exact congrArg some (Prod.ext a1 (Prod.ext (Prod.ext a2 (Prod.ext a3 e2)) a4))
end My
section
local macro_rules
 | `(tactic| refine $e:term)=>do
  if e.raw.isOfKind `Lean.Parser.Term.app&&e.raw[0].getId.eraseMacroScopes == `PySem.W.holds_open then
   let some _:=e.raw.find? (λs=>s.isOfKind `Lean.Parser.Term.syntheticHole&&s[1].getId.eraseMacroScopes == `hl) | Lean.Macro.throwUnsupported
   let h ← `(My.zr1 (by decide) (My.hB (by kernel_rfl)) (λw os=>by kernel_rfl))
   let e' ← e.raw.replaceM λs=>pure (if s.isOfKind `Lean.Parser.Term.syntheticHole&&s[1].getId.eraseMacroScopes == `hl then some h.raw else none)
   `(tactic| refine $(⟨e'⟩))
  else Lean.Macro.throwUnsupported
open PySem PySem.W PyProof.Rows
set_option maxRecDepth 100000 in
set_option maxHeartbeats 0 in
open_top My.headT for PySem.Challenge.rw_swapbook_k84_plain_roads_of_a_desk
end
set_option hygiene false in
local macro_rules
 | `(⇑[$x])=>`((.va false $x))
 | `(↥[$x])=>`((.va true $x))
 | `(↥($x))=>`((by exact $x))
abbrev Ji:=List Int
abbrev Jq:=List Ji
set_option hygiene false in
local macro_rules
 | `(↑[$a0])=>`((zbC $a0 zcI))
 | `(↑[$a0,$a1])=>`((zbC $a0 (zbC $a1 zcI)))
 | `(↑[$a0,$a1,$a2])=>`((zbC $a0 (zbC $a1 (zbC $a2 zcI))))
 | `(↑[$a0,$a1,$a2,$a3])=>`((zbC $a0 (zbC $a1 (zbC $a2 (zbC $a3 zcI)))))
 | `(↑[$a0,$a1,$a2,$a3,$a4])=>`((zbC $a0 (zbC $a1 (zbC $a2 (zbC $a3 (zbC $a4 zcI))))))
 | `(↑[$a0,$a1,$a2,$a3,$a4,$a5])=>`((zbC $a0 (zbC $a1 (zbC $a2 (zbC $a3 (zbC $a4 (zbC $a5 zcI)))))))
namespace L2
open PySem PySem.Spec PyProof.Rows
abbrev Key:=Sum Int Str
def zr6:Key->Value->Bool
 | .inl k,v=>Value.isInt k v
 | .inr x,v=>Value.isStrOf x v
def zve (w:World):Key->Int
 | .inl k=>hashInt k
 | .inr x=>hashStr w x
theorem zbZ:∀ {k:Key} {v:Value},zr6 k v=true->(∃i t,k=Sum.inl i∧v=Value.int i t)∨(∃x t,k=Sum.inr x∧v=Value.str x t)
 | .inl i,v,h=>by
  obtain ⟨t,e⟩:=Value.isInt_shape (k:=i) (v:=v) h
  exact .inl ⟨i,t,rfl,e⟩
 | .inr x,v,h=>by
  obtain ⟨t,e⟩:=Value.isStrOf_shape (x:=x) (v:=v) h
  exact .inr ⟨x,t,rfl,e⟩
theorem zts (a b:Int):decide ((Sum.inl a:Key)=Sum.inl b)=(a==b):=by
 by_cases e:a=b
 ·subst e;simp
 ·
  have h:¬(Sum.inl a:Key)=Sum.inl b:=λq=>e (Sum.inl.inj q)
  rw [decide_eq_false h]
  exact (beq_eq_false_iff_ne.mpr e).symm
theorem ztC (a b:Str):decide ((Sum.inr a:Key)=Sum.inr b)=decide (a=b):=by
 by_cases e:a=b
 ·subst e;simp
 ·
  have h:¬(Sum.inr a:Key)=Sum.inr b:=λq=>e (Sum.inr.inj q)
  rw [decide_eq_false h,decide_eq_false e]
theorem zsH (a:Int) (b:Str):decide ((Sum.inl a:Key)=Sum.inr b)=false:=decide_eq_false (λq=>nomatch q)
theorem zrU (a:Str) (b:Int):decide ((Sum.inr a:Key)=Sum.inl b)=false:=decide_eq_false (λq=>nomatch q)
def znq (prog:Program) (w:World):PySem.KeyKind prog w Key where
 is:=zr6
 hash:=zve w
 inj:=λv a b ha hb=>by
  rcases zbZ ha with ⟨i,t,rfl,rfl⟩ | ⟨x,t,rfl,rfl⟩
  ·rcases zbZ hb with ⟨j,u,rfl,e⟩ | ⟨y,u,rfl,e⟩
   ·injection e with e1 _;rw [e1]
   ·exact nomatch e
  ·rcases zbZ hb with ⟨j,u,rfl,e⟩ | ⟨y,u,rfl,e⟩
   ·exact nomatch e
   ·injection e with e1 _;rw [e1]
 byValue:=λk v h=>by
  rcases zbZ h with ⟨i,t,rfl,rfl⟩ | ⟨x,t,rfl,rfl⟩<;>rfl
 pyHash:=λhv h=>by
  rcases zbZ hv with ⟨i,t,rfl,rfl⟩ | ⟨x,t,rfl,rfl⟩
  ·exact wpAny_pyHash_int h
  ·exact wpAny_pyHash_str h
 eqBool:=λhu hv h=>by
  rcases zbZ hu with ⟨i,t,rfl,rfl⟩ | ⟨x,t,rfl,rfl⟩
  ·rcases zbZ hv with ⟨j,u,rfl,rfl⟩ | ⟨y,u,rfl,rfl⟩
   ·rw [zts] at h;exact wpAny_eqBool_int h
   ·rw [zsH] at h;exact SeqAt.EqAt.int_str i t y u _ _ _ _ h
  ·rcases zbZ hv with ⟨j,u,rfl,rfl⟩ | ⟨y,u,rfl,rfl⟩
   ·rw [zrU] at h;exact SeqAt.EqAt.str_int x t j u _ _ _ _ h
   ·rw [ztC] at h;exact wpAny_eqBool_str h
 «strs»:=λk x t v h=>by
  rcases zbZ h with ⟨i,u,rfl,e⟩ | ⟨y,u,rfl,e⟩
  ·exact nomatch e
  ·injection e with e1 _
   subst e1
   cases v<;>rfl
end L2
namespace L2
open PySem PySem.Spec PyProof.Rows
inductive V where
 | non | bl (b:Bool) | int (i:Int) | str (x:Str) | byt (b:Array UInt8) | flt (b:UInt64) | ref (a:Addr) | ty (n:String)
 deriving DecidableEq
def zde:V->Value->Prop
 | .non,u=>u=Value.none
 | .bl b,u=>u=Value.bool b
 | .int i,u=>∃t,u=Value.int i t
 | .str x,u=>∃t,u=Value.str x t
 | .byt b,u=>∃t,u=Value.bytes b t
 | .flt b,u=>∃t,u=Value.float b t
 | .ref a,u=>u=Value.ref a
 | .ty n,u=>u=Value.type n
abbrev zbH:List V->List Value->Prop:=Paired zde
theorem zbH.length {xs:List V} {us:List Value} (r:zbH xs us):xs.length=us.length:=Paired.length r
theorem zbH.get:∀ {xs:List V} {us:List Value} {i:Nat} {x:V},zbH xs us->xs[i]? =some x->∃u,us[i]? =some u∧zde x u
 | _,_,_,_,.nil,e=>by simp at e
 | _,_,0,_,.cons r _,e=>by simp at e;subst e;exact ⟨_,rfl,r⟩
 | _,_,i+1,x,.cons _ t,e=>by
  obtain ⟨u,h1,h2⟩:=zbH.get (i:=i) (x:=x) t (by simpa using e)
  exact ⟨u,by simpa using h1,h2⟩
theorem zbH.set {x:V} {u:Value} (r:zde x u):∀ {xs:List V} {us:List Value} (i:Nat),zbH xs us->zbH (xs.set i x) (us.set i u)
 | _,_,_,.nil=>.nil
 | _,_,0,.cons _ t=>.cons r t
 | _,_,i+1,.cons q t=> .cons q (zbH.set r i t)
theorem zbH.append:∀ {xs ys:List V} {us ws:List Value},zbH xs us->zbH ys ws->zbH (xs++ys) (us++ws)
 | _,_,_,_,.nil,s=>s
 | _,_,_,_,.cons r t,s=> .cons r (zbH.append t s)
theorem zbH.take:∀ {xs:List V} {us:List Value} (n:Nat),zbH xs us->zbH (xs.take n) (us.take n)
 | _,_,0,_=>.nil
 | _,_,_+1,.nil=>.nil
 | _,_,n+1,.cons r t=> .cons r (zbH.take n t)
theorem zbH.drop:∀ {xs:List V} {us:List Value} (n:Nat),zbH xs us->zbH (xs.drop n) (us.drop n)
 | _,_,0,r=>r
 | _,_,_+1,.nil=>.nil
 | _,_,n+1,.cons _ t=>zbH.drop n t
def zoj:Option V->Option Value->Prop
 | some v,some u=>zde v u
 | none,none=>True
 | _,_=>False
def KV {κ:Type}:List (κ×V)->List (κ×Value)->Prop:=Paired λ(p:κ×V) (q:κ×Value)=>p.1=q.1∧zde p.2 q.2
def kV:Key->V
 | .inl i=>.int i
 | .inr x=>.str x
inductive HO where
 | lst (xs:List V)
 | tup (xs:List V)
 | dK (kvs:List (Key×V)) | dT (kvs:List (List Key×V))
 | set (S:Int->Bool) (n:Nat)
 | ins (C dx:Addr) (fs:List (Str×V))
 | own (x:Addr)
 | xd (fs:List (Str×V))
 | met (f x:Addr)
 | rng (lo hi:Int)
 | frz (o:Obj) (u:HO)
 | tbl (ps:Array Value)
 | ext (φ:Heap->Prop)
abbrev Hp:=Addr->Option HO
def upd (H:Hp) (a:Addr) (o:HO):Hp:=λb=>if b=a then some o else H b
theorem zat {H:Hp} {a:Addr} {o:HO}:upd H a o a=some o:=by unfold upd;rw [if_pos rfl]
theorem zai {H:Hp} {a b:Addr} {o:HO} (h:b≠a):upd H a o b=H b:=by unfold upd;rw [if_neg h]
theorem ziM {H:Hp} {a b:Addr} {o u:HO} (h:H a=some o) (h':H b=some u) (d:o≠u):a≠b:=by intro e;subst e;rw [h] at h';exact d (Option.some.inj h')
theorem za7 {H:Hp} {a b:Addr} {o:HO} (h:H a=some o) (h':H b=none):a≠b:=by intro e;subst e;rw [h] at h';cases h'
section
variable (P:Program) (w:World)
def zeE (H:Hp) (h:Heap) (a:Addr):HO->Prop
 | .lst xs=>xs.length≤sizeLine∧∃(its:List Value) (n:Nat),zbH xs its∧h.get? a=some {cls:= .type "list",data:= .seq its.toArray n}
 | .tup xs=>xs.length≤sizeLine∧∃its:List Value,zbH xs its∧IsTup h a its.toArray
 | .dK kvs=>kvs.length≤sizeLine∧(a==sysModules)=false∧∃vs,KV kvs vs∧h.DictOf (znq P w) a vs
 | .dT kvs=>kvs.length≤sizeLine∧(a==sysModules)=false∧∃xs:List (List Key×Addr×Value),Paired (λ(p:List Key×V) (q:List Key×Addr×Value)=>p.1=q.1∧H q.2.1=some (.tup (p.1.map kV))∧zde p.2 q.2.2) kvs xs∧∃o es ep,h.get? a=some o∧o.ExactDict∧o.data= .dict es ep∧es.toList=xs.map (entryOfKey (tupleKind (znq P w)))∧(xs.map (·.1)).Nodup
 | .set S n=>h.SetOf (intKind P w) a S n
 | .ins C dx fs=>H dx=some (.own a)∧fs.length≤1000∧dx≠a∧h.get? a=some (W.instObj C dx)∧∃mA,h.Ns1 dx mA∧(∀f,zoj (fs.lookup f) (mA f))∧PySem.Within mA (fs.map (·.1))
 | .own _=>∃o,h.get? a=some o
 | .xd fs=>∃mA,h.Ns1 a mA∧∀f,zoj (fs.lookup f) (mA f)
 | .rng lo hi=>∃t u v,h.get? a=some {cls:= .type "range",data:= .fields #[.int lo t,.int hi u,.int 1 v]}
 | .frz o u=>h.get? a=some o∧zeE H h a u
 | .tbl ps=>h.get? a=some {cls:= .none,data:= .fields ps}
 | .met f x=>h.get? a=some (W.methodObj (.ref f) (.ref x))
 | .ext φ=>φ h∧(∃o,h.get? a=some o)∧∀h1 h2:Heap,φ h1->(∀o,h1.get? a=some o->h2.get? a=some o)->φ h2
def HOk (H:Hp) (h:Heap):Prop:=∀a o,H a=some o->zeE P w H h a o
end
section
variable {P:Program} {w:World} {H H':Hp} {h h':Heap} {a:Addr} {o:HO}
theorem zeE.lt (x:zeE P w H h a o):a<h.objs.size:=by
 cases o with
  |lst xs=>obtain ⟨_,_,_,_,e⟩:=x;exact Heap.lt_size e
  |tup xs=>obtain ⟨_,_,_,p⟩:=x;exact p.lt
  |dK kvs=>obtain ⟨_,_,_,_,o,_,_,e,_⟩:=x;exact Heap.lt_size e
  |dT kvs=>obtain ⟨_,_,_,_,o,_,_,e,_⟩:=x;exact Heap.lt_size e
  |set S n=>obtain ⟨o,_,_,_,e,_⟩:=x;exact Heap.lt_size e
  |ins C dx fs=>obtain ⟨_,_,_,e,_⟩:=x;exact Heap.lt_size e
  |own y=>obtain ⟨_,e⟩:=x;exact Heap.lt_size e
  |xd fs=>obtain ⟨_,⟨_,_,_,e,_⟩,_⟩:=x;exact Heap.lt_size e
  |rng lo hi=>obtain ⟨_,_,_,e⟩:=x;exact Heap.lt_size e
  |frz ob u=>obtain ⟨e,_⟩:=x;exact Heap.lt_size e
  |tbl ps=>exact Heap.lt_size (show h.get? a=some _ from x)
  |met f y=>exact Heap.lt_size (show h.get? a=some _ from x)
  |ext φ=>obtain ⟨_,⟨_,e⟩,_⟩:=x;exact Heap.lt_size e
theorem Paired.mapP {α β:Type} {F G:α->β->Prop}:∀ {l₁:List α} {l₂:List β},Paired F l₁ l₂->(∀a b,F a b->G a b)->Paired G l₁ l₂
 | _,_,.nil,_=>.nil
 | _,_,.cons r t,f=> .cons (f _ _ r) (Paired.mapP t f)
theorem zeE.stay (x:zeE P w H h a o) (k:∀b u,(b=a∨H b=some (.own a))->h.get? b=some u->h'.get? b=some u)
  (ho:∀b,H b=some (.own a)->H' b=some (.own a)) (ht:∀b xs,H b=some (.tup xs)->H' b=some (.tup xs)):zeE P w H' h' a o:=by
   induction o with
    |lst xs=>obtain ⟨z,its,n,r,e⟩:=x;exact ⟨z,its,n,r,k _ _ (.inl rfl) e⟩
    |tup xs=>obtain ⟨z,its,r,ob,e,c⟩:=x;exact ⟨z,its,r,ob,k _ _ (.inl rfl) e,c⟩
    |dK kvs=>obtain ⟨z,y,vs,r,ob,es,ep,e,c⟩:=x;exact ⟨z,y,vs,r,ob,es,ep,k _ _ (.inl rfl) e,c⟩
    |dT kvs=>
     obtain ⟨z,y,xs,r,ob,es,ep,e,c⟩:=x
     exact ⟨z,y,xs,Paired.mapP r λp q z=>⟨z.1,ht _ _ z.2.1,z.2.2⟩,ob,es,ep,k _ _ (.inl rfl) e,c⟩
    |set S n=>obtain ⟨ob,es,ep,t,e,c⟩:=x;exact ⟨ob,es,ep,t,k _ _ (.inl rfl) e,c⟩
    |ins C dx fs=>
     obtain ⟨d,z,ne,e,mA,⟨od,es,ep,e2,c⟩,r⟩:=x
     exact ⟨ho _ d,z,ne,k _ _ (.inl rfl) e,mA,⟨od,es,ep,k _ _ (.inr d) e2,c⟩,r⟩
    |own y=>obtain ⟨ob,e⟩:=x;exact ⟨ob,k _ _ (.inl rfl) e⟩
    |xd fs=>obtain ⟨mA,⟨od,es,ep,e,c⟩,r⟩:=x;exact ⟨mA,⟨od,es,ep,k _ _ (.inl rfl) e,c⟩,r⟩
    |rng lo hi=>obtain ⟨t,u,v,e⟩:=x;exact ⟨t,u,v,k _ _ (.inl rfl) e⟩
    |frz ob u ih=>obtain ⟨e,q⟩:=x;exact ⟨k _ _ (.inl rfl) e,ih q⟩
    |tbl ps=>
     have e:h.get? a=some {cls:= .none,data:= .fields ps}:=x
     show h'.get? a=some {cls:= .none,data:= .fields ps}
     exact k a _ (.inl rfl) e
    |met f y=>
     have e:h.get? a=some (W.methodObj (.ref f) (.ref y)):=x
     show h'.get? a=some (W.methodObj (.ref f) (.ref y))
     exact k a _ (.inl rfl) e
    |ext φ=>obtain ⟨p,⟨o,e⟩,st⟩:=x;exact ⟨st _ _ p λo q=>k _ _ (.inl rfl) q,⟨o,k _ _ (.inl rfl) e⟩,st⟩
theorem HOk.lt (x:HOk P w H h) (e:H a=some o):a<h.objs.size:=(x a o e).lt
theorem HOk.fresh (x:HOk P w H h) (e:h.objs.size≤a):H a=none:=by
 cases q:H a with
  |none=>rfl
  |some u=>exact absurd (Nat.lt_of_lt_of_le (x.lt q) e) (Nat.lt_irrefl _)
theorem HOk.kept (x:HOk P w H h) (k:∀b u,h.get? b=some u->h'.get? b=some u):HOk P w H h':=λa o e=>(x a o e).stay (λb u _ q=>k b u q) (λ_ q=>q) λ_ _ q=>q
theorem HOk.laid (x:HOk P w H h) (k:∀b u,h.get? b=some u->h'.get? b=some u) (hp:h.objs.size≤a) (new:zeE P w (upd H a o) h' a o):HOk P w (upd H a o) h':=λb u e=>by
 have hn:=x.fresh hp
 by_cases hb:b=a
 ·subst hb;rw [zat] at e;cases e;exact new
 ·
  rw [zai hb] at e
  exact (x b u e).stay (λc v _ q=>k c v q) (λc q=>by rw [zai (za7 q hn)];exact q) λc xs q=>by rw [zai (za7 q hn)];exact q
end
def Rd (H:Hp) (a:Addr) (u:HO):Prop:=H a=some u∨∃o,H a=some (.frz o u)
theorem Rd.ok {P:Program} {w:World} {H:Hp} {h:Heap} {a:Addr} {u:HO} (r:Rd H a u) (x:HOk P w H h):zeE P w H h a u:=by
 rcases r with r|⟨o,r⟩
 ·exact x a u r
 ·
  obtain ⟨_,q⟩:=x a _ r
  exact q
def Mut:Option HO->Prop
 | some (.lst _)=>True
 | some (.dK _)=>True
 | some (.dT _)=>True
 | some (.set _ _)=>True
 | some (.ins _ _ _)=>True
 | some (.ext _)=>True
 | _=>False
section
variable {P:Program} {w:World} {H:Hp} {h h':Heap} {x e:Addr} {o':HO}
theorem HOk.write (ok:HOk P w H h) (mu:Mut (H x)) (he:e=x∨H e=some (.own x)) (k:∀b u,b≠e->h.get? b=some u->h'.get? b=some u) (heo:∃u,h'.get? e=some u)
  (new:zeE P w (upd H x o') h' x o'):HOk P w (upd H x o') h':=λb u q=>by
   have nown:∀c y,H c=some (.own y)->c≠x:=λc y r z=>by subst z;rw [r] at mu;exact mu
   have ntup:∀c xs,H c=some (.tup xs)->c≠x:=λc xs r z=>by subst z;rw [r] at mu;exact mu
   by_cases hb:b=x
   ·subst hb;rw [zat] at q;cases q;exact new
   ·
    rw [zai hb] at q
    by_cases hbe:b=e
    ·
     have q':H b=some (.own x):=by
      rcases he with z|z
      ·exact absurd (hbe.trans z) hb
      ·rw [hbe];exact z
     rw [q] at q';
     cases q'
     obtain ⟨v,hv⟩:=heo
     exact ⟨v,by rw [hbe];exact hv⟩
    ·
     refine (ok b u q).stay (λc v hc r=>k c v ?_ r) (λc r=>by rw [zai (nown c b r)];exact r) λc xs r=>by rw [zai (ntup c xs r)];exact r
     rcases hc with rfl|hc
     ·exact hbe
     ·
      rintro rfl
      rcases he with z|z
      ·exact nown c b hc z
      ·rw [hc] at z;cases z;exact hb rfl
end
structure Un (fs ex:List Addr) (H H':Hp) (h h':Heap):Prop where
 keep:∀ b o,h.get? b=some o->H b=none->b ∉ fs->b ∉ ex->h'.get? b=some o
 slot:∀ b o,h.get? b=some o->H b=none->b∈fs->b ∉ ex->∃ sl,h'.get? b=some { o with slots:=sl }
 free:∀ b o,h.get? b=some o->H b=none->b ∉ ex->H' b=none
 there:∀ b o,h.get? b=some o->b ∉ ex->∃ o',h'.get? b=some o'
 tups:∀ b xs,H b=some (.tup xs)->H' b=some (.tup xs)
 frzs:∀ b o u,H b=some (.frz o u)->H' b=some (.frz o u)
 tbls:∀ b ps,H b=some (.tbl ps)->∃ more,H' b=some (.tbl (ps++more))
section
variable {fs fs' ex ex':List Addr} {H H1 H2:Hp} {h h1 h2 h':Heap} {a x e:Addr} {o:HO}
theorem Un.any (u:Un fs ex H H1 h h1) {b:Addr} {ob:Obj} (q:h.get? b=some ob) (n:H b=none) (hx:b ∉ ex):∃sl,h1.get? b=some {ob with slots:=sl}:=by
 by_cases hb:b∈fs
 ·exact u.slot b ob q n hb hx
 ·exact ⟨ob.slots,u.keep b ob q n hb hx⟩
theorem Un.kept (k:∀b u,h.get? b=some u->h'.get? b=some u):Un fs ex H H h h' :=
 ⟨λb ob q _ _ _=>k b ob q,λb ob q _ _ _=>⟨ob.slots,k b ob q⟩,λ_ _ _ n _=>n,λb ob q _=>⟨ob,k b ob q⟩,λ_ _ q=>q,λ_ _ _ q=>q,λ_ ps q=>⟨#[],by rw [q];simp⟩⟩
theorem Un.refl:Un fs ex H H h h:=Un.kept λ_ _ q=>q
theorem Un.laid (k:∀b u,h.get? b=some u->h'.get? b=some u) (hp:h.objs.size≤a) (hn:H a=none):Un fs ex H (upd H a o) h h' where
 keep:=λb u q _ _ _=>k b u q
 slot:=λb u q _ _ _=>⟨u.slots,k b u q⟩
 free:=λb u q n _=>by rw [zai (Nat.ne_of_lt (Nat.lt_of_lt_of_le (Heap.lt_size q) hp))];exact n
 there:=λb u q _=>⟨u,k b u q⟩
 tups:=λb xs q=>by rw [zai (za7 q hn)];exact q
 frzs:=λb u xs q=>by rw [zai (za7 q hn)];exact q
 tbls:=λb ps q=>⟨#[],by rw [zai (za7 q hn),q];simp⟩
theorem Un.write (mu:Mut (H x)) (he:e=x∨H e=some (.own x)) (k:∀b u,b≠e->h.get? b=some u->h'.get? b=some u) (heo:∃u,h'.get? e=some u):Un fs ex H (upd H x o) h h':=by
 have hx:∀b,H b=none->b≠x:=λb n z=>by subst z;rw [n] at mu;exact mu
 have hb:∀b,H b=none->b≠e:=λb n z=>by
  subst z
  rcases he with r|r
  ·exact hx b n r
  ·rw [n] at r;cases r
 have hm:∀b u,H b=some u->¬Mut (some u)->b≠x:=λb u q nm z=>by subst z;rw [q] at mu;exact nm mu
 refine ⟨λb u q n _ _=>k b u (hb b n) q,λb u q n _ _=>⟨u.slots,k b u (hb b n) q⟩,λb u q n _=>by rw [zai (hx b n)];exact n,λb u q _=> ?_,λb xs q=>by rw [zai (hm b _ q λz=>z)];exact q,λb u xs q=>by rw [zai (hm b _ q λz=>z)];exact q,λb ps q=>⟨#[],by rw [zai (hm b _ q λz=>z),q];simp⟩⟩
 by_cases hbe:b=e
 ·subst hbe;exact heo
 ·exact ⟨u,k b u hbe q⟩
end
def trk (h:Heap) (H:Hp):List Addr:=(List.range h.objs.size).filter λa=>(H a).isSome
def zpf (h:Heap) (H:Hp):Heap:=W.hideAll h (trk h H)
theorem zog (h:Heap) (H:Hp):(zpf h H).objs.size=h.objs.size:=W.hideAll_size _ _
theorem zoA {h:Heap} {H:Hp} {b:Addr} {o:Obj} (e:h.get? b=some o) (n:H b=none):(zpf h H).get? b=some o :=
 W.hideAll_get _ e λhm=>by
  have q:(H b).isSome=true:=(List.mem_filter.mp hm).2
  rw [n] at q;
  simp at q
theorem zqS {h:Heap} {H:Hp} {b:Addr} {o:Obj} (e:(zpf h H).get? b=some o):h.get? b=some o∧H b=none:=by
 have e':h.get? b=some o:=W.of_hideAll (trk h H) e
 refine ⟨e',?_⟩
 cases q:H b with
  |none=>rfl
  |some x=>
   have hm:b∈trk h H:=List.mem_filter.mpr ⟨List.mem_range.mpr (Heap.lt_size e'),by simp [q]⟩
   have z:(zpf h H).get? b=none:=W.hideAll_none (trk h H) hm
   rw [z] at e;
   cases e
def zq8 (g h:Heap) (L:Addr):List (Addr×Obj):=(List.range h.objs.size).filterMap λa=>if a=L∨(g.get? a).isSome=true then none else (h.get? a).map λo=>(a,o)
def rest (g h:Heap) (L d:Addr):List (Addr×Obj):=(zq8 g h L).filter λp=>decide (p.1≠d)
end L2
namespace L2
open PySem PySem.Spec PyProof.Rows
structure Mod (K:W.Frag) (mg:Str->Option Value) (base:Heap):Prop where
 kin:K.In base
 glob:base.Ns mainGlobals mg
 blt:∃ mb,base.Ns builtinsNs mb∧∀ x:Str,x≠"__name__"->mb x=bootBuiltins x
 nolimit:base.NoLimit
structure Cx where
 prog:Program
 w:World
 K:W.Frag
 mg:Str->Option Value
 base:Heap
 A:Around
 N:List Str
 s₀:Shared
 H₀:Hp
 env:Env
 outer:List Env
 stack:List Env
 ex:List Addr
 fn:Str->Bool
 calm:Bool
 pn:List (Addr×Obj)
 xe:Value->Shared->Prop
def frs (l:List Env):List Addr:=l.filterMap (·.frame)
abbrev Cx.fs (X:Cx):List Addr:=frs X.outer
def Vis (sc:Scope) (x:Str):Prop:=sc.names.lookup x=some .local∨sc.names.lookup x=some .cell∨sc.names.lookup x=some .free
def Loc (sc:Scope) (x:Str):Prop:=sc.names.lookup x=some .local∨sc.names.lookup x=some .cell
def zu0 (env:Env) (h:Heap) (m:Str->Option Value) (x:Str) (u:Value):Prop :=
 (env.kindOf x=some .local∧m x=some u)∨((env.kindOf x=some .cell∨env.kindOf x=some .free)∧∃c,env.cells.lookup x=some c∧h.IsCell c (some u))
structure Cx.Ok (X:Cx):Prop where
 mod:Mod X.K X.mg X.base
 kind:X.env.scope.kind=.function
 glob:X.env.globals=mainGlobals
 blt:X.env.builtins=builtinsNs
 above:X.s₀.heap.objs.size≤X.env.locals
 inj:∀ x y c,X.env.cells.lookup x=some c->X.env.cells.lookup y=some c->x=y
 has:∀ x,(X.env.kindOf x=some .cell∨X.env.kindOf x=some .free)->∃ c,X.env.cells.lookup x=some c
 cab:∀ x c,X.fn x=true->X.env.cells.lookup x=some c->X.s₀.heap.objs.size≤c
 hd:X.calm=true->X.A.handled=none
 frames:X.A.frames=some X.stack
 stk:X.stack=X.outer∨(X.stack=X.env :: X.outer∧X.env.frame=some X.env.locals)
 exf:∀ b∈X.ex,b≠X.env.locals∧∀ x c,X.env.cells.lookup x=some c->c≠b
 bs:∀ b o,X.base.get? b=some o->X.s₀.heap.get? b=some o∧X.H₀ b=none
 bsz:X.base.objs.size≤X.s₀.heap.objs.size
 noex:∀ b o,X.base.get? b=some o->b ∉ X.ex
 exfs:∀ b∈X.ex,b ∉ X.fs
 funs:X.s₀.heap.FunFrames X.base X.outer
 frf:∀ b∈X.fs,X.H₀ b=none
structure Inv (X:Cx) (pins:List (Addr×Obj)) (σ:List (Option V)) (H:Hp) (s:Shared):Prop where
 ok:X.Ok
 os:s.os=X.s₀.os
 bare:AllBare s.gens
 base:Un X.fs X.ex X.H₀ H X.s₀.heap s.heap
 loc:∃ m,s.heap.Ns X.env.locals m∧∀ (i:Nat) (x:Str) (v:V),X.N[i]?=some x->σ[i]?=some (some v)->Vis X.env.scope x->∃ u,zde v u∧zu0 X.env s.heap m x u
 cell:∀ x c,X.env.cells.lookup x=some c->∃ v,s.heap.IsCell c v
 free:H X.env.locals=none
 freeC:∀ x c,X.env.cells.lookup x=some c->H c=none
 pin:∀ p∈X.pn++pins,s.heap.get? p.1=some p.2∧H p.1=none∧p.1≠X.env.locals∧p.1 ∉ X.fs∧∀ v,p.2.data≠.cell v
 hok:HOk X.prog X.w H s.heap
 len:σ.length=X.N.length
section
variable {X:Cx} {pins:List (Addr×Obj)} {σ:List (Option V)} {H H':Hp} {s:Shared} {h':Heap}
theorem Cx.Ok.nofr (ok:X.Ok) {b:Addr} {o:Obj} (e:X.base.get? b=some o):b ∉ X.fs:=λhb=>by
 have:=(ok.funs.mem hb).1
 rw [e] at this;
 cases this
theorem Inv.bs (I:Inv X pins σ H s):∀b o,X.base.get? b=some o->s.heap.get? b=some o∧H b=none:=λb o e=>⟨I.base.keep b o (I.ok.bs b o e).1 (I.ok.bs b o e).2 (I.ok.nofr e) (I.ok.noex b o e),I.base.free b o (I.ok.bs b o e).1 (I.ok.bs b o e).2 (I.ok.noex b o e)⟩
theorem Inv.bk (I:Inv X pins σ H s):∀b o,X.base.get? b=some o->s.heap.get? b=some o:=λb o e=>(I.bs b o e).1
theorem Inv.mod (I:Inv X pins σ H s):Mod X.K X.mg X.base:=I.ok.mod
theorem Inv.kIn (I:Inv X pins σ H s):X.K.In s.heap:=I.ok.mod.kin.keeps I.bk
theorem Inv.nolimit (I:Inv X pins σ H s):s.heap.NoLimit:=I.ok.mod.nolimit.keeps I.bk
theorem Inv.fr (I:Inv X pins σ H s):∃m,Fr X.base X.env.locals s.heap m :=
 let ⟨m,hn,_⟩:=I.loc;⟨m,hn,I.bk,Nat.le_trans I.ok.bsz I.ok.above⟩
theorem Inv.lt (I:Inv X pins σ H s):X.env.locals<s.heap.objs.size:=let ⟨_,hn,_⟩:=I.loc;hn.lt
theorem Inv.sz (I:Inv X pins σ H s):X.s₀.heap.objs.size≤s.heap.objs.size:=Nat.le_trans I.ok.above (Nat.le_of_lt I.lt)
theorem Inv.nofs (I:Inv X pins σ H s) {a:Addr} (h:s.heap.objs.size≤a):a ∉ X.fs:=λhb=>by
 obtain ⟨_,o,ho,_⟩:=I.ok.funs.mem hb
 exact absurd (Nat.lt_of_lt_of_le (Heap.lt_size ho) (Nat.le_trans I.sz h)) (Nat.lt_irrefl _)
theorem Inv.cne (I:Inv X pins σ H s):∀x c,X.env.cells.lookup x=some c->c≠X.env.locals:=λx c e z=>by
 obtain ⟨v,o,ho,hd⟩:=I.cell x c e
 obtain ⟨m,⟨o',es,ep,ho',hd',_⟩,_⟩:=I.loc
 rw [z,ho'] at ho;
 cases ho;
 rw [hd'] at hd;
 cases hd
theorem Inv.funs (I:Inv X pins σ H s):s.heap.FunFrames X.base X.outer:=by
 have all:∀(l:List Env),(∀b∈frs l,b∈X.fs)->X.s₀.heap.FunFrames X.base l->s.heap.FunFrames X.base l:=by
  intro l
  induction l with
   |nil=>intro _ _;trivial
   |cons env r ih=>
    intro hs hl
    obtain ⟨hk,⟨L,o,hf,hn,ho,hd⟩,hr⟩:=hl
    have hL:L∈X.fs:=hs L (by unfold frs;rw [List.filterMap_cons,hf];exact List.mem_cons_self)
    obtain ⟨sl,e⟩:=I.base.slot L o ho (I.ok.frf L hL) hL λz=>I.ok.exfs L z hL
    exact ⟨hk,⟨L,_,hf,hn,e,hd⟩,ih (λb hb=>hs b (by unfold frs;rw [List.filterMap_cons,hf];exact List.mem_cons_of_mem _ hb)) hr⟩
 exact all X.outer (λ_ hb=>hb) I.ok.funs
theorem Inv.stack (I:Inv X pins σ H s):s.heap.FunFrames X.base X.stack:=by
 rcases I.ok.stk with e|⟨e,hf⟩
 ·rw [e];exact I.funs
 ·
  rw [e]
  obtain ⟨m,hn,_⟩:=I.loc
  refine .cons (by rw [I.ok.kind];decide) hf hn ?_ I.funs
  exact Heap.get?_none_of_le (Nat.le_trans I.ok.bsz I.ok.above)
theorem Inv.stkSub (I:Inv X pins σ H s):∀b∈frs X.stack,b∈X.env.locals::X.fs:=λb hb=>by
 rcases I.ok.stk with e|⟨e,hf⟩
 ·rw [e] at hb;exact List.mem_cons_of_mem _ hb
 ·
  rw [e] at hb
  unfold frs at hb
  rw [List.filterMap_cons,hf] at hb
  exact hb
theorem Inv.stkFree (I:Inv X pins σ H s):∀b∈frs X.stack,H b=none:=λb hb=>by
 rcases List.mem_cons.mp (I.stkSub b hb) with e|hb
 ·rw [e];exact I.free
 ·
  obtain ⟨_,o,ho,_⟩:=I.ok.funs.mem hb
  exact I.base.free b o ho (I.ok.frf b hb) λz=>I.ok.exfs b z hb
theorem Inv.step {g':Array GenState} {t':Nat} {d':Drawn} {ch:List Addr} (I:Inv X pins σ H s)
  (hch:∀b∈ch,(b∈X.ex∨X.s₀.heap.objs.size≤b)∧b≠X.env.locals∧(∀x c,X.env.cells.lookup x=some c->c≠b)∧∀p∈X.pn++pins,p.1≠b)
  (keep:∀b o,b≠X.env.locals->b∉X.fs->b∉ch->s.heap.get? b=some o->H b=none->h'.get? b=some o)
  (slot:∀b o,b≠X.env.locals->b∈X.fs->b∉ch->s.heap.get? b=some o->H b=none->∃sl,h'.get? b=some {o with slots:=sl}) (free:∀b o,b∉ch->s.heap.get? b=some o->H b=none->H' b=none)
  (there:∀b o,b∉ch->s.heap.get? b=some o->∃o',h'.get? b=some o')
  (tups:∀b xs,H b=some (.tup xs)->H' b=some (.tup xs)) (frzs:∀b o u,H b=some (.frz o u)->H' b=some (.frz o u)) (tbls:∀b ps,H b=some (.tbl ps)->∃more,H' b=some (.tbl (ps++more)))
  (ns:∀m,s.heap.Ns X.env.locals m->h'.Ns X.env.locals m) (hok:HOk X.prog X.w H' h') (hg:AllBare g') :
  Inv X pins σ H' {s with heap:=h',gens:=g',drawn:=d',toks:=t'}:=by
   have neL:∀b o,X.s₀.heap.get? b=some o->b≠X.env.locals:=λb o e=>Nat.ne_of_lt (Nat.lt_of_lt_of_le (Heap.lt_size e) I.ok.above)
   have neC:∀b o,X.s₀.heap.get? b=some o->b∉X.ex->b∉ch:=λb o e hx hb=>by
    rcases (hch b hb).1 with z|z
    ·exact hx z
    ·exact absurd (Nat.lt_of_lt_of_le (Heap.lt_size e) z) (Nat.lt_irrefl _)
   have cellK:∀x c,X.env.cells.lookup x=some c->∀v,s.heap.IsCell c v->h'.IsCell c v:=λx c e v ⟨o,ho,hd⟩=>by
    have nch:c∉ch:=λz=>(hch c z).2.2.1 x c e rfl
    by_cases hc:c∈X.fs
    ·
     obtain ⟨sl,q⟩:=slot c o (I.cne x c e) hc nch ho (I.freeC x c e)
     exact ⟨_,q,hd⟩
    ·exact ⟨o,keep c o (I.cne x c e) hc nch ho (I.freeC x c e),hd⟩
   refine ⟨I.ok,I.os,hg,⟨λb o e n hb hx=> ?_,λb o e n hb hx=> ?_,λb o e n hx=> ?_,λb o e hx=> ?_,λb xs e=>tups b xs (I.base.tups b xs e),λb o xs e=>frzs b o xs (I.base.frzs b o xs e),λb ps e=> ?_⟩,?_,λx c e=> ?_,?_,λx c e=> ?_,λp hp=> ?_,hok,I.len⟩
   ·exact keep b o (neL b o e) hb (neC b o e hx) (I.base.keep b o e n hb hx) (I.base.free b o e n hx)
   ·
    obtain ⟨sl,e1⟩:=I.base.slot b o e n hb hx
    obtain ⟨sl',e2⟩:=slot b _ (neL b o e) hb (neC b o e hx) e1 (I.base.free b o e n hx)
    exact ⟨sl',e2⟩
   ·
    obtain ⟨o',e1⟩:=I.base.there b o e hx
    exact free b o' (neC b o e hx) e1 (I.base.free b o e n hx)
   ·
    obtain ⟨o',e1⟩:=I.base.there b o e hx
    exact there b o' (neC b o e hx) e1
   ·
    obtain ⟨m1,e1⟩:=I.base.tbls b ps e
    obtain ⟨m2,e2⟩:=tbls b _ e1
    exact ⟨m1++m2,by rw [e2,Array.append_assoc]⟩
   ·
    obtain ⟨m,hn,hl⟩:=I.loc
    refine ⟨m,ns m hn,λi x v e1 e2 e3=> ?_⟩
    obtain ⟨u,r,l⟩:=hl i x v e1 e2 e3
    refine ⟨u,r,?_⟩
    rcases l with l|⟨k,c,e,z⟩
    ·exact .inl l
    ·exact .inr ⟨k,c,e,cellK x c e _ z⟩
   ·
    obtain ⟨v,z⟩:=I.cell x c e
    exact ⟨v,cellK x c e v z⟩
   ·
    obtain ⟨m,⟨o,_,_,ho,_⟩,_⟩:=I.loc
    exact free _ o (λz=>(hch _ z).2.1 rfl) ho I.free
   ·
    obtain ⟨v,o,ho,hd⟩:=I.cell x c e
    exact free c o (λz=>(hch c z).2.2.1 x c e rfl) ho (I.freeC x c e)
   ·
    obtain ⟨e,n,ne,nf,d⟩:=I.pin p hp
    have nch:p.1∉ch:=λz=>(hch p.1 z).2.2.2 p hp rfl
    exact ⟨keep p.1 p.2 ne nf nch e n,free p.1 p.2 nch e n,ne,nf,d⟩
theorem Inv.un {t':Nat} (I:Inv X pins σ H s) (u:Un X.fs [] H H' s.heap h') (hok:HOk X.prog X.w H' h'):Inv X pins σ H' {s with heap:=h',toks:=t'}:=by
 obtain ⟨m,⟨o,es,ep,ho,r⟩,_⟩:=id I.loc
 obtain ⟨sl,hL⟩:=u.any ho I.free (by simp)
 exact I.step (g':=s.gens) (d':=s.drawn) (ch:=[]) (λ_ z=>nomatch z) (λb o _ hb _ e n=>u.keep b o e n hb (by simp)) (λb o _ hb _ e n=>u.slot b o e n hb (by simp)) (λb o _ e n=>u.free b o e n (by simp)) (λb o _ e=>u.there b o e (by simp)) u.tups u.frzs u.tbls (λm' hm=>by
  obtain ⟨o',es',ep',ho',r'⟩:=hm
  rw [ho] at ho';
  cases ho'
  exact ⟨_,es',ep',hL,r'⟩) hok I.bare
theorem Inv.call {g':Array GenState} {t':Nat} {d':Drawn} {ch:List Addr} (I:Inv X pins σ H s) (u:Un (frs X.stack) ch H H' s.heap h') (hok:HOk X.prog X.w H' h') (hg:AllBare g')
  (hch:∀b∈ch,(b∈X.ex∨X.s₀.heap.objs.size≤b)∧b≠X.env.locals∧(∀x c,X.env.cells.lookup x=some c->c≠b)∧∀p∈X.pn++pins,p.1≠b) :
  Inv X pins σ H' {s with heap:=h',gens:=g',drawn:=d',toks:=t'}:=by
   obtain ⟨m,⟨o,es,ep,ho,r⟩,_⟩:=id I.loc
   obtain ⟨sl,hL⟩:=u.any ho I.free λz=>(hch _ z).2.1 rfl
   exact I.step (ch:=ch) hch (λb o hL hb hc e n=>u.keep b o e n (λz=>(List.mem_cons.mp (I.stkSub b z)).elim hL hb) hc) (λb o _ _ hc e n=>u.any e n hc) (λb o hc e n=>u.free b o e n hc) (λb o hc e=>u.there b o e hc) u.tups u.frzs u.tbls (λm' hm=>by
    obtain ⟨o',es',ep',ho',r'⟩:=hm
    rw [ho] at ho';
    cases ho'
    exact ⟨_,es',ep',hL,r'⟩) hok hg
theorem Inv.turned {t':Nat} {it:Addr} (I:Inv X pins σ H s) (k:∀b o,b≠it->s.heap.get? b=some o->h'.get? b=some o) (hn:H it=none) (hL:it≠X.env.locals)
  (h1:it∈X.ex∨X.s₀.heap.objs.size≤it) (h2:∀x c,X.env.cells.lookup x=some c->c≠it) (h3:∀p∈X.pn++pins,p.1≠it):Inv X pins σ H {s with heap:=h',toks:=t'}:=by
   have nit:∀b u,H b=some u->b≠it:=λb u e z=>by rw [z,hn] at e;cases e
   refine I.step (g':=s.gens) (d':=s.drawn) (ch:=[it]) (λb hb=> ?_) (λb o _ _ hc e _=>k b o (λz=>hc (by simp [z])) e) (λb o _ _ hc e _=>⟨o.slots,k b o (λz=>hc (by simp [z])) e⟩) (λ_ _ _ _ n=>n) (λb o hc e=>⟨o,k b o (λz=>hc (by simp [z])) e⟩) (λ_ _ e=>e) (λ_ _ _ e=>e) (λb ps e=>⟨#[],by rw [e];simp⟩) (λm hm=> ?_) (λb u e=> ?_) I.bare
   ·
    have e:b=it:=by simpa using hb
    subst e
    exact ⟨h1,hL,h2,h3⟩
   ·
    obtain ⟨o,es,ep,ho,r⟩:=hm
    exact ⟨o,es,ep,k _ o (Ne.symm hL) ho,r⟩
   ·
    refine (I.hok b u e).stay (λc v hc q=>k c v ?_ q) (λ_ q=>q) λ_ _ q=>q
    rcases hc with z|z
    ·rw [z];exact nit b u e
    ·exact nit c _ z
theorem Inv.tok (I:Inv X pins σ H s) (t:Nat):Inv X pins σ H {s with toks:=t}:=I.un (h':=s.heap) (t':=t) Un.refl I.hok
theorem Inv.kept {t':Nat} (I:Inv X pins σ H s) (k:∀b u,s.heap.get? b=some u->h'.get? b=some u):Inv X pins σ H {s with heap:=h',toks:=t'}:=I.un (Un.kept k) (I.hok.kept k)
theorem Inv.laid {a:Addr} {o:HO} {t':Nat} (I:Inv X pins σ H s) (k:∀b u,s.heap.get? b=some u->h'.get? b=some u) (hp:s.heap.objs.size≤a) (new:zeE X.prog X.w (upd H a o) h' a o) :
  Inv X pins σ (upd H a o) {s with heap:=h',toks:=t'}:=I.un (Un.laid k hp (I.hok.fresh hp)) (I.hok.laid k hp new)
theorem Inv.write {x e:Addr} {o:HO} {t':Nat} (I:Inv X pins σ H s) (mu:Mut (H x)) (he:e=x∨H e=some (.own x)) (k:∀b u,b≠e->s.heap.get? b=some u->h'.get? b=some u) (heo:∃u,h'.get? e=some u)
  (new:zeE X.prog X.w (upd H x o) h' x o):Inv X pins σ (upd H x o) {s with heap:=h',toks:=t'}:=I.un (Un.write mu he k heo) (I.hok.write mu he k heo new)
theorem Inv.pins_of {pins':List (Addr×Obj)} (I:Inv X pins σ H s) (h:∀p∈pins',s.heap.get? p.1=some p.2∧H p.1=none∧p.1≠X.env.locals∧p.1∉X.fs∧∀v,p.2.data≠ .cell v):Inv X pins' σ H s :=
 ⟨I.ok,I.os,I.bare,I.base,I.loc,I.cell,I.free,I.freeC,λp hp=>(List.mem_append.mp hp).elim (λz=>I.pin p (List.mem_append_left _ z)) (h p),I.hok,I.len⟩
theorem zln {N:List Str} (hN:N.Nodup) {i j:Nat} {x:Str} (a:N[i]?=some x) (b:N[j]?=some x):i=j:=by
 obtain ⟨h1,e1⟩:=List.getElem?_eq_some_iff.mp a
 obtain ⟨h2,e2⟩:=List.getElem?_eq_some_iff.mp b
 exact (List.getElem_inj hN).mp (e1.trans e2.symm)
theorem zjN {M:Model} {A:Around} {E:Value->Shared->Prop} {i:Nat} {x:Str} {v:V} {u:Value} {Q:Unit->Shared->Prop} (I:Inv X pins σ H s) (hN:X.N.Nodup) (hi:X.N[i]?=some x) (hx:Loc X.env.scope x) (r:zde v u)
  (h:∀s',Inv X pins (σ.set i (some v)) H s'->(∃a,Heap.SameBut a s.heap s'.heap∧(a=X.env.locals∨X.env.cells.lookup x=some a))->Q () s') (hf:X.fn x=true∨X.env.scope.names.lookup x=some .local:=by first | exact .inl rfl | exact .inr rfl | assumption):wpAny M A (storeName X.env x u) Q E s:=by
   obtain ⟨m,hn,hl⟩:=id I.loc
   have hcls:(X.env.scope.kind== .class||(X.env.scope.kind== .module && X.env.locals !=X.env.globals))=false:=by rw [I.ok.kind];rfl
   have hiσ:i<σ.length:=by rw [I.len];exact (List.getElem?_eq_some_iff.mp hi).1
   have cne:=I.cne
   have tracked:∀ {a:Addr} {h':Heap},(∃o,s.heap.get? a=some o∧H a=none)->Heap.SameBut a s.heap h'->HOk X.prog X.w H h':=λ {a h'} ha hs b ob e=>by
    obtain ⟨_,_,hfree⟩:=ha
    refine (I.hok b ob e).stay (λc w' hc q=>(hs.2 c ?_).trans q) (λ_ q=>q) λ_ _ q=>q
    rintro rfl
    rcases hc with rfl|hc
    ·rw [hfree] at e;cases e
    ·rw [hfree] at hc;cases hc
   rcases hx with hk|hk
   ·
    refine wpAny_storeName_local hk hn (λh' hn' hs=> ?_) hcls
    obtain ⟨oL,_,_,hoL,_⟩:=id hn
    refine h _ ⟨I.ok,I.os,I.bare,⟨λb o e n hb hx=> ?_,λb o e n hb hx=> ?_,I.base.free,λb o e hx=> ?_,I.base.tups,I.base.frzs,I.base.tbls⟩,⟨_,hn',λj y v' e1 e2 e3=> ?_⟩,λy c e=> ?_,I.free,I.freeC,λp hp=> ?_,tracked ⟨oL,hoL,I.free⟩ hs,by simpa using I.len⟩ ⟨_,hs,.inl rfl⟩
    ·exact (hs.2 b (Nat.ne_of_lt (Nat.lt_of_lt_of_le (Heap.lt_size e) I.ok.above))).trans (I.base.keep b o e n hb hx)
    ·
     obtain ⟨sl,e1⟩:=I.base.slot b o e n hb hx
     exact ⟨sl,(hs.2 b (Nat.ne_of_lt (Nat.lt_of_lt_of_le (Heap.lt_size e) I.ok.above))).trans e1⟩
    ·
     obtain ⟨o',e1⟩:=I.base.there b o e hx
     exact ⟨o',(hs.2 b (Nat.ne_of_lt (Nat.lt_of_lt_of_le (Heap.lt_size e) I.ok.above))).trans e1⟩
    ·
     by_cases hj:j=i
     ·
      subst hj
      rw [hi] at e1;
      cases e1
      rw [List.getElem?_set_self hiσ] at e2
      cases e2
      exact ⟨u,r,.inl ⟨hk,by simp⟩⟩
     ·
      rw [List.getElem?_set_ne (Ne.symm hj)] at e2
      obtain ⟨u',r',q⟩:=hl j y v' e1 e2 e3
      refine ⟨u',r',?_⟩
      rcases q with ⟨k,e⟩|⟨k,c,e,z⟩
      ·
       refine .inl ⟨k,?_⟩
       have:y≠x:=λe=>hj (zln hN e1 (e ▸ hi))
       simp [this,e]
      ·exact .inr ⟨k,c,e,z.sameBut hs (cne y c e)⟩
    ·
     obtain ⟨w',z⟩:=I.cell y c e
     exact ⟨w',z.sameBut hs (cne y c e)⟩
    ·
     obtain ⟨e,n,ne,nf,d⟩:=I.pin p hp
     exact ⟨(hs.2 p.1 ne).trans e,n,ne,nf,d⟩
   ·
    have hfn:X.fn x=true:=by
     rcases hf with z|z
     ·exact z
     ·rw [z] at hk;cases hk
    obtain ⟨c,hc⟩:=I.ok.has x (.inl hk)
    obtain ⟨w',z⟩:=I.cell x c hc
    refine wpAny_storeName_cell I.ok.kind hk hc z (λh' hc' hs=> ?_)
    obtain ⟨oc,hoc,hocd⟩:=id z
    refine h {s with heap:=h'} ⟨I.ok,I.os,I.bare,⟨λb o e n hb hx=> ?_,λb o e n hb hx=> ?_,I.base.free,λb o e hx=> ?_,I.base.tups,I.base.frzs,I.base.tbls⟩,⟨m,hn.sameBut hs (Ne.symm (cne x c hc)),λj y v' e1 e2 e3=> ?_⟩,λy c' e=> ?_,I.free,I.freeC,λp hp=> ?_,tracked ⟨oc,hoc,I.freeC x c hc⟩ hs,by simpa using I.len⟩ ⟨c,hs,.inr hc⟩
    ·exact (hs.2 b (Nat.ne_of_lt (Nat.lt_of_lt_of_le (Heap.lt_size e) (I.ok.cab x c hfn hc)))).trans (I.base.keep b o e n hb hx)
    ·
     obtain ⟨sl,e1⟩:=I.base.slot b o e n hb hx
     exact ⟨sl,(hs.2 b (Nat.ne_of_lt (Nat.lt_of_lt_of_le (Heap.lt_size e) (I.ok.cab x c hfn hc)))).trans e1⟩
    ·
     obtain ⟨o',e1⟩:=I.base.there b o e hx
     exact ⟨o',(hs.2 b (Nat.ne_of_lt (Nat.lt_of_lt_of_le (Heap.lt_size e) (I.ok.cab x c hfn hc)))).trans e1⟩
    ·
     by_cases hj:j=i
     ·
      subst hj
      rw [hi] at e1;
      cases e1
      rw [List.getElem?_set_self hiσ] at e2
      cases e2
      exact ⟨u,r,.inr ⟨.inl hk,c,hc,hc'⟩⟩
     ·
      rw [List.getElem?_set_ne (Ne.symm hj)] at e2
      obtain ⟨u',r',q⟩:=hl j y v' e1 e2 e3
      refine ⟨u',r',?_⟩
      rcases q with q|⟨k,c',e,z'⟩
      ·exact .inl q
      ·
       refine .inr ⟨k,c',e,z'.sameBut hs ?_⟩
       rintro rfl
       exact hj (zln hN e1 (I.ok.inj _ _ _ e hc ▸ hi))
    ·
     by_cases hcc:c'=c
     ·subst hcc;exact ⟨_,hc'⟩
     ·
      obtain ⟨w2,z2⟩:=I.cell y c' e
      exact ⟨w2,z2.sameBut hs hcc⟩
    ·
     obtain ⟨e,n,ne,nf,d⟩:=I.pin p hp
     refine ⟨(hs.2 p.1 ?_).trans e,n,ne,nf,d⟩
     intro q
     rw [q,hoc] at e
     have q':oc=p.2:=Option.some.inj e
     exact d w' (by rw [←q'];exact hocd)
theorem zli {M:Model} {A:Around} {E:Value->Shared->Prop} {i:Nat} {x:Str} {v:V} {u:Value} {Q:Unit->Shared->Prop} (I:Inv X pins σ H s) (hN:X.N.Nodup) (hi:X.N[i]?=some x) (hx:Loc X.env.scope x) (r:zde v u)
  (h:∀s',Inv X pins (σ.set i (some v)) H s'->Q () s') (hf:X.fn x=true∨X.env.scope.names.lookup x=some .local:=by first | exact .inl rfl | exact .inr rfl | assumption):wpAny M A (storeName X.env x u) Q E s :=
 zjN I hN hi hx r (λs' I' _=>h s' I') hf
theorem Inv.call' {s':Shared} {ch:List Addr} (I:Inv X pins σ H s) (ho:s'.os=s.os) (u:Un (frs X.stack) ch H H' s.heap s'.heap) (hok:HOk X.prog X.w H' s'.heap) (hg:AllBare s'.gens)
  (hch:∀b∈ch,(b∈X.ex∨X.s₀.heap.objs.size≤b)∧b≠X.env.locals∧(∀x c,X.env.cells.lookup x=some c->c≠b)∧∀p∈X.pn++pins,p.1≠b):Inv X pins σ H' s':=by
   obtain ⟨h',g',d',t',o'⟩:=s'
   have e:o'=s.os:=ho
   subst e
   exact I.call (g':=g') (t':=t') (d':=d') u hok hg hch
end
abbrev XK:=Value->Option Addr->Hp->Prop
abbrev St:=List (Option V)
abbrev VK:=V->Hp->Prop
abbrev TE:=St->Hp->VK->Prop
abbrev TT:=St->Hp->(Bool->Hp->Prop)->Prop
abbrev TA:=St->Hp->(List V->Hp->Prop)->Prop
structure Ends where
 nx:St->Hp->Prop
 rt:VK
 bk:St->Hp->Prop:=λ_ _=>False
 ct:St->Hp->Prop:=λ_ _=>False
abbrev TS:=Ends->St->Hp->Prop
def EP (X:Cx) (pins:List (Addr×Obj)) (σ:St) (Q:VK) (u:Value) (s':Shared):Prop:=∃v H',Inv X pins σ H' s'∧zde v u∧Q v H'
def TP (X:Cx) (pins:List (Addr×Obj)) (σ:St) (Q:Bool->Hp->Prop) (b:Bool) (s':Shared):Prop:=∃H',Inv X pins σ H' s'∧Q b H'
def AP (X:Cx) (pins:List (Addr×Obj)) (σ:St) (Q:List V->Hp->Prop) (us:List Value) (s':Shared):Prop:=∃vs H',Inv X pins σ H' s'∧zbH vs us∧Q vs H'
def SP (X:Cx) (pins:List (Addr×Obj)) (D:Ends) (f:Flow) (s':Shared):Prop :=
 match f with| .next=>∃σ' H',Inv X pins σ' H' s'∧D.nx σ' H'| .brk=>∃σ' H',Inv X pins σ' H' s'∧D.bk σ' H'| .cont=>∃σ' H',Inv X pins σ' H' s'∧D.ct σ' H'| .ret u=>∃v σ' H',Inv X pins σ' H' s'∧zde v u∧D.rt v H'
def PE (X:Cx) (e:Expr) (t:TE):Prop :=
 ∀(pins:List (Addr×Obj)) (s:Shared) (σ:St) (H:Hp) (Q:VK),Inv X pins σ H s->t σ H Q->wpAny (model X.prog X.w) X.A (eval e X.env) (EP X pins σ Q) X.xe s
def PT (X:Cx) (e:Expr) (t:TT):Prop :=
 ∀(pins:List (Addr×Obj)) (s:Shared) (σ:St) (H:Hp) (Q:Bool->Hp->Prop),Inv X pins σ H s->t σ H Q->wpAny (model X.prog X.w) X.A (isTrue e X.env (eval e X.env)) (TP X pins σ Q) X.xe s
def PW (X:Cx) (e:Expr) (t:TT):Prop :=
 ∀(whole:Sem Value) (pins:List (Addr×Obj)) (s:Shared) (σ:St) (H:Hp) (Q:Bool->Hp->Prop),Inv X pins σ H s->t σ H Q->wpAny (model X.prog X.w) X.A (isTrue e X.env whole) (TP X pins σ Q) X.xe s
theorem PW.pt {X:Cx} {e:Expr} {t:TT} (h:PW X e t):PT X e t:=h _
def PA (X:Cx) (es:List Expr) (t:TA):Prop :=
 ∀(pos:Pos) (pins:List (Addr×Obj)) (s:Shared) (σ:St) (H:Hp) (Q:List V->Hp->Prop),Inv X pins σ H s->t σ H Q->wpAny (model X.prog X.w) X.A (spliced (backTo pos (starEach es X.env))) (AP X pins σ Q) X.xe s
def PS (X:Cx) (st:Stmt) (t:TS):Prop :=
 ∀(pins:List (Addr×Obj)) (s:Shared) (σ:St) (H:Hp) (D:Ends),Inv X pins σ H s->t D σ H->wpAny (model X.prog X.w) X.A (exec st X.env) (SP X pins D) X.xe s
def PSs (X:Cx) (st:List Stmt) (t:TS):Prop :=
 ∀(pins:List (Addr×Obj)) (s:Shared) (σ:St) (H:Hp) (D:Ends),Inv X pins σ H s->t D σ H->wpAny (model X.prog X.w) X.A (execs st X.env) (SP X pins D) X.xe s
theorem thn {α:Type} {t:Sem α} {Q Q':α->Shared->Prop} {M:Model} {A:Around} {E:Value->Shared->Prop} {s:Shared} (h:wpAny M A t Q E s) (hQ:∀a s,Q a s->Q' a s):wpAny M A t Q' E s:=wpAny_mono h hQ λ_ _ x=>x
end L2
namespace L2
open PySem PySem.Spec PyProof.Rows
section
variable {X:Cx}
theorem bin {a b:Expr} {ta tb:TE} (ha:PE X a ta) (hb:PE X b tb) {pins:List (Addr×Obj)} {s:Shared} {σ:St} {H:Hp} {R:V->V->Hp->Prop} (I:Inv X pins σ H s) (h:ta σ H λx H1=>tb σ H1 λy H2=>R x y H2)
  {α:Type} {Q:α->Shared->Prop} {f:Value->Value->Sem α}
  (hf:∀v u s2 x y H2,Inv X pins σ H2 s2->zde x v->zde y u->R x y H2->wpAny (model X.prog X.w) X.A (f v u) Q X.xe s2) :
  wpAny (model X.prog X.w) X.A (eval a X.env) (λv s₁=>wpAny (model X.prog X.w) X.A (eval b X.env) (λu s₂=>wpAny (model X.prog X.w) X.A (f v u) Q X.xe s₂) X.xe s₁) X.xe s:=by
   refine thn (ha pins s σ H _ I h) λv s1 ⟨x,H1,I1,r1,q1⟩=> ?_
   refine thn (hb pins s1 σ H1 _ I1 q1) λu s2 ⟨y,H2,I2,r2,q2⟩=> ?_
   exact hf v u s2 x y H2 I2 r1 r2 q2
def zhX (i:Nat):TE:=λσ H Q=>∃v,σ[i]? =some (some v)∧Q v H
def tC (v:V):TE:=λ_ H Q=>Q v H
theorem zsi {i:Nat} {x:Str} {pos:Pos} (hN:X.N[i]?=some x) (hv:Vis X.env.scope x) (hd:(x==("__debug__" :Str))=false:=by decide) (hcd:(x==("__classdict__" :Str))=false:=by decide):PE X (.Name x pos) (zhX i):=by
 intro pins s σ H Q I h
 obtain ⟨v,e,h⟩:=h
 obtain ⟨m,hn,hl⟩:=I.loc
 obtain ⟨u,r,l⟩:=hl i x v hN e hv
 have fin:EP X pins σ Q u s:=⟨v,H,I,r,h⟩
 rcases l with ⟨hk,hm⟩|⟨hk,c,hc,hcell⟩
 ·exact wpAny_Name (wpAny_loadName_local I.ok.kind hk hn hm fin) hd
 ·
  rcases hk with hk|hk
  ·exact wpAny_Name (wpAny_loadName_cell I.ok.kind hk hc hcell fin) hd
  ·exact wpAny_Name (wpAny_loadName_free I.ok.kind hk hc hcell fin hcd) hd
theorem zaj {i j pos}:PE X (.Constant (.int i) j pos) (tC (.int i)):=λ_ _ _ H _ I h=>wpAny_Constant_int ⟨.int i,H,I.tok _,⟨_,rfl⟩,h⟩
theorem zqQ {b j pos}:PE X (.Constant (.bool b) j pos) (tC (.bl b)):=λ_ _ _ H _ I h=>Constant_bool ⟨.bl b,H,I,rfl,h⟩
theorem zgl {j pos}:PE X (.Constant .none j pos) (tC .non):=λ_ _ _ H _ I h=>Constant_none ⟨.non,H,I,rfl,h⟩
theorem zaT {x j pos}:PE X (.Constant (.str x) j pos) (tC (.str x)):=λ_ _ _ H _ I h=>Calls.Constant_str ⟨.str x,H,I.tok _,⟨_,rfl⟩,h⟩
def Gl (X:Cx) (x:Str):Prop:=X.env.kindOf x=some .globalImplicit
theorem ziL {E:Value->Shared->Prop} {pins:List (Addr×Obj)} {s:Shared} {σ:St} {H:Hp} {x:Str} {u:Value} {pos:Pos} {Q:Value->Shared->Prop} (I:Inv X pins σ H s) (hg:Gl X x) (hm:X.mg x=some u) (h:Q u s)
  (hd:(x==("__debug__" :Str))=false:=by decide):wpAny (model X.prog X.w) X.A (eval (.Name x pos) X.env) Q E s :=
 Calls.Name_function_global I.ok.kind hg (Calls.loadGlobal_global (by rw [I.ok.glob];exact I.mod.glob.keeps I.bk) hm h) hd
theorem zgn {E:Value->Shared->Prop} {pins:List (Addr×Obj)} {s:Shared} {σ:St} {H:Hp} {x:Str} {u:Value} {pos:Pos} {Q:Value->Shared->Prop} (I:Inv X pins σ H s) (hg:Gl X x) (hm:X.mg x=none) (hv:bootBuiltins x=some u) (h:Q u s)
  (hn:x≠"__name__":=by decide) (hd:(x==("__debug__" :Str))=false:=by decide):wpAny (model X.prog X.w) X.A (eval (.Name x pos) X.env) Q E s:=by
   obtain ⟨mb,h1,h2⟩:=I.mod.blt
   exact Calls.Name_function_global I.ok.kind hg (Calls.loadGlobal_builtin (by rw [I.ok.glob];exact I.mod.glob.keeps I.bk) hm (by rw [I.ok.blt];exact h1.keeps I.bk) ((h2 x hn).trans hv) h) hd
theorem zd3 {x:Str} {v:V} {u:Value} {pos:Pos} (hg:Gl X x) (hm:X.mg x=some u) (r:zde v u) (hd:(x==("__debug__" :Str))=false:=by decide):PE X (.Name x pos) (tC v) :=
 λ_ _ _ H _ I h=>ziL I hg hm ⟨v,H,I,r,h⟩ hd
variable {a b:Expr} {ta tb:TE} {pos:Pos}
def PC (X:Cx) (op:CmpOp) (a b:Expr) (t:TE):Prop :=
 ∀(pins:List (Addr×Obj)) (s:Shared) (σ:St) (H:Hp) (Q:VK),Inv X pins σ H s->t σ H Q→wpAny (model X.prog X.w) X.A (eval a X.env) (λv s₁=>wpAny (model X.prog X.w) X.A (eval b X.env) (λu s₂=>wpAny (model X.prog X.w) X.A (compareOp op v u) (EP X pins σ Q) X.xe s₂) X.xe s₁) X.xe s
theorem zoJ (b:Expr) {op:CmpOp} (h:op≠.In) (h2:op≠.NotIn):behindInMarks op b=false:=by
 have e1:(op==CmpOp.In)=false:=by cases op<;>first|rfl|exact absurd rfl h
 have e2:(op==CmpOp.NotIn)=false:=by cases op<;>first|rfl|exact absurd rfl h2
 cases b<;>simp [behindInMarks,e1,e2]
def tB (t:TE):TT:=λσ H Q=>t σ H λx H1=>∃c,x= .bl c∧Q c H1
theorem zuK {op:CmpOp} {t:TE} (h:PC X op a b t) (h1:behindInMarks op b=false:=by first | exact zoJ _ (by decide) (by decide) | rfl):PT X (.Compare a [op] [b] pos) (tB t):=by
 intro pins s σ H Q I hw
 refine wpAny_isTrue_Compare1 (thn (h pins s σ H _ I hw) λv s1 h1=>thn h1 λu s2 h2=>thn h2 λc s3 ⟨x,H1,I1,r1,q1⟩=> ?_) h1
 obtain ⟨d,rfl,q⟩:=q1
 cases r1
 exact wpAny_truthy_bool ⟨H1,I1,q⟩
theorem zgQ {e:Expr} {t:TE} (h:PE X e t) (he:∀whole,isTrue e X.env whole=(do
 let v←whole;
 standAt e.pos;
 holding [v] (truthy v)):=by intro _;rfl):PT X e (tB t):=by
  intro pins s σ H Q I hw
  refine isTrue_plain (thn (h pins s σ H _ I hw) λv s1 ⟨x,H1,I1,r1,q1⟩=> ?_) (he _)
  obtain ⟨d,rfl,q⟩:=q1
  cases r1
  exact wpAny_truthy_bool ⟨H1,I1,q⟩
variable {tA tB':TT} {rest:List Expr}
def zu2 (t u:TT):TT:=λσ H Q=>t σ H λc H1=>if c=true then u σ H1 Q else Q false H1
def tOr (t u:TT):TT:=λσ H Q=>t σ H λc H1=>if c=true then Q true H1 else u σ H1 Q
def zuQ (t:TT):TT:=λσ H Q=>t σ H λc H1=>Q (!c) H1
theorem znQ (ha:PT X a tA):PW X (.BoolOp .And [a] pos) tA:=by
 intro wh pins s σ H Q I h
 refine isTrue_and (thn (ha pins s σ H Q I h) λc s1 e=> ?_)
 cases c with
  |true=>exact isTrue_and_nil e
  |false=>exact e
theorem zlP (ha:PT X a tA):PW X (.BoolOp .Or [a] pos) tA:=by
 intro wh pins s σ H Q I h
 refine isTrue_or (thn (ha pins s σ H Q I h) λc s1 e=> ?_)
 cases c with
  |false=>exact isTrue_or_nil e
  |true=>exact e
theorem zpI (ha:PT X a tA) (hb:PW X (.BoolOp .And (b::rest) pos) tB'):PW X (.BoolOp .And (a::b::rest) pos) (zu2 tA tB'):=by
 intro wh pins s σ H Q I h
 refine isTrue_and (thn (ha pins s σ H _ I h) λc s1 ⟨H1,I1,q1⟩=> ?_)
 cases c with
  |true=>exact hb wh pins s1 σ H1 Q I1 q1
  |false=>exact ⟨H1,I1,q1⟩
theorem zos (ha:PT X a tA) (hb:PW X (.BoolOp .Or (b::rest) pos) tB'):PW X (.BoolOp .Or (a::b::rest) pos) (tOr tA tB'):=by
 intro wh pins s σ H Q I h
 refine isTrue_or (thn (ha pins s σ H _ I h) λc s1 ⟨H1,I1,q1⟩=> ?_)
 cases c with
  |true=>exact ⟨H1,I1,q1⟩
  |false=>exact hb wh pins s1 σ H1 Q I1 q1
theorem zlw (ha:PT X a tA):PT X (.UnaryOp .Not a pos) (zuQ tA):=by
 intro pins s σ H Q I h
 exact isTrue_not (ha pins s σ H (λc H1=>Q (!c) H1) I h)
def ztB (ta tb:TE):TE:=λσ H Q=>ta σ H λx H1=>∃c,x= .bl c∧if c=true then tb σ H1 Q else Q (.bl false) H1
theorem zkN {op} {t:TE} (h:PE X a t):PE X (.BoolOp op [a] pos) t:=λpins s σ H Q I hw=>BoolOp_one (h pins s σ H Q I hw)
theorem zia (ha:PE X a ta) (hb:PE X (.BoolOp .And (b::rest) pos) tb):PE X (.BoolOp .And (a::b::rest) pos) (ztB ta tb):=by
 intro pins s σ H Q I h
 refine BoolOp_and (thn (ha pins s σ H _ I h) λv s1 ⟨x,H1,I1,r1,q1⟩=> ?_)
 obtain ⟨c,rfl,q1⟩:=q1
 cases r1
 refine wpAny_truthy_bool ?_
 cases c with
  |true=>exact hb pins s1 σ H1 Q I1 q1
  |false=>exact ⟨.bl false,H1,I1,rfl,q1⟩
def tIf (t:TT) (ta tb:TE):TE:=λσ H Q=>t σ H λc H1=>if c=true then ta σ H1 Q else tb σ H1 Q
theorem zgE {c:Expr} (hc:PT X c tA) (ha:PE X a ta) (hb:PE X b tb):PE X (.IfExp c a b pos) (tIf tA ta tb):=by
 intro pins s σ H Q I h
 refine wpAny_IfExp (thn (hc pins s σ H _ I h) λd s1 ⟨H1,I1,q1⟩=> ?_)
 cases d with
  |true=>exact ha pins s1 σ H1 Q I1 q1
  |false=>exact hb pins s1 σ H1 Q I1 q1
end
end L2
namespace L2
open PySem PySem.Spec PyProof.Rows
def SqL (K:W.Frag) (H:Hp) (a:Addr) (xs:List V):Prop :=
 Rd H a (.lst xs)∨∃(o:Obj) (its:Array Value) (n:Nat),K.lookup a=some o∧o.cls= .type "list" ∧o.dict=none∧o.data= .seq its n∧its.size≤sizeLine∧zbH xs its.toList
def SqT (K:W.Frag) (H:Hp) (a:Addr) (xs:List V):Prop :=
 Rd H a (.tup xs)∨∃(o:Obj) (its:Array Value) (n:Nat),K.lookup a=some o∧o.cls= .type "tuple" ∧o.data= .seq its n∧its.size≤sizeLine∧zbH xs its.toList
def zva:Value->Option V
 | .none=>some .non
 | .bool b=>some (.bl b)
 | .int i _=>some (.int i)
 | .str x _=>some (.str x)
 | .bytes b _=>some (.byt b)
 | .float b _=>some (.flt b)
 | .ref a=>some (.ref a)
 | .type n=>some (.ty n)
 | _=>none
theorem zde.abs {x:V} {u:Value} (r:zde x u):zva u=some x:=by
 cases x with
  |non=>cases r;rfl
  |bl _=>cases r;rfl
  |int _=>obtain ⟨t,rfl⟩:=r;rfl
  |str _=>obtain ⟨t,rfl⟩:=r;rfl
  |byt _=>obtain ⟨t,rfl⟩:=r;rfl
  |flt _=>obtain ⟨t,rfl⟩:=r;rfl
  |ref _=>cases r;rfl
  |ty _=>cases r;rfl
theorem zde.inj {x y:V} {u:Value} (r:zde x u) (q:zde y u):x=y:=Option.some.inj (r.abs.symm.trans q.abs)
theorem zbH.inj:∀ {xs ys:List V} {us:List Value},zbH xs us->zbH ys us->xs=ys
 | _,_,_,.nil,.nil=>rfl
 | _,_,_,.cons r t,.cons r' t'=>by rw [r.inj r',zbH.inj t t']
section
variable {X:Cx} {pins:List (Addr×Obj)} {σ:St} {H:Hp} {s:Shared} {a:Addr} {xs ys:List V}
theorem SqL.of {K:W.Frag} (h:H a=some (.lst xs)):SqL K H a xs:=.inl (.inl h)
theorem Inv.list (I:Inv X pins σ H s) (h:SqL X.K H a xs):∃its:List Value,zbH xs its∧PlainL s.heap a its.toArray∧xs.length≤sizeLine:=by
 rcases h with h|⟨o,its,n,hk,hc,hd,hs,hz,r⟩
 ·
  obtain ⟨z,its,n,r,e⟩:=h.ok I.hok
  exact ⟨its,r,⟨_,n,e,rfl,rfl,rfl⟩,z⟩
 ·
  refine ⟨its.toList,r,⟨o,n,I.kIn a o hk,hc,hd,by simpa using hs⟩,?_⟩
  have e:=r.length
  simp only [Array.length_toList] at e
  omega
theorem Inv.tuple (I:Inv X pins σ H s) (h:SqT X.K H a xs):∃its:List Value,zbH xs its∧IsTup s.heap a its.toArray∧xs.length≤sizeLine:=by
 rcases h with h|⟨o,its,n,hk,hc,hs,hz,r⟩
 ·
  obtain ⟨z,its,r,p⟩:=h.ok I.hok
  exact ⟨its,r,p,z⟩
 ·
  refine ⟨its.toList,r,⟨o,I.kIn a o hk,hc,n,by simpa using hs⟩,?_⟩
  have e:=r.length
  simp only [Array.length_toList] at e
  omega
theorem Inv.list_inj (I:Inv X pins σ H s) (h:SqL X.K H a xs) (h':SqL X.K H a ys):xs=ys:=by
 obtain ⟨its,r,⟨o,n,e,_,_,d⟩,_⟩:=I.list h
 obtain ⟨its',r',⟨o',n',e',_,_,d'⟩,_⟩:=I.list h'
 rw [e] at e';
 cases e'
 rw [d] at d'
 injection d' with d1 _
 have:its=its':=by simpa using congrArg Array.toList d1
 subst this
 exact r.inj r'
end
abbrev Cx.wish (X:Cx) (E:Value->Shared->Prop):Cx:= {X with xe:=E}
abbrev Cx.nox (X:Cx):Cx:=X.wish λ_ _=>False
theorem Cx.Ok.wish {X:Cx} (ok:X.Ok) (E:Value->Shared->Prop):(X.wish E).Ok :=
 ⟨ok.mod,ok.kind,ok.glob,ok.blt,ok.above,ok.inj,ok.has,ok.cab,ok.hd,ok.frames,ok.stk,ok.exf,ok.bs,ok.bsz,ok.noex,ok.exfs,ok.funs,ok.frf⟩
theorem Cx.Ok.unwish {X:Cx} {E:Value->Shared->Prop} (ok:(X.wish E).Ok):X.Ok :=
 ⟨ok.mod,ok.kind,ok.glob,ok.blt,ok.above,ok.inj,ok.has,ok.cab,ok.hd,ok.frames,ok.stk,ok.exf,ok.bs,ok.bsz,ok.noex,ok.exfs,ok.funs,ok.frf⟩
section
variable {X:Cx} {pins:List (Addr×Obj)} {σ:St} {H:Hp} {s:Shared} {E:Value->Shared->Prop}
theorem Inv.wish (I:Inv X pins σ H s) (E:Value->Shared->Prop):Inv (X.wish E) pins σ H s:=⟨I.ok.wish E,I.os,I.bare,I.base,I.loc,I.cell,I.free,I.freeC,I.pin,I.hok,I.len⟩
theorem Inv.unwish (I:Inv (X.wish E) pins σ H s):Inv X pins σ H s:=⟨I.ok.unwish,I.os,I.bare,I.base,I.loc,I.cell,I.free,I.freeC,I.pin,I.hok,I.len⟩
theorem SP.unwish {D:Ends} {f:Flow} {s':Shared} (h:SP (X.wish E) pins D f s'):SP X pins D f s':=by
 cases f with
  |next=>obtain ⟨σ',H',I,q⟩:=h;exact ⟨σ',H',I.unwish,q⟩
  |brk=>obtain ⟨σ',H',I,q⟩:=h;exact ⟨σ',H',I.unwish,q⟩
  |cont=>obtain ⟨σ',H',I,q⟩:=h;exact ⟨σ',H',I.unwish,q⟩
  |ret u=>obtain ⟨v,σ',H',I,r,q⟩:=h;exact ⟨v,σ',H',I.unwish,r,q⟩
end
section
variable {X:Cx} {st:Stmt} {rest:List Stmt} {t u:TS} {e:Expr} {te:TE} {pos:Pos}
def zqv:TS:=λD σ H=>D.nx σ H
def zdD (t u:TS):TS:=λD σ H=>t {D with nx:=u D} σ H
theorem zad:PSs X [] zqv:=λ_ _ σ H _ I h=>wpAny_execs_nil ⟨σ,H,I,h⟩
theorem zaa (h1:PS X st t) (h2:PSs X rest u):PSs X (st::rest) (zdD t u):=by
 intro pins s σ H D I h
 refine wpAny_execs_cons (thn (h1 pins s σ H {D with nx:=u D} I h) λf s1 q=> ?_)
 cases f with
  |next=>
   obtain ⟨σ',H',I',q⟩:=q
   exact h2 pins s1 σ' H' D I' q
  |ret v=>exact q
  |brk=>exact q
  |cont=>exact q
theorem Inv.quiet {pins:List (Addr×Obj)} {σ:St} {H:Hp} {s:Shared} (I:Inv X pins σ H s):interactive X.env=false:=by simp [interactive,I.ok.kind]
def zjo (te:TE):TS:=λD σ H=>te σ H λ_ H1=>D.nx σ H1
theorem zbJ (he:PE X e te) (hs:swapsWith e none pos.line X.env=pure false:=by rfl):PS X (.Expr e pos) (zjo te):=by
 intro pins s σ H D I h
 exact wpAny_Expr_any (thn (he pins s σ H _ I h) λv s1 ⟨x,H1,I1,r1,q1⟩=>⟨σ,H1,I1,q1⟩) I.quiet hs
def zmn (te:TE):TS:=λD σ H=>te σ H D.rt
theorem zaP (he:PE X e te):PS X (.Return (some e) pos) (zmn te):=by
 intro pins s σ H D I h
 exact wpAny_Return_some (thn (he pins s σ H _ I h) λv s1 ⟨x,H1,I1,r1,q1⟩=>⟨x,σ,H1,I1,r1,q1⟩)
def zrN (c:TT) (t u:TS):TS:=λD σ H=>c σ H λb H1=>if b=true then t D σ H1 else u D σ H1
theorem zbp {c:Expr} {a b:List Stmt} {tc:TT} (hc:PT X c tc) (ha:PSs X a t) (hb:PSs X b u):PS X (.If c a b pos) (zrN tc t u):=by
 intro pins s σ H D I h
 refine wpAny_If (thn (hc pins s σ H _ I h) λd s1 ⟨H1,I1,q1⟩=> ?_)
 cases d with
  |true=>exact ha pins s1 σ H1 D I1 q1
  |false=>exact hb pins s1 σ H1 D I1 q1
def zsw:TS:=λ_ _ _=>False
theorem zaB:PS X st zsw:=λ_ _ _ _ _ _ h=>h.elim
end
abbrev TG:=V->St->Hp->(St->Hp->Prop)->Prop
abbrev TGs:=List V->St->Hp->(St->Hp->Prop)->Prop
def PG (X:Cx) (target:Expr) (t:TG):Prop :=
 ∀(pins:List (Addr×Obj)) (s:Shared) (σ:St) (H:Hp) (v:V) (u:Value) (Q:St->Hp->Prop),Inv X pins σ H s->zde v u->t v σ H Q→wpAny (model X.prog X.w) X.A (assign target X.env u) (λ_ s'=>∃σ' H',Inv X pins σ' H' s'∧Q σ' H') X.xe s
def PGs (X:Cx) (ts:List Expr) (t:TGs):Prop :=
 ∀(pins:List (Addr×Obj)) (s:Shared) (σ:St) (H:Hp) (vs:List V) (us:List Value) (Q:St->Hp->Prop),Inv X pins σ H s->zbH vs us->t vs σ H Q→wpAny (model X.prog X.w) X.A (assignInOrder ((assignEach ts X.env).map (·.2)) us) (λ_ s'=>∃σ' H',Inv X pins σ' H' s'∧Q σ' H') X.xe s
abbrev zuA:=V->V->V->Hp->(Hp->Prop)->Prop
def zuP (X:Cx) (t:zuA):Prop :=
 ∀(pins:List (Addr×Obj)) (s:Shared) (σ:St) (H:Hp) (o i v:V) (ov iv u:Value) (Q:Hp->Prop),Inv X pins σ H s->zde o ov->zde i iv->zde v u->t o i v H Q→wpAny (model X.prog X.w) X.A (setItem ov iv u) (λ_ s'=>∃H',Inv X pins σ H' s'∧Q H') X.xe s
section
variable {X:Cx} {pos:Pos}
def zds (i:Nat):TG:=λv σ H Q=>Q (σ.set i (some v)) H
theorem zaQ {i:Nat} {x:Str} (hN:X.N.Nodup) (hi:X.N[i]?=some x) (hx:Loc X.env.scope x) (hf:X.fn x=true∨X.env.scope.names.lookup x=some .local:=by first | exact .inl rfl | exact .inr rfl | assumption):PG X (.Name x pos) (zds i):=by
 intro pins s σ H v u Q I r h
 exact wpAny_assign_Name (zli I hN hi hx r (λs' I'=>⟨_,H,I',h⟩) hf)
def zs3:TGs:=λvs σ H Q=>vs=[]∧Q σ H
def ziK (t:TG) (u:TGs):TGs:=λvs σ H Q=>∃v r,vs=v::r∧t v σ H λσ' H'=>u r σ' H' Q
theorem zd6:PGs X [] zs3:=by
 intro pins s σ H vs us Q I r h
 obtain ⟨e,h⟩:=h
 subst e
 cases r
 exact assignInOrder_nil ⟨σ,H,I,h⟩
theorem zbj {e:Expr} {es:List Expr} {t:TG} {u:TGs} (h1:PG X e t) (h2:PGs X es u)
  (hs:(assignEach (e::es) X.env).map (·.2)=assign e X.env::(assignEach es X.env).map (·.2):=by rfl):PGs X (e::es) (ziK t u):=by
   intro pins s σ H vs us Q I r h
   obtain ⟨v,vr,e1,h⟩:=h
   subst e1
   cases r with
    |cons r rr=>
     rw [hs]
     refine assignInOrder_cons (thn (h1 pins s σ H _ _ _ I r h) λ_ s1 ⟨σ1,H1,I1,q1⟩=> ?_)
     exact h2 pins s1 σ1 H1 _ _ Q I1 rr q1
def zrM (K:W.Frag) (n:Nat) (t:TGs):TG:=λv σ H Q=>∃a xs,v= .ref a∧SqT K H a xs∧xs.length=n∧t xs σ H Q
theorem zsB {es:List Expr} {k:Nat} {t:TGs} {n:Nat} (hc:X.calm=true) (h:PGs X es t)
  (hn:(assignEach es X.env).length=n:=by rfl) (hst:(assignEach es X.env).findIdx? (·.1)=none:=by rfl):PG X (.Tuple es k pos) (zrM X.K n t):=by
   intro pins s σ H v u Q I r hw
   obtain ⟨a,xs,e1,hq,hl,hw⟩:=hw
   subst e1
   cases r
   obtain ⟨its,rv,ht,hz⟩:=I.tuple hq
   refine assign_Tuple_tuple (I.ok.hd hc) ht (by simp [hn,←hl,rv.length]) hst λh' hx=> ?_
   have I1:Inv X pins σ H {s with heap:=h'}:=I.kept (t':=s.toks) λb o e=>hx b o (Nat.ne_of_lt (Heap.lt_size e)) e
   exact h pins _ σ H xs _ Q I1 (by simpa using rv) hw
def ztO (to ti:TE) (t:zuA):TG:=λv σ H Q=>to σ H λo H1=>ti σ H1 λi H2=>t o i v H2 λH3=>Q σ H3
theorem zpA {o i:Expr} {to ti:TE} {t:zuA} (ho:PE X o to) (hi:PE X i ti) (hs:zuP X t)
  (ha:∀v,assign (.Subscript o i pos) X.env v=(do
   let ov←holding [v] (eval o X.env)
   let iv←holding [v,ov] (eval i X.env)
   standAt pos
   holding [v,ov,iv] (setItem ov iv v)
   release [v,ov,iv] []):=by intro _;rfl):PG X (.Subscript o i pos) (ztO to ti t):=by
    intro pins s σ H v u Q I r h
    rw [ha]
    refine wpAny_bind (wpAny_holding (thn (ho pins s σ H _ I h) λov s1 ⟨x,H1,I1,r1,q1⟩=> ?_))
    refine wpAny_bind (wpAny_holding (thn (hi pins s1 σ H1 _ I1 q1) λiv s2 ⟨y,H2,I2,r2,q2⟩=> ?_))
    refine wpAny_bind (wpAny_standAt (wpAny_bind (wpAny_holding (thn (hs pins s2 σ H2 x y v ov iv u _ I2 r1 r2 r q2) λ_ s3 ⟨H3,I3,q3⟩=> ?_))))
    exact wpAny_release ⟨σ,H3,I3,q3⟩
def zl9 (te:TE) (g:TG):TS:=λD σ H=>te σ H λx H1=>g x σ H1 D.nx
theorem zpM {tg e:Expr} {te:TE} {g:TG} (he:PE X e te) (hg:PG X tg g) (hs:swapsWithSole [tg] e pos.line X.env=pure false:=by rfl) (hw:swappedStores [tg] e X.env=pure none:=by rfl)
  (h1:(assignEach [tg] X.env).map (·.2)=[assign tg X.env]:=by rfl):PS X (.Assign [tg] e pos) (zl9 te g):=by
   intro pins s σ H D I h
   refine wpAny_Assign_stores (thn (he pins s σ H _ I h) λv s1 ⟨x,H1,I1,r1,q1⟩=> ?_) hs hw
   rw [h1]
   exact thn (hg pins s1 σ H1 x v _ I1 r1 q1) λ_ s2 q=>q
theorem zax {i:Nat} {x:Str} {e:Expr} {te:TE} {pos':Pos} (hN:X.N.Nodup) (hi:X.N[i]?=some x) (hx:Loc X.env.scope x) (he:PE X e te) (hs:swapsWith e (some (.Name x pos')) pos.line X.env=pure false:=by rfl) (hf:X.fn x=true∨X.env.scope.names.lookup x=some .local:=by first | exact .inl rfl | exact .inr rfl | assumption) :
  PS X (.Assign [.Name x pos'] e pos) (zl9 te (zds i)):=by
   intro pins s σ H D I h
   refine wpAny_Assign_Name (thn (he pins s σ H _ I h) λv s1 ⟨y,H1,I1,r1,q1⟩=> ?_) hs
   exact zli I1 hN hi hx r1 (λs2 I2=>⟨_,H1,I2,q1⟩) hf
end
section
variable {X:Cx} {pos:Pos}
def zpK (c:TT) (tb:TS):TS:=λD σ H=>∃W:Nat->St->Hp->Prop,(∃m,W m σ H)∧∀m σ H,W m σ H→c σ H λb H1=>if b=true then∃N:St->Hp->Prop,(∀σ' H',N σ' H'->∃m',m'<m∧W m' σ' H')∧tb {D with nx:=N,ct:=N,bk:=D.nx} σ H1 else D.nx σ H1
theorem zpd {c:Expr} {body:List Stmt} {tc:TT} {tb:TS} (hp:PassesOwn (model X.prog X.w) X.A X.env X.xe) (hc:PT X c tc) (hb:PSs X body tb):PS X (.While c body [] pos) (zpK tc tb):=by
 intro pins s σ H D I h
 obtain ⟨W,⟨m0,w0⟩,turn⟩:=h
 refine wpAny_While (codeAny_whileLoop (λn s'=>∃σ' H',Inv X pins σ' H' s'∧W n σ' H') ?_ m0 ⟨σ,H,I,w0⟩)
 rintro n s1 ⟨σ1,H1,I1,w1⟩
 refine wpAny_passesOwn hp (thn (hc pins s1 σ1 H1 _ I1 (turn n σ1 H1 w1)) λb s2 ⟨H2,I2,q2⟩=> ?_)
 cases b with
  |true=>
   obtain ⟨N,hN,q2⟩:=q2
   rw [if_pos rfl]
   refine wpAny_passesOwn hp (thn (hb pins s2 σ1 H2 _ I2 q2) λf s3 q3=> ?_)
   cases f with
    |next=>
     obtain ⟨σ3,H3,I3,n3⟩:=q3
     obtain ⟨m',hm,w3⟩:=hN σ3 H3 n3
     exact ⟨m',hm,σ3,H3,I3,w3⟩
    |cont=>
     obtain ⟨σ3,H3,I3,n3⟩:=q3
     obtain ⟨m',hm,w3⟩:=hN σ3 H3 n3
     exact ⟨m',hm,σ3,H3,I3,w3⟩
    |brk=>exact q3
    |ret v=>exact q3
  |false=>
   rw [if_neg Bool.false_ne_true]
   exact wpAny_execs_nil ⟨σ1,H2,I2,q2⟩
end
structure It where
 go:Nat->Hp->Prop
 yld:Nat->Hp->V->Hp->Prop
 stop:Nat->Hp->Prop
def zlK (X:Cx) (pins:List (Addr×Obj)) (H:Hp) (b:Addr):Prop :=
 H b=none∧b≠X.env.locals∧b∉X.fs∧(b∈X.ex∨X.s₀.heap.objs.size≤b)∧(∀x c,X.env.cells.lookup x=some c->c≠b)∧∀p∈X.pn++pins,p.1≠b
theorem Inv.fpOk {X:Cx} {pins:List (Addr×Obj)} {σ:St} {H H':Hp} {s:Shared} {b:Addr} (I:Inv X pins σ H s) (hb:s.heap.objs.size≤b) (hn:H' b=none):zlK X pins H' b:=by
 refine ⟨hn,Nat.ne_of_gt (Nat.lt_of_lt_of_le I.lt hb),I.nofs hb,.inr (Nat.le_trans I.sz hb),λx c e z=> ?_,λp hp z=> ?_⟩
 ·
  obtain ⟨v,q⟩:=I.cell x c e
  exact absurd (Nat.lt_of_lt_of_le q.lt (by rw [z];exact hb)) (Nat.lt_irrefl _)
 ·exact absurd (Nat.lt_of_lt_of_le (Heap.lt_size (I.pin p hp).1) (by rw [z];exact hb)) (Nat.lt_irrefl _)
structure Turn (P:Program) (w:World) (K:W.Frag) (tg:Expr) (J:It) (fp:List Addr) (it:Addr) (tn:Nat->Heap->Prop):Prop where
 mem:it∈fp
 obj:∀ i h,tn i h->∀ b∈fp,∃ o,h.get? b=some o∧∀ v,o.data≠.cell v
 keep:∀ i h h',tn i h->(∀ b∈fp,∀ o,h.get? b=some o->h'.get? b=some o)->tn i h'
 item:∀ (X:Cx),X.prog=P->X.w=w->X.K=K->X.calm=true->∀ (i:Nat) (pins:List (Addr×Obj)) (s:Shared) (σ:St) (H:Hp) (E:Value->Shared->Prop),Inv X pins σ H s->(∀ b∈fp,zlK X pins H b)->tn i s.heap->J.go i H →
  wpAny (model P w) X.A (pyNext (.ref it)) (λr s1=>∃ u,r=some u ∧
   wpAny (model P w) X.A (letOwnedTupleGo tg (.ref it) u) (λ_ s2=>∃ x H',Inv X pins σ H' s2∧zde x u∧J.yld i H x H'∧tn (i+1) s2.heap∧∀ b∈fp,H' b=none) E s1) E s
 done:∀ (X:Cx),X.prog=P->X.w=w->X.K=K->X.calm=true->∀ (i:Nat) (pins:List (Addr×Obj)) (s:Shared) (σ:St) (H:Hp) (E:Value->Shared->Prop),Inv X pins σ H s->(∀ b∈fp,zlK X pins H b)->tn i s.heap->J.stop i H →
  wpAny (model P w) X.A (pyNext (.ref it)) (λr s1=>r=none∧Inv X pins σ H s1) E s
 self:∀ (A:Around) (i:Nat) (s:Shared) (Q:Value->Shared->Prop) (E:Value->Shared->Prop),tn i s.heap->Q (.ref it) s->wpAny (model P w) A (pyIter (.ref it)) Q E s
abbrev TI:=St->Hp->(It->Hp->Prop)->Prop
def PIE (X:Cx) (pins:List (Addr×Obj)) (σ:St) (tg:Expr) (R:It->Hp->Prop) (itv:Value) (s2:Shared):Prop :=
 ∃(it:Addr) (fp:List Addr) (tn:Nat->Heap->Prop) (J:It) (H':Hp),itv= .ref it∧Inv X pins σ H' s2∧Turn X.prog X.w X.K tg J fp it tn∧tn 0 s2.heap∧(∀b∈fp,zlK X pins H' b)∧R J H'
def PI (X:Cx) (tg iter:Expr) (wi:TI):Prop :=
 ∀(pins:List (Addr×Obj)) (s:Shared) (σ:St) (H:Hp) (R:It->Hp->Prop),Inv X pins σ H s->wi σ H R→wpAny (model X.prog X.w) X.A (eval iter X.env) (λv s1=>wpAny (model X.prog X.w) X.A (pyIter v) (PIE X pins σ tg R) X.xe s1) X.xe s
theorem zoZ {M:Model} {A:Around} {E:Value->Shared->Prop} {s:Shared} {tg:Expr} {it:Addr} {u:Value} {o:Obj} {n:String} {vs:Array Value} {Q:Unit->Shared->Prop} (ho:s.heap.get? it=some o) (hc:o.cls=.type n) (hd:o.data= .fields vs)
  (hn:["enumerate","zip","dict_itemiterator","dict_reverseitemiterator","odict_iterator","itertools.zip_longest","itertools.pairwise"].contains n=false) (hQ:Q () s):wpAny M A (letOwnedTupleGo tg (.ref it) u) Q E s:=by
   unfold letOwnedTupleGo
   cases tg<;>first
    |exact wpAny_pure hQ
    |
     (
      cases u<;>first
       |exact wpAny_pure hQ
       |
        (
         refine wpAny_bind (wpAny_load ho ?_)
         rw [hc,hd]
         show wpAny M A (if (["enumerate","zip","dict_itemiterator","dict_reverseitemiterator","odict_iterator","itertools.zip_longest","itertools.pairwise"].contains n && vs[0]? ==some (rawInt _))=true then _ else _) Q E s
         rw [if_neg (by intro h;rw [hn,Bool.false_and] at h;cases h)]
         exact wpAny_pure hQ))
def Itl (K:W.Frag) (a:Addr):It :=
 ⟨λi H=>∃xs x,SqL K H a xs∧xs[i]? =some x,λi H x H'=>H'=H∧∀xs,SqL K H a xs->xs[i]? =some x,λi H=>∃xs,SqL K H a xs∧xs.length≤i⟩
def Itr (lo:Int) (n:Nat):It:=⟨λi _=>i<n,λi H x H'=>H'=H∧x= .int (lo+i),λi _=>n≤i⟩
theorem zm8 {P:Program} {w:World} {K:W.Frag} {tg:Expr} (a it:Addr):Turn P w K tg (Itl K a) [it] it (λi h=>h.IsListIter it a i) where
 mem:=by simp
 obj:=λi h st b hb=>by
  have e:b=it:=by simpa using hb
  subst e
  obtain ⟨o,e,c,d⟩:=st
  exact ⟨o,e,λv z=>by rw [d] at z;cases z⟩
 keep:=λi h h' st k=>st.at λo e=>k it (by simp) o e
 item:=by
  intro X hP hw hK hc i pins s σ H E I hf st hg
  subst hP hw hK
  obtain ⟨xs,x,hq,hx⟩:=hg
  obtain ⟨its,rv,p,hz⟩:=I.list hq
  obtain ⟨u,hu,ru⟩:=rv.get hx
  obtain ⟨f0,f1,f2,f3,f4,f5⟩:=hf it (by simp)
  refine wpAny_pyNext_list_item st p.isList (x:=u) (by simpa using hu) λh' st' sb=>?_
  have I1:Inv X pins σ H { s with heap:=h' }:=I.turned (t':=s.toks) (λb o hb e=>(sb.2 b hb).trans e) f0 f1 f3 f4 f5
  obtain ⟨o,e,c,d⟩:=id st'
  exact ⟨u,rfl,zoZ (s:={ s with heap:=h' }) e c d (by decide) ⟨x,H,I1,ru,⟨rfl,λys hy=>by rw [I.list_inj hy hq];exact hx⟩,st',λb hb=>(hf b hb).1⟩⟩
 done:=by
  intro X hP hw hK hc i pins s σ H E I hf st hg
  subst hP hw hK
  obtain ⟨xs,hq,hx⟩:=hg
  obtain ⟨its,rv,p,hz⟩:=I.list hq
  obtain ⟨f0,f1,f2,f3,f4,f5⟩:=hf it (by simp)
  have hl:=rv.length
  exact wpAny_pyNext_list_end (I.ok.hd hc) st p.isList (by simp;omega) λh' eb=>⟨rfl,I.turned (t':=s.toks) (λb o hb e=>eb b o hb e) f0 f1 f3 f4 f5⟩
 self:=λ_ _ _ _ _ st h=>wpAny_pyIter_listiter st h
theorem zmd {P:Program} {w:World} {K:W.Frag} {tg:Expr} (it:Addr) (lo:Int) (n:Nat):Turn P w K tg (Itr lo n) [it] it (λi h=>IsRangeIter h it (lo+(i:Nat)*1) ((n:Int)-(i:Nat)) 1) where
 mem:=by simp
 obj:=λi h st b hb=>by
  have e:b=it:=by simpa using hb
  subst e
  exact ⟨_,st,λv z=>by
   have z':Data.fields _=Data.cell v:=z
   cases z'⟩
 keep:=λi h h' st k=>k it (by simp) _ st
 item:=by
  intro X hP hw hK hc i pins s σ H E I hf st hg
  subst hP hw hK
  obtain ⟨f0,f1,f2,f3,f4,f5⟩:=hf it (by simp)
  have W:=Walks.range (prog:=X.prog) (w:=X.w) (I.ok.hd hc) it lo 1 n
  refine W.item i s _ _ hg st λv h' tk hv st' kk=>?_
  obtain ⟨t,rfl⟩:=hv
  have I1:Inv X pins σ H { s with heap:=h',toks:=tk }:=I.turned (λb o hb e=>kk b o (by simpa using hb) e) f0 f1 f3 f4 f5
  refine ⟨_,rfl,zoZ (s:={ s with heap:=h',toks:=tk }) (n:="range_iterator") st' rfl rfl (by decide) ⟨.int (lo+i),H,I1,⟨t,?_⟩,⟨rfl,rfl⟩,st',λb hb=>(hf b hb).1⟩⟩
  rw [Int.mul_one]
 done:=by
  intro X hP hw hK hc i pins s σ H E I hf st hg
  subst hP hw hK
  obtain ⟨f0,f1,f2,f3,f4,f5⟩:=hf it (by simp)
  exact wpAny_pyNext_range_end (I.ok.hd hc) st (by have:n≤i:=hg;omega) λh' eb=>⟨rfl,I.turned (t':=s.toks) (λb o hb e=>eb b o hb e) f0 f1 f3 f4 f5⟩
 self:=λ_ _ _ _ _ st h=>wpAny_pyIter_rangeiter st h
end L2
namespace L2
open PySem PySem.Spec PyProof.Rows
section
variable {X:Cx} {tg:Expr}
def zo2 (K:W.Frag) (tl:TE):TI:=λσ H R=>tl σ H λx H1=>∃a,x= .ref a∧(∃xs,SqL K H1 a xs)∧R (Itl K a) H1
theorem zqr {l:Expr} {tl:TE} (hl:PE X l tl):PI X tg l (zo2 X.K tl):=by
 intro pins s σ H R I h
 refine thn (hl pins s σ H _ I h) λv s1 ⟨x,H1,I1,r1,q1⟩=> ?_
 obtain ⟨a,e,⟨xs,hq⟩,q⟩:=q1
 subst e
 cases r1
 obtain ⟨its,rv,p,hz⟩:=I1.list hq
 refine wpAny_pyIter_list p.isList ?_
 refine ⟨s1.heap.objs.size,[s1.heap.objs.size],_,_,H1,rfl,I1.kept (t':=s1.toks) λb o e=>Heap.get?_push_of_some _ e,zm8 a _,⟨_,Heap.get?_push_size _ rfl,rfl,rfl⟩,λb hb=> ?_,q⟩
 have e:b=s1.heap.objs.size:=by simpa using hb
 subst e
 exact I1.fpOk (Nat.le_refl _) (I1.hok.fresh (Nat.le_refl _))
theorem zot {pins:List (Addr×Obj)} {σ:St} {H:Hp} {s:Shared} {R:It->Hp->Prop} {E:Value->Shared->Prop} {lo hi:Int} {t u v:Tok} {tk:Nat} (I:Inv X pins σ H s) (h1:-(2^62)≤lo) (h2:lo<2^62) (h3:-(2^62)≤hi) (h4:hi<2^62)
  (q:R (Itr lo (hi-lo).toNat) H):wpAny (model X.prog X.w) X.A (pyIter (.ref s.heap.objs.size)) (PIE X pins σ tg R) E {s with heap:=s.heap.push {cls:= .type "range",data:= .fields #[.int lo t,.int hi u,.int 1 v]},toks:=tk}:=by
   refine wpAny_pyIter_range (IsRange.new ..) (small_one h1 h2 h3 h4) ?_
   have I1:Inv X pins σ H {s with heap:=s.heap.push {cls:= .type "range",data:= .fields #[.int lo t,.int hi u,.int 1 v]},toks:=tk}:=I.kept λb o e=>Heap.get?_push_of_some _ e
   refine ⟨(s.heap.push {cls:= .type "range",data:= .fields #[.int lo t,.int hi u,.int 1 v]}).objs.size,[(s.heap.push {cls:= .type "range",data:= .fields #[.int lo t,.int hi u,.int 1 v]}).objs.size],_,_,H,rfl,I1.kept (t':=tk) λb o e=>Heap.get?_push_of_some _ e,zmd _ lo (hi-lo).toNat,?_,λb hb=> ?_,q⟩
   ·
    have e1:lo+((0:Nat):Int)*1=lo:=by simp
    have e2:(((hi-lo).toNat:Nat):Int)-((0:Nat):Int)=Builtin.Range.rangeSize lo hi 1:=by rw [rangeSize_one];split<;>omega
    show IsRangeIter _ _ (lo+((0:Nat):Int)*1) ((((hi-lo).toNat:Nat):Int)-((0:Nat):Int)) 1
    rw [e1,e2]
    exact Heap.get?_push_size _ rfl
   ·
    have e:b=(s.heap.push {cls:= .type "range",data:= .fields #[.int lo t,.int hi u,.int 1 v]}).objs.size:=by simpa using hb
    subst e
    exact I1.fpOk (Nat.le_refl _) (I1.hok.fresh (Nat.le_refl _))
def zsd (ta:TA):TI:=λσ H R=>ta σ H λvs H1=>∃j:Int,vs=[.int j]∧ -(2 ^ 62)≤j∧j<2 ^ 62∧R (Itr 0 j.toNat) H1
theorem zeW {a:Expr} {ta:TA} {p pos:Pos} (hg:Gl X "range") (hm:X.mg "range" =none) (ha:PA X [a] ta) (hs:starEach [a] X.env=[(false,eval a X.env)]:=by rfl):PI X tg (.Call (.Name "range" p) [a] [] pos) (zsd ta):=by
 intro pins s σ H R I h
 refine Call_ (zgn I hg hm boot_range (PyProof.Rows.callWith_type1 (thn (ha pos pins s σ H _ I h) λus s1 ⟨vs,H1,I1,r1,q1⟩=> ?_) hs rfl))
 obtain ⟨j,e,q1,q2,q⟩:=q1
 subst e
 cases r1 with
  |cons r rr=>
   cases rr
   obtain ⟨t,rfl⟩:=r
   exact call_range_1 (zot I1 (by omega) (by omega) q1 q2 (by simpa using q))
def zsE (wi:TI) (g:TG) (tb:TS):TS:=λD σ H=>wi σ H λJ H1=>∃W:Nat->Nat->St->Hp->Prop,(∃m,W 0 m σ H1)∧∀i m σ H,W i m σ H→(J.stop i H∧D.nx σ H)∨(J.go i H∧∃N:St->Hp->Prop,(∀σ' H',N σ' H'->∃m',m'<m∧W (i+1) m' σ' H')∧∀x H',J.yld i H x H'->g x σ H' λσ2 H2=>tb {D with nx:=N,ct:=N,bk:=D.nx} σ2 H2)
def zjK (fp:List Addr) (h:Heap):List (Addr×Obj):=fp.filterMap λb=>(h.get? b).map λo=>(b,o)
theorem ze0 {fp:List Addr} {h:Heap} {b:Addr} {o:Obj} (hb:b∈fp) (e:h.get? b=some o):(b,o)∈zjK fp h:=List.mem_filterMap.mpr ⟨b,hb,by rw [e];rfl⟩
theorem znx {fp:List Addr} {h:Heap} {p:Addr×Obj} (hp:p∈zjK fp h):p.1∈fp∧h.get? p.1=some p.2:=by
 obtain ⟨b,hb,e⟩:=List.mem_filterMap.mp hp
 cases q:h.get? b with
  |none=>rw [q] at e;cases e
  |some o=>
   rw [q] at e
   have e':(b,o)=p:=Option.some.inj e
   subst e'
   exact ⟨hb,q⟩
theorem Inv.pinned {pins:List (Addr×Obj)} {σ:St} {H:Hp} {s:Shared} {fp:List Addr} (I:Inv X pins σ H s) (hf:∀b∈fp,zlK X pins H b) (ho:∀b∈fp,∃o,s.heap.get? b=some o∧∀v,o.data≠ .cell v):Inv X (pins++zjK fp s.heap) σ H s :=
 I.pins_of λp hp=>(List.mem_append.mp hp).elim (λz=>I.pin p (List.mem_append_right _ z)) λz=>by
  obtain ⟨hb,e⟩:=znx z
  obtain ⟨f0,f1,f2,_⟩:=hf p.1 hb
  obtain ⟨o,e',d⟩:=ho p.1 hb
  rw [e] at e';
  cases e'
  exact ⟨e,f0,f1,f2,d⟩
theorem Inv.unpinned {pins pl:List (Addr×Obj)} {σ:St} {H:Hp} {s:Shared} (I:Inv X (pins++pl) σ H s):Inv X pins σ H s:=I.pins_of λp hp=>I.pin p (List.mem_append_right _ (List.mem_append_left _ hp))
theorem zdo {iter:Expr} {body:List Stmt} {wi:TI} {g:TG} {tb:TS} {pos:Pos} (hp:PassesOwn (model X.prog X.w) X.A X.env X.xe) (hc:X.calm=true) (hi:PI X tg iter wi) (hg:PG X tg g) (hb:PSs X body tb)
  (hs:∀x,foldedSetIterable iter X.env x=pure x:=by intro _;rfl):PS X (.For tg iter body [] pos) (zsE wi g tb):=by
   intro pins s σ H D I h
   refine wpAny_For (thn (hi pins s σ H _ I h) λv s1 h1=>thn h1 λitv s2 h2=> ?_) hs
   obtain ⟨it,fp,tn,J,H2,e,I2,T,st2,f2,W,⟨m0,w0⟩,turn⟩:=h2
   subst e
   have stat:∀ {H':Hp},(∀b∈fp,H' b=none)->∀b∈fp,zlK X pins H' b:=λhn b hb=>⟨hn b hb,(f2 b hb).2⟩
   refine codeAny_forLoop_any (λn s'=>∃i σ' H',Inv X pins σ' H' s'∧tn i s'.heap∧(∀b∈fp,H' b=none)∧W i n σ' H') ?_ m0 ⟨0,σ,H2,I2,st2,λb hb=>(f2 b hb).1,w0⟩
   rintro n s3 ⟨i,σ3,H3,I3,st3,fr3,w3⟩
   rcases turn i n σ3 H3 w3 with ⟨stop,qn⟩|⟨go,N,hN,step⟩
   ·
    refine wpAny_passesOwn hp (thn (T.done X rfl rfl rfl hc i pins s3 σ3 H3 X.xe I3 (stat fr3) st3 stop) λr s4 ⟨hr,I4⟩=> ?_)
    subst hr
    exact wpAny_execs_nil ⟨σ3,H3,I4,qn⟩
   ·
    refine wpAny_passesOwn hp (thn (T.item X rfl rfl rfl hc i pins s3 σ3 H3 X.xe I3 (stat fr3) st3 go) λr s4 ⟨u,hr,h4⟩=> ?_)
    subst hr
    refine wpAny_passesOwn hp (thn h4 λ_ s5 ⟨x,H5,I5,r5,y5,st5,fr5⟩=> ?_)
    have I5':=I5.pinned (stat fr5) (T.obj _ _ st5)
    refine wpAny_passesOwn hp (thn (hg _ s5 σ3 H5 x u _ I5' r5 (step x H5 y5)) λ_ s6 ⟨σ6,H6,I6,q6⟩=> ?_)
    refine wpAny_passesOwn hp (thn (hb _ s6 σ6 H6 _ I6 q6) λf s7 q7=> ?_)
    have again:∀ {σ7:St} {H7:Hp},Inv X (pins++zjK fp s5.heap) σ7 H7 s7->N σ7 H7->∃m,m<n∧∃i σ' H',Inv X pins σ' H' s7∧tn i s7.heap∧(∀b∈fp,H' b=none)∧W i m σ' H':=λ {σ7 H7} I7 n7=>by
     obtain ⟨m',hm,w7⟩:=hN σ7 H7 n7
     refine ⟨m',hm,i+1,σ7,H7,I7.unpinned,T.keep _ _ _ st5 λb hb o e=>(I7.pin (b,o) (List.mem_append_right _ (List.mem_append_right _ (ze0 hb e)))).1,λb hb=> ?_,w7⟩
     obtain ⟨o,e,d⟩:=T.obj _ _ st5 b hb
     exact (I7.pin (b,o) (List.mem_append_right _ (List.mem_append_right _ (ze0 hb e)))).2.1
    cases f with
     |next=>obtain ⟨σ7,H7,I7,n7⟩:=q7;exact again I7 n7
     |cont=>obtain ⟨σ7,H7,I7,n7⟩:=q7;exact again I7 n7
     |brk=>obtain ⟨σ7,H7,I7,q7⟩:=q7;exact ⟨σ7,H7,I7.unpinned,q7⟩
     |ret v=>obtain ⟨x7,σ7,H7,I7,r7,q7⟩:=q7;exact ⟨x7,σ7,H7,I7.unpinned,r7,q7⟩
end
end L2
namespace L2
open PySem PySem.Spec PyProof.Rows
abbrev R2:=V->V->Hp->VK->Prop
def OpR (X:Cx) (f:Value->Value->Sem Value) (r:R2):Prop :=
 ∀(pins:List (Addr×Obj)) (s:Shared) (σ:St) (H:Hp) (x y:V) (v u:Value) (Q:VK),Inv X pins σ H s->zde x v->zde y u->r x y H Q→wpAny (model X.prog X.w) X.A (f v u) (EP X pins σ Q) X.xe s
def UnR (X:Cx) (f:Value->Sem Value) (r:V->Hp->VK->Prop):Prop :=
 ∀(pins:List (Addr×Obj)) (s:Shared) (σ:St) (H:Hp) (x:V) (v:Value) (Q:VK),Inv X pins σ H s->zde x v->r x H Q→wpAny (model X.prog X.w) X.A (f v) (EP X pins σ Q) X.xe s
def zeG (X:Cx) (f:Value) (r:List V->Hp->VK->Prop):Prop :=
 ∀(pins:List (Addr×Obj)) (s:Shared) (σ:St) (H:Hp) (xs:List V) (us:List Value) (Q:VK),Inv X pins σ H s->zbH xs us->r xs H Q→wpAny (model X.prog X.w) X.A (call f us) (EP X pins σ Q) X.xe s
def tOp (r:R2) (ta tb:TE):TE:=λσ H Q=>ta σ H λx H1=>tb σ H1 λy H2=>r x y H2 Q
def tUn (r:V->Hp->VK->Prop) (ta:TE):TE:=λσ H Q=>ta σ H λx H1=>r x H1 Q
def rI (C:Int->Int->Prop) (g:Int->Int->V):R2:=λx y H Q=>∃i j,x= .int i∧y= .int j∧C i j∧Q (g i j) H
def rI0 (g:Int->Int->V):R2:=λx y H Q=>∃i j,x= .int i∧y= .int j∧Q (g i j) H
def rU (g:Int->V):V->Hp->VK->Prop:=λx H Q=>∃i,x= .int i∧Q (g i) H
section
variable {X:Cx} {a b c:Expr} {ta tb tc:TE} {pos:Pos}
theorem zus (ha:PE X a ta) (hb:PE X b tb) {pins:List (Addr×Obj)} {s:Shared} {σ:St} {H:Hp} {R:V->V->Hp->Prop} (I:Inv X pins σ H s)
  (h:ta σ H λx H1=>tb σ H1 λy H2=>R x y H2) {Q:Value->Shared->Prop} {f:Value->Value->Sem Value}
  (hf:∀v u s2 x y H2,Inv X pins σ H2 s2->zde x v->zde y u->R x y H2->wpAny (model X.prog X.w) X.A (f v u) Q X.xe s2) :
  wpAny (model X.prog X.w) X.A (eval a X.env) (λv s₁=>wpAny (model X.prog X.w) X.A (eval b X.env) (λu s₂=>wpAny (model X.prog X.w) X.A (f v u) Q X.xe s₂) X.xe s₁) X.xe s:=by
   refine thn (ha pins s σ H _ I h) λv s1 ⟨x,H1,I1,r1,q1⟩=> ?_
   refine thn (hb pins s1 σ H1 _ I1 q1) λu s2 ⟨y,H2,I2,r2,q2⟩=> ?_
   exact hf v u s2 x y H2 I2 r1 r2 q2
theorem zaE {op:Operator} {r:R2} (ho:OpR X (binaryOp op) r) (ha:PE X a ta) (hb:PE X b tb):PE X (.BinOp a op b pos) (tOp r ta tb):=by
 intro pins s σ H Q I h
 exact wpAny_BinOp (zus ha hb I h λv u s2 x y H2 I2 rx ry q=>ho pins s2 σ H2 x y v u Q I2 rx ry q)
theorem zom {op:UnaryOp} {r:V->Hp->VK->Prop} (ho:UnR X (unaryOp op) r) (ha:PE X a ta):PE X (.UnaryOp op a pos) (tUn r ta):=by
 intro pins s σ H Q I h
 exact UnaryOp_ (thn (ha pins s σ H _ I h) λv s1 ⟨x,H1,I1,r1,q1⟩=>ho pins s1 σ H1 x v Q I1 r1 q1)
theorem opI {f:Value->Value->Sem Value} {C:Int->Int->Prop} {g:Int->Int->Int}
  (rule:∀(i j:Int) (t u:Tok) (s:Shared) (Q:Value->Shared->Prop) (E:Value->Shared->Prop),C i j->Q (.int (g i j) s.toks) {s with toks:=s.toks+1}->wpAny (model X.prog X.w) X.A (f (.int i t) (.int j u)) Q E s) :
  OpR X f (rI C λi j=> .int (g i j)):=by
   intro pins s σ H x y v u Q I rx ry h
   obtain ⟨i,j,rfl,rfl,hc,q⟩:=h
   obtain ⟨t,rfl⟩:=rx
   obtain ⟨t',rfl⟩:=ry
   exact rule i j t t' s _ _ hc ⟨.int (g i j),H,I.tok _,⟨_,rfl⟩,q⟩
theorem zuJ {f:Value->Value->Sem Value} {g:Int->Int->Int}
  (rule:∀(i j:Int) (t u:Tok) (s:Shared) (Q:Value->Shared->Prop) (E:Value->Shared->Prop),Q (.int (g i j) s.toks) {s with toks:=s.toks+1}->wpAny (model X.prog X.w) X.A (f (.int i t) (.int j u)) Q E s) :
  OpR X f (rI0 λi j=> .int (g i j)):=by
   intro pins s σ H x y v u Q I rx ry h
   obtain ⟨i,j,rfl,rfl,q⟩:=h
   obtain ⟨t,rfl⟩:=rx
   obtain ⟨t',rfl⟩:=ry
   exact rule i j t t' s _ _ ⟨.int (g i j),H,I.tok _,⟨_,rfl⟩,q⟩
theorem ztF {f:Value->Value->Sem Value} {g:Int->Int->Bool}
  (rule:∀(i j:Int) (t u:Tok) (s:Shared) (Q:Value->Shared->Prop) (E:Value->Shared->Prop),Q (.bool (g i j)) s->wpAny (model X.prog X.w) X.A (f (.int i t) (.int j u)) Q E s) :
  OpR X f (rI0 λi j=> .bl (g i j)):=by
   intro pins s σ H x y v u Q I rx ry h
   obtain ⟨i,j,rfl,rfl,q⟩:=h
   obtain ⟨t,rfl⟩:=rx
   obtain ⟨t',rfl⟩:=ry
   exact rule i j t t' s _ _ ⟨.bl (g i j),H,I,rfl,q⟩
theorem zdn:OpR X (binaryOp .Add) (rI0 λi j=> .int (i+j)):=zuJ λ_ _ _ _ _ _ _ q=>add_int q
theorem zeB:OpR X (binaryOp .Sub) (rI0 λi j=> .int (i-j)):=zuJ λ_ _ _ _ _ _ _ q=>sub_int q
theorem zdh:OpR X (binaryOp .Mod) (rI (λ_ j=>0<j) λi j=> .int (i%j)):=opI λi j _ _ _ _ _ hc q=>by
 have h1:(0:Int)<j:=hc
 exact mod_int' (by omega) (by rw [Int.fmod_eq_emod_of_nonneg i (by omega)];exact q)
theorem unI {f:Value->Sem Value} {g:Int->Int}
  (rule:∀(i:Int) (t:Tok) (s:Shared) (Q:Value->Shared->Prop) (E:Value->Shared->Prop),Q (.int (g i) s.toks) {s with toks:=s.toks+1}->wpAny (model X.prog X.w) X.A (f (.int i t)) Q E s) :
  UnR X f (rU λi=> .int (g i)):=by
   intro pins s σ H x v Q I rx h
   obtain ⟨i,rfl,q⟩:=h
   obtain ⟨t,rfl⟩:=rx
   exact rule i t s _ _ ⟨.int (g i),H,I.tok _,⟨_,rfl⟩,q⟩
theorem zk6:UnR X (unaryOp .USub) (rU λi=> .int (-i)):=unI λ_ _ _ _ _ q=>neg_int q
end
def scal:V->V->Bool
 | .non,.non=>true | .non,.int _=>true | .int _,.non=>true | .non,.bl _=>true | .bl _,.non=>true | .non,.str _=>true | .str _,.non=>true
 | .int _,.int _=>true | .bl _,.bl _=>true | .str _,.str _=>true | .byt _,.byt _=>true
 | .int _,.str _=>true | .str _,.int _=>true | .bl _,.str _=>true | .str _,.bl _=>true
 | _,_=>false
def rEq:R2:=λx y H Q=>scal x y=true∧Q (.bl (decide (x=y))) H
def rNe:R2:=λx y H Q=>scal x y=true∧Q (.bl (!decide (x=y))) H
theorem zmC {i j:Int}:decide (V.int i=V.int j)=(i==j):=by
 rw [Bool.eq_iff_iff]
 simp
theorem zpN {i j:Bool}:decide (V.bl i=V.bl j)=(i==j):=by
 rw [Bool.eq_iff_iff]
 simp
theorem znS {i j:Str}:decide (V.str i=V.str j)=(i==j):=by
 rw [Bool.eq_iff_iff]
 simp
theorem znj {i j:Array UInt8}:decide (V.byt i=V.byt j)=(i.toList==j.toList):=by
 rw [Bool.eq_iff_iff]
 cases i
 cases j
 simp
section
variable {X:Cx} {a b c:Expr} {ta tb tc:TE} {pos:Pos}
theorem zbr {pins:List (Addr×Obj)} {σ:St} {H:Hp} {s:Shared} {Q:VK} {k k':Bool} (I:Inv X pins σ H s) (q:Q (.bl k) H) (e:k=k'):EP X pins σ Q (.bool k') s:=by
 subst e
 exact ⟨.bl k,H,I,rfl,q⟩
theorem zdO:OpR X (compareOp .Eq) rEq:=by
 intro pins s σ H x y v u Q I rx ry h
 obtain ⟨hs,q⟩:=h
 cases x with
  |non=>
   cases rx
   cases y with
    |non=>cases ry;exact PySem.EqNone.eq_none_none (zbr I q (by simp))
    |bl j=>cases ry;exact PySem.EqNone.eq_none_bool (zbr I q (by simp))
    |int j=>obtain ⟨t',rfl⟩:=ry;exact PySem.EqNone.eq_none_int (zbr I q (by simp))
    |str j=>obtain ⟨t',rfl⟩:=ry;exact PySem.EqNone.eq_none_str (zbr I q (by simp))
    |_=>exact absurd (show false=true from hs) Bool.false_ne_true
  |bl i=>
   cases rx
   cases y with
    |non=>cases ry;exact PySem.EqNone.eq_bool_none (zbr I q (by simp))
    |bl j=>cases ry;exact eq_bool (zbr I q zpN)
    |str j=>obtain ⟨t',rfl⟩:=ry;exact PySem.EqMixed.eq_bool_str (zbr I q (by simp))
    |_=>exact absurd (show false=true from hs) Bool.false_ne_true
  |int i=>
   obtain ⟨t,rfl⟩:=rx
   cases y with
    |non=>cases ry;exact PySem.EqNone.eq_int_none (zbr I q (by simp))
    |int j=>obtain ⟨t',rfl⟩:=ry;exact eq_int (zbr I q zmC)
    |str j=>obtain ⟨t',rfl⟩:=ry;exact PySem.EqMixed.eq_int_str (zbr I q (by simp))
    |_=>exact absurd (show false=true from hs) Bool.false_ne_true
  |str i=>
   obtain ⟨t,rfl⟩:=rx
   cases y with
    |non=>cases ry;exact PySem.EqNone.eq_str_none (zbr I q (by simp))
    |bl j=>cases ry;exact PySem.EqMixed.eq_str_bool (zbr I q (by simp))
    |int j=>obtain ⟨t',rfl⟩:=ry;exact PySem.EqMixed.eq_str_int (zbr I q (by simp))
    |str j=>obtain ⟨t',rfl⟩:=ry;exact eq_str (zbr I q znS)
    |_=>exact absurd (show false=true from hs) Bool.false_ne_true
  |byt i=>
   obtain ⟨t,rfl⟩:=rx
   cases y with
    |byt j=>obtain ⟨t',rfl⟩:=ry;exact W.eq_bytes (zbr I q znj)
    |_=>exact absurd (show false=true from hs) Bool.false_ne_true
  |_=>cases y<;>exact absurd (show false=true from hs) Bool.false_ne_true
theorem zht:OpR X (compareOp .NotEq) rNe:=by
 intro pins s σ H x y v u Q I rx ry h
 obtain ⟨hs,q⟩:=h
 cases x with
  |non=>
   cases rx
   cases y with
    |non=>cases ry;exact PySem.EqNone.ne_none_none (zbr I q (by simp))
    |bl j=>cases ry;exact PySem.EqNone.ne_none_bool (zbr I q (by simp))
    |int j=>obtain ⟨t',rfl⟩:=ry;exact PySem.EqNone.ne_none_int (zbr I q (by simp))
    |str j=>obtain ⟨t',rfl⟩:=ry;exact PySem.EqNone.ne_none_str (zbr I q (by simp))
    |_=>exact absurd (show false=true from hs) Bool.false_ne_true
  |bl i=>
   cases rx
   cases y with
    |non=>cases ry;exact PySem.EqNone.ne_bool_none (zbr I q (by simp))
    |bl j=>cases ry;exact ne_bool (zbr I q (congrArg not zpN))
    |str j=>obtain ⟨t',rfl⟩:=ry;exact PySem.EqMixed.ne_bool_str (zbr I q (by simp))
    |_=>exact absurd (show false=true from hs) Bool.false_ne_true
  |int i=>
   obtain ⟨t,rfl⟩:=rx
   cases y with
    |non=>cases ry;exact PySem.EqNone.ne_int_none (zbr I q (by simp))
    |int j=>obtain ⟨t',rfl⟩:=ry;exact ne_int (zbr I q (congrArg not zmC))
    |str j=>obtain ⟨t',rfl⟩:=ry;exact PySem.EqMixed.ne_int_str (zbr I q (by simp))
    |_=>exact absurd (show false=true from hs) Bool.false_ne_true
  |str i=>
   obtain ⟨t,rfl⟩:=rx
   cases y with
    |non=>cases ry;exact PySem.EqNone.ne_str_none (zbr I q (by simp))
    |bl j=>cases ry;exact PySem.EqMixed.ne_str_bool (zbr I q (by simp))
    |int j=>obtain ⟨t',rfl⟩:=ry;exact PySem.EqMixed.ne_str_int (zbr I q (by simp))
    |str j=>obtain ⟨t',rfl⟩:=ry;exact ne_str (zbr I q (congrArg not znS))
    |_=>exact absurd (show false=true from hs) Bool.false_ne_true
  |byt i=>
   obtain ⟨t,rfl⟩:=rx
   cases y with
    |byt j=>obtain ⟨t',rfl⟩:=ry;exact W.ne_bytes (zbr I q (congrArg not znj))
    |_=>exact absurd (show false=true from hs) Bool.false_ne_true
  |_=>cases y<;>exact absurd (show false=true from hs) Bool.false_ne_true
theorem zjT:OpR X (compareOp .Lt) (rI0 λi j=> .bl (decide (i<j))):=ztF λ_ _ _ _ _ _ _ q=>lt_int q
theorem zsm:OpR X (compareOp .LtE) (rI0 λi j=> .bl (decide (i≤j))):=ztF λ_ _ _ _ _ _ _ q=>le_int q
theorem zo3:OpR X (compareOp .Gt) (rI0 λi j=> .bl (decide (j<i))):=ztF λ_ _ _ _ _ _ _ q=>gt_int q
theorem zt0:OpR X (compareOp .GtE) (rI0 λi j=> .bl (decide (j≤i))):=ztF λ_ _ _ _ _ _ _ q=>ge_int q
theorem znK:OpR X (compareOp .In) (λx y H Q=>∃i j,x= .str i∧y= .str j∧Q (.bl (!(Builtin.Str.occurrences j i 0 j.length 1).isEmpty)) H):=by
 intro pins s σ H x y v u Q I rx ry h
 obtain ⟨i,j,rfl,rfl,q⟩:=h
 obtain ⟨t,rfl⟩:=rx
 obtain ⟨t',rfl⟩:=ry
 exact in_str (zbr I q rfl)
theorem znw:OpR X (compareOp .Is) (λx y H Q=>y= .non∧Q (.bl (decide (x= .non))) H):=by
 intro pins s σ H x y v u Q I rx ry h
 obtain ⟨rfl,q⟩:=h
 cases ry
 refine is_none_gen (zbr I q ?_)
 cases x<;>first|(cases rx;rfl)|(obtain ⟨t,rfl⟩:=rx;rfl)
theorem znD:OpR X (compareOp .IsNot) (λx y H Q=>y= .non∧Q (.bl (!decide (x= .non))) H):=by
 intro pins s σ H x y v u Q I rx ry h
 obtain ⟨rfl,q⟩:=h
 cases ry
 refine isnot_none_gen (zbr I q ?_)
 cases x<;>first|(cases rx;rfl)|(obtain ⟨t,rfl⟩:=rx;rfl)
theorem zaR (b:Expr) {op:CmpOp} (h:op≠.In:=by decide) (h2:op≠.NotIn:=by decide):behindInMarks op b=false:=by
 have e1:(op==CmpOp.In)=false:=by cases op<;>first|rfl|exact absurd rfl h
 have e2:(op==CmpOp.NotIn)=false:=by cases op<;>first|rfl|exact absurd rfl h2
 cases b<;>simp [behindInMarks,e1,e2]
theorem zex {op:CmpOp} {r:R2} (ho:OpR X (compareOp op) r) (ha:PE X a ta) (hb:PE X b tb) (hm:behindInMarks op b=false):PE X (.Compare a [op] [b] pos) (tOp r ta tb):=by
 intro pins s σ H Q I h
 exact wpAny_Compare1 (zus ha hb I h λv u s2 x y H2 I2 rx ry q=>ho pins s2 σ H2 x y v u Q I2 rx ry q) hm
def zqj (t:TE):TT:=λσ H Q=>t σ H λx H'=>∃k,x= .bl k∧Q k H'
theorem zaz {op:CmpOp} {r:R2} (ho:OpR X (compareOp op) r) (ha:PE X a ta) (hb:PE X b tb) (hm:behindInMarks op b=false):PT X (.Compare a [op] [b] pos) (zqj (tOp r ta tb)):=by
 intro pins s σ H Q I h
 refine wpAny_isTrue_Compare1 (thn (ha pins s σ H _ I h) λv s1 ⟨x,H1,I1,r1,q1⟩=>thn (hb pins s1 σ H1 _ I1 q1) λu s2 ⟨y,H2,I2,r2,q2⟩=>thn (ho pins s2 σ H2 x y v u _ I2 r1 r2 q2) λc s3 ⟨z,H3,I3,r3,k,e,q3⟩=> ?_) hm
 subst e
 cases r3
 exact wpAny_truthy_bool ⟨H3,I3,q3⟩
theorem zhP:(sizeLine:Nat)<2 ^ 63:=by rw [sizeLine_eq];decide
theorem zaX:OpR X (binaryOp .Add) (λx y H Q=>∃i j,x= .str i∧y= .str j∧i.length+j.length≤sizeLine∧Q (.str (i++j)) H):=by
 intro pins s σ H x y v u Q I rx ry h
 obtain ⟨i,j,rfl,rfl,hz,q⟩:=h
 obtain ⟨t,rfl⟩:=rx
 obtain ⟨t',rfl⟩:=ry
 exact add_str (λt' tk=>⟨.str (i++j),H,I.tok _,⟨_,rfl⟩,q⟩) hz
theorem zgw {x:V} {us:List Value} (r:zbH [x] us):∃u,us=[u]∧zde x u:=by
 cases r with
  |cons r1 r2=>cases r2;exact ⟨_,rfl,r1⟩
theorem zte {x y:V} {us:List Value} (r:zbH [x,y] us):∃u w',us=[u,w']∧zde x u∧zde y w':=by
 cases r with
  |cons r1 r2=>
   cases r2 with
    |cons r3 r4=>cases r4;exact ⟨_,_,rfl,r1,r3⟩
theorem zlf:zeG X (.builtin "abs") (λxs H Q=>∃i,xs=[.int i]∧Q (.int (if i<0 then-i else i)) H):=by
 intro pins s σ H xs us Q I r h
 obtain ⟨i,rfl,q⟩:=h
 obtain ⟨u,rfl,t,rfl⟩:=zgw r
 exact call_abs_int λu tk=>⟨.int (if i<0 then-i else i),H,I.tok _,⟨_,rfl⟩,q⟩
theorem zcJ:zeG X (.type "str") (λxs H Q=>∃i,xs=[.int i]∧i.natAbs.log2<1920∧Q (.str (toString i)) H):=by
 intro pins s σ H xs us Q I r h
 obtain ⟨i,rfl,hz,q⟩:=h
 obtain ⟨u,rfl,t,rfl⟩:=zgw r
 exact PySem.P.str_of_int hz ⟨.str _,H,I.tok _,⟨_,rfl⟩,q⟩
end
end L2
namespace L2
open PySem PySem.Spec PyProof.Rows
structure ObjM (h:Heap) (x dx C:Addr) (mA:Str->Option Value):Prop where
 obj:h.get? x=some (W.instObj C dx)
 ns:h.Ns1 dx mA
 ne:dx≠x
theorem zmX {h:Heap} {dx:Addr} {mA:Str->Option Value} (n:h.Ns1 dx mA):∃od,h.get? dx=some od∧∀name,W.lookIn name od=some (mA name):=by
 obtain ⟨o,es,ep,ho,hd,hk,_,hm⟩:=n
 refine ⟨o,ho,λname=> ?_⟩
 have e:=hm name
 unfold nsFind findBy at e
 rw [←Array.find?_toList] at e
 unfold W.lookIn
 rw [hd]
 dsimp only
 split
 ·
  rename_i y q
  rw [q] at e
  exact congrArg some e
 ·
  rename_i q
  rw [q] at e
  have a:es.toList.any (·.refKey)=false:=by
   rw [List.any_eq_false]
   intro y hy
   obtain ⟨z,t,hkey⟩:=hk y (Array.mem_toList_iff.mp hy)
   simp [DictEntry.refKey,hkey]
  have a':¬es.toList.any (·.refKey)=true:=by rw [a];exact Bool.false_ne_true
  rw [if_neg a']
  exact congrArg some e
theorem ObjM.look {h:Heap} {x dx C:Addr} {mA:Str->Option Value} (I:ObjM h x dx C mA):∃od,W.InstAt h x (W.instObj C dx) C (some od)∧∀name,W.lookIn name od=some (mA name) :=
 let ⟨od,ho,hl⟩:=zmX I.ns;⟨od,⟨I.obj,rfl,rfl,ho⟩,hl⟩
section
variable {prog:Program} {w:World} {A:Around} {E:Value->Shared->Prop} {s:Shared} {K:W.Frag} {x dx C f:Addr} {mA:Str->Option Value} {name:Str} {v:Value}
theorem zqY {expr:Bool} {Q:Value->Shared->Prop} (X:K.In s.heap) (I:ObjM s.heap x dx C mA) (hg:W.plainGet K C name=true) (hh:W.hasDictIn K C=true)
  (ha:W.findIn K (.ref C) name=some none) (hv:mA name=some v) (hv':W.handedIn v=true) (h:Q v {s with toks:=s.toks+1}) :
  wpAny (model prog w) A (getAttr (.ref x) name expr) Q E s:=by
   obtain ⟨od,J,hl⟩:=I.look
   exact W.get_value X J (W.plainGet_of hg).1 (W.findObj_own hh ha rfl (by rw [hl,hv])) hv' h
theorem zoH {pl:Sem Bool} {Q:Value×List Value->Shared->Prop} (X:K.In s.heap) (I:ObjM s.heap x dx C mA) (hg:W.plainGet K C name=true)
  (hf:W.findIn K (.ref C) name=some (some (.ref f))) (ht:W.isFn K (.ref f)=true) (hv:mA name=none) (h:Q (.ref f,[.ref x]) s) :
  wpAny (model prog w) A (getMethod (.ref x) name pl) Q E s:=by
   obtain ⟨od,J,hl⟩:=I.look
   exact W.method_fn X J (W.plainGet_of hg).1 (W.plainGet_of hg).2 hf (beq_iff_eq.mp ht) (by show (W.lookIn name od).map (·.isSome)=some false;rw [hl,hv];rfl) h
theorem zqN {ns:List Str} {Q:Unit->Shared->Prop} (X:K.In s.heap) (I:ObjM s.heap x dx C mA)
  (hs:W.findIn K (.ref C) "__setattr__" =some (some (.builtin "object.__setattr__"))) (hp:W.plainOver K C=true) (ht:W.takerIn K C name=some none) (hh:W.hasDictIn K C=true)
  (hw:PySem.Within mA ns) (hsz:ns.length≤sizeLine)
  (h:∀h',ObjM h' x dx C (λy=>if y=name then some v else mA y)->Heap.SameBut dx s.heap h'->Q () {s with heap:=h',toks:=s.toks+2}) :
  wpAny (model prog w) A (setAttr (.ref x) name v) Q E s:=by
   obtain ⟨od,J,hl⟩:=I.look
   refine W.set_plain X J hs (W.osa_open (s:= {s with toks:=s.toks+1}) (r:=none) X J hp ht λb=> ?_)
   obtain ⟨cd,hc,hd'⟩:=W.any_some hh
   have hx:s.heap.get? x=some ⟨.ref C,some dx,.plain,#[]⟩:=I.obj
   refine wpAny_bind (wpAny_pure (wpAny_bind (wpAny_bind (wpAny_loadPart hx (wpAny_bind (W.Looks.here (s:= {s with toks:=s.toks+1}) (W.looks_clsIn X hc) ?_))))))
   rw [hd']
   refine wpAny_pure (a:=some dx) (wpAny_bind (wpAny_pure (wpAny_bind ?_)))
   refine wpAny_nsSet1 (s:= {s with toks:=s.toks+1}) I.ns λh' hn2 hs2=> ?_
   obtain ⟨oD,esD,epD,hoD,hdD,hcD⟩:=hn2.count (PySem.Within.cons name v hw)
   refine wpAny_bind (wpAny_lookBehind hoD (by rw [hdD];exact pastItsLine_dict (Nat.le_trans hcD (by rw [List.length_cons];omega))) ?_)
   exact wpAny_pure (h _ ⟨(hs2.2 _ (Ne.symm I.ne)).trans I.obj,hn2,I.ne⟩ hs2)
theorem zoB {R:Result->Shared->Prop} {vs:List Value} {kw:List (Str×Value)} (X:K.In s.heap) (hm:W.makesIn K C=true)
  (hi:W.findIn K (.ref C) "__init__" =some (some (.ref f))) (hf:W.typeIn K (.ref f)=some (.type "function"))
  (h:codeAny (model prog w) (A.under (.builtin "type.__call__" ⟨.ref C::vs,kw⟩)) (.call (.ref f) ⟨.ref (s.heap.objs.size+1)::vs,kw⟩) (W.InitBack (s.heap.objs.size+1) R) {s with heap:=(s.heap.push W.emptyDict).push (W.instObj C s.heap.objs.size)}) :
  codeAny (model prog w) A (.call (.ref C) ⟨vs,kw⟩) R s:=by
   obtain ⟨hh,g,d,t,os⟩:=s
   exact W.make_core (W.makes_of X hm) (W.looks_findIn X hi) (λself=>W.bind_fn X self hf) (.inl rfl) h
end
def putF (f:Str) (v:V):List (Str×V)->List (Str×V)
 | []=>[(f,v)]
 | (g,x) :: r=>if g=f then (g,v)::r else (g,x)::putF f v r
theorem zhd (f g:Str) (v:V):∀fs:List (Str×V),(putF f v fs).lookup g=if g=f then some v else fs.lookup g
 | []=>by
  show List.lookup g [(f,v)]=_
  by_cases h:g=f
  ·
   have hb:(g==f)=true:=beq_iff_eq.mpr h
   simp only [List.lookup,hb,if_pos h]
  ·
   have hb:(g==f)=false:=beq_eq_false_iff_ne.mpr h
   simp only [List.lookup,hb,if_neg h]
 | (k,x) :: r=>by
  have ih:=zhd f g v r
  rw [show putF f v ((k,x)::r)=(if k=f then (k,v)::r else (k,x)::putF f v r) from rfl]
  by_cases hk:k=f
  ·
   rw [if_pos hk]
   by_cases h:g=k
   ·
    have hb:(g==k)=true:=beq_iff_eq.mpr h
    simp only [List.lookup,hb,if_pos (h.trans hk)]
   ·
    have hb:(g==k)=false:=beq_eq_false_iff_ne.mpr h
    simp only [List.lookup,hb,if_neg (λe:g=f=>h (e.trans hk.symm))]
  ·
   rw [if_neg hk]
   by_cases h:g=k
   ·
    have hb:(g==k)=true:=beq_iff_eq.mpr h
    simp only [List.lookup,hb,if_neg (λe:g=f=>hk (h.symm.trans e))]
   ·
    have hb:(g==k)=false:=beq_eq_false_iff_ne.mpr h
    simp only [List.lookup,hb]
    exact ih
theorem zhh (f:Str) (v:V):∀fs:List (Str×V),f∈(putF f v fs).map (·.1)∧∀g,g∈fs.map (·.1)->g∈(putF f v fs).map (·.1)
 | []=>⟨by simp [putF],λg h=>by simp at h⟩
 | (k,x) :: r=>by
  obtain ⟨i1,i2⟩:=zhh f v r
  rw [show putF f v ((k,x)::r)=(if k=f then (k,v)::r else (k,x)::putF f v r) from rfl]
  by_cases hk:k=f
  ·
   rw [if_pos hk]
   subst hk
   exact ⟨by simp,λg h=>by simpa using h⟩
  ·
   rw [if_neg hk]
   refine ⟨?_,λg h=> ?_⟩
   ·
    rw [List.map_cons]
    exact List.mem_cons_of_mem _ i1
   ·
    rw [List.map_cons] at h ⊢
    rcases List.mem_cons.mp h with e|e
    ·exact List.mem_cons.mpr (.inl e)
    ·exact List.mem_cons_of_mem _ (i2 g e)
theorem zhy (f:Str) (v:V):∀fs:List (Str×V),(putF f v fs).length≤fs.length+1
 | []=>by simp [putF]
 | (k,x) :: r=>by
  have ih:=zhy f v r
  rw [show putF f v ((k,x)::r)=(if k=f then (k,v)::r else (k,x)::putF f v r) from rfl]
  by_cases hk:k=f
  ·rw [if_pos hk,List.length_cons,List.length_cons];omega
  ·rw [if_neg hk,List.length_cons,List.length_cons];omega
theorem zoj.some_of {v:V} {o:Option Value} (r:zoj (some v) o):∃u,o=some u∧zde v u:=by
 cases o with
  |none=>exact (show False from r).elim
  |some u=>exact ⟨u,rfl,r⟩
theorem zoj.none_of {o:Option Value} (r:zoj none o):o=none:=by
 cases o with
  |none=>rfl
  |some u=>exact (show False from r).elim
theorem zmW {v:V} {u:Value} (r:zde v u):W.handedIn u=true:=by
 cases v with
  |non=>cases (show u=Value.none from r);rfl
  |bl b=>cases (show u=Value.bool b from r);rfl
  |int i=>obtain ⟨t,e⟩:=(show∃t,u=Value.int i t from r);cases e;rfl
  |str x=>obtain ⟨t,e⟩:=(show∃t,u=Value.str x t from r);cases e;rfl
  |byt b=>obtain ⟨t,e⟩:=(show∃t,u=Value.bytes b t from r);cases e;rfl
  |flt b=>obtain ⟨t,e⟩:=(show∃t,u=Value.float b t from r);cases e;rfl
  |ref a=>cases (show u=Value.ref a from r);rfl
  |ty n=>cases (show u=Value.type n from r);rfl
section
variable {P:Program} {w:World} {H H':Hp} {h h':Heap} {a C dx:Addr} {fs fs':List (Str×V)}
theorem zj5 (hok:HOk P w H h) (e:H a=some (.ins C dx fs)):∃mA,ObjM h a dx C mA∧(∀f,zoj (fs.lookup f) (mA f))∧PySem.Within mA (fs.map (·.1))∧fs.length≤1000∧H dx=some (.own a):=by
 obtain ⟨d,z,ne,ob,mA,n,r,q⟩:=(show zeE P w H h a (.ins C dx fs) from hok a _ e)
 exact ⟨mA,⟨ob,n,ne⟩,r,q,z,d⟩
end
structure Cls (K:W.Frag) (C:Addr):Prop where
 pg:W.plainGet K C Str.empty=true
 hd:W.hasDictIn K C=true
 po:W.plainOver K C=true
 sa:W.findIn K (.ref C) "__setattr__"=some (some (.builtin "object.__setattr__"))
theorem Cls.get {K:W.Frag} {C:Addr} (c:Cls K C) (f:Str):W.plainGet K C f=true:=c.pg
def NoAttr (K:W.Frag) (C:Addr) (f:Str):Prop:=W.findIn K (.ref C) f=some none
theorem NoAttr.taker {K:W.Frag} {C:Addr} {f:Str} (n:NoAttr K C f):W.takerIn K C f=some none:=by
 unfold W.takerIn
 rw [show W.findIn K (.ref C) f=some none from n]
 rfl
structure Con (K:W.Frag) (C:Addr) (f:Str) (v:V) (u:Value):Prop where
 at_:W.findIn K (.ref C) f=some (some u)
 rel:zde v u
 get:W.specialIn K u "__get__"=some none
 cp:W.copiedNames.contains f=false
structure Meth (K:W.Frag) (C:Addr) (m:Str) (f:Addr):Prop where
 at_:W.findIn K (.ref C) m=some (some (.ref f))
 fn:W.isFn K (.ref f)=true
 kp:W.keepIn K (.ref f)=true
section
variable {X:Cx} {pins:List (Addr×Obj)} {σ:St} {H:Hp} {s:Shared} {a C dx:Addr} {fs:List (Str×V)} {f:Str} {v:V} {A:Around} {E:Value->Shared->Prop}
theorem zml {b:Bool} {Q:Value->Shared->Prop} (I:Inv X pins σ H s) (e:H a=some (.ins C dx fs)) (c:Cls X.K C) (n:NoAttr X.K C f) (l:fs.lookup f=some v)
  (h:∀u s',Inv X pins σ H s'->zde v u->Q u s'):wpAny (model X.prog X.w) A (getAttr (.ref a) f b) Q E s:=by
   obtain ⟨mA,O,r,_,_,_⟩:=zj5 I.hok e
   obtain ⟨u,hu,ru⟩:=zoj.some_of (v:=v) (o:=mA f) (by rw [←l];exact r f)
   exact zqY I.kIn O (c.get f) c.hd n hu (zmW ru) (h u _ (I.tok _) ru)
theorem zhT {m:Str} {g:Addr} {pl:Sem Bool} {Q:Value×List Value->Shared->Prop} (I:Inv X pins σ H s) (e:H a=some (.ins C dx fs)) (c:Cls X.K C) (k:Meth X.K C m g) (l:fs.lookup m=none)
  (h:Q (.ref g,[.ref a]) s):wpAny (model X.prog X.w) A (getMethod (.ref a) m pl) Q E s:=by
   obtain ⟨mA,O,r,_,_,_⟩:=zj5 I.hok e
   have hn:mA m=none:=zoj.none_of (by rw [←l];exact r m)
   exact zoH I.kIn O (c.get m) k.at_ k.fn hn h
theorem zlT {y:V} {u:Value} {Q:Unit->Shared->Prop} (I:Inv X pins σ H s) (e:H a=some (.ins C dx fs)) (c:Cls X.K C) (n:NoAttr X.K C f) (hl:fs.length<1000) (ry:zde y u)
  (h:∀s',Inv X pins σ (upd H a (.ins C dx (putF f y fs))) s'->Q () s'):wpAny (model X.prog X.w) A (setAttr (.ref a) f u) Q E s:=by
   obtain ⟨mA,O,r,wi,_,ho⟩:=zj5 I.hok e
   have hz:(fs.map (·.1)).length≤sizeLine:=by rw [List.length_map,sizeLine_eq];omega
   refine zqN I.kIn O c.sa c.po n.taker c.hd wi hz λh' O' sb=>h _ ?_
   have hd:∃o,h'.get? dx=some o:=let ⟨o,_,_,e',_⟩:=O'.ns;⟨o,e'⟩
   refine I.write (x:=a) (e:=dx) (by rw [e];exact True.intro) (.inr ho) (λb q hb z=>(sb.2 b hb).trans z) hd ?_
   refine ⟨by rw [zai O.ne];exact ho,?_,O.ne,O'.obj,_,O'.ns,λg=> ?_,λg hg=> ?_⟩
   ·have:=zhy f y fs;omega
   ·
    show zoj ((putF f y fs).lookup g) (if g=f then some u else mA g)
    rw [zhd]
    by_cases q:g=f
    ·rw [if_pos q,if_pos q];exact ry
    ·rw [if_neg q,if_neg q];exact r g
   ·
    by_cases q:g=f
    ·rw [q];exact (zhh f y fs).1
    ·
     refine (zhh f y fs).2 g (wi g λz=>hg ?_)
     show (if g=f then some u else mA g)=none
     rw [if_neg q];
     exact z
theorem Inv.made (I:Inv X pins σ H s):Inv X pins σ (upd (upd H s.heap.objs.size (.own (s.heap.objs.size+1))) (s.heap.objs.size+1) (.ins C s.heap.objs.size [])) {s with heap:=(s.heap.push W.emptyDict).push (W.instObj C s.heap.objs.size)}:=by
 have e1:(s.heap.push W.emptyDict).get? s.heap.objs.size=some W.emptyDict:=Heap.get?_push_size s.heap rfl
 have e2:((s.heap.push W.emptyDict).push (W.instObj C s.heap.objs.size)).get? (s.heap.objs.size+1)=some (W.instObj C s.heap.objs.size):=by
  have:=Heap.get?_push_size (s.heap.push W.emptyDict) (o:=W.instObj C s.heap.objs.size) rfl
  rwa [Heap.size_push] at this
 have e3:(s.heap.push W.emptyDict).Ns s.heap.objs.size (λ_=>none):=⟨W.emptyDict,#[],_,e1,rfl,(λe he=>absurd he (by simp)),λ_=>rfl⟩
 have I1:=I.laid (a:=s.heap.objs.size) (o:= .own (s.heap.objs.size+1)) (h':=s.heap.push W.emptyDict) (t':=s.toks) (λb u q=>Heap.get?_push_of_some _ q) (Nat.le_refl _) ⟨_,e1⟩
 refine I1.laid (a:=s.heap.objs.size+1) (o:= .ins C s.heap.objs.size []) (t':=s.toks) (λb u q=>Heap.get?_push_of_some _ q) (Nat.le_of_eq (Heap.size_push _ _)) ?_
 have ne:s.heap.objs.size≠s.heap.objs.size+1:=Nat.ne_of_lt (Nat.lt_succ_self _)
 refine ⟨by rw [zai ne,zat],Nat.zero_le _,ne,e2,λ_=>none,(Heap.Ns1.of_empty e3).at λo q=>Heap.get?_push_of_some _ q,λ_=>True.intro,λy hy=>absurd rfl hy⟩
theorem zry {prog:Program} {w:World} {env:Env} {e:Expr} {f:Str} {pos:Pos} {s:Shared} {Q:Value->Shared->Prop} (hb:attributeBase e f env (eval e env)=eval e env)
  (h:wpAny (model prog w) A (eval e env) (λo s₁=>wpAny (model prog w) A (getAttr o f true) Q E s₁) E s):wpAny (model prog w) A (eval (.Attribute e f pos) env) Q E s :=
 Attribute_any_ h (by rw [arm_eval_Attribute,hb])
end
def tFld (K:W.Frag) (ta:TE) (f:Str):TE:=λσ H Q=>ta σ H λx H1=>∃a C dx fs v,x= .ref a∧H1 a=some (.ins C dx fs)∧Cls K C∧NoAttr K C f∧fs.lookup f=some v∧Q v H1
def ztH (K:W.Frag) (ta tv:TE) (f:Str):TS:=λD σ H=>tv σ H λy H1=>ta σ H1 λx H2=>∃a C dx fs,x= .ref a∧H2 a=some (.ins C dx fs)∧Cls K C∧NoAttr K C f∧fs.length<1000∧D.nx σ (upd H2 a (.ins C dx (putF f y fs)))
section
variable {X:Cx} {o e value:Expr} {f:Str} {pos pos' tpos:Pos} {ta tv:TE}
theorem zsP (he:PE X e ta) (hb:attributeBase e f X.env (eval e X.env)=eval e X.env):PE X (.Attribute e f pos) (tFld X.K ta f):=by
 intro pins s σ H Q I h
 refine zry hb (thn (he pins s σ H _ I h) λu s1 ⟨x,H1,I1,rx,a,C,dx,fs,v,ex,ea,c,n,l,q⟩=> ?_)
 subst ex
 obtain rfl:u=Value.ref a:=rx
 exact zml I1 ea c n l λu' s2 I2 ru=>⟨v,H1,I2,ru,q⟩
theorem zg2 (ha:PE X o ta) (hv:PE X value tv) (hs:swapsWith value (some (.Attribute o f pos')) pos.line X.env=pure false):PS X (.Assign [.Attribute o f pos'] value pos) (ztH X.K ta tv f):=by
 intro pins s σ H D I h
 refine plainObj_wpAny_Assign_Attribute (thn (hv pins s σ H _ I h) λu s1 ⟨y,H1,I1,ry,q⟩=>thn (ha pins s1 σ H1 _ I1 q) λov s2 ⟨x,H2,I2,rx,a,C,dx,fs,ex,ea,c,n,l,q2⟩=> ?_) hs
 subst ex
 obtain rfl:ov=Value.ref a:=rx
 exact zlT I2 ea c n l ry λs3 I3=>⟨σ,_,I3,q2⟩
theorem zrg {pl:Sem Bool} {m:Str} {apos:Pos} {args:List Expr} {pins:List (Addr×Obj)} {s:Shared} {σ:St} {H:Hp} {Q:Value->Shared->Prop} {te:TE} (he:PE X e te) (I:Inv X pins σ H s)
  (h:te σ H λx H1=>∃a C dx fs g,x= .ref a∧H1 a=some (.ins C dx fs)∧Cls X.K C∧Meth X.K C m g∧fs.lookup m=none∧∀s1,Inv X pins σ H1 s1->wpAny (model X.prog X.w) X.A (callWith pos (.ref g) [.ref a] (backTo pos (starEach args X.env)) (backToKw pos (keywordEach [] X.env))) Q X.xe s1)
  (ht:eval (.Call (.Attribute e m apos) args [] pos) X.env=(do
   let ov←eval e X.env
   standAt apos.atName
   let (f,first)←holding [ov] (getMethod ov m pl)
   callWith pos f first (backTo pos (starEach args X.env)) (backToKw pos (keywordEach [] X.env)))) :
  wpAny (model X.prog X.w) X.A (eval (.Call (.Attribute e m apos) args [] pos) X.env) Q X.xe s:=by
   refine W.methodCall_KW (pl:=pl) (thn (he pins s σ H _ I h) λu s1 ⟨x,H1,I1,rx,a,C,dx,fs,g,ex,ea,c,k,l,q⟩=> ?_) ht
   subst ex
   obtain rfl:u=Value.ref a:=rx
   exact zhT I1 ea c k l (q s1 I1)
end
section
variable {X:Cx} {pins:List (Addr×Obj)} {σ:St} {H:Hp} {s:Shared} {A:Around} {E:Value->Shared->Prop} {Q:Value->Shared->Prop} {c:Value} {b:Bool}
inductive TyOf (K:W.Frag) (H:Hp):V->Value->Prop where
 | non:TyOf K H .non (.type "NoneType")
 | bl (x:Bool):TyOf K H (.bl x) (.type "bool")
 | int (i:Int):TyOf K H (.int i) (.type "int")
 | str (x:Str):TyOf K H (.str x) (.type "str")
 | flt (x:UInt64):TyOf K H (.flt x) (.type "float")
 | lst {a:Addr} {xs:List V} (e:H a=some (.lst xs)):TyOf K H (.ref a) (.type "list")
 | frz {a:Addr} {o:Obj} {xs:List V} (e:H a=some (.frz o (.lst xs))):TyOf K H (.ref a) (.type "list")
 | tup {a:Addr} {xs:List V} (e:H a=some (.tup xs)):TyOf K H (.ref a) (.type "tuple")
 | dK {a:Addr} {kvs:List (Key×V)} (e:H a=some (.dK kvs)):TyOf K H (.ref a) (.type "dict")
 | dT {a:Addr} {kvs:List (List Key×V)} (e:H a=some (.dT kvs)):TyOf K H (.ref a) (.type "dict")
 | ins {a C dx:Addr} {fs:List (Str×V)} (e:H a=some (.ins C dx fs)) (cl:Cls K C) (ha:W.findIn K (.ref C) "__class__"=some (some (.builtin "object.__class__")))
   (hn:W.specialIn K (.builtin "object.__class__") "__get__"=some (some (.builtin "getset_descriptor.__get__"))) (htk:W.takesIn K (.builtin "object.__class__")=some true)
   (hm:W.mroIn K C (.type "object")=some true):TyOf K H (.ref a) (.ref C)
end
end L2
namespace L2
open PySem PySem.Spec PyProof.Rows
structure Room (k:Nat) (A:Around):Prop where
 hd:A.handled=none
 dp:A.depth+3*k+5<recursionLimit
 un:A.units+16*k+200<cLine
theorem Room.mono {j k:Nat} {A:Around} (r:Room k A) (h:j≤k):Room j A:=⟨r.hd,by have:=r.dp;omega,by have:=r.un;omega⟩
theorem Room.deeper {k:Nat} {A:Around} (r:Room (k+1) A) (env:Env):Room k (A.deeper env) :=
 ⟨r.hd,by have:=r.dp;show A.depth+1+3*k+5<_;omega,by have:=r.un;show A.units+3+16*k+200<_;omega⟩
theorem Room.in1 {k:Nat} {A:Around} (r:Room (k+1) A):Room k A.in1 :=
 ⟨r.hd,by have:=r.dp;show A.depth+3*k+5<_;omega,by have:=r.un;show A.units+1+16*k+200<_;omega⟩
theorem zlV {A:Around} {C:Addr} {us:List Value} {kw:List (Str×Value)}:(A.under (.builtin "type.__call__" ⟨.ref C::us,kw⟩)).depth=A.depth+1:=by first|rfl|simp [Around.under,Code.weight,Code.isCreation,Code.isGuard,Code.isCaller,Code.frames,Code.isFrame,guardIds]
theorem zlR {A:Around} {C:Addr} {us:List Value} {kw:List (Str×Value)}:(A.under (.builtin "type.__call__" ⟨.ref C::us,kw⟩)).units=A.units+1:=by first|rfl|simp [Around.under,Code.cUnits,Code.frames,Code.isFrame]
theorem Room.make {k:Nat} {A:Around} (r:Room (k+1) A) (C:Addr) (us:List Value) (kw:List (Str×Value)):Room k (A.under (.builtin "type.__call__" ⟨.ref C::us,kw⟩)) :=
 ⟨r.hd,by have:=r.dp;rw [zlV];omega,by have:=r.un;rw [zlR];omega⟩
theorem Room.depth {k:Nat} {A:Around} (r:Room k A):A.depth<recursionLimit:=by have:=r.dp;omega
theorem Room.units {k:Nat} {A:Around} (r:Room k A):A.units+64<cLine:=by have:=r.un;omega
def zgo:TA:=λ_ H Q=>Q [] H
def zdj (ta:TE) (tr:TA):TA:=λσ H Q=>ta σ H λx H1=>tr σ H1 λxs H2=>Q (x::xs) H2
section
variable {X:Cx} {e:Expr} {es:List Expr} {te:TE} {t:TA} {pos:Pos}
theorem zcI:PA X [] zgo:=λ_ _ _ _ H Q I h=>Calls.spliced_nil ⟨[],H,I,.nil,h⟩
theorem zbC (ha:PE X e te) (hr:PA X es t) (hs:starEach (e::es) X.env=(false,eval e X.env)::starEach es X.env:=by rfl):PA X (e::es) (zdj te t):=by
 intro pos pins s σ H Q I h
 rw [hs]
 show wpAny _ _ (spliced ((false,eval e X.env)::backTo pos (starEach es X.env))) _ _ s
 refine Calls.spliced_cons (thn (ha pins s σ H _ I h) λu s1 ⟨x,H1,I1,r1,q1⟩=> ?_)
 exact thn (hr pos pins s1 σ H1 _ I1 q1) λus s2 ⟨xs,H2,I2,r2,q2⟩=>⟨x::xs,H2,I2,.cons r1 r2,q2⟩
def zuN (t:TA):TE:=λσ H Q=>t σ H λxs H1=>xs.length≤sizeLine∧∀p,H1 p=none->Q (.ref p) (upd H1 p (.tup xs))
def ztN (t:TA):TE:=λσ H Q=>t σ H λxs H1=>xs.length≤sizeLine∧∀p,H1 p=none->Q (.ref p) (upd H1 p (.lst xs))
theorem zgq {x1} (h:PA X es t):PE X (.Tuple es x1 pos) (zuN t):=by
 intro pins s σ H Q I hq
 refine wpAny_Tuple_spliced (thn (h pos pins s σ H _ I hq) λus s1 ⟨xs,H1,I1,r,z,q⟩=>⟨by rw [←r.length];exact z,?_⟩)
 have hf:H1 s1.heap.objs.size=none:=I1.hok.fresh (Nat.le_refl _)
 refine ⟨.ref s1.heap.objs.size,upd H1 s1.heap.objs.size (.tup xs),I1.laid (t':=s1.toks) (λb u e=>Heap.get?_push_of_some _ e) (Nat.le_refl _) ?_,rfl,q _ hf⟩
 exact ⟨z,us,r,⟨_,Heap.get?_push_size _ rfl,rfl,_,rfl⟩⟩
theorem zbu (h:PA X es t):PE X (.List es pos) (ztN t):=by
 intro pins s σ H Q I hq
 refine wpAny_List_spliced (thn (h pos pins s σ H _ I hq) λus s1 ⟨xs,H1,I1,r,z,q⟩=>⟨by rw [←r.length];exact z,?_⟩)
 have hf:H1 s1.heap.objs.size=none:=I1.hok.fresh (Nat.le_refl _)
 refine ⟨.ref s1.heap.objs.size,upd H1 s1.heap.objs.size (.lst xs),I1.laid (t':=s1.toks) (λb u e=>Heap.get?_push_of_some _ e) (Nat.le_refl _) ?_,rfl,q _ hf⟩
 exact ⟨z,us,0,r,Heap.get?_push_size _ rfl⟩
end
abbrev Sp:=List V->Hp->VK->XK->Prop
abbrev CXT:=List Env->Hp->Shared->XK->Value->Shared->Prop
structure Env0 (P:Program) (w:World) (K:W.Frag) (mg:Str->Option Value) (base:Heap) (A:Around) (outer:List Env) (s:Shared) (H:Hp):Prop where
 frames:A.frames=some outer
 mod:Mod K mg base
 bs:∀ b o,base.get? b=some o->s.heap.get? b=some o∧H b=none
 bsz:base.objs.size≤s.heap.objs.size
 funs:s.heap.FunFrames base outer
 frf:∀ b∈frs outer,H b=none
 hok:HOk P w H s.heap
 bare:AllBare s.gens
def CE (outer:List Env) (P:Program) (w:World) (H:Hp) (s:Shared) (Q:VK) (u:Value) (s':Shared):Prop :=
 ∃v H',s'.os=s.os∧AllBare s'.gens∧Un (frs outer) [] H H' s.heap s'.heap∧HOk P w H' s'.heap∧zde v u∧Q v H'
def CR (CX:CXT) (outer:List Env) (P:Program) (w:World) (H:Hp) (s:Shared) (Q:VK) (E:XK) (r:Result) (s':Shared):Prop :=
 match r with| .ok (.ret u)=>CE outer P w H s Q u s'| .ok _=>False| .error e=>CX outer H s E e s'
structure FnOk (P:Program) (w:World) (K:W.Frag) (mg:Str->Option Value) (base:Heap) (CX:CXT) (k:Nat) (f:Addr) (fd:FuncData) (ps:List Str) (sp:Sp):Prop where
 len:∀ vs H Q E,sp vs H Q E->vs.length=ps.length
 run:∀ (A:Around) (outer:List Env) (s:Shared) (H:Hp) (args:Args) (us:List Value) (vs:List V) (Q:VK) (E:XK),Room k A->Env0 P w K mg base A outer s H->BindsTo s fd args (ps.zip us)->zbH vs us->sp vs H Q E →
  codeAny (model P w) A (.call (.ref f) args) (CR CX outer P w H s Q E) s
theorem FnOk.imp {P:Program} {w:World} {K:W.Frag} {mg:Str->Option Value} {base:Heap} {CX:CXT} {k:Nat} {f:Addr} {fd:FuncData} {ps:List Str} {sp sp':Sp} (F:FnOk P w K mg base CX k f fd ps sp)
  (h:∀vs H Q E,sp' vs H Q E->sp vs H Q E):FnOk P w K mg base CX k f fd ps sp' :=
 ⟨λvs H Q E q=>F.len vs H Q E (h _ _ _ _ q),λA outer s H args us vs Q E hr he hb hv hs=>F.run A outer s H args us vs Q E hr he hb hv (h _ _ _ _ hs)⟩
theorem Env0.make {P:Program} {w:World} {K:W.Frag} {mg:Str->Option Value} {base:Heap} {A:Around} {outer:List Env} {s:Shared} {H:Hp} (e:Env0 P w K mg base A outer s H) (C:Addr) (us:List Value) (kw:List (Str×Value)) :
  Env0 P w K mg base (A.under (.builtin "type.__call__" ⟨.ref C::us,kw⟩)) outer s H:=⟨by first|exact e.frames|(simpa [Around.under,Code.envs,Code.isFrame,pushEnvs] using e.frames),e.mod,e.bs,e.bsz,e.funs,e.frf,e.hok,e.bare⟩
theorem Env0.in1 {P:Program} {w:World} {K:W.Frag} {mg:Str->Option Value} {base:Heap} {A:Around} {outer:List Env} {s:Shared} {H:Hp} (e:Env0 P w K mg base A outer s H) :
  Env0 P w K mg base A.in1 outer s H:=⟨e.frames,e.mod,e.bs,e.bsz,e.funs,e.frf,e.hok,e.bare⟩
section
variable {X:Cx} {pins:List (Addr×Obj)} {σ:St} {H:Hp} {s s':Shared}
theorem Inv.env0 (I:Inv X pins σ H s):Env0 X.prog X.w X.K X.mg X.base X.A X.stack s H :=
 ⟨I.ok.frames,I.ok.mod,I.bs,Nat.le_trans I.ok.bsz I.sz,I.stack,I.stkFree,I.hok,I.bare⟩
theorem Inv.after {Q:VK} {u:Value} (I:Inv X pins σ H s) (h:CE X.stack X.prog X.w H s Q u s'):EP X pins σ Q u s':=by
 obtain ⟨v,H',os,bare,un,hok,r,q⟩:=h
 obtain ⟨hh,g,d,t,os'⟩:=s'
 obtain rfl:os'=s.os:=os
 exact ⟨v,H',I.call (h':=hh) (g':=g) (d':=d) (t':=t) (ch:=[]) un hok bare (λb z=>absurd z (by simp)),r,q⟩
end
def tCall (sp:Sp) (dvs:List V) (E:XK) (t:TA):TE:=λσ H Q=>t σ H λvs H1=>sp (vs++dvs) H1 Q E
def zoN (C:Addr) (m:Str) (sp:Sp) (dvs:List V) (E:XK) (ta:TE) (t:TA):TE:=λσ H Q=>ta σ H λx H1=>∃a dx fs,x= .ref a∧H1 a=some (.ins C dx fs)∧fs.lookup m=none∧t σ H1 λvs H2=>sp (x::(vs++dvs)) H2 Q E
def zoY (C:Addr) (sp:Sp) (dvs:List V) (E:XK) (t:TA):TE:=λσ H Q=>t σ H λvs H1=>∀x dx,H1 x=none->H1 dx=none->dx≠x→sp (.ref x::(vs++dvs)) (upd (upd H1 dx (.own x)) x (.ins C dx [])) (λv H2=>v= .non∧Q (.ref x) H2) E
def zfP (K:W.Frag) (fd:FuncData) (ps:List Str) (ds:List Value):Prop :=
 ∀(s:Shared) (us:List Value),K.In s.heap->(us++ds).length=ps.length->BindsTo s fd ⟨us,[]⟩ (ps.zip (us++ds))
theorem zfP.all {K:W.Frag} {fd:FuncData} {ps:List Str} (h:∀us:List Value,us.length=ps.length->bindArgs fd ⟨us,[]⟩=pure (ps.zip us)):zfP K fd ps []:=λs us _ hl=>by
 rw [List.append_nil] at hl ⊢
 exact .of_eq (h us hl)
def zfT (CX:CXT) (X:Cx) (E:XK):Prop:=∀(pins:List (Addr×Obj)) (σ:St) (H:Hp) (s:Shared) (e:Value) (s':Shared),Inv X pins σ H s->CX X.stack H s E e s'->X.xe e s'
section
variable {X:Cx} {CX:CXT} {k:Nat} {f C:Addr} {fd:FuncData} {ps:List Str} {sp:Sp} {dvs:List V} {ds:List Value} {E:XK} {x m:Str} {p pos apos:Pos} {e o:Expr} {es:List Expr} {ta:TE} {t:TA}
theorem zpV {pins:List (Addr×Obj)} {σ:St} {H:Hp} {s:Shared} {Q:VK} {us:List Value} {vs:List V} (F:FnOk X.prog X.w X.K X.mg X.base CX k f fd ps sp) (hr:Room k X.A) (hb:zfP X.K fd ps ds) (hd:zbH dvs ds) (hx:zfT CX X E)
  (I:Inv X pins σ H s) (r:zbH vs us) (h:sp (vs++dvs) H Q E):wpAny (model X.prog X.w) X.A (call (.ref f) us) (EP X pins σ Q) X.xe s:=by
   have r2:zbH (vs++dvs) (us++ds):=r.append hd
   have hl:(us++ds).length=ps.length:=by rw [←r2.length];exact F.len _ _ _ _ h
   refine wpAny_call (codeAny_mono (F.run X.A X.stack s H ⟨us,[]⟩ (us++ds) (vs++dvs) Q E hr I.env0 (hb s us I.kIn hl) r2 h) λr s' hq=> ?_)
   cases r with
    |error e=>exact hx pins σ H s e s' I hq
    |ok fl=>
     cases fl with
      |ret u=>exact I.after hq
      |next=>exact False.elim hq
      |brk=>exact False.elim hq
      |cont=>exact False.elim hq
theorem zrt (F:FnOk X.prog X.w X.K X.mg X.base CX k f fd ps sp) (hr:Room k X.A) (hg:Gl X x) (hm:X.mg x=some (.ref f)) (hk:W.keepIn X.K (.ref f)=true) (hb:zfP X.K fd ps ds) (hd:zbH dvs ds) (hx:zfT CX X E)
  (ha:PA X (e::es) t) (hdb:(x==("__debug__" :Str))=false:=by decide) (he:starEach (e::es) X.env=(false,eval e X.env)::starEach es X.env:=by rfl) (hpl:(backTo pos (starEach es X.env)).any (·.1)=false:=by rfl) :
  PE X (.Call (.Name x p) (e::es) [] pos) (tCall sp dvs E t):=by
   intro pins s σ H Q I h
   refine wpAny_Call_Name_kw (ziL I hg hm ?_ hdb)
   refine W.callWith_K (h₀:=X.base) I.ok.mod.kin hk (thn (ha pos pins s σ H _ I h) λus s1 ⟨vs,H1,I1,r,q⟩=>⟨I1.kIn,?_⟩) he hpl
   exact zpV F hr hb hd hx I1 r q
theorem zru {pl:Sem Bool} (he:PE X o ta) (c:Cls X.K C) (hm:Meth X.K C m f) (F:FnOk X.prog X.w X.K X.mg X.base CX k f fd ps sp) (hr:Room k X.A) (hb:zfP X.K fd ps ds) (hd:zbH dvs ds) (hx:zfT CX X E) (ha:PA X (e::es) t)
  (hst:starEach (e::es) X.env=(false,eval e X.env)::starEach es X.env:=by rfl) (hpl:(backTo pos (starEach es X.env)).any (·.1)=false:=by rfl)
  (ht:eval (.Call (.Attribute o m apos) (e::es) [] pos) X.env=(do
   let ov←eval o X.env
   standAt apos.atName
   let (f,first)←holding [ov] (getMethod ov m pl)
   callWith pos f first (backTo pos (starEach (e::es) X.env)) (backToKw pos (keywordEach [] X.env))):=by rfl) :
  PE X (.Call (.Attribute o m apos) (e::es) [] pos) (zoN C m sp dvs E ta t):=by
   intro pins s σ H Q I h
   refine W.methodCall_KW (pl:=pl) (thn (he pins s σ H _ I h) λu s1 ⟨x,H1,I1,rx,a,dx,fs,ex,ea,l,q⟩=> ?_) ht
   subst ex
   obtain rfl:u=Value.ref a:=rx
   refine zhT I1 ea c hm l ?_
   refine W.callWith_K (first:=[.ref a]) (h₀:=X.base) I.ok.mod.kin hm.kp (thn (ha pos pins s1 σ H1 _ I1 q) λus s2 ⟨vs,H2,I2,r,q2⟩=>⟨I2.kIn,?_⟩) hst hpl
   exact zpV (us:= .ref a::us) (vs:= .ref a::vs) F hr hb hd hx I2 (.cons rfl r) q2
structure Mk (K:W.Frag) (C f:Addr):Prop where
 makes:W.makesIn K C=true
 init:W.findIn K (.ref C) "__init__"=some (some (.ref f))
 fn:W.isFn K (.ref f)=true
 kp:W.keepIn K (.ref C)=true
theorem zld {pins:List (Addr×Obj)} {σ:St} {H:Hp} {s:Shared} {Q:VK} {us:List Value} {vs:List V} (M:Mk X.K C f) (F:FnOk X.prog X.w X.K X.mg X.base CX k f fd ps sp) (hr:Room (k+1) X.A) (hb:zfP X.K fd ps ds) (hd:zbH dvs ds)
  (hx:zfT CX X E) (I:Inv X pins σ H s) (r:zbH vs us)
  (h:∀x dx,H x=none->H dx=none->dx≠x->sp (.ref x::(vs++dvs)) (upd (upd H dx (.own x)) x (.ins C dx [])) (λv H2=>v= .non∧Q (.ref x) H2) E) :
  wpAny (model X.prog X.w) X.A (call (.ref C) us) (EP X pins σ Q) X.xe s:=by
   have hq:=h (s.heap.objs.size+1) s.heap.objs.size (I.hok.fresh (Nat.le_succ _)) (I.hok.fresh (Nat.le_refl _)) (Nat.ne_of_lt (Nat.lt_succ_self _))
   have I2:=Inv.made (C:=C) I
   have r2:zbH (V.ref (s.heap.objs.size+1)::(vs++dvs)) (Value.ref (s.heap.objs.size+1)::(us++ds)):= .cons rfl (r.append hd)
   have hl:(Value.ref (s.heap.objs.size+1)::us++ds).length=ps.length:=by
    have e:=r2.length
    rw [F.len _ _ _ _ hq] at e
    exact e.symm
   refine wpAny_call (zoB (f:=f) I.kIn M.makes M.init (beq_iff_eq.mp M.fn) (codeAny_mono (F.run _ X.stack _ _ ⟨Value.ref (s.heap.objs.size+1)::us,[]⟩ (Value.ref (s.heap.objs.size+1)::(us++ds)) _ _ E (hr.make C us []) (I2.env0.make C us []) (hb _ (Value.ref (s.heap.objs.size+1)::us) I2.kIn hl) r2 hq) λr s' hq'=> ?_))
   cases r with
    |error e=>exact hx pins σ _ _ e s' I2 hq'
    |ok fl=>
     cases fl with
      |ret u=>
       obtain ⟨v,H',I3,rv,ev,q3⟩:=I2.after hq'
       subst ev
       exact ⟨rv,⟨V.ref (s.heap.objs.size+1),H',I3,rfl,q3⟩⟩
      |next=>exact False.elim hq'
      |brk=>exact False.elim hq'
      |cont=>exact False.elim hq'
theorem zqe (M:Mk X.K C f) (F:FnOk X.prog X.w X.K X.mg X.base CX k f fd ps sp) (hr:Room (k+1) X.A) (hg:Gl X x) (hm:X.mg x=some (.ref C)) (hb:zfP X.K fd ps ds) (hd:zbH dvs ds) (hx:zfT CX X E)
  (ha:PA X (e::es) t) (hdb:(x==("__debug__" :Str))=false:=by decide) (he:starEach (e::es) X.env=(false,eval e X.env)::starEach es X.env:=by rfl) (hpl:(backTo pos (starEach es X.env)).any (·.1)=false:=by rfl) :
  PE X (.Call (.Name x p) (e::es) [] pos) (zoY C sp dvs E t):=by
   intro pins s σ H Q I h
   refine wpAny_Call_Name_kw (ziL I hg hm ?_ hdb)
   refine W.callWith_K (h₀:=X.base) I.ok.mod.kin M.kp (thn (ha pos pins s σ H _ I h) λus s1 ⟨vs,H1,I1,r,q⟩=>⟨I1.kIn,?_⟩) he hpl
   exact zld M F hr hb hd hx I1 r q
theorem zlN (M:Mk X.K C f) (F:FnOk X.prog X.w X.K X.mg X.base CX k f fd ps sp) (hr:Room (k+1) X.A) (hg:Gl X x) (hm:X.mg x=some (.ref C)) (hb:zfP X.K fd ps ds) (hd:zbH dvs ds) (hx:zfT CX X E)
  (hdb:(x==("__debug__" :Str))=false:=by decide):PE X (.Call (.Name x p) [] [] pos) (zoY C sp dvs E zgo):=by
   intro pins s σ H Q I h
   refine wpAny_Call_Name_kw (ziL I hg hm ?_ hdb)
   exact W.callWith_K0 I.kIn M.kp (zld (us:=[]) M F hr hb hd hx I .nil h)
end
section
variable {X:Cx} {CX:CXT} {k:Nat} {f C:Addr} {fd:FuncData} {ps ks:List Str} {sp:Sp} {E:XK} {x m:Str} {p pos apos kpos:Pos} {e o:Expr} {es:List Expr} {kws:List Keyword} {te ta:TE} {t tk:TA} {nm:Option Str}
structure KBinds (K:W.Frag) (fd:FuncData) (ps ks:List Str) (g:List Value->List Value->List Value) (gV:List V->List V->List V):Prop where
 to:∀ (s:Shared) (us ws:List Value),K.In s.heap->(g us ws).length=ps.length->BindsTo s fd ⟨us,ks.zip ws⟩ (ps.zip (g us ws))
 rel:∀ {vs:List V} {us:List Value} {zs:List V} {ws:List Value},zbH vs us->zbH zs ws->zbH (gV vs zs) (g us ws)
variable {g:List Value->List Value->List Value} {gV:List V->List V->List V}
end
structure FnScope (N P:List Str) (sc:Scope):Prop where
 kind:sc.kind=.function
 co:sc.isCoroutine=false
 gen:sc.isGenerator=false
 nd:N.Nodup
 pre:N.take P.length=P
 par:∀ x∈P,sc.names.lookup x=some .local∨sc.names.lookup x=some .cell
 nofree:∀ y∈sc.names,y.2≠.free
theorem zjd {kindOf:Str->Option NameKind} {x:Str}:∀ {binds:List (Str×Value)} {m:Str->Option Value},(∀v,(x,v)∉binds)->bindL kindOf binds m x=m x
 | [],_,_=>rfl
 | (n,v) :: r,m,h=>by
  unfold bindL
  rw [zjd λw hw=>h w (List.mem_cons_of_mem _ hw)]
  split
  ·
   have:x≠n:=by rintro rfl;exact h v List.mem_cons_self
   simp [this]
  ·rfl
theorem zjg {kindOf:Str->Option NameKind} {x:Str}:∀ {binds:List (Str×Value)} {m:Str->Option Value},(∀v,(x,v)∉binds)->bindC kindOf binds m x=m x
 | [],_,_=>rfl
 | (n,v) :: r,m,h=>by
  unfold bindC
  rw [zjg λw hw=>h w (List.mem_cons_of_mem _ hw)]
  split
  ·rfl
  ·
   have:x≠n:=by rintro rfl;exact h v List.mem_cons_self
   simp [this]
theorem zjs {kindOf:Str->Option NameKind} {x:Str} {v:Value}:∀ {P:List Str} {vs:List Value} {i:Nat} {m:Str->Option Value},P.Nodup->P[i]? =some x->vs[i]? =some v->kindOf x=some .local→bindL kindOf (P.zip vs) m x=some v
 | [],_,_,_,_,h,_,_=>by simp at h
 | _ :: _,[],_,_,_,_,h,_=>by simp at h
 | p :: P,w :: vs,0,m,nd,h1,h2,hk=>by
  simp at h1 h2;
  subst h1;
  subst h2
  show bindL kindOf ((p,w)::P.zip vs) m p=_
  unfold bindL
  rw [zjd λv hv=>(List.nodup_cons.mp nd).1 (List.of_mem_zip hv).1,if_pos hk]
  simp
 | p :: P,w :: vs,i+1,m,nd,h1,h2,hk=>by
  show bindL kindOf ((p,w)::P.zip vs) m x=_
  unfold bindL
  exact zjs (i:=i) (List.nodup_cons.mp nd).2 (by simpa using h1) (by simpa using h2) hk
theorem zjx {kindOf:Str->Option NameKind} {x:Str} {v:Value}:∀ {P:List Str} {vs:List Value} {i:Nat} {m:Str->Option Value},P.Nodup->P[i]? =some x->vs[i]? =some v->kindOf x≠some .local→bindC kindOf (P.zip vs) m x=some v
 | [],_,_,_,_,h,_,_=>by simp at h
 | _ :: _,[],_,_,_,_,h,_=>by simp at h
 | p :: P,w :: vs,0,m,nd,h1,h2,hk=>by
  simp at h1 h2;
  subst h1;
  subst h2
  show bindC kindOf ((p,w)::P.zip vs) m p=_
  unfold bindC
  rw [zjg λv hv=>(List.nodup_cons.mp nd).1 (List.of_mem_zip hv).1,if_neg hk]
  simp
 | p :: P,w :: vs,i+1,m,nd,h1,h2,hk=>by
  show bindC kindOf ((p,w)::P.zip vs) m x=_
  unfold bindC
  exact zjx (i:=i) (List.nodup_cons.mp nd).2 (by simpa using h1) (by simpa using h2) hk
def start (N:List Str) (vs:List V):St:=vs.map some++List.replicate (N.length-vs.length) none
def zoW (CX:CXT) (P:Program) (w:World) (K:W.Frag) (mg:Str->Option Value) (base:Heap) (N:List Str) (qual:Str) (scope:Scope) (f:Addr) (cd:Value) (A:Around) (outer:List Env) (s:Shared) (H:Hp) (E:XK):Cx where
 prog:=P
 w:=w
 K:=K
 mg:=mg
 base:=base
 A:=A.deeper (envOfC qual scope s.heap.objs.size f cd)
 N:=N
 s₀:=s
 H₀:=H
 env:=envOfC qual scope s.heap.objs.size f cd
 outer:=outer
 stack:=envOfC qual scope s.heap.objs.size f cd :: outer
 ex:=[]
 calm:=true
 fn:=λ_=>true
 pn:=[]
 xe:=λe s'=>wpAny (model P w) (A.deeper (envOfC qual scope s.heap.objs.size f cd)) (leaving (envOfC qual scope s.heap.objs.size f cd) e) (λ_ s''=>CX outer H s E e s'') (λe' s''=>CX outer H s E e' s'') s'
theorem zkS {sc:Scope} {n:Nat} {x:Str} (h:sc.names.lookup x=some .cell):∃c,(cellsFrom n sc.names []).lookup x=some c:=by
 have q:=W.cellsFrom_some sc.names n [] (.inl h)
 exact Option.isSome_iff_exists.mp q
theorem zoi {CX:CXT} {P:Program} {w:World} {K:W.Frag} {mg:Str->Option Value} {base:Heap} {N ps:List Str} {qual:Str} {scope:Scope} {f:Addr} {cd:Value} {A:Around} {outer:List Env} {s s1:Shared} {H:Hp} {E:XK} {us:List Value} {vs:List V}
  (S:FnScope N ps scope) (hd:A.handled=none) (e0:Env0 P w K mg base A outer s H) (hl:vs.length=ps.length) (r:zbH vs us)
  (x:InCallC s s.heap.objs.size (bindL (envOfC qual scope s.heap.objs.size f cd).kindOf (ps.zip us) λ_=>none) (cellsFrom (s.heap.objs.size+1) scope.names []) (bindC (envOfC qual scope s.heap.objs.size f cd).kindOf (ps.zip us) λ_=>none) s1) :
  Inv (zoW CX P w K mg base N qual scope f cd A outer s H E) [] (start N vs) H s1:=by
   have hpl:ps.length≤N.length:=by have:=congrArg List.length S.pre;rw [List.length_take] at this;omega
   obtain ⟨h1,tk,rfl,hk⟩:=x.done
   have noA:∀b:Addr,b∉(zoW CX P w K mg base N qual scope f cd A outer s H E).ex:=λb z=>absurd (show b∈([]:List Addr) from z) (by simp)
   refine ⟨⟨e0.mod,S.kind,rfl,rfl,Nat.le_refl _,λy z c h1 h2=> ?_,λy hy=> ?_,λy c _ h=> ?_,λ_=>hd,Around.frames_deeper e0.frames,.inr ⟨rfl,rfl⟩,λb z=>absurd z (noA b),e0.bs,e0.bsz,λb _ _=>noA b,λb z=>absurd z (noA b),e0.funs,e0.frf⟩,rfl,e0.bare,Un.kept hk,⟨_,x.toInCall.ns,λi y v h1 h2 h3=> ?_⟩,λy c h=>⟨_,x.cell y c h⟩,e0.hok.fresh (Nat.le_refl _),λy c h=> ?_,λp hp=>absurd (show p∈([]:List (Addr×Obj)) from hp) (by simp),e0.hok.kept hk,?_⟩
   ·exact name_of_addr x.apart (PySem.mem_of_lookup h1) (PySem.mem_of_lookup h2)
   ·
    have hy:scope.names.lookup y=some .cell∨scope.names.lookup y=some .free:=hy
    rcases hy with hy|hy
    ·exact zkS hy
    ·exact absurd rfl (S.nofree _ (PySem.mem_of_lookup hy))
   ·exact Nat.le_of_lt (x.above y c (PySem.mem_of_lookup h))
   ·
    have hi:i<vs.length:=by
     unfold start at h2
     by_cases hi:i<vs.length
     ·exact hi
     ·
      rw [List.getElem?_append_right (by simpa using hi)] at h2
      rw [List.getElem?_replicate] at h2
      split at h2<;>cases h2
    have ha:vs[i]? =some v:=by
     unfold start at h2
     rw [List.getElem?_append_left (by simpa using hi),List.getElem?_map] at h2
     cases e:vs[i]? with
      |none=>rw [e] at h2;cases h2
      |some a=>rw [e] at h2;cases h2;rfl
    obtain ⟨u,hu,rv⟩:=r.get ha
    have hp:ps[i]? =some y:=by rw [←S.pre,List.getElem?_take_of_lt (by omega)];exact h1
    have ndP:ps.Nodup:=by rw [←S.pre];exact S.nd.sublist (List.take_sublist _ _)
    refine ⟨u,rv,?_⟩
    rcases S.par y (List.mem_of_getElem? hp) with k|k
    ·exact .inl ⟨k,zjs ndP hp hu k⟩
    ·
     obtain ⟨c,e⟩:=zkS (n:=s.heap.objs.size+1) k
     refine .inr ⟨.inl k,c,e,?_⟩
     have q:=x.cell y c e
     rw [zjx ndP hp hu (by show scope.names.lookup y≠_;rw [k];decide)] at q
     exact q
   ·exact e0.hok.fresh (Nat.le_of_lt (x.above y c (PySem.mem_of_lookup h)))
   ·
    unfold start
    show _=N.length
    rw [List.length_append,List.length_map,List.length_replicate]
    omega
theorem zul {CX:CXT} {P:Program} {w:World} {K:W.Frag} {mg:Str->Option Value} {base:Heap} {k:Nat} {f:Addr} {name qual:Str} {params:Arguments} {body:List Stmt} {scope:Scope} {dV kV doc pm cdv ct oc:Value} {an od:Option Addr}
  {osl:Array (Option Value)} {N ps:List Str} {sp:Sp} (lk:K.lookup f=some ⟨oc,od,.func (W.fnOf name qual params body scope dV kV doc pm an cdv ct),osl⟩) (hcd:W.codeIn K cdv qual=true) (S:FnScope N ps scope)
  (len:∀vs H Q E,sp vs H Q E->vs.length=ps.length)
  (hbody:∀(A:Around) (outer:List Env) (s:Shared) (H:Hp) (vs:List V) (Q:VK) (E:XK),Room k (A.deeper (envOfC qual scope s.heap.objs.size f cdv))->sp vs H Q E→∃t,PSs (zoW CX P w K mg base N qual scope f cdv A outer s H E) body t∧t {nx:=λ_ H'=>Q .non H',rt:=Q} (start N vs) H) :
  FnOk P w K mg base CX (k+1) f (W.fnOf name qual params body scope dV kV doc pm an cdv ct) ps sp:=by
   refine ⟨len,λA outer s H args us vs Q E hr e0 hb r hsp=> ?_⟩
   have hl:=len _ _ _ _ hsp
   have KX:K.In s.heap:=e0.mod.kin.keeps λb o e=>(e0.bs b o e).1
   have lim:s.heap.NoLimit:=e0.mod.nolimit.keeps λb o e=>(e0.bs b o e).1
   have hkind:∀y∈ps.zip us,scope.names.lookup y.1=some .local∨(scope.names.lookup y.1=some .cell∧((cellsFrom (s.heap.objs.size+1) scope.names []).lookup y.1).isSome=true):=λ⟨n,v⟩ hy=>by
    rcases S.par n (List.of_mem_zip hy).1 with q|q
    ·exact .inl q
    ·exact .inr ⟨q,W.cellsFrom_some _ _ _ (.inl q)⟩
   refine codeAny_call_function hr.depth (KX _ _ lk) rfl S.co S.gen rfl (W.codeRec_of KX hcd) (hb _ _ _ _ ?_)
   refine wpAny_newFunctionEnv_cells S.kind hkind λenv he s1 x=> ?_
   subst he
   refine ⟨lim.keeps x.toInCall.keep,codeAny_func ?_⟩
   obtain ⟨t,ht,hq⟩:=hbody A outer s H vs Q E (hr.deeper _) hsp
   have I:Inv (zoW CX P w K mg base N qual scope f cdv A outer s H E) [] (start N vs) H s1:=zoi S hr.hd e0 hl r x
   refine wpAny_mono (ht [] s1 (start N vs) H _ I hq) (λfl s' hs=> ?_) λe s' hs=>hs
   have fin:∀ {σ':St} {H':Hp} {v:V} {u:Value},Inv (zoW CX P w K mg base N qual scope f cdv A outer s H E) [] σ' H' s'->zde v u->Q v H'->CE outer P w H s Q u s':=λ {σ' H' v u} J rv q=>⟨v,H',J.os,J.bare,J.base,J.hok,rv,q⟩
   cases fl with
    |ret u=>
     obtain ⟨v,σ',H',J,rv,q⟩:=hs
     exact fin J rv q
    |next=>
     obtain ⟨σ',H',J,q⟩:=hs
     exact fin (v:=V.non) (u:=Value.none) J rfl q
    |brk=>
     obtain ⟨_,_,_,q⟩:=hs
     exact False.elim q
    |cont=>
     obtain ⟨_,_,_,q⟩:=hs
     exact False.elim q
end L2
namespace L2
open PySem PySem.Spec PyProof.Rows
section
variable {X:Cx} {x:Str} {p pos:Pos} {e:Expr} {es:List Expr} {t:TA} {id T:String} {r:List V->Hp->VK->Prop}
def tCB (r:List V->Hp->VK->Prop) (t:TA):TE:=λσ H Q=>t σ H λvs H1=>r vs H1 Q
theorem zaS (hc:zeG X (.builtin id) r) (hg:Gl X x) (hm:X.mg x=none) (hv:bootBuiltins x=some (.builtin id)) (ha:PA X (e::es) t) (hn:x≠"__name__":=by decide) (hdb:(x==("__debug__" :Str))=false:=by decide)
  (he:starEach (e::es) X.env=(false,eval e X.env)::starEach es X.env:=by rfl) (hpl:(backTo pos (starEach es X.env)).any (·.1)=false:=by rfl):PE X (.Call (.Name x p) (e::es) [] pos) (tCB r t):=by
   intro pins s σ H Q I h
   refine wpAny_Call_Name_kw (zgn I hg hm hv ?_ hn hdb)
   exact PyProof.Rows.callWith_builtin1 (thn (ha pos pins s σ H _ I h) λus s1 ⟨vs,H1,I1,r1,q1⟩=>hc pins s1 σ H1 vs us Q I1 r1 q1) he hpl
theorem zb6 (hc:zeG X (.type T) r) (hg:Gl X x) (hm:X.mg x=none) (hv:bootBuiltins x=some (.type T)) (ha:PA X (e::es) t) (hn:x≠"__name__":=by decide) (hdb:(x==("__debug__" :Str))=false:=by decide)
  (he:starEach (e::es) X.env=(false,eval e X.env)::starEach es X.env:=by rfl) (hpl:(backTo pos (starEach es X.env)).any (·.1)=false:=by rfl):PE X (.Call (.Name x p) (e::es) [] pos) (tCB r t):=by
   intro pins s σ H Q I h
   refine wpAny_Call_Name_kw (zgn I hg hm hv ?_ hn hdb)
   exact PyProof.Rows.callWith_type1 (thn (ha pos pins s σ H _ I h) λus s1 ⟨vs,H1,I1,r1,q1⟩=>hc pins s1 σ H1 vs us Q I1 r1 q1) he hpl
end
end L2
namespace HT
open PySem PyProof.Rows
section
open PySem.SeqAt
open PySem.AutoSeq1 (wpAny_loadPart')
open PySem.MeetsSeq PySem.MeetsSeq2 PySem.MeetsSeq3
end
section
variable {prog:Program} {w:World} {A:Around} {E:Value->Shared->Prop} {s:Shared}
def sIx (n d:Nat):Option Int->Nat
 | none=>d
 | some v=>if v<0 then (v+(n:Int)).toNat else min v.toNat n
theorem sIx_none (n d:Nat):sIx n d none=d:=rfl
theorem sIx_nat (n d k:Nat):sIx n d (some (k:Int))=min k n:=by
 show (if (k:Int)<0 then ((k:Int)+(n:Int)).toNat else min (k:Int).toNat n)=min k n
 rw [if_neg (by omega),Int.toNat_natCast]
end
end HT
namespace L2
open PySem PySem.Spec PyProof.Rows
abbrev TO:=St->Hp->(Option Int->Hp->Prop)->Prop
def PO (X:Cx) (e:Option Expr) (t:TO):Prop :=
 ∀(pins:List (Addr×Obj)) (s:Shared) (σ:St) (H:Hp) (Q:Option Int->Hp->Prop),Inv X pins σ H s->t σ H Q→wpAny (model X.prog X.w) X.A (evalPart e X.env) (λu s'=>∃o H',Inv X pins σ H' s'∧IsPart u o∧Q o H') X.xe s
def zoe:TO:=λ_ H Q=>Q none H
def zsX (t:TE):TO:=λσ H Q=>t σ H λx H1=>∃i,x= .int i∧Q (some i) H1
section
variable {X:Cx} {e:Expr} {te:TE} {lo hi:Option Expr} {tl th:TO} {pos p2:Pos}
theorem zd2:PO X none zoe:=by
 intro pins s σ H Q I h
 rw [evalPart_none]
 exact wpAny_pure ⟨none,H,I,.none,h⟩
theorem zd5 (h:PE X e te):PO X (some e) (zsX te):=by
 intro pins s σ H Q I hw
 rw [evalPart_some]
 refine thn (h pins s σ H _ I hw) λu s1 ⟨x,H1,I1,r1,q1⟩=> ?_
 obtain ⟨i,rfl,q⟩:=q1
 obtain ⟨t,rfl⟩:=r1
 exact ⟨some i,H1,I1,.int i t,q⟩
def SlR (X:Cx) (r:V->Option Int->Option Int->Hp->VK->Prop):Prop :=
 ∀(pins:List (Addr×Obj)) (s:Shared) (σ:St) (H:Hp) (x:V) (v vl vu:Value) (lo hi:Option Int) (sl:Addr) (Q:VK),Inv X pins σ H s->zde x v->s.heap.IsSliceOf sl vl vu .none->IsPart vl lo->IsPart vu hi->r x lo hi H Q→∃T id,typeLookup (.type T) "__getitem__" =pure (some (.builtin id))∧s.TypeIs v T∧wpAny (model X.prog X.w) X.A (getItem v (.ref sl)) (EP X pins σ Q) X.xe s
def tSl (r:V->Option Int->Option Int->Hp->VK->Prop) (te:TE) (tl th:TO):TE:=λσ H Q=>te σ H λx H1=>tl σ H1 λl H2=>th σ H2 λu H3=>r x l u H3 Q
theorem zc9 {r:V->Option Int->Option Int->Hp->VK->Prop} (hr:SlR X r) (he:PE X e te) (hl:PO X lo tl) (hu:PO X hi th):PE X (.Subscript e (.Slice lo hi none p2) pos) (tSl r te tl th):=by
 intro pins s σ H Q I h
 refine Subscript_ (thn (he pins s σ H _ I h) λv s1 ⟨x,H1,I1,r1,q1⟩=> ?_)
 refine wpAny_Slice (thn (hl pins s1 σ H1 _ I1 q1) λvl s2 ⟨l,H2,I2,pl,q2⟩=>thn (hu pins s2 σ H2 _ I2 q2) λvu s3 ⟨u,H3,I3,pu,q3⟩=> ?_)
 rw [evalPart_none]
 refine wpAny_pure ?_
 have I4:Inv X pins σ H3 {s3 with heap:=s3.heap.push {cls:= .type "slice",data:= .fields #[vl,vu,.none]}}:=I3.kept (t':=s3.toks) λb ob q=>Heap.get?_push_of_some _ q
 obtain ⟨T,id,hT,ht,hg⟩:=hr pins {s3 with heap:=s3.heap.push {cls:= .type "slice",data:= .fields #[vl,vu,.none]}} σ H3 x v vl vu l u s3.heap.objs.size Q I4 r1 (Heap.IsSliceOf.new ..) pl pu q3
 show wpAny (model X.prog X.w) X.A (subscriptTail e (.Slice lo hi none p2) v (.ref s3.heap.objs.size)) (EP X pins σ Q) X.xe {s3 with heap:=s3.heap.push {cls:= .type "slice",data:= .fields #[vl,vu,.none]}}
 exact tail_any (ops:=[.ref s3.heap.objs.size,v]) ht hT hg (by with_unfolding_all rfl)
def zsb (xs:List V) (lo hi:Option Int):List V:=(xs.drop (HT.sIx xs.length 0 lo)).take (HT.sIx xs.length xs.length hi-HT.sIx xs.length 0 lo)
theorem zka (xs:List V) (lo hi:Option Int):(zsb xs lo hi).length≤xs.length:=by
 unfold zsb
 rw [List.length_take,List.length_drop]
 omega
end
end L2
namespace L2
open PySem PySem.Spec PyProof.Rows
def ixN (n:Nat) (i:Int):Option Nat:=if 0≤i then (if i<n then some i.toNat else none) else if-(n:Int)≤i then some (i+n).toNat else none
def atI {α:Type} (xs:List α) (i:Int):Option α:=(ixN xs.length i).bind λj=>xs[j]?
theorem znJ {n:Nat} {i:Int} {j:Nat} (h:ixN n i=some j):seqIndex? i n=some j∧j<n∧ -(n:Int)≤i∧i<n:=by
 unfold ixN at h
 by_cases h0:0≤i
 ·
  rw [if_pos h0] at h
  by_cases h1:i<n
  ·
   rw [if_pos h1] at h
   have e:i.toNat=j:=Option.some.inj h
   exact ⟨by rw [seqIndex_of h0 h1,e],by omega,by omega,h1⟩
  ·rw [if_neg h1] at h;cases h
 ·
  rw [if_neg h0] at h
  by_cases h1: -(n:Int)≤i
  ·
   rw [if_pos h1] at h
   have e:(i+n).toNat=j:=Option.some.inj h
   exact ⟨by rw [seqIndex_neg (by omega) h1,e],by omega,h1,by omega⟩
  ·rw [if_neg h1] at h;cases h
theorem zkE {α:Type} {xs:List α} {i:Int} {v:α} (h:atI xs i=some v):∃j,seqIndex? i xs.length=some j∧xs[j]? =some v∧j<xs.length∧ -(xs.length:Int)≤i∧i<xs.length:=by
 unfold atI at h
 cases e:ixN xs.length i with
  |none=>rw [e] at h;cases h
  |some j=>
   rw [e] at h
   obtain ⟨h1,h2,h3,h4⟩:=znJ e
   exact ⟨j,h1,h,h2,h3,h4⟩
def zrF (b:Expr):Prop:=∀o i,subscripted b false o i=operate [o,i] (getItem o i)
def IxR (X:Cx) (r:R2):Prop :=
 ∀(value slice:Expr) (pins:List (Addr×Obj)) (s:Shared) (σ:St) (H:Hp) (x y:V) (v u:Value) (Q:VK),Inv X pins σ H s->zde x v->zde y u->r x y H Q→subscripted slice false v u=operate [v,u] (getItem v u)->wpAny (model X.prog X.w) X.A (subscriptTail value slice v u) (EP X pins σ Q) X.xe s
def MtR (X:Cx) (id:String) (r:V->List V->Hp->VK->Prop):Prop :=
 ∀(pins:List (Addr×Obj)) (s:Shared) (σ:St) (H:Hp) (x:V) (xs:List V) (v:Value) (us:List Value) (Q:VK),Inv X pins σ H s->zde x v->zbH xs us->r x xs H Q→wpAny (model X.prog X.w) X.A (call (.builtin id) (v::us)) (EP X pins σ Q) X.xe s
section
variable {X:Cx} {a b:Expr} {ta tb:TE} {pos:Pos}
theorem zbx {r:R2} (hr:IxR X r) (ha:PE X a ta) (hb:PE X b tb) (hs:zrF b):PE X (.Subscript a b pos) (tOp r ta tb):=by
 intro pins s σ H Q I h
 exact Subscript_ (zus ha hb I h λv u s2 x y H2 I2 rx ry q=>hr a b pins s2 σ H2 x y v u Q I2 rx ry q (hs _ _))
def zrf (K:W.Frag):R2:=λx y H Q=>∃p xs i v,x= .ref p∧y= .int i∧SqL K H p xs∧atI xs i=some v∧Q v H
def ztZ (K:W.Frag):R2:=λx y H Q=>∃p xs i v,x= .ref p∧y= .int i∧SqT K H p xs∧atI xs i=some v∧Q v H
def zuV:R2:=λx y H Q=>∃z i c,x= .str z∧y= .int i∧z.length≤sizeLine∧atI z.cps.toList i=some c∧Q (.str ⟨#[c]⟩) H
theorem zqZ:IxR X (zrf X.K):=by
 intro value slice pins s σ H x y v u Q I rx ry h hs
 obtain ⟨p,xs,i,z,rfl,rfl,hq,he,q⟩:=h
 cases rx
 obtain ⟨t,rfl⟩:=ry
 obtain ⟨its,r,pl,hz⟩:=I.list hq
 obtain ⟨j,h1,h2,h3,h4,h5⟩:=zkE he
 obtain ⟨w,ew,rw'⟩:=r.get h2
 have hl:=r.length
 have hn:=zhP
 have fin:EP X pins σ Q w s:=⟨z,H,I,rw',q⟩
 by_cases h0:0≤i
 ·
  have hj:i.toNat=j:=by
   rw [seqIndex_of h0 h5] at h1
   exact Option.some.inj h1
  exact item_listR pl.isList h0 (by omega) (by rw [hj];simpa using ew) fin hs
 ·
  have hj:(i+(its.toArray.size:Int)).toNat=j:=by
   rw [seqIndex_neg (by omega) h4] at h1
   rw [List.size_toArray,←hl]
   exact Option.some.inj h1
  exact subscriptTail_builtinR (x:=w) pl.isList.typeIs slot_list_getitem.lookup (wpAny_getItem_list_neg (Q:=λr s'=>r=w∧EP X pins σ Q r s') pl.isList (by omega) (by rw [List.size_toArray]<;>omega) (by omega) (by rw [hj];simpa using ew) ⟨rfl,fin⟩) hs
theorem zrO:IxR X (ztZ X.K):=by
 intro value slice pins s σ H x y v u Q I rx ry h hs
 obtain ⟨p,xs,i,z,rfl,rfl,hq,he,q⟩:=h
 cases rx
 obtain ⟨t,rfl⟩:=ry
 obtain ⟨its,r,pl,hz⟩:=I.tuple hq
 obtain ⟨j,h1,h2,h3,h4,h5⟩:=zkE he
 obtain ⟨w,ew,rw'⟩:=r.get h2
 have hl:=r.length
 have hn:=zhP
 have fin:EP X pins σ Q w s:=⟨z,H,I,rw',q⟩
 exact subscriptTail_builtinR (x:=w) pl.typeIs slot_tuple_getitem.lookup (getItem_tuple (j:=j) (Q:=λr s'=>r=w∧EP X pins σ Q r s') pl (by omega) (by omega) (by rw [List.size_toArray,←hl];exact h1) (by simpa using ew) ⟨rfl,fin⟩) hs
theorem zjt:IxR X zuV:=by
 intro value slice pins s σ H x y v u Q I rx ry h hs
 obtain ⟨z,i,c,rfl,rfl,hz,he,q⟩:=h
 obtain ⟨t,rfl⟩:=rx
 obtain ⟨t',rfl⟩:=ry
 obtain ⟨j,h1,h2,h3,h4,h5⟩:=zkE he
 have hl:z.cps.toList.length=z.length:=by simp [Str.length]
 rw [hl] at h1 h4 h5
 have hn:=zhP
 exact tail_any (typeIs_str s z t) slot_str_getitem.lookup (getItem_str (c:=c) (by
  have e1:decide (i< -(2 ^ 63:Int))=false:=decide_eq_false (by omega)
  have e2:decide (i≥2 ^ 63)=false:=decide_eq_false (by omega)
  rw [e1,e2,Bool.or_false]) (by rw [h1];simpa using h2) ⟨.str ⟨#[c]⟩,H,I.tok _,⟨_,rfl⟩,q⟩) hs
theorem zl5 (its:List Value) (n j:Nat) (u:Value):Obj.mapSeq (·.setIfInBounds j u) {cls:= .type "list",data:= .seq its.toArray n}= {cls:= .type "list",data:= .seq (its.set j u).toArray n}:=by simp [Obj.mapSeq]
theorem Inv.lst {pins:List (Addr×Obj)} {σ:St} {H:Hp} {s:Shared} {p:Addr} {xs:List V} (I:Inv X pins σ H s) (h:H p=some (.lst xs)) :
  ∃(its:List Value) (n:Nat),zbH xs its∧s.heap.get? p=some {cls:= .type "list",data:= .seq its.toArray n}∧xs.length≤sizeLine:=by
   obtain ⟨z,its,n,r,e⟩:=I.hok p _ h
   exact ⟨its,n,r,e,z⟩
theorem Inv.lstUpd {pins:List (Addr×Obj)} {σ:St} {H:Hp} {s:Shared} {p:Addr} {xs ys:List V} {its its':List Value} {n n':Nat} {f:Obj->Obj} (I:Inv X pins σ H s) (h:H p=some (.lst xs))
  (ho:s.heap.get? p=some {cls:= .type "list",data:= .seq its.toArray n}) (hf:f {cls:= .type "list",data:= .seq its.toArray n}= {cls:= .type "list",data:= .seq its'.toArray n'}) (r:zbH ys its') (hz:ys.length≤sizeLine) (t:Nat) :
  Inv X pins σ (upd H p (.lst ys)) {s with heap:=s.heap.update p f,toks:=t}:=by
   have e:(s.heap.update p f).get? p=some {cls:= .type "list",data:= .seq its'.toArray n'}:=by rw [Heap.get?_update_self f ho (by rw [hf]<;>rfl),hf]
   refine I.write (x:=p) (e:=p) (by rw [h];trivial) (.inl rfl) (λb u hb q=>(Heap.get?_update_other _ _ (Ne.symm hb)).trans q) ⟨_,e⟩ ?_
   exact ⟨hz,its',n',r,e⟩
def zoz:V->V->V->Hp->(Hp->Prop)->Prop:=λo i v H Q=>∃p xs k j,o= .ref p∧i= .int k∧H p=some (.lst xs)∧ixN xs.length k=some j∧Q (upd H p (.lst (xs.set j v)))
theorem zkQ:zuP X zoz:=by
 intro pins s σ H o i v ov iv u Q I ro ri rv h
 obtain ⟨p,xs,k,j,rfl,rfl,hp,hj,q⟩:=h
 cases ro
 obtain ⟨t,rfl⟩:=ri
 obtain ⟨its,n,r,ho,hz⟩:=I.lst hp
 obtain ⟨h1,h2,h3,h4⟩:=znJ hj
 have hl:=r.length
 have hn:=zhP
 have I':Inv X pins σ (upd H p (.lst (xs.set j v))) {s with heap:=s.heap.update p (Obj.mapSeq (·.setIfInBounds j u))}:=I.lstUpd hp ho (zl5 its n j u) (r.set rv j) (by rw [List.length_set];exact hz) s.toks
 by_cases h0:0≤k
 ·
  have hk:k.toNat=j:=by
   rw [seqIndex_of h0 h4] at h1
   exact Option.some.inj h1
  exact W.ki_setAt ho h0 (by omega) (by rw [List.size_toArray,←hl];exact h4) (by rw [hk];exact ⟨_,I',q⟩)
 ·
  have hk:(k+(its.toArray.size:Int)).toNat=j:=by
   rw [seqIndex_neg (by omega) h3] at h1
   rw [List.size_toArray,←hl]
   exact Option.some.inj h1
  exact W.ki_setBack ho (by omega) (by rw [List.size_toArray,←hl];exact h3) (by omega) (by rw [hk];exact ⟨_,I',q⟩)
theorem zjO (lo hi:Option Int) (n:Nat):(sliceBounds lo hi none n).1=((HT.sIx n 0 lo:Nat):Int)∧(sliceBounds lo hi none n).2.1=((HT.sIx n n hi:Nat):Int)∧(sliceBounds lo hi none n).2.2=1:=by
 refine ⟨?_,?_,rfl⟩
 ·
  cases lo with
   |none=>simp [sliceBounds,HT.sIx]
   |some i=>
    simp only [sliceBounds,HT.sIx,Option.getD_none,show (1:Int)>0 by decide,if_true]
    by_cases h:i<0
    ·simp only [h,if_true]<;>omega
    ·simp only [h,if_false]<;>omega
 ·
  cases hi with
   |none=>simp [sliceBounds,HT.sIx]
   |some i=>
    simp only [sliceBounds,HT.sIx,Option.getD_none,show (1:Int)>0 by decide,if_true]
    by_cases h:i<0
    ·simp only [h,if_true]<;>omega
    ·simp only [h,if_false]<;>omega
theorem zin (its:List Value) (lo hi:Option Int):slicePick its.toArray lo hi none=((its.drop (HT.sIx its.length 0 lo)).take (HT.sIx its.length its.length hi-HT.sIx its.length 0 lo)).toArray:=by
 obtain ⟨h1,h2,h3⟩:=zjO lo hi its.toArray.size
 unfold slicePick
 rw [h1,h2,h3]
 simp only [sliceRange_one,pick_run,List.size_toArray]<;>rfl
def ztI (K:W.Frag):V->Option Int->Option Int->Hp->VK->Prop:=λx lo hi H Q=>∃a xs,x= .ref a∧SqL K H a xs∧∀p,H p=none->Q (.ref p) (upd H p (.lst (zsb xs lo hi)))
theorem zq3:SlR X (ztI X.K):=by
 intro pins s σ H x v vl vu lo hi sl Q I rx hs pl pu h
 obtain ⟨a,xs,rfl,hx,q⟩:=h
 cases rx
 obtain ⟨its,r,ht,hz⟩:=I.list hx
 have hlen:=r.length
 refine ⟨"list",_,slot_list_getitem.lookup,ht.isList.typeIs,?_⟩
 refine wpAny_getItem_list_slice ht.isList hs pl pu .none (by simp) ?_ (by rw [List.size_toArray]<;>omega)
 rw [zin,←hlen]
 refine ⟨.ref s.heap.objs.size,_,I.laid (t':=s.toks) (o:= .lst (zsb xs lo hi)) (λb ob q=>Heap.get?_push_of_some _ q) (Nat.le_refl _) ?_,rfl,q _ (I.hok.fresh (Nat.le_refl _))⟩
 exact ⟨Nat.le_trans (zka xs lo hi) hz,_,0,(r.drop (HT.sIx xs.length 0 lo)).take (HT.sIx xs.length xs.length hi-HT.sIx xs.length 0 lo),Heap.get?_push_size _ rfl⟩
def zhG:V->Bool
 | .non=>true
 | .bl _=>true
 | .int _=>true
 | .str _=>true
 | _=>false
def eqV:V->V->Bool
 | .non,.non=>true
 | .bl a,.bl b=>a == b
 | .bl a,.int b=>(if a then 1 else 0)==b
 | .int a,.bl b=>a==(if b then 1 else 0)
 | .int a,.int b=>a == b
 | .str a,.str b=>a == b
 | _,_=>false
theorem zpZ {A:Around} {s:Shared} {y x:V} {u v:Value} (ry:zde y u) (rx:zde x v) (fy:zhG y=true) (fx:zhG x=true):SeqAt.EqAt A s u v (eqV y x):=by
 cases y with
  |non=>
   cases ry
   cases x with
    |non=>cases rx;exact SeqAt.EqAt.same _
    |bl b=>cases rx;exact SeqAt.EqAt.none_bool b
    |int b=>obtain ⟨t,rfl⟩:=rx;exact SeqAt.EqAt.none_int b t
    |str b=>obtain ⟨t,rfl⟩:=rx;exact SeqAt.EqAt.none_str b t
    |_=>exact absurd (show false=true from fx) Bool.false_ne_true
  |bl a=>
   cases ry
   cases x with
    |non=>cases rx;exact SeqAt.EqAt.bool_none a
    |bl b=>cases rx;exact SeqAt.EqAt.bool_bool a b
    |int b=>obtain ⟨t,rfl⟩:=rx;exact SeqAt.EqAt.bool_int a b t
    |str b=>obtain ⟨t,rfl⟩:=rx;exact SeqAt.EqAt.bool_str a b t
    |_=>exact absurd (show false=true from fx) Bool.false_ne_true
  |int a=>
   obtain ⟨t',rfl⟩:=ry
   cases x with
    |non=>cases rx;exact SeqAt.EqAt.int_none a t'
    |bl b=>cases rx;exact SeqAt.EqAt.int_bool a t' b
    |int b=>obtain ⟨t,rfl⟩:=rx;exact SeqAt.EqAt.int_int a t' b t
    |str b=>obtain ⟨t,rfl⟩:=rx;exact SeqAt.EqAt.int_str a t' b t
    |_=>exact absurd (show false=true from fx) Bool.false_ne_true
  |str a=>
   obtain ⟨t',rfl⟩:=ry
   cases x with
    |non=>cases rx;exact SeqAt.EqAt.str_none a t'
    |bl b=>cases rx;exact SeqAt.EqAt.str_bool a t' b
    |int b=>obtain ⟨t,rfl⟩:=rx;exact SeqAt.EqAt.str_int a t' b t
    |str b=>obtain ⟨t,rfl⟩:=rx;exact SeqAt.EqAt.str_str a t' b t
    |_=>exact absurd (show false=true from fx) Bool.false_ne_true
  |_=>exact absurd (show false=true from fy) Bool.false_ne_true
def eqU (x:V) (u:Value):Bool:=match u with| .none=>eqV .non x| .bool b=>eqV (.bl b) x| .int i _=>eqV (.int i) x| .str z _=>eqV (.str z) x|_=>false
theorem zpE {x y:V} {u:Value} (r:zde y u) (f:zhG y=true):eqU x u=eqV y x:=by
 cases y with
  |non=>cases r;rfl
  |bl b=>cases r;rfl
  |int i=>obtain ⟨t,rfl⟩:=r;rfl
  |str z=>obtain ⟨t,rfl⟩:=r;rfl
  |_=>exact absurd (show false=true from f) Bool.false_ne_true
theorem zgR {x:V}:∀ {xs:List V} {us:List Value},zbH xs us->xs.all zhG=true->us.any (eqU x)=xs.any λy=>eqV y x
 | _,_,.nil,_=>rfl
 | y :: xs,u :: us,.cons r t,f=>by
  rw [List.all_cons,Bool.and_eq_true] at f
  rw [List.any_cons,List.any_cons,zpE r f.1,zgR t f.2]
theorem zfH {A:Around} {s:Shared} {x:V} {v:Value} (rx:zde x v) (fx:zhG x=true):∀ {xs:List V} {us:List Value},zbH xs us->xs.all zhG=true->∀u∈us,SeqAt.EqAt A s u v (eqU x u)
 | _,_,.nil,_=>λu hu=>by cases hu
 | y :: xs,u :: us,.cons r t,f=>λu' hu=>by
  rw [List.all_cons,Bool.and_eq_true] at f
  rcases List.mem_cons.mp hu with rfl|hu
  ·rw [zpE r f.1];exact zpZ r rx f.1 fx
  ·exact zfH rx fx t f.2 u' hu
def inV (x:V) (xs:List V):Bool:=xs.any λy=>eqV y x
def rIn (K:W.Frag) (neg:Bool):R2:=λx y H Q=>∃p xs,y= .ref p∧(SqL K H p xs∨SqT K H p xs)∧zhG x=true∧xs.all zhG=true∧Q (.bl (if neg then !inV x xs else inV x xs)) H
theorem zn0:OpR X (compareOp .In) (rIn X.K false):=by
 intro pins s σ H x y v u Q I rx ry h
 obtain ⟨p,xs,rfl,hq,fx,fs,q⟩:=h
 cases ry
 rcases hq with hq|hq
 ·
  obtain ⟨its,r,pl,hz⟩:=I.list hq
  refine SeqAt.in_listAt (eqU x) pl.isList (λw hw=>zfH rx fx r fs w (by simpa using hw)) ⟨.bl _,H,I,rfl,?_⟩
  rw [show its.toArray.any (eqU x)=its.any (eqU x) by simp,zgR r fs]
  exact q
 ·
  obtain ⟨its,r,pl,hz⟩:=I.tuple hq
  refine SeqAt.in_tupleAt (eqU x) pl (λw hw=>zfH rx fx r fs w (by simpa using hw)) ⟨.bl _,H,I,rfl,?_⟩
  rw [show its.toArray.any (eqU x)=its.any (eqU x) by simp,zgR r fs]
  exact q
theorem zjw:OpR X (compareOp .NotIn) (rIn X.K true):=by
 intro pins s σ H x y v u Q I rx ry h
 obtain ⟨p,xs,rfl,hq,fx,fs,q⟩:=h
 cases ry
 rcases hq with hq|hq
 ·
  obtain ⟨its,r,pl,hz⟩:=I.list hq
  refine SeqAt.notIn_listAt (eqU x) pl.isList (λw hw=>zfH rx fx r fs w (by simpa using hw)) ⟨.bl _,H,I,rfl,?_⟩
  rw [show its.toArray.any (eqU x)=its.any (eqU x) by simp,zgR r fs]
  exact q
 ·
  obtain ⟨its,r,pl,hz⟩:=I.tuple hq
  refine SeqAt.notIn_tupleAt (eqU x) pl (λw hw=>zfH rx fx r fs w (by simpa using hw)) ⟨.bl _,H,I,rfl,?_⟩
  rw [show its.toArray.any (eqU x)=its.any (eqU x) by simp,zgR r fs]
  exact q
theorem zjh:zeG X (.builtin "len") (λxs H Q=>∃p ys,xs=[.ref p]∧(SqL X.K H p ys∨SqT X.K H p ys)∧Q (.int ys.length) H):=by
 intro pins s σ H xs us Q I r h
 obtain ⟨p,ys,rfl,hq,q⟩:=h
 obtain ⟨u,rfl,rx⟩:=zgw r
 cases rx
 have hn:=zhP
 rcases hq with hq|hq
 ·
  obtain ⟨its,r',pl,hz⟩:=I.list hq
  have hlen:=r'.length
  exact Calls.call_len_list pl.isList (by simp only [List.size_toArray]<;>omega) ⟨.int ys.length,H,I.tok _,⟨s.toks+1,by rw [List.size_toArray,hlen]⟩,q⟩
 ·
  obtain ⟨its,r',pl,hz⟩:=I.tuple hq
  have hlen:=r'.length
  exact len_tuple pl (by simp only [List.size_toArray]<;>omega) ⟨.int ys.length,H,I.tok _,⟨s.toks+1,by rw [List.size_toArray,hlen]⟩,q⟩
theorem zgp:zeG X (.builtin "len") (λxs H Q=>∃z,xs=[.str z]∧z.length≤sizeLine∧Q (.int z.length) H):=by
 intro pins s σ H xs us Q I r h
 obtain ⟨z,rfl,hz,q⟩:=h
 obtain ⟨u,rfl,t,rfl⟩:=zgw r
 have hn:=zhP
 exact len_str (by omega) ⟨.int z.length,H,I.tok _,⟨_,rfl⟩,q⟩
theorem zjf:zeG X (.type "list") (λxs H Q=>∃p ys,xs=[.ref p]∧(SqL X.K H p ys∨SqT X.K H p ys)∧∀l,H l=none->Q (.ref l) (upd H l (.lst ys))):=by
 intro pins s σ H xs us Q I r h
 obtain ⟨p,ys,rfl,hq,q⟩:=h
 obtain ⟨u,rfl,rx⟩:=zgw r
 cases rx
 have fin:∀(its:List Value),zbH ys its->ys.length≤sizeLine->∀(h':Heap) (c':Nat),(∀b o',s.heap.get? b=some o'->h'.get? b=some o')→h'.get? s.heap.objs.size=some {cls:= .type "list",dict:=none,data:= .seq its.toArray c',slots:= #[]}->EP X pins σ Q (.ref s.heap.objs.size) {s with heap:=h'}:=λits r' hz h' c' kp e=>⟨.ref s.heap.objs.size,_,I.laid (t':=s.toks) kp (Nat.le_refl _) (show zeE X.prog X.w _ h' _ (.lst ys) from ⟨hz,its,c',r',e⟩),rfl,q _ (I.hok.fresh (Nat.le_refl _))⟩
 rcases hq with hq|hq
 ·
  obtain ⟨its,r',pl,hz⟩:=I.list hq
  have hlen:=r'.length
  obtain ⟨o,ho,hc,n,hd⟩:=pl.isList
  exact call_list_seq p (.inl rfl) ho hc hd (λh' c' kp e=>fin its r' hz h' c' kp e) (by simp only [List.size_toArray]<;>omega)
 ·
  obtain ⟨its,r',pl,hz⟩:=I.tuple hq
  have hlen:=r'.length
  obtain ⟨o,ho,hc,n,hd⟩:=pl
  exact call_list_seq p (.inr rfl) ho hc hd (λh' c' kp e=>fin its r' hz h' c' kp e) (by simp only [List.size_toArray]<;>omega)
def tyV (K:W.Frag) (T:String) (x:V) (H:Hp):Prop:=match x with| .str _=>T="str" | .int _=>T="int" | .ref p=>(T="list" ∧∃xs,SqL K H p xs)∨(T="tuple" ∧∃o,K.lookup p=some o∧o.cls= .type "tuple" ∧o.dict=none)∨(T="dict" ∧((∃kvs,H p=some (.dK kvs))∨∃kvs,H p=some (.dT kvs)))∨(T="set" ∧∃S n,H p=some (.set S n))|_=>False
theorem ztu {pins:List (Addr×Obj)} {σ:St} {H:Hp} {s:Shared} {T:String} {x:V} {v:Value} (I:Inv X pins σ H s) (r:zde x v) (ty:tyV X.K T x H) :
  s.TypeIs v T∧∀a,v= .ref a->∃ob,s.heap.get? a=some ob∧ob.dict=none:=by
   cases x with
    |str z=>
     obtain ⟨t,rfl⟩:=r
     cases (show T="str" from ty)
     exact ⟨typeIs_str s z t,λ_ e=>nomatch e⟩
    |int i=>
     obtain ⟨t,rfl⟩:=r
     cases (show T="int" from ty)
     exact ⟨typeIs_int s i t,λ_ e=>nomatch e⟩
    |ref p=>
     cases r
     rcases ty with ⟨rfl,xs,hq⟩|⟨rfl,o,hk,hc,hd⟩|⟨rfl,hk⟩|⟨rfl,S,n,hk⟩
     ·
      obtain ⟨its,_,pl,_⟩:=I.list hq
      refine ⟨pl.isList.typeIs,λa e=> ?_⟩
      cases e
      obtain ⟨o,n,e,c,hd,_⟩:=pl
      exact ⟨o,e,hd⟩
     ·
      refine ⟨⟨o,I.kIn p o hk,hc⟩,λa e=> ?_⟩
      cases e
      exact ⟨o,I.kIn _ o hk,hd⟩
     ·
      have z:∃o,s.heap.get? p=some o∧o.ExactDict:=by
       rcases hk with ⟨kvs,hk⟩|⟨kvs,hk⟩
       ·
        obtain ⟨_,_,_,_,o,_,_,e,ex,_⟩:=I.hok p _ hk
        exact ⟨o,e,ex⟩
       ·
        obtain ⟨_,_,_,_,o,_,_,e,ex,_⟩:=I.hok p _ hk
        exact ⟨o,e,ex⟩
      obtain ⟨o,e,ex⟩:=z
      refine ⟨⟨o,e,ex.1⟩,λa e2=> ?_⟩
      cases e2
      exact ⟨o,e,ex.2.1⟩
     ·
      obtain ⟨o,_,_,_,e,ex,_⟩:=I.hok p _ hk
      refine ⟨⟨o,e,ex.1⟩,λa e2=> ?_⟩
      cases e2
      exact ⟨o,e,ex.2.1⟩
    |_=>exact False.elim ty
def tBM (K:W.Frag) (T:String) (r:V->List V->Hp->VK->Prop) (to:TE) (t:TA):TE:=λσ H Q=>to σ H λx H1=>tyV K T x H1∧t σ H1 λxs H2=>r x xs H2 Q
variable {o e:Expr} {es:List Expr} {to:TE} {t:TA} {name:Str} {apos cpos:Pos} {T id:String} {r:V->List V->Hp->VK->Prop}
theorem zmM (pa:PlainAttrs T) (slot:Slot T name id) (hty:typeOf (.builtin id)=pure (.type "method_descriptor")) (hm:MtR X id r) (ho:PE X o to) (ha:PA X (e::es) t)
  (hbase:attributeBase o name X.env (eval o X.env)=eval o X.env:=by rfl)
  (hfew:((backTo cpos (starEach (e::es) X.env)).all (λx=> !x.1) && (backToKw cpos (keywordEach [] X.env)).all (λx=>x.1.isSome) && decide ((e::es).length+([]:List Keyword).length+(if ([]:List Keyword).isEmpty then 0 else 1)<30))=true:=by rfl)
  (hline:(apos.endLine==cpos.line)=true:=by rfl) (hs:starEach (e::es) X.env=(false,eval e X.env)::starEach es X.env:=by rfl) (hplain:(backTo cpos (starEach es X.env)).any (·.1)=false:=by rfl) :
  PE X (.Call (.Attribute o name apos) (e::es) [] cpos) (tBM X.K T r to t):=by
   intro pins s σ H Q I h
   refine wpAny_Call_method_late hbase hfew hline rfl (thn (ho pins s σ H _ I h) λv s1 ⟨x,H1,I1,r1,ty,q1⟩=> ?_)
   obtain ⟨h1,h2⟩:=ztu I1 r1 ty
   refine ⟨T,id,pa,slot,hty,h1,h2,?_⟩
   have hA:=ha cpos pins s1 σ H1 _ I1 q1
   rw [hs] at hA ⊢
   refine Calls.callWith_builtin (by show (false||(backTo cpos (starEach es X.env)).any (·.1))=false;rw [hplain]<;>rfl) (Calls.evalArgs_plain ?_)
   exact thn hA λus s2 ⟨vs,H2,I2,r2,q2⟩=>hm pins s2 σ H2 x vs v us Q I2 r1 r2 q2
end
end L2
namespace L2
open PySem PySem.Spec PyProof.Rows
def MtM (X:Cx) (id:String) (r:V->List V->Hp->VK->Prop):Prop :=
 ∀(pins:List (Addr×Obj)) (s:Shared) (σ:St) (H:Hp) (x:V) (xs:List V) (v:Value) (us:List Value) (Q:VK),Inv X pins σ H s->zde x v->zbH xs us->r x xs H Q→wpAny (model X.prog X.w) X.A (call (.builtin id) (v::us)) (EP X pins σ Q) X.xe s
theorem zbH.one:∀ {x:V} {us:List Value},zbH [x] us->∃u,us=[u]∧zde x u
 | _,_,.cons r .nil=>⟨_,rfl,r⟩
theorem zbH.zero:∀ {us:List Value},zbH [] us->us=[]
 | _,.nil=>rfl
theorem zbH.dropLast {xs:List V} {us:List Value} (h:zbH xs us):zbH xs.dropLast us.dropLast:=by
 induction h with
  |nil=>exact .nil
  |cons r t ih=>
   cases t with
    |nil=>exact .nil
    |cons q t'=>exact .cons r ih
theorem zbH.eraseIdx:∀ {xs:List V} {us:List Value} (i:Nat),zbH xs us->zbH (xs.eraseIdx i) (us.eraseIdx i)
 | _,_,_,.nil=>.nil
 | _,_,0,.cons _ t=>t
 | _,_,i+1,.cons r t=> .cons r (zbH.eraseIdx i t)
theorem zbH.reverse {xs:List V} {us:List Value} (h:zbH xs us):zbH xs.reverse us.reverse:=by
 induction h with
  |nil=>exact .nil
  |cons r t ih=>rw [List.reverse_cons,List.reverse_cons];exact zbH.append ih (.cons r .nil)
theorem zbH.rep {xs:List V} {us:List Value} (h:zbH xs us):∀k:Nat,zbH (List.replicate k xs).flatten (List.replicate k us).flatten
 | 0=>.nil
 | k+1=>by
  rw [List.replicate_succ,List.replicate_succ,List.flatten_cons,List.flatten_cons]
  exact zbH.append h (zbH.rep h k)
theorem zjH {α:Type}:∀(l:List α) (i:Nat),(l.eraseIdx i).length≤l.length
 | [],_=>Nat.le_refl _
 | _ :: _,0=>Nat.le_succ _
 | _ :: r,i+1=>Nat.succ_le_succ (zjH r i)
theorem zjJ (its:List Value):∀(k:Nat) (acc:List Value),List.foldl (λx1 x2=>x1++x2) acc.toArray (List.replicate k its.toArray)=(acc++(List.replicate k its).flatten).toArray
 | 0,acc=>by simp
 | k+1,acc=>by
  have e:acc.toArray++its.toArray=(acc++its).toArray:=by simp
  have e2:(acc++its)++(List.replicate k its).flatten=acc++(List.replicate (k+1) its).flatten:=by rw [List.replicate_succ,List.flatten_cons,List.append_assoc]
  rw [←e2,←zjJ its k (acc++its),←e,List.replicate_succ,List.foldl_cons]
section
variable {X:Cx} {pins:List (Addr×Obj)} {σ:St} {H:Hp} {s:Shared} {l b:Addr} {xs ys zs:List V}
theorem Inv.lset {its its':List Value} {n:Nat} {f:Array Value->Array Value} {t':Nat} (I:Inv X pins σ H s) (hH:H l=some (.lst xs))
  (e:s.heap.get? l=some {cls:= .type "list",data:= .seq its.toArray n}) (hf:f its.toArray=its'.toArray) (hv:zbH ys its') (hz:ys.length≤sizeLine) :
  Inv X pins σ (upd H l (.lst ys)) {s with heap:=s.heap.update l (Obj.mapSeq f),toks:=t'}:=by
   have q:=PySem.IsL.update e f
   rw [hf] at q
   refine I.write (x:=l) (e:=l) (by rw [hH];exact trivial) (.inl rfl) (λb' u hb hu=>(Heap.get?_update_other s.heap (Obj.mapSeq f) (Ne.symm hb)).trans hu) ⟨_,q⟩ ?_
   exact ⟨hz,its',_,hv,q⟩
theorem Inv.lnew {its:List Value} {t':Nat} (I:Inv X pins σ H s) (hv:zbH ys its) (hz:ys.length≤sizeLine) :
  Inv X pins σ (upd H s.heap.objs.size (.lst ys)) {s with heap:=s.heap.push {cls:= .type "list",data:= .seq its.toArray},toks:=t'} :=
 I.laid (λ_ _ q=>Heap.get?_push_of_some _ q) (Nat.le_refl _) ⟨hz,its,0,hv,Heap.get?_push_size _ rfl⟩
theorem Inv.fresh (I:Inv X pins σ H s):H s.heap.objs.size=none:=I.hok.fresh (Nat.le_refl _)
theorem Inv.lstM (I:Inv X pins σ H s) (hH:H l=some (.lst xs)):xs.length≤sizeLine∧∃(its:List Value) (n:Nat),zbH xs its∧xs.length=its.length∧s.heap.get? l=some {cls:= .type "list",data:= .seq its.toArray n}:=by
 obtain ⟨z,its,n,r,e⟩:=I.hok l _ hH
 exact ⟨z,its,n,r,r.length,e⟩
theorem zkK {n:Nat} (h:n≤sizeLine):Builtin.List.listTooLong n=false:=by
 unfold Builtin.List.listTooLong
 exact decide_eq_false (by omega)
end
section
variable {X:Cx}
def zf9:V->List V->Hp->VK->Prop:=λx vs H Q=>∃l xs y,x= .ref l∧vs=[y]∧H l=some (.lst xs)∧xs.length<sizeLine∧Q .non (upd H l (.lst (xs++[y])))
theorem zjr:MtM X "list.append" zf9:=by
 intro pins s σ H x vs v us Q I rx rv h
 obtain ⟨l,xs,y,rfl,rfl,hH,hz,q⟩:=h
 cases rx
 obtain ⟨u,rfl,ru⟩:=rv.one
 obtain ⟨z,its,n,r,hl,e⟩:=I.lstM hH
 refine call_meets F.slot_list_append ⟨_,e,rfl⟩ F.entry_list_append (F.args_list_append_2 _ _) (PySem.list_append l its.toArray n u (by rw [List.size_toArray];omega)) ⟨e,?_⟩
 refine ⟨.non,_,I.lset (its':=its++[u]) hH e (by simp) (r.append (.cons ru .nil)) ?_,rfl,q⟩
 rw [List.length_append,List.length_singleton]
 omega
def zrv:V->List V->Hp->VK->Prop:=λx vs H Q=>∃l b xs zs,x= .ref l∧vs=[.ref b]∧H l=some (.lst xs)∧H b=some (.lst zs)∧xs.length+zs.length≤sizeLine∧Q .non (upd H l (.lst (xs++zs)))
theorem zsR:MtM X "list.extend" zrv:=by
 intro pins s σ H x vs v us Q I rx rv h
 obtain ⟨l,b,xs,zs,rfl,rfl,hH,hB,hz,q⟩:=h
 cases rx
 obtain ⟨u,rfl,ru⟩:=rv.one
 cases ru
 obtain ⟨z,its,n,r,hl,e⟩:=I.lstM hH
 obtain ⟨z2,its2,n2,r2,hl2,e2⟩:=I.lstM hB
 have hsz:its.toArray.size+its2.toArray.size≤sizeLine:=by rw [List.size_toArray,List.size_toArray];omega
 have hlong:¬(!its.toArray.isEmpty && Builtin.List.listTooLong (its.toArray.size+its2.toArray.size))=true:=by
  rw [zkK hsz,Bool.and_false]
  exact Bool.false_ne_true
 refine call_meets F.slot_list_extend ⟨_,e,rfl⟩ F.entry_list_extend (F.args_list_extend_2 _ _) (AutoSeq1.list_extend_list_list_0 l its.toArray n b its2.toArray n2 hlong (by rw [List.size_toArray];omega) (by omega)) ⟨e,e2,?_⟩
 refine ⟨.non,_,I.lset (its':=its++its2) hH e (by simp) (r.append r2) ?_,rfl,q⟩
 rw [List.length_append]
 omega
def zmt:V->List V->Hp->VK->Prop:=λx vs H Q=>∃l xs i k y,x= .ref l∧vs=[.int i]∧H l=some (.lst xs)∧ -(2 ^ 63)≤i∧i<2 ^ 63∧seqIndex? i xs.length=some k∧xs[k]? =some y∧Q y (upd H l (.lst (xs.eraseIdx k)))
theorem zov:MtM X "list.pop" zmt:=by
 intro pins s σ H x vs v us Q I rx rv h
 obtain ⟨l,xs,i,k,y,rfl,rfl,hH,h1,h2,hk,hy,q⟩:=h
 cases rx
 obtain ⟨u,rfl,ru⟩:=rv.one
 obtain ⟨t,rfl⟩:=ru
 obtain ⟨z,its,n,r,hl,e⟩:=I.lstM hH
 obtain ⟨w,hw,rw'⟩:=r.get hy
 refine call_meets F.slot_list_pop ⟨_,e,rfl⟩ F.entry_list_pop (F.args_list_pop_2 _ _) (MeetsSeq.list_pop_at l its.toArray n i t k w (fitsIndex_both h1 h2) (by rw [List.size_toArray,←hl];exact hk) (by rw [←Array.getElem?_toList];exact hw) (by rw [List.size_toArray];omega)) ⟨e,?_⟩
 refine ⟨y,_,I.lset (its':=its.eraseIdx k) hH e ?_ (r.eraseIdx k) ?_,rw',q⟩
 ·
  show its.toArray.eraseIdxIfInBounds k=(its.eraseIdx k).toArray
  rw [List.eraseIdxIfInBounds_toArray]
 ·
  have:=zjH xs k
  omega
def ztS:R2:=λx y H Q=>∃l b xs zs,x= .ref l∧y= .ref b∧H l=some (.lst xs)∧H b=some (.lst zs)∧xs.length+zs.length≤sizeLine∧∀p,H p=none->Q (.ref p) (upd H p (.lst (xs++zs)))
theorem zeP:OpR X (binaryOp .Add) ztS:=by
 intro pins s σ H x y v u Q I rx ry h
 obtain ⟨l,b,xs,zs,rfl,rfl,hH,hB,hz,q⟩:=h
 cases rx
 cases ry
 obtain ⟨z,its,n,r,hl,e⟩:=I.lstM hH
 obtain ⟨z2,its2,n2,r2,hl2,e2⟩:=I.lstM hB
 refine PySem.P.add_list e e2 ?_ (by rw [List.size_toArray,List.size_toArray];omega)
 have ea:its.toArray++its2.toArray=(its++its2).toArray:=by simp
 rw [ea]
 exact ⟨.ref _,_,I.lnew (t':=s.toks) (r.append r2) (by rw [List.length_append];omega),rfl,q _ I.fresh⟩
def zt5:R2:=λx y H Q=>∃l k xs,x= .ref l∧y= .int k∧H l=some (.lst xs)∧ -(2 ^ 63)≤k∧k<2 ^ 63∧xs.length*k.toNat≤sizeLine∧∀p,H p=none->Q (.ref p) (upd H p (.lst (List.replicate k.toNat xs).flatten))
theorem zqi {α:Type} (xs:List α) (k:Nat):(List.replicate k xs).flatten.length=k*xs.length:=by
 induction k with
  |zero=>simp
  |succ k ih=>rw [List.replicate_succ,List.flatten_cons,List.length_append,ih,Nat.succ_mul,Nat.add_comm]
theorem znZ:OpR X (binaryOp .Mult) zt5:=by
 intro pins s σ H x y v u Q I rx ry h
 obtain ⟨l,k,xs,rfl,rfl,hH,h1,h2,hz,q⟩:=h
 cases rx
 obtain ⟨t,rfl⟩:=ry
 obtain ⟨z,its,n,r,hl,e⟩:=I.lstM hH
 have hlen:its.toArray.size*k.toNat≤sizeLine:=by rw [List.size_toArray,←hl];exact hz
 have hcap:¬its.toArray.size*k.toNat>(2 ^ 63-1)/8:=by
  have:(sizeLine:Nat)≤(2 ^ 63-1)/8:=by decide
  omega
 have hfit:¬(!Builtin.List.listFitsIndex k)=true:=by
  rw [fitsIndex_both h1 h2]
  exact Bool.false_ne_true
 have hlong:¬Builtin.List.listTooLong (its.toArray.size*k.toNat)=true:=by
  rw [zkK hlen]
  exact Bool.false_ne_true
 have hnew:List.foldl (λx1 x2=>x1++x2) #[] (List.replicate (if its.toArray.isEmpty=true then 0 else k.toNat) its.toArray)=(List.replicate k.toNat its).flatten.toArray:=by
  have f0:∀m:Nat,List.foldl (λx1 x2=>x1++x2) #[] (List.replicate m its.toArray)=(List.replicate m its).flatten.toArray:=λm=>by
   have:=zjJ its m []
   rw [List.nil_append] at this
   exact this
  rw [f0]
  cases its with
   |nil=>simp
   |cons a r'=>rw [if_neg (by simp)]
 refine wpAny_binaryOp_repeat_ref (T:="list") (U:="int") (by decide) ⟨_,e,rfl⟩ (λs'=>typeIs_int s' k t) noFill_list_mul F.fills_int_mul F.slot_int_rmul repeat_list F.slot_int_index.lookup (call_meets F.slot_int_rmul (typeIs_int s k t) F.entry_int_rmul (F.args_int_rmul_2 _ _) (int___rmul___int_list k t l its.toArray n) ⟨e,rfl,⟨_,e,rfl⟩,call_meets F.slot_list_mul ⟨_,e,rfl⟩ F.entry_list_mul (F.args_list_mul_2 _ _) (AutoListH.list___mul___list_int_3 l its.toArray n k t hfit hcap hlong) ⟨e,?_⟩⟩)
 rw [hnew]
 exact ⟨.ref _,_,I.lnew (t':=s.toks) (r.rep k.toNat) (by rw [zqi,Nat.mul_comm];exact hz),rfl,q _ I.fresh⟩
end
section
variable {prog:Program} {w:World} {A:Around} {E:Value->Shared->Prop} {s:Shared}
end
section
variable {X:Cx}
end
end L2
namespace Att
open PySem PySem.W PySem.Calls PyProof.Rows
theorem zgX {P:Params} {h:Heap}:∀(ns:Ji) (vs:List Value),WellAll P h vs (ns.map WData.int)->IntsAre vs ns:=by
 intro ns
 induction ns with
  |nil=>
   intro vs w
   rw [List.map_nil] at w
   cases w
   exact .nil
  |cons n ns ih=>
   intro vs w
   rw [List.map_cons] at w
   cases w with
    |cons a b=>
     cases a
     exact .cons _ _ (ih _ b)
theorem znU {l:OpenLaw} {n:Nat} (hn:l.most=some n) {P:Params} {h:Heap} {args:List WData} {vals:List Value}
  (hpre:l.row.toRowW.claim.pre args=true) (hwl:WellAll P h vals args) :
  ∃a vs ns,vals=[Value.ref a]∧args=[WData.list (ns.map WData.int)]∧h.get? a=some {cls:= .type "list",data:= .seq vs.toArray}∧IntsAre vs ns∧ns.length≤n:=by
   have hsh:WShape.hasAll [] args [.list .int]=true:=(pre_splitW hpre).1
   have hc:l.pre.holds [] {args:=args}=true:=(pre_splitW hpre).2
   obtain ⟨d,r,rfl,h1,h2⟩:=hasAllW_cons hsh
   obtain rfl:=hasAllW_nil h2
   obtain ⟨xs,rfl,h3⟩:=hasW_list h1
   obtain ⟨ns,rfl⟩:=items_int h3
   have hlen:ns.length≤n:=by
    unfold OpenLaw.pre at hc
    have h4:(WTm.not (.lt (.lit (.int (n:Int))) (.len (.arg 0)))).holds [] {args:=[.list (ns.map .int)]}=true:=by
     have h4:=(holds_andW hc).1
     rw [hn] at h4
     exact h4
    have h5:=condW_of h4 (w_not (w_lt w_lit (w_len_list (w_arg rfl))))
    rw [List.length_map] at h5
    refine Nat.le_of_not_lt λq=> ?_
    have q':(n:Int)<((ns.length:Nat):Int):=by omega
    first|(rw [decide_eq_true q'] at h5;exact absurd h5 (by decide))|(simp at h5;omega)
   cases hwl with
    |cons w1 w2=>
     cases w2
     cases w1 with
      |list ho hall=>exact ⟨_,_,ns,rfl,rfl,ho,zgX ns _ hall,hlen⟩
theorem zm5 (l:OpenLaw) (args:List WData):l.row.toRowW.claim.post args (.bool true) args=true :=
 postW_of (r:=l.row.toRowW) (X:=(true==true)) (show WShape.has [] (.bool true) .bool=true by first|rfl|decide|simp [WShape.has,WShape.arms,WShape.armsAll]) (show (WTm.eq .res (.lit (.bool true))).value [] {args:=args,res:=some (.bool true),after:=args}=some (.bool (true==true)) from w_eq_bool (w_res rfl) w_lit) rfl
theorem attach_call {l:OpenLaw} {n:Nat} {q:Program} {loose:List Str} {XP:(Str->Option Value)->Heap->Prop} {YP:World->Heap->Prop} {d:DefRec}
  (hn:l.most=some n) (hdf:d.params.defaults=[])
  (call:∀(w:World) (s₀ s₁:Shared) (mg mb:Str->Option Value) (fa:Addr) (o:Obj) (pm cd doc:Value) (a:Addr) (vs:List Value) (ns:Ji),Ground q loose [] XP w s₀ mg mb s₁.heap->YP w s₁.heap→s₁.heap.get? fa=some o->o.data= .func (docDef d.name d.params d.body d.scope pm cd doc)->s₁.heap.CodeRec cd d.name->mg d.name=some (.ref fa)→s₁.heap.get? a=some {cls:= .type "list",data:= .seq vs.toArray}->IntsAre vs ns->ns.length≤n->s₁.gens= #[]→codeAny (model l.prog w) callerA (.call (.ref fa) ⟨[.ref a],[]⟩) (λr s'=>r= .ok (.ret (.bool true))∧OldK s₁.heap s'.heap∧s'.os=s₁.os∧AllBare s'.gens) s₁) :
  WalkO q loose XP YP l.row.toRowW d [] (λf vs=>PySem.call f vs):=by
   intro w s₀ s₁ mg mb G Y fa o pm cd doc dV kV ho hd hcd hD hmg hg args vals as hpre hlay hrd hwl hlo
   obtain rfl:dV= .none:=Dflts.none hD hdf
   obtain rfl:kV= .none:=Dflts.noKw hD
   obtain ⟨a,vs,ns,rfl,rfl,hobj,hints,hlen⟩:=znU hn hpre hwl
   refine enter_call (codeAny_mono (call w s₀ s₁ mg mb fa o pm cd doc a vs ns G Y ho (fd_plain hd) hcd hmg hobj hints hlen hg) λr s' hq=> ?_)
   obtain ⟨rfl,h2,h3,h4⟩:=hq
   exact ⟨.inl ⟨.bool true,.bool true,[],rfl,λ_=>rfl,.bool true,zm5 l _,λ_=>⟨List.Pairwise.nil,λ_ hm=>(nomatch hm)⟩⟩,h2,h3,h4⟩
section
variable {prog:Program} {w:World} {A:Around} {E:Value->Shared->Prop} {s:Shared} {K:Frag}
end
end Att
namespace L2
open PySem PySem.Spec PyProof.Rows
theorem zjC:∀ {vs:List Value} {ns:Ji},IntsAre vs ns->zbH (ns.map V.int) vs
 | _,_,.nil=>.nil
 | _,_,.cons n t h=> .cons ⟨t,rfl⟩ (zjC h)
def zuC (H:Hp):Prop:=∀b,H b=none∨∃o xs,H b=some (.frz o (.lst xs))
theorem zpu {P:Program} {w:World} {K:W.Frag} {mg mb:Str->Option Value} {CX:CXT} {k:Nat} {fa a:Addr} {fd:FuncData} {x:Str} {sp:Sp} {s₁:Shared} {vs:List Value} {ns:Ji}
  (KX:K.In s₁.heap) (hns:s₁.heap.Ns mainGlobals mg) (hb:s₁.heap.Ns builtinsNs mb) (hbb:∀x:Str,x≠"__name__" ->mb x=bootBuiltins x) (hlim:s₁.heap.NoLimit) (hg:s₁.gens=#[])
  (ha:s₁.heap.get? a=some {cls:= .type "list",data:= .seq vs.toArray}) (hi:IntsAre vs ns) (hl:ns.length≤sizeLine) (hr:Room k callerA)
  (F:∀base:Heap,K.In base->base.Ns mainGlobals mg->FnOk P w K mg base CX k fa fd [x] sp) (hbind:∀(s:Shared) (u:Value),BindsTo s fd ⟨[u],[]⟩ [(x,u)])
  (hsp:∀H:Hp,zuC H->SqL K H a (ns.map V.int)->sp [.ref a] H (λv _=>v= .bl true) λ_ _ _=>False)
  (hCX:∀H e s',CX [] H s₁ (λ_ _ _=>False) e s'->False) :
  codeAny (model P w) callerA (.call (.ref fa) ⟨[.ref a],[]⟩) (λr s'=>r= .ok (.ret (.bool true))∧OldK s₁.heap s'.heap∧s'.os=s₁.os∧AllBare s'.gens) s₁:=by
   have rv:=zjC hi
   have lenV:=hi.length
   have core:∀H:Hp,zuC H->SqL K H a (ns.map V.int)->HOk P w H s₁.heap->(∀b,H b≠none->b=a)->(H a≠none->K.lookup a=none)→codeAny (model P w) callerA (.call (.ref fa) ⟨[.ref a],[]⟩) (λr s'=>r= .ok (.ret (.bool true))∧OldK s₁.heap s'.heap∧s'.os=s₁.os∧AllBare s'.gens) s₁:=by
    intro H hO hS hok hA hK
    have base_of:∀ {b:Addr} {o:Obj},s₁.heap.get? b=some o->H b=none->(zpf s₁.heap H).get? b=some o:=λe n=>zoA e n
    have noA:∀ {b:Addr} {o:Obj} {es:Array DictEntry} {ep:Nat},s₁.heap.get? b=some o->o.data= .dict es ep->H b=none:=λ {b o es ep} e d=>by
     cases q:H b with
      |none=>rfl
      |some u=>
       have e':b=a:=hA b (by rw [q];simp)
       subst e'
       rw [ha] at e;
       cases e
       have d':Data.seq vs.toArray _=Data.dict es ep:=d
       cases d'
    have nsK:∀ {b:Addr} {m:Str->Option Value},s₁.heap.Ns b m->(zpf s₁.heap H).Ns b m:=λ {b m} ⟨o,es,ep,e,d,r⟩=>⟨o,es,ep,base_of e (noA e d),d,r⟩
    have hKb:K.In (zpf s₁.heap H):=λb o e=>base_of (KX b o e) (by
     cases q:H b with
      |none=>rfl
      |some u=>
       have e':b=a:=hA b (by rw [q];simp)
       subst e'
       rw [hK (by rw [q];simp)] at e;
       cases e)
    have hM:Mod K mg (zpf s₁.heap H):=⟨hKb,nsK hns,⟨mb,nsK hb,hbb⟩,let ⟨mc,h1,h2⟩:=hlim;⟨mc,nsK h1,h2⟩⟩
    have e0:Env0 P w K mg (zpf s₁.heap H) callerA [] s₁ H:=⟨rfl,hM,λb o e=>zqS e,Nat.le_of_eq (zog _ _),trivial,λb hb=>absurd (show b∈([]:List Addr) from hb) (by simp),hok,.of_eq hg⟩
    refine codeAny_mono ((F _ hKb (nsK hns)).run callerA [] s₁ H ⟨[.ref a],[]⟩ [.ref a] [.ref a] _ _ hr e0 (hbind s₁ (.ref a)) (.cons rfl .nil) (hsp H hO hS)) λr s' h=> ?_
    cases r with
     |error e=>exact (hCX H e s' h).elim
     |ok fl=>
      cases fl with
       |next=>exact False.elim h
       |brk=>exact False.elim h
       |cont=>exact False.elim h
       |ret u=>
        obtain ⟨v,H',os,bare,un,hok',r',q⟩:=h
        have q':v= .bl true:=q
        subst q'
        obtain rfl:u=Value.bool true:=r'
        refine ⟨rfl,OldK.of_keep λb o e=> ?_,os,bare⟩
        cases q:H b with
         |none=>exact un.keep b o e q (by intro z;exact absurd (show b∈([]:List Addr) from z) (by simp)) (by simp)
         |some u=>
          rcases hO b with z|⟨ob,xs,z⟩
          ·rw [q] at z;cases z
          ·
           have z2:=un.frzs b ob _ z
           obtain ⟨e1,_⟩:=hok b _ z
           obtain ⟨e2,_⟩:=hok' b _ z2
           rw [e] at e1;
           cases e1
           exact e2
   cases hk:K.lookup a with
    |some o=>
     have e:=KX a o hk
     rw [ha] at e
     cases e
     refine core (λ_=>none) (λ_=> .inl rfl) (.inr ⟨_,vs.toArray,_,hk,rfl,rfl,rfl,by rw [List.size_toArray,lenV];exact hl,by simpa using rv⟩) (λb u z=>by have z':(none:Option HO)=some u:=z;cases z') (λb z=>absurd rfl z) λz=>absurd rfl z
    |none=>
     refine core (λb=>if b=a then some (.frz {cls:= .type "list",data:= .seq vs.toArray} (.lst (ns.map V.int))) else none) (λb=> ?_) (.inl (.inr ⟨{cls:= .type "list",data:= .seq vs.toArray},if_pos rfl⟩)) (λb u z=> ?_) (λb z=> ?_) λ_=>hk
     ·
      by_cases hb:b=a
      ·exact .inr ⟨_,_,if_pos hb⟩
      ·exact .inl (if_neg hb)
     ·
      by_cases hb:b=a
      ·
       have z':=(if_pos hb).symm.trans z
       cases z'
       subst hb
       exact ⟨ha,by rw [List.length_map];exact hl,vs,_,rv,ha⟩
      ·
       have z':=(if_neg hb).symm.trans z
       cases z'
     ·
      by_cases hb:b=a
      ·exact hb
      ·exact absurd (if_neg hb) z
end L2
namespace L2
open PySem PySem.Spec PyProof.Rows
theorem zqH {l:W.OpenLaw} {n k:Nat} {q:Program} {loose:List Str} {XP:(Str->Option Value)->Heap->Prop} {YP:World->Heap->Prop} {d:DefRec} {K:Params->W.Frag} {CX:World->CXT} {sp:World->Sp} {x:Str}
  (hn:l.most=some n) (hn2:n≤sizeLine) (hdf:d.params.defaults=[]) (hr:Room k callerA)
  (hY:∀(w:World) (h:Heap),YP w h->(K w.params).In h)
  (F:∀(w:World) (mg:Str->Option Value) (fa:Addr) (h:Heap),(K w.params).In h->h.Ns mainGlobals mg->mg d.name=some (.ref fa)→∃fd:FuncData,(∀(s:Shared) (u:Value),BindsTo s fd ⟨[u],[]⟩ [(x,u)])∧∀base:Heap,(K w.params).In base->base.Ns mainGlobals mg->FnOk l.prog w (K w.params) mg base (CX w) k fa fd [x] (sp w))
  (hsp:∀(w:World) (H:Hp) (a:Addr) (ns:Ji),ns.length≤n->zuC H->SqL (K w.params) H a (ns.map V.int)->sp w [.ref a] H (λv _=>v= .bl true) λ_ _ _=>False)
  (hCX:∀(w:World) (H:Hp) (s:Shared) (e:Value) (s':Shared),CX w [] H s (λ_ _ _=>False) e s'->False) :
  W.WalkO q loose XP YP l.row.toRowW d [] (λf vs=>PySem.call f vs):=by
   refine Att.attach_call hn hdf λw s₀ s₁ mg mb fa o pm cd doc a vs ns G Y ho hd hcd hmg hobj hints hlen hg=> ?_
   have KX:=hY w _ Y
   obtain ⟨fd,hb,hF⟩:=F w mg fa _ KX G.T.g hmg
   exact zpu KX G.T.g G.T.b G.T.builtins G.T.nolimit hg hobj hints (Nat.le_trans hlen hn2) hr hF hb (λH hO hS=>hsp w H a ns hlen hO hS) λH e s'=>hCX w H s₁ e s'
end L2
namespace L2
open PySem PySem.Spec PyProof.Rows
def zdL (s:Stmt) (j:Nat):Stmt:=match s with| .ClassDef _ _ _ body _ _ _ _ _ _ _=>body.getD j (.Pass ⟨0,0,0,0⟩)|_=> .Pass ⟨0,0,0,0⟩
def zfD (s:Stmt):Arguments:=match s with| .FunctionDef _ a _ _ _ _ _ _ _ _=>a|_=> {posonlyargs:=[],args:=[],vararg:=none,kwonlyargs:=[],kw_defaults:=[],kwarg:=none,defaults:=[]}
def zdA (s:Stmt):List Stmt:=match s with| .FunctionDef _ _ b _ _ _ _ _ _ _=>b|_=>[]
def zag (s:Stmt):Scope:=match s with| .FunctionDef _ _ _ _ _ _ sc _ _ _=>sc|_=> {kind:= .function,names:=[],isGenerator:=false,isCoroutine:=false}
abbrev E0:XK:=λ_ _ _=>False
structure Fun (K:W.Frag) (x qual:Str) (st:Stmt) (f:Addr) (fd:FuncData):Prop where
 ex:∃ (oc:Value) (od:Option Addr) (kV doc pm:Value) (an:Option Addr) (cdv ct:Value) (osl:Array (Option Value)),
  fd=W.fnOf x qual (zfD st) (zdA st) (zag st) .none kV doc pm an cdv ct∧K.lookup f=some ⟨oc,od,.func fd,osl⟩∧W.codeIn K cdv qual=true
 kp:W.keepIn K (.ref f)=true
section
variable {P:Program} {w:World} {K:W.Frag} {mg:Str->Option Value} {base:Heap}
theorem Fun.binds {x qual:Str} {st:Stmt} {f:Addr} {fd:FuncData} {ps:List Str} (F:Fun K x qual st f fd)
  (h:∀(kV doc pm:Value) (an:Option Addr) (cdv ct:Value) (us:List Value),us.length=ps.length->bindArgs (W.fnOf x qual (zfD st) (zdA st) (zag st) .none kV doc pm an cdv ct) ⟨us,[]⟩=pure (ps.zip us)):zfP K fd ps []:=by
   obtain ⟨oc,od,kV,doc,pm,an,cdv,ct,osl,rfl,lk,hcd⟩:=F.ex
   exact .all (h kV doc pm an cdv ct)
theorem zpz {x qual:Str} {st:Stmt} {f:Addr} {oc:Value} {od an:Option Addr} {osl:Array (Option Value)} {kV doc pm cdv ct:Value} (l:K.lookup f=some ⟨oc,od,.func (W.fnOf x qual (zfD st) (zdA st) (zag st) .none kV doc pm an cdv ct),osl⟩)
  (c:W.codeIn K cdv qual=true) (k:W.keepIn K (.ref f)=true):Fun K x qual st f (W.fnOf x qual (zfD st) (zdA st) (zag st) .none kV doc pm an cdv ct):=⟨⟨oc,od,kV,doc,pm,an,cdv,ct,osl,rfl,l,c⟩,k⟩
end
section
variable {X:Cx}
theorem pv (i:Nat) {x:Str} {pos:Pos} (hN:X.N[i]?=some x:=by rfl) (hv:Vis X.env.scope x:=by first | exact Or.inl rfl | exact Or.inr (Or.inl rfl) | exact Or.inr (Or.inr rfl)) (hd:(x==("__debug__" :Str))=false:=by decide)
  (hcd:(x==("__classdict__" :Str))=false:=by decide):PE X (.Name x pos) (zhX i):=zsi hN hv hd hcd
end
def Same (H H':Hp):Prop:=∀b o,H b=some o->H' b=some o
theorem Same.refl (H:Hp):Same H H:=λ_ _ h=>h
theorem Same.trans {H H1 H2:Hp} (a:Same H H1) (b:Same H1 H2):Same H H2:=λc o h=>b c o (a c o h)
theorem Same.free {H H':Hp} (e:Same H H') {l:Addr} (h:H' l=Option.none):H l=Option.none:=by
 cases q:H l with
  |none=>rfl
  |some o=>
   rw [e l o q] at h
   cases h
theorem Same.seq {K:W.Frag} {H H':Hp} {a:Addr} {xs:List V} (e:Same H H') (h:SqL K H a xs):SqL K H' a xs:=by
 rcases h with (h|⟨o,h⟩)|h
 ·exact .inl (.inl (e _ _ h))
 ·exact .inl (.inr ⟨o,e _ _ h⟩)
 ·exact .inr h
end L2
namespace L2
open PySem PySem.Spec PyProof.Rows
theorem zgj {env:Env}:∀(names:List (Str×NameKind)) (acc:List (Str×Addr)),(∀x∈names,x.2= .free->∃c,env.cells.lookup x.1=some c)→∃cl:List (Str×Addr),(forIn (m:=Sem) names acc λ(x:Str×NameKind) (cs:List (Str×Addr))=>if (x.2==NameKind.free)=true then (do
 let a←cellOf env x.1;
 pure (ForInStep.yield ((x.1,a)::cs))) else pure (ForInStep.yield cs))=pure cl∧(∀x c,cl.lookup x=some c->acc.lookup x=some c∨env.cells.lookup x=some c)∧(∀x,((x,NameKind.free)∈names∨∃c,acc.lookup x=some c)->∃c,cl.lookup x=some c)
 | [],acc,_=>⟨acc,rfl,λ_ _ h=> .inl h,λx h=>by
  rcases h with h|h
  ·cases h
  ·exact h⟩
 | (n,k) :: r,acc,h=>by
  have hr:∀x∈r,x.2= .free->∃c,env.cells.lookup x.1=some c:=λx hx=>h x (List.mem_cons_of_mem _ hx)
  by_cases hk:k= .free
  ·
   subst hk
   obtain ⟨c,hc⟩:=h (n,.free) List.mem_cons_self rfl
   obtain ⟨cl,e,h1,h2⟩:=zgj r ((n,c)::acc) hr
   refine ⟨cl,?_,λx c' q=> ?_,λx q=> ?_⟩
   ·
    rw [List.forIn_cons]
    have e1:cellOf env n=pure c:=by unfold cellOf;rw [hc]
    simp only [beq_self_eq_true,if_true,e1]
    exact e
   ·
    rcases h1 x c' q with z|z
    ·
     rw [List.lookup_cons] at z
     cases hx:x==n with
      |true=>
       rw [hx] at z
       have z':some c=some c':=z
       cases z'
       have:x=n:=eq_of_beq hx
       subst this
       exact .inr hc
      |false=>rw [hx] at z;exact .inl z
    ·exact .inr z
   ·
    refine h2 x ?_
    by_cases hx:x=n
    ·
     subst hx
     exact .inr ⟨c,by rw [List.lookup_cons];simp⟩
    ·
     rcases q with q|⟨c',q⟩
     ·
      rcases List.mem_cons.mp q with q|q
      ·exact absurd (congrArg Prod.fst q) hx
      ·exact .inl q
     ·
      refine .inr ⟨c',?_⟩
      have:(x==n)=false:=by simpa using hx
      rw [List.lookup_cons,this]
      exact q
  ·
   obtain ⟨cl,e,h1,h2⟩:=zgj r acc hr
   refine ⟨cl,?_,h1,λx q=>h2 x ?_⟩
   ·
    rw [List.forIn_cons]
    have e1:(k==NameKind.free)=false:=by simpa using hk
    simp only [e1,Bool.false_eq_true,if_false]
    exact e
   ·
    rcases q with q|q
    ·
     rcases List.mem_cons.mp q with q|q
     ·exact absurd (congrArg Prod.snd q).symm hk
     ·exact .inl q
    ·exact .inr q
theorem zlX {scope:Scope} {env:Env} (h:∀x∈scope.names,x.2= .free->∃c,env.cells.lookup x.1=some c) :
  ∃cl,closureFor scope env=pure cl∧(∀x c,cl.lookup x=some c->env.cells.lookup x=some c)∧∀x,(x,NameKind.free)∈scope.names->∃c,cl.lookup x=some c:=by
   obtain ⟨cl,e,h1,h2⟩:=zgj (env:=env) scope.names [] h
   refine ⟨cl,?_,λx c q=>(h1 x c q).elim (λz=>by cases z) id,λx q=>h2 x (.inl q)⟩
   have e2:closureFor scope env=(forIn (m:=Sem) scope.names [] λ(x:Str×NameKind) (cs:List (Str×Addr))=>if (x.2==NameKind.free)=true then (do
    let a←cellOf env x.1;
    pure (ForInStep.yield ((x.1,a)::cs))) else pure (ForInStep.yield cs))>>=λr=>pure r:=by
    unfold closureFor
    rfl
   rw [e2,e]
   rfl
theorem zc6 {env:Env}:∀ {names:List (Str×NameKind)} {x:Str} {k:NameKind},(names.map λ(n,k)=>if (k==NameKind.free && env.scope.kind== .function && env.kindOf n==some .cell) then (n,NameKind.cell) else (n,k)).lookup x=some k→names.lookup x=some k∨(k= .cell∧names.lookup x=some .free)
 | [],_,_,h=>by simp at h
 | (n,k') :: r,x,k,h=>by
  have ih:= @zc6 env r x k
  have h:List.lookup x ((if (k'==NameKind.free && env.scope.kind== .function && env.kindOf n==some .cell)=true then (n,NameKind.cell) else (n,k'))::_)=some k:=h
  cases hx:x==n with
   |true=>
    by_cases hc:(k'==NameKind.free && env.scope.kind== .function && env.kindOf n==some .cell)=true
    ·
     rw [if_pos hc] at h
     simp only [List.lookup_cons,hx] at h
     cases h
     simp only [Bool.and_eq_true,beq_iff_eq] at hc
     refine .inr ⟨rfl,?_⟩
     simp [List.lookup_cons,hx,hc.1.1]
    ·
     rw [if_neg hc] at h
     simp only [List.lookup_cons,hx] at h
     cases h
     exact .inl (by simp [List.lookup_cons,hx])
   |false=>
    have h':(r.map λ(n,k)=>if (k==NameKind.free && env.scope.kind== .function && env.kindOf n==some .cell) then (n,NameKind.cell) else (n,k)).lookup x=some k:=by
     by_cases hc:(k'==NameKind.free && env.scope.kind== .function && env.kindOf n==some .cell)=true
     ·
      rw [if_pos hc] at h
      simpa only [List.lookup_cons,hx] using h
     ·
      rw [if_neg hc] at h
      simpa only [List.lookup_cons,hx] using h
    simpa only [List.lookup_cons,hx] using ih h'
theorem ze3:∀(names:List (Str×NameKind)) (a:Nat) (acc:List (Str×Addr)) (x:Str) (c:Addr),(cellsFrom a names acc).lookup x=some c->((x,NameKind.cell)∈names∧a≤c)∨((x,NameKind.cell)∉names∧acc.lookup x=some c)
 | [],_,_,_,_,h=> .inr ⟨by simp,h⟩
 | (n,k) :: r,a,acc,x,c,h=>by
  unfold cellsFrom at h
  by_cases hk:k= .cell
  ·
   subst hk
   rw [if_pos (by rfl)] at h
   rcases ze3 r (a+1) ((n,a)::acc) x c h with ⟨h1,h2⟩|⟨h1,h2⟩
   ·exact .inl ⟨List.mem_cons_of_mem _ h1,Nat.le_of_succ_le h2⟩
   ·
    rw [List.lookup_cons] at h2
    cases hx:x==n with
     |true=>
      rw [hx] at h2
      have h2:some a=some c:=h2
      cases h2
      rw [eq_of_beq hx]
      exact .inl ⟨List.mem_cons_self,Nat.le_refl _⟩
     |false=>
      rw [hx] at h2
      refine .inr ⟨λz=> ?_,h2⟩
      rcases List.mem_cons.mp z with z|z
      ·
       have:=congrArg Prod.fst z
       have:x=n:=this
       rw [this] at hx
       simp at hx
      ·exact h1 z
  ·
   have hk':(k==NameKind.cell)=false:=by simpa using hk
   rw [hk',if_neg (by simp)] at h
   rcases ze3 r a acc x c h with ⟨h1,h2⟩|⟨h1,h2⟩
   ·exact .inl ⟨List.mem_cons_of_mem _ h1,h2⟩
   ·
    refine .inr ⟨λz=> ?_,h2⟩
    rcases List.mem_cons.mp z with z|z
    ·exact hk (congrArg Prod.snd z).symm
    ·exact h1 z
theorem zhq:∀(names:List (Str×NameKind)) (a:Nat) (acc:List (Str×Addr)) (x:Str),((x,NameKind.cell)∈names∨∃c,acc.lookup x=some c)->∃c,(cellsFrom a names acc).lookup x=some c
 | [],_,_,_,h=>by
  rcases h with h|h
  ·simp at h
  ·exact h
 | (n,k) :: r,a,acc,x,h=>by
  unfold cellsFrom
  by_cases hk:k= .cell
  ·
   subst hk
   rw [if_pos (by rfl)]
   refine zhq r (a+1) ((n,a)::acc) x ?_
   by_cases hx:x=n
   ·
    subst hx
    exact .inr ⟨a,by rw [List.lookup_cons];simp⟩
   ·
    rcases h with h|⟨c,h⟩
    ·
     rcases List.mem_cons.mp h with h|h
     ·exact absurd (congrArg Prod.fst h) hx
     ·exact .inl h
    ·
     refine .inr ⟨c,?_⟩
     have:(x==n)=false:=by simpa using hx
     rw [List.lookup_cons,this]
     exact h
  ·
   have hk':(k==NameKind.cell)=false:=by simpa using hk
   rw [hk',if_neg (by simp)]
   refine zhq r a acc x ?_
   rcases h with h|h
   ·
    rcases List.mem_cons.mp h with h|h
    ·exact absurd (congrArg Prod.snd h).symm hk
    ·exact .inl h
   ·exact .inr h
theorem zf1:∀(names:List (Str×NameKind)) (a:Nat) (acc acc':List (Str×Addr)) (x:Str),((x,NameKind.cell)∈names∨acc.lookup x=acc'.lookup x)->(cellsFrom a names acc).lookup x=(cellsFrom a names acc').lookup x
 | [],_,_,_,_,h=>by
  rcases h with h|h
  ·simp at h
  ·exact h
 | (n,k) :: r,a,acc,acc',x,h=>by
  unfold cellsFrom
  by_cases hk:k= .cell
  ·
   subst hk
   rw [if_pos (by rfl),if_pos (by rfl)]
   refine zf1 r (a+1) _ _ x ?_
   by_cases hx:x=n
   ·
    subst hx
    exact .inr (by rw [List.lookup_cons,List.lookup_cons];simp)
   ·
    have hx':(x==n)=false:=by simpa using hx
    rcases h with h|h
    ·
     rcases List.mem_cons.mp h with h|h
     ·exact absurd (congrArg Prod.fst h) hx
     ·exact .inl h
    ·exact .inr (by rw [List.lookup_cons,List.lookup_cons,hx'];exact h)
  ·
   have hk':(k==NameKind.cell)=false:=by simpa using hk
   rw [hk',if_neg (by simp),if_neg (by simp)]
   refine zf1 r a _ _ x ?_
   rcases h with h|h
   ·
    rcases List.mem_cons.mp h with h|h
    ·exact absurd (congrArg Prod.snd h).symm hk
    ·exact .inl h
   ·exact .inr h
theorem zee {M:Model} {A:Around} {E:Value->Shared->Prop} {s:Shared} {scope:Scope} {globals:Addr} {closure:List (Str×Addr)} {qual:Str} {func:Option Addr} {code:Value} {outer:Env} {builtins:Addr} {Q:Env->Shared->Prop}
  (hQ:∀h',h'.Ns s.heap.objs.size (λ_=>none)->(∀b o,s.heap.get? b=some o->h'.get? b=some o)→(∀x c,(x,NameKind.cell)∈scope.names->(cellsFrom (s.heap.objs.size+1) scope.names closure).lookup x=some c->h'.IsCell c none)→Q (newEnv scope s.heap.objs.size globals (cellsFrom (s.heap.objs.size+1) scope.names closure) qual func code (some outer) builtins) {s with heap:=h'}) :
  wpAny M A (newFunctionEnv scope globals closure [] qual func code (some outer) builtins) Q E s:=by
   simp only [newFunctionEnv,Option.isSome_some,if_true]
   refine wpAny_bind (wpAny_alloc ?_)
   refine wpAny_bind (wpAny_layCells _ (λname kind cells=>by cases hkc:kind==NameKind.cell<;>simp [hkc]) _ _ _ _ ?_)
   have ok:=cellsFrom_ok scope.names (s.heap.push {cls:= .type "dict",data:= .dict #[]}) (s.heap.objs.size+1) [] ⟨λ_ _ hm=>(nomatch hm),List.Pairwise.nil⟩ (by rw [Heap.size_push];exact Nat.le_refl _)
   rw [Heap.size_push] at ok
   rw [show ({s with heap:=s.heap.push {cls:= .type "dict",data:= .dict #[]}}:Shared).heap.objs.size=s.heap.objs.size+1 from Heap.size_push ..]
   simp only [List.forIn_nil]
   refine wpAny_bind (wpAny_pure (wpAny_pure (hQ _ ((Heap.Ns.new s.heap (.type "dict")).keeps (pushCells_keeps _ _)) (λb o e=>pushCells_keeps _ _ b o (Heap.get?_push_of_some _ e)) λx c hx hc=> ?_)))
   rw [zf1 _ _ closure [] x (.inl hx)] at hc
   exact (ok.empty x c (PySem.mem_of_lookup hc)).1
def zbU (X:Cx) (N':List Str) (scope:Scope) (cl:List (Str×Addr)) (C:Addr) (fp:List Addr) (s:Shared) (H:Hp):Cx where
 prog:=X.prog
 w:=X.w
 K:=X.K
 mg:=X.mg
 base:=X.base
 A:=X.A
 N:=N'
 s₀:=s
 H₀:=H
 env:=compEnvC scope cl C X.env
 outer:=X.stack
 stack:=X.stack
 ex:=fp
 fn:=λx=>scope.names.lookup x == some .cell
 calm:=true
 pn:=X.pn
 xe:=λ_ _=>False
def zgL (own:Nat) (fv:List Nat) (σ:St):St:=List.replicate own none++fv.map λi=>(σ[i]?).join
structure BlkScope (X:Cx) (scope:Scope) (own fvn:List Str) (fv:List Nat):Prop where
 cell:∀ y∈scope.names,y.2=.cell->scope.names.lookup y.1=some .cell
 fre:∀ y∈scope.names,y.2=.free->scope.names.lookup y.1=some .free
 kind:scope.kind=.function
 names:∀ y∈scope.names,y.2=.local->scope.names.lookup y.1=some .local
 free:∀ y∈scope.names,y.2=.free->X.env.scope.names.lookup y.1=some .cell∨X.env.scope.names.lookup y.1=some .free
 map:fvn.map some=fv.map λi=>X.N[i]?
 vis:∀ x∈fvn,scope.names.lookup x=some .free
section
variable {X:Cx} {pins:List (Addr×Obj)} {σ:St} {H:Hp} {s:Shared}
def zpv (X:Cx) (scope:Scope) (cl:List (Str×Addr)) (C:Addr):Prop:=(∀x c,cl.lookup x=some c->(X.env.cells.lookup x=some c∧scope.names.lookup x≠some .cell)∨(C<c∧scope.names.lookup x=some .cell))∧(∀x y c,C<c->cl.lookup x=some c->cl.lookup y=some c->x=y)∧∀x,((x,NameKind.free)∈scope.names∨(x,NameKind.cell)∈scope.names)->∃c,cl.lookup x=some c
theorem zrQ {scope:Scope} {own fvn:List Str} {fv:List Nat} {cl:List (Str×Addr)} {C:Addr} (B:BlkScope X scope own fvn fv) (h1:∀x c,cl.lookup x=some c->X.env.cells.lookup x=some c) (h2:∀x,(x,NameKind.free)∈scope.names->∃c,cl.lookup x=some c)
  (hlt:∀x c,X.env.cells.lookup x=some c->c≤C):zpv X scope (cellsFrom (C+1) scope.names cl) C:=by
   refine ⟨λx c e=> ?_,λx y c hc e1 e2=> ?_,λx hx=> ?_⟩
   ·
    rcases ze3 _ _ _ _ _ e with ⟨z1,z2⟩|⟨z1,z2⟩
    ·exact .inr ⟨z2,B.cell _ z1 rfl⟩
    ·exact .inl ⟨h1 x c z2,λq=>z1 (PySem.mem_of_lookup q)⟩
   ·
    have key:∀x,(cellsFrom (C+1) scope.names cl).lookup x=some c->(x,c)∈cellsFrom (C+1) scope.names []:=λx e=>by
     rcases ze3 _ _ _ _ _ e with ⟨z1,z2⟩|⟨z1,z2⟩
     ·
      rw [zf1 _ _ cl [] x (.inl z1)] at e
      exact PySem.mem_of_lookup e
     ·exact absurd (hlt x c (h1 x c z2)) (Nat.not_le.mpr hc)
    have ap:∀(names:List (Str×NameKind)) (a:Nat) (acc:List (Str×Addr)),(∀e∈acc,e.2<a)->(acc.Pairwise λx y=>x.2≠y.2)->(cellsFrom a names acc).Pairwise λx y=>x.2≠y.2:=by
     intro names
     induction names with
      |nil=>intro a acc _ h;exact h
      |cons nk r ih=>
       intro a acc h h'
       obtain ⟨n,k⟩:=nk
       unfold cellsFrom
       split
       ·
        refine ih (a+1) _ (λe he=> ?_) (List.pairwise_cons.mpr ⟨λy hy=>Nat.ne_of_gt (h y hy),h'⟩)
        rcases List.mem_cons.mp he with rfl|he
        ·exact Nat.lt_succ_self _
        ·exact Nat.lt_succ_of_lt (h e he)
       ·exact ih a acc h h'
    exact PySem.name_of_addr (ap scope.names (C+1) [] (by simp) .nil) (key x e1) (key y e2)
   ·
    refine zhq _ _ _ _ ?_
    rcases hx with hx|hx
    ·exact .inr (h2 x hx)
    ·exact .inl hx
theorem zoU {scope:Scope} {own fvn:List Str} {fv:List Nat} {cl:List (Str×Addr)} {C:Addr} {fp:List Addr} (I:Inv X pins σ H s) (B:BlkScope X scope own fvn fv) (hc:X.calm=true)
  (hb:zpv X scope cl C)
  (hC:s.heap.objs.size≤C) (hf:∀b∈fp,zlK X pins H b) (hl:∀b∈fp,b<s.heap.objs.size):(zbU X (own++fvn) scope cl C fp s H).Ok where
 mod:=I.ok.mod
 kind:=B.kind
 glob:=I.ok.glob
 blt:=I.ok.blt
 above:=hC
 inj:=λx y c e1 e2=>by
  have lt:∀ z,X.env.cells.lookup z=some c->c<s.heap.objs.size:=λz e=>by obtain ⟨v,q⟩:=I.cell z c e;exact q.lt
  rcases hb.1 x c e1 with ⟨z1,_⟩ | ⟨z1,_⟩
  ·rcases hb.1 y c e2 with ⟨z2,_⟩ | ⟨z2,_⟩
   ·exact I.ok.inj x y c z1 z2
   ·exact absurd (Nat.lt_of_lt_of_le (lt x z1) hC) (Nat.not_lt.mpr (Nat.le_of_lt z2))
  ·exact hb.2.1 x y c z1 e1 e2
 has:=λx hx=>by
  have hx:(scope.names.map λ(n,k)=>if (k == NameKind.free&&X.env.scope.kind == .function&&X.env.kindOf n == some .cell) then (n,NameKind.cell) else (n,k)).lookup x=some .cell ∨
   (scope.names.map λ(n,k)=>if (k == NameKind.free&&X.env.scope.kind == .function&&X.env.kindOf n == some .cell) then (n,NameKind.cell) else (n,k)).lookup x=some .free:=hx
  refine hb.2.2 x ?_
  rcases hx with hx | hx
  ·rcases zc6 hx with z | ⟨_,z⟩
   ·exact .inr (PySem.mem_of_lookup z)
   ·exact .inl (PySem.mem_of_lookup z)
  ·rcases zc6 hx with z | ⟨z,_⟩
   ·exact .inl (PySem.mem_of_lookup z)
   ·cases z
 cab:=λx c h e=>by
  have h:(scope.names.lookup x == some NameKind.cell)=true:=h
  rcases hb.1 x c e with ⟨_,z⟩ | ⟨z,_⟩
  ·exact absurd (eq_of_beq h) z
  ·exact Nat.le_trans hC (Nat.le_of_lt z)
 hd:=λ_=>I.ok.hd hc
 frames:=I.ok.frames
 stk:=.inl rfl
 exf:=λb hb'=>⟨Nat.ne_of_lt (Nat.lt_of_lt_of_le (hl b hb') hC),λx c e=>by
  rcases hb.1 x c e with ⟨z,_⟩ | ⟨z,_⟩
  ·exact (hf b hb').2.2.2.2.1 x c z
  ·exact Nat.ne_of_gt (Nat.lt_trans (Nat.lt_of_lt_of_le (hl b hb') hC) z)⟩
 bs:=I.bs
 bsz:=Nat.le_trans I.ok.bsz I.sz
 noex:=λb o e hb=>by
  rcases (hf b hb).2.2.2.1 with z | z
  ·exact I.ok.noex b o e z
  ·exact absurd (Nat.lt_of_lt_of_le (Heap.lt_size (I.ok.bs b o e).1) z) (Nat.lt_irrefl _)
 exfs:=λb hb z=>by
  rcases List.mem_cons.mp (I.stkSub b z) with q | q
  ·exact (hf b hb).2.1 q
  ·exact (hf b hb).2.2.1 q
 funs:=I.stack
 frf:=I.stkFree
theorem zrH {own:List Str} {fvn:List Str} {fv:List Nat} {i:Nat} {x:Str} {v:V} (hm:fvn.map some=fv.map λi=>X.N[i]?) (h1:(own++fvn)[i]? =some x) (h2:(zgL own.length fv σ)[i]? =some (some v)) :
  x∈fvn∧∃j:Nat,X.N[j]? =some x∧σ[j]? =some (some v):=by
   unfold zgL at h2
   by_cases hi:i<own.length
   ·
    rw [List.getElem?_append_left (by simpa using hi),List.getElem?_replicate] at h2
    split at h2<;>cases h2
   ·
    rw [List.getElem?_append_right (by simpa using hi),List.length_replicate,List.getElem?_map] at h2
    rw [List.getElem?_append_right (by simpa using hi)] at h1
    have q:(fvn.map some)[i-own.length]? =(fv.map λi=>X.N[i]?)[i-own.length]? :=by rw [hm]
    rw [List.getElem?_map,List.getElem?_map,h1] at q
    cases e:fv[i-own.length]? with
     |none=>rw [e] at h2;cases h2
     |some j=>
      rw [e] at h2 q
      have q':X.N[j]? =some x:=(Option.some.inj q).symm
      have h2':(σ[j]?).join=some v:=Option.some.inj h2
      refine ⟨List.mem_of_getElem? h1,j,q',?_⟩
      cases e2:σ[j]? with
       |none=>rw [e2] at h2';cases h2'
       |some o=>
        rw [e2] at h2'
        have:o=some v:=h2'
        rw [this]
theorem zky {scope:Scope} {own fvn:List Str} {fv:List Nat} {cl:List (Str×Addr)} {C D:Addr} {fp:List Addr} {h':Heap} {t':Nat} {m:Str->Option Value} (I:Inv X pins σ H s) (B:BlkScope X scope own fvn fv) (hc:X.calm=true)
  (hb:zpv X scope cl C) (hnew:∀x c,C<c->cl.lookup x=some c->h'.IsCell c none)
  (hf:∀b∈fp,zlK X pins H b) (hl:∀b∈fp,b<s.heap.objs.size) (hD:s.heap.objs.size≤D) (hC:s.heap.objs.size≤C) (hDC:D<C)
  (k:∀b o,s.heap.get? b=some o->h'.get? b=some o) (hn:h'.Ns C m) (ho:h'.get? D=some {cls:= .type "list",data:= .seq #[] 0}) :
  Inv (zbU X (own++fvn) scope cl C fp s H) pins (zgL own.length fv σ) (upd H D (.lst [])) {s with heap:=h',toks:=t'}:=by
   have hDn:H D=none:=I.hok.fresh hD
   have hCn:H C=none:=I.hok.fresh hC
   have lt:∀b o,s.heap.get? b=some o->b≠D:=λb o e=>Nat.ne_of_lt (Nat.lt_of_lt_of_le (Heap.lt_size e) hD)
   refine ⟨zoU I B hc hb hC hf hl,rfl,I.bare,Un.laid k hD hDn,⟨m,hn,λi x v e1 e2 e3=> ?_⟩,λx c e=> ?_,?_,λx c e=> ?_,λp hp=> ?_,?_,?_⟩
   ·
    obtain ⟨hx,j,e4,e5⟩:=zrH B.map e1 e2
    have hfr:=B.vis x hx
    obtain ⟨c,hcl⟩:=hb.2.2 x (.inl (PySem.mem_of_lookup hfr))
    have h1x:X.env.cells.lookup x=some c:=by
     rcases hb.1 x c hcl with ⟨z,_⟩|⟨_,z⟩
     ·exact z
     ·rw [hfr] at z;cases z
    obtain ⟨m0,hn0,hl0⟩:=I.loc
    have ok:=B.free _ (PySem.mem_of_lookup hfr) rfl
    have hv:Vis X.env.scope x:=by
     rcases ok with z|z
     ·exact .inr (.inl z)
     ·exact .inr (.inr z)
    obtain ⟨u,r,l⟩:=hl0 j x v e4 e5 hv
    refine ⟨u,r,.inr ⟨?_,c,hcl,?_⟩⟩
    ·
     rcases e3 with z|z|z
     ·
      have z':(scope.names.map λ(n,k)=>if (k==NameKind.free && X.env.scope.kind== .function && X.env.kindOf n==some .cell) then (n,NameKind.cell) else (n,k)).lookup x=some .local:=z
      rcases zc6 z' with y|⟨y,_⟩
      ·rw [hfr] at y;cases y
      ·cases y
     ·exact .inl z
     ·exact .inr z
    ·
     rcases l with ⟨k0,_⟩|⟨_,c',e6,o,ho',hd⟩
     ·
      have k0':X.env.scope.names.lookup x=some .local:=k0
      rcases ok with z|z<;>(rw [k0'] at z;cases z)
     ·
      rw [h1x] at e6
      cases e6
      exact ⟨o,k _ _ ho',hd⟩
   ·
    rcases hb.1 x c e with ⟨z,_⟩|⟨z,_⟩
    ·
     obtain ⟨v,o,ho',hd⟩:=I.cell x c z
     exact ⟨v,o,k _ _ ho',hd⟩
    ·exact ⟨none,hnew x c z e⟩
   ·
    show upd H D (.lst []) C=none
    rw [zai (Nat.ne_of_gt hDC)];
    exact hCn
   ·
    rcases hb.1 x c e with ⟨z,_⟩|⟨z,_⟩
    ·
     obtain ⟨v,o,ho',hd⟩:=I.cell x c z
     rw [zai (lt _ _ ho')]
     exact I.freeC x c z
    ·
     rw [zai (Nat.ne_of_gt (Nat.lt_trans hDC z))]
     exact I.hok.fresh (Nat.le_trans hC (Nat.le_of_lt z))
   ·
    obtain ⟨e,n,ne,nf,d⟩:=I.pin p hp
    refine ⟨k _ _ e,?_,Nat.ne_of_lt (Nat.lt_of_lt_of_le (Heap.lt_size e) hC),λz=> ?_,d⟩
    ·rw [zai (lt _ _ e)];exact n
    ·
     rcases List.mem_cons.mp (I.stkSub _ z) with q|q
     ·exact ne q
     ·exact nf q
   ·exact I.hok.laid k hD ⟨Nat.zero_le _,[],0,.nil,ho⟩
   ·
    have hm:=congrArg List.length B.map
    rw [List.length_map,List.length_map] at hm
    show (zgL own.length fv σ).length=(own++fvn).length
    unfold zgL
    rw [List.length_append,List.length_append,List.length_replicate,List.length_map,hm]
theorem zm6 {scope:Scope} {N':List Str} {cl:List (Str×Addr)} {C:Addr} {fp:List Addr} {σ':St} {H':Hp} {s':Shared} (I:Inv X pins σ H s) (hC:s.heap.objs.size≤C) (hf:∀b∈fp,zlK X pins H b)
  (J:Inv (zbU X N' scope cl C fp s H) pins σ' H' s'):Inv X pins σ H' s'∧zlK X pins H' C:=by
   have I':Inv X pins σ H' s':=I.call' (ch:=fp) J.os J.base J.hok J.bare λb hb=>⟨(hf b hb).2.2.2.1,(hf b hb).2.1,(hf b hb).2.2.2.2.1,(hf b hb).2.2.2.2.2⟩
   refine ⟨I',J.free,Nat.ne_of_gt (Nat.lt_of_lt_of_le I.lt hC),I.nofs hC,.inr (Nat.le_trans I.sz hC),λx c e z=> ?_,λp hp z=> ?_⟩
   ·
    obtain ⟨v,q⟩:=I.cell x c e
    exact absurd (Nat.lt_of_lt_of_le q.lt (by rw [z];exact hC)) (Nat.lt_irrefl _)
   ·exact absurd (Nat.lt_of_lt_of_le (Heap.lt_size (I.pin p hp).1) (by rw [z];exact hC)) (Nat.lt_irrefl _)
end
section
variable {prog:Program} {w:World} {A:Around} {R:Result->Shared->Prop} {s:Shared}
theorem zm3 {elt target iter:Expr} {ifs:List Expr} {scope:Scope} {pos:Pos} {it acc:Value} {env:Env} (I:Nat->Shared->Prop)
  (turn:∀n s,I n s->wpAny (model prog w) A (pyNext it) (λr s₁=>match r with
   |none=>R (.ok .next) s₁
   |some v=>wpAny (model prog w) A (letOwnedTupleGo target it v) (λ_ s₁'=>wpAny (model prog w) A (assign target env v) (λ_ s₂=>wpAny (model prog w) A (forIn ifs true λc r=>if r=true then do
    let ok←isTrue c env (eval c env);
    pure (ForInStep.yield ok) else pure (ForInStep.yield r)) (λok s₃=>if ok=true then wpAny (model prog w) A (eval elt env) (λx s₄=>wpAny (model prog w) A (call (.builtin "list.append") [acc,x]) (λ_ s₅=>∃m,m<n∧I m s₅) (λ_ _=>False) s₄) (λ_ _=>False) s₃ else∃m,m<n∧I m s₃) (λ_ _=>False) s₂) (λ_ _=>False) s₁') (λ_ _=>False) s₁) (λ_ _=>False) s)
  (n:Nat) (h:I n s) :
  codeAny (model prog w) A (.compLoop (.ListComp elt [⟨target,iter,ifs,0⟩] scope pos) 0 it acc env) R s:=by
   refine codeAny_loop rfl I (λn s hI=> ?_) n h
   show wpAny _ A ((compTurn (.ListComp elt [⟨target,iter,ifs,0⟩] scope pos) 0 it acc env).onRaise (λx=>do
    noteFrame x env;
    theTreesLotGoes x)) _ _ s
   refine wpAny_noted ?_
   rw [compTurn_list]
   refine wpAny_bind (wpAny_standAt (wpAny_bind (wpAny_mono (turn n s hI) (λr s₁ h₁=> ?_) λ_ _ h'=>h'.elim)))
   cases r with
    |none=>exact wpAny_pure h₁
    |some v=>
     refine wpAny_bind (wpAny_mono h₁ (λ_ s₁' h₁'=> ?_) λ_ _ h'=>h'.elim)
     refine wpAny_bind (wpAny_mono h₁' (λ_ s₂ h₂=>wpAny_bind (wpAny_mono h₂ (λok s₃ h₃=> ?_) λ_ _ h'=>h'.elim)) λ_ _ h'=>h'.elim)
     cases ok with
      |false=>exact wpAny_pure ⟨rfl,h₃⟩
      |true=>exact wpAny_bind (wpAny_bind (wpAny_mono h₃ (λx s₄ h₄=>wpAny_bind (wpAny_mono h₄ (λ_ s₅ h₅=>wpAny_pure (wpAny_pure ⟨rfl,h₅⟩)) λ_ _ h'=>h'.elim)) λ_ _ h'=>h'.elim))
end
abbrev TTs:=St->Hp->(Bool->Hp->Prop)->Prop
def PTs (X:Cx) (ifs:List Expr) (t:TTs):Prop :=
 ∀(pins:List (Addr×Obj)) (s:Shared) (σ:St) (H:Hp) (Q:Bool->Hp->Prop),Inv X pins σ H s->t σ H Q→wpAny (model X.prog X.w) X.A (forIn ifs true λc r=>if r=true then do
  let ok←isTrue c X.env (eval c X.env);
  pure (ForInStep.yield ok) else pure (ForInStep.yield r)) (TP X pins σ Q) X.xe s
def zqU:TTs:=λ_ H Q=>Q true H
theorem zcK {X:Cx}:PTs X [] zqU:=λ_ _ _ H _ I h=>wpAny_tests_nil ⟨H,I,h⟩
theorem zqx {X:Cx} {c:Expr} {t:TT} (h:PT X c t):PTs X [c] t:=λpins s σ H Q I hw=>wpAny_tests_one (h pins s σ H Q I hw)
def zpg (own:Nat) (fv:List Nat) (wi:TI) (g:TG) (tt:TTs) (te:TE):TE:=λσ H Q=>wi σ H λJ H1=>∀D,H1 D=none→∃W:Nat->Nat->List V->St->Hp->Prop,(∃m,W 0 m [] (zgL own fv σ) (upd H1 D (.lst [])))∧∀i m ys σb H,W i m ys σb H->H D=some (.lst ys)∧((J.stop i H∧Q (.ref D) H)∨(J.go i H∧∀x H',J.yld i H x H'->g x σb H' λσ2 H2=>tt σ2 H2 λok H3=>if ok=true then te σ2 H3 λy H4=>H4 D=some (.lst ys)∧ys.length<sizeLine∧∃m',m'<m∧W (i+1) m' (ys++[y]) σ2 (upd H4 D (.lst (ys++[y]))) else∃m',m'<m∧W (i+1) m' ys σ2 H3))
section
variable {X:Cx} {tg iter elt:Expr} {ifs:List Expr} {scope:Scope} {pos:Pos} {wi:TI} {g:TG} {tt:TTs} {te:TE} {own fvn:List Str} {fv:List Nat}
theorem zlv {pins:List (Addr×Obj)} {σ:St} {s:Shared} {Q:VK} {E:Value->Shared->Prop} {cl:List (Str×Addr)} {RR:Value->Addr->Result->Shared->Prop} {itv:Value}
  (hc:X.calm=true) (B:BlkScope X scope own fvn fv) (h1:∀x c,cl.lookup x=some c->X.env.cells.lookup x=some c) (h2:∀x,(x,NameKind.free)∈scope.names->∃c,cl.lookup x=some c)
  (hb:∀(cl:List (Str×Addr)) (C:Addr) (fp:List Addr) (s:Shared) (H:Hp),PG (zbU X (own++fvn) scope cl C fp s H) tg g∧PTs (zbU X (own++fvn) scope cl C fp s H) ifs tt∧PE (zbU X (own++fvn) scope cl C fp s H) elt te)
  (P:PIE X pins σ tg (λJ H1=>∀D,H1 D=none→∃W:Nat->Nat->List V->St->Hp->Prop,(∃m,W 0 m [] (zgL own.length fv σ) (upd H1 D (.lst [])))∧∀i m ys σb H,W i m ys σb H->H D=some (.lst ys)∧((J.stop i H∧Q (.ref D) H)∨(J.go i H∧∀x H',J.yld i H x H'->g x σb H' λσ2 H2=>tt σ2 H2 λok H3=>if ok=true then te σ2 H3 λy H4=>H4 D=some (.lst ys)∧ys.length<sizeLine∧∃m',m'<m∧W (i+1) m' (ys++[y]) σ2 (upd H4 D (.lst (ys++[y]))) else∃m',m'<m∧W (i+1) m' ys σ2 H3))) itv s)
  (hRR:∀D C s' H' m,Inv X pins σ H' s'->s'.heap.Ns C m->zlK X pins H' C->Q (.ref D) H'->RR (.ref D) C (.ok .next) s') :
  wpAny (model X.prog X.w) X.A (newList []) (λacc s₃=>wpAny (model X.prog X.w) X.A (newFunctionEnv scope X.env.globals cl [] X.env.qual none .none (some X.env)) (λcenv s₄=>codeAny (model X.prog X.w) X.A (.compStart (.ListComp elt [⟨tg,iter,ifs,0⟩] scope pos) 0 itv acc {cenv with scope:=relabel scope X.env}) (RR acc cenv.locals) s₄) E s₃) E s:=by
   obtain ⟨it,fp,tn,J,H2,rfl,I2,T,st2,f2,hW⟩:=P
   have hl:∀b∈fp,b<s.heap.objs.size:=λb hb=>by
    obtain ⟨o,e,_⟩:=T.obj _ _ st2 b hb
    exact Heap.lt_size e
   refine wpAny_newObj_type (zee (λh₁ hns₁ hsb₁ hcl₁=> ?_))
   dsimp only at hns₁ hsb₁ hcl₁ ⊢
   generalize hH2:s.heap.push {cls:= .type "list",dict:=none,data:= .seq ([]:List Value).toArray}=G2 at hns₁ hsb₁ hcl₁ ⊢
   have hC:G2.objs.size=s.heap.objs.size+1:=by rw [←hH2,Heap.size_push]
   have hDC:s.heap.objs.size<G2.objs.size:=by rw [hC];exact Nat.lt_succ_self _
   have hCle:s.heap.objs.size≤G2.objs.size:=by rw [hC];exact Nat.le_succ _
   have old:∀b o,s.heap.get? b=some o->h₁.get? b=some o:=λb o e=>hsb₁ b o (hH2 ▸ Heap.get?_push_of_some _ e)
   have hacc:h₁.get? s.heap.objs.size=some {cls:= .type "list",data:= .seq #[] 0}:=hsb₁ _ _ (hH2 ▸ Heap.get?_push_size _ rfl)
   have hbc:zpv X scope (cellsFrom (G2.objs.size+1) scope.names cl) G2.objs.size:=zrQ B h1 h2 λx c e=>by
    obtain ⟨v,q⟩:=I2.cell x c e
    exact Nat.le_trans (Nat.le_of_lt q.lt) hCle
   have hnew:∀x c,G2.objs.size<c->(cellsFrom (G2.objs.size+1) scope.names cl).lookup x=some c->h₁.IsCell c none:=λx c hc' e=>by
    rcases hbc.1 x c e with ⟨z,_⟩|⟨_,z⟩
    ·
     obtain ⟨v,q⟩:=I2.cell x c z
     exact absurd (Nat.lt_of_lt_of_le q.lt hCle) (Nat.not_lt.mpr (Nat.le_of_lt hc'))
    ·exact hcl₁ x c (PySem.mem_of_lookup z) e
   generalize cellsFrom (G2.objs.size+1) scope.names cl=cl' at hbc hnew ⊢
   clear h1 h2 hcl₁
   obtain ⟨W,⟨m0,w0⟩,turn⟩:=hW s.heap.objs.size (I2.hok.fresh (Nat.le_refl _))
   have J0:∀t',Inv (zbU X (own++fvn) scope cl' G2.objs.size fp s H2) pins (zgL own.length fv σ) (upd H2 s.heap.objs.size (.lst [])) {s with heap:=h₁,toks:=t'}:=λt'=>zky I2 B hc hbc hnew f2 hl (Nat.le_refl _) hCle hDC old hns₁ hacc
   obtain ⟨hpg,hpt,hpe⟩:=hb cl' G2.objs.size fp s H2
   have stat:∀ {H':Hp},(∀b∈fp,H' b=none)->∀b∈fp,zlK (zbU X (own++fvn) scope cl' G2.objs.size fp s H2) pins H' b:=λhn b hb=>⟨hn b hb,Nat.ne_of_lt (Nat.lt_of_lt_of_le (hl b hb) hCle),λz=>by
    rcases List.mem_cons.mp (I2.stkSub b z) with q|q
    ·exact (f2 b hb).2.1 q
    ·exact (f2 b hb).2.2.1 q,.inl hb,λx c e=>(by
    rcases hbc.1 x c e with ⟨z,_⟩|⟨z,_⟩
    ·exact (f2 b hb).2.2.2.2.1 x c z
    ·exact Nat.ne_of_gt (Nat.lt_trans (Nat.lt_of_lt_of_le (hl b hb) hCle) z)),(f2 b hb).2.2.2.2.2⟩
   have st1:tn 0 h₁:=T.keep _ _ _ st2 λb hb o e=>old b o e
   have fr1:∀b∈fp,upd H2 s.heap.objs.size (.lst []) b=none:=λb hb=>by rw [zai (Nat.ne_of_lt (hl b hb))];exact (f2 b hb).1
   have loop:∀s₃:Shared,s₃= {s with heap:=h₁}→codeAny (model X.prog X.w) X.A (.compLoop (.ListComp elt [⟨tg,iter,ifs,0⟩] scope pos) 0 (.ref it) (.ref s.heap.objs.size) (compEnvC scope cl' G2.objs.size X.env)) (RR (.ref s.heap.objs.size) G2.objs.size) s₃:=by
    rintro s₃ rfl
    refine zm3 (λn s'=>∃i ys σ' H',Inv (zbU X (own++fvn) scope cl' G2.objs.size fp s H2) pins σ' H' s'∧tn i s'.heap∧(∀b∈fp,H' b=none)∧W i n ys σ' H') ?_ m0 ⟨0,[],_,_,J0 s.toks,st1,fr1,w0⟩
    rintro n s3 ⟨i,ys,σ3,H3,I3,st3,fr3,w3⟩
    obtain ⟨hD,w3⟩:=turn i n ys σ3 H3 w3
    rcases w3 with ⟨stop,qn⟩|⟨go,step⟩
    ·
     refine thn (T.done (zbU X (own++fvn) scope cl' G2.objs.size fp s H2) rfl rfl rfl rfl i pins s3 σ3 H3 _ I3 (stat fr3) st3 stop) λr s4 ⟨hr,I4⟩=> ?_
     subst hr
     obtain ⟨I5,fC⟩:=zm6 I2 hCle f2 I4
     obtain ⟨m,hn,_⟩:=I4.loc
     exact hRR _ _ s4 H3 m I5 hn fC qn
    ·
     refine thn (T.item (zbU X (own++fvn) scope cl' G2.objs.size fp s H2) rfl rfl rfl rfl i pins s3 σ3 H3 _ I3 (stat fr3) st3 go) λr s4 ⟨u,hr,h4⟩=> ?_
     subst hr
     refine thn h4 λ_ s5 ⟨x,H5,I5,r5,y5,st5,fr5⟩=> ?_
     have I5':=I5.pinned (stat fr5) (T.obj _ _ st5)
     refine thn (hpg _ s5 σ3 H5 x u _ I5' r5 (step x H5 y5)) λ_ s6 ⟨σ6,H6,I6,q6⟩=> ?_
     refine thn (hpt _ s6 σ6 H6 _ I6 q6) λok s7 ⟨H7,I7,q7⟩=> ?_
     have again:∀ {s8:Shared} {σ8:St} {H8:Hp} {ys':List V} {m':Nat},Inv (zbU X (own++fvn) scope cl' G2.objs.size fp s H2) (pins++zjK fp s5.heap) σ8 H8 s8->m'<n->W (i+1) m' ys' σ8 H8→∃m,m<n∧∃i ys σ' H',Inv (zbU X (own++fvn) scope cl' G2.objs.size fp s H2) pins σ' H' s8∧tn i s8.heap∧(∀b∈fp,H' b=none)∧W i m ys σ' H':=λ {s8 σ8 H8 ys' m'} I8 hm w8=>by
      refine ⟨m',hm,i+1,ys',σ8,H8,I8.unpinned,T.keep _ _ _ st5 λb hb o e=>(I8.pin (b,o) (List.mem_append_right _ (List.mem_append_right _ (ze0 hb e)))).1,λb hb=> ?_,w8⟩
      obtain ⟨o,e,d⟩:=T.obj _ _ st5 b hb
      exact (I8.pin (b,o) (List.mem_append_right _ (List.mem_append_right _ (ze0 hb e)))).2.1
     cases ok with
      |false=>
       rw [if_neg Bool.false_ne_true] at q7 ⊢
       obtain ⟨m',hm,w8⟩:=q7
       exact again I7 hm w8
      |true=>
       rw [if_pos rfl] at q7 ⊢
       refine thn (hpe _ s7 σ6 H7 _ I7 q7) λyv s8 ⟨y,H8,I8,r8,hD8,hz8,m',hm,w8⟩=> ?_
       refine thn (zjr _ s8 σ6 H8 (.ref s.heap.objs.size) [y] _ [yv] (λ_ H9=>H9=upd H8 s.heap.objs.size (.lst (ys++[y]))) I8 rfl (.cons r8 .nil) ⟨_,ys,y,rfl,rfl,hD8,hz8,rfl⟩) λ_ s9 ⟨_,H9,I9,_,e9⟩=> ?_
       subst e9
       exact again I9 hm w8
   exact codeAny_compStart_list (loop _ rfl) (T.self _ 0 _ _ _ st1 (loop _ rfl))
theorem zhx (B:BlkScope X scope own fvn fv) (ok:X.Ok):∃cl,closureFor scope X.env=pure cl∧(∀x c,cl.lookup x=some c->X.env.cells.lookup x=some c)∧∀x,(x,NameKind.free)∈scope.names->∃c,cl.lookup x=some c :=
 zlX λx hx hk=>ok.has x.1 (B.free x hx hk)
theorem zcM (hc:X.calm=true) (B:BlkScope X scope own fvn fv) (hi:PI X tg iter wi)
  (hb:∀(cl:List (Str×Addr)) (C:Addr) (fp:List Addr) (s:Shared) (H:Hp),PG (zbU X (own++fvn) scope cl C fp s H) tg g∧PTs (zbU X (own++fvn) scope cl C fp s H) ifs tt∧PE (zbU X (own++fvn) scope cl C fp s H) elt te)
  (hs:∀x,foldedSetIterable iter X.env x=pure x:=by intro _;rfl):PE X (.ListComp elt [⟨tg,iter,ifs,0⟩] scope pos) (zpg own.length fv wi g tt te):=by
   intro pins s σ H Q I h
   obtain ⟨cl,hcl,h1,h2⟩:=zhx B I.ok
   rw [eval_ListComp]
   refine wpAny_comprehension_free (use:=none) rfl hs hcl B.kind B.names (thn (hi pins s σ H _ I h) λv s1 q1=>thn q1 λitv s2 q2=> ?_)
   refine zlv (RR:=λacc C=>compPost (model X.prog X.w) X.A X.xe none (EP X pins σ Q) acc C) hc B h1 h2 hb q2 λD C s' H' m I' hn fC q=> ?_
   exact ⟨m,hn,λh' hs'=>⟨.ref D,H',I'.turned (t':=s'.toks) (λb o hb e=>(hs'.2 b hb).trans e) fC.1 fC.2.1 fC.2.2.2.1 fC.2.2.2.2.1 fC.2.2.2.2.2,rfl,q⟩⟩
theorem zp7 {i:Nat} {x:Str} {pos' spos:Pos} (hc:X.calm=true) (hN:X.N.Nodup) (hix:X.N[i]?=some x) (hx:X.env.scope.names.lookup x=some .local) (B:BlkScope X scope own fvn fv) (hi:PI X tg iter wi)
  (hb:∀(cl:List (Str×Addr)) (C:Addr) (fp:List Addr) (s:Shared) (H:Hp),PG (zbU X (own++fvn) scope cl C fp s H) tg g∧PTs (zbU X (own++fvn) scope cl C fp s H) ifs tt∧PE (zbU X (own++fvn) scope cl C fp s H) elt te)
  (hsw:swapsWith (.ListComp elt [⟨tg,iter,ifs,0⟩] scope pos) (some (.Name x pos')) spos.line X.env=pure true:=by rfl)
  (hs:∀x,foldedSetIterable iter X.env x=pure x:=by intro _;rfl) :
  PS X (.Assign [.Name x pos'] (.ListComp elt [⟨tg,iter,ifs,0⟩] scope pos) spos) (zl9 (zpg own.length fv wi g tt te) (zds i)):=by
   intro pins s σ H D I h
   obtain ⟨cl,hcl,h1,h2⟩:=zhx B I.ok
   rw [exec_Assign_Name_used _ _ _ _ hsw]
   refine wpAny_bind (wpAny_standAt (wpAny_bind ?_))
   show wpAny _ _ (do let _←comprehension (.ListComp elt [⟨tg,iter,ifs,0⟩] scope pos) scope X.env _ (newList []) false (eval iter X.env) (some (assign (.Name x pos') X.env))) _ _ s
   refine wpAny_bind (wpAny_mono (wpAny_comprehension_free (use:=some (assign (.Name x pos') X.env)) (Q:=λ_ s'=>SP X pins D .next s') rfl hs hcl B.kind B.names (thn (hi pins s σ H _ I h) λv s1 q1=>thn q1 λitv s2 q2=> ?_)) (λ_ s' hq=>wpAny_pure (wpAny_pure hq)) λ_ _ e=>e)
   refine zlv (Q:=λv H1=>zds i v σ H1 D.nx) (RR:=λacc C=>compPost (model X.prog X.w) X.A X.xe (some (assign (.Name x pos') X.env)) (λ_ s'=>SP X pins D .next s') acc C) hc B h1 h2 hb q2 λDa C s' H' m I' hn fC q=> ?_
   show wpAny _ _ (assign (.Name x pos') X.env (.ref Da)) _ _ _
   refine wpAny_assign_Name (zjN I' hN hix (.inl hx) (v:= .ref Da) rfl (λs'' I'' ⟨a,hsb,ha⟩=> ?_) (.inr hx))
   have hCa:C≠a:=by
    rcases ha with z|z
    ·rw [z];exact fC.2.1
    ·exact Ne.symm (fC.2.2.2.2.1 x a z)
   refine ⟨m,hn.sameBut hsb hCa,λh'' hs''=>⟨_,H',I''.turned (t':=s''.toks) (λb o hb e=>(hs''.2 b hb).trans e) fC.1 fC.2.1 fC.2.2.2.1 fC.2.2.2.2.1 fC.2.2.2.2.2,q⟩⟩
end
end L2
namespace L2
open PySem PySem.Spec PyProof.Rows
section
variable {X:Cx} {pins:List (Addr×Obj)} {σ:St} {H:Hp} {s:Shared} {h':Heap}
theorem Inv.turnedNew {t':Nat} {ch:List Addr} {T:Addr} {o:HO} (I:Inv X pins σ H s) (hf:∀b∈ch,zlK X pins H b) (k:∀b u,b∉ch->s.heap.get? b=some u->h'.get? b=some u) (hT:s.heap.objs.size≤T)
  (new:zeE X.prog X.w (upd H T o) h' T o):Inv X pins σ (upd H T o) {s with heap:=h',toks:=t'}:=by
   have hn:H T=none:=I.hok.fresh hT
   have lt:∀b u,s.heap.get? b=some u->b≠T:=λb u e=>Nat.ne_of_lt (Nat.lt_of_lt_of_le (Heap.lt_size e) hT)
   refine I.step (g':=s.gens) (d':=s.drawn) (ch:=ch) (λb hb=>⟨(hf b hb).2.2.2.1,(hf b hb).2.1,(hf b hb).2.2.2.2.1,(hf b hb).2.2.2.2.2⟩) (λb u _ _ hc e _=>k b u hc e) (λb u _ _ hc e _=>⟨u.slots,k b u hc e⟩) (λb u _ e n=>by rw [zai (lt b u e)];exact n) (λb u hc e=>⟨u,k b u hc e⟩) (λb xs e=>by rw [zai (za7 e hn)];exact e) (λb u xs e=>by rw [zai (za7 e hn)];exact e) (λb ps e=>⟨#[],by rw [zai (za7 e hn),e];simp⟩) (λm hm=> ?_) (λb u e=> ?_) I.bare
   ·
    obtain ⟨o,es,ep,ho,r⟩:=hm
    exact ⟨o,es,ep,k _ o (λz=>(hf _ z).2.1 rfl) ho,r⟩
   ·
    by_cases hb:b=T
    ·subst hb;rw [zat] at e;cases e;exact new
    ·
     rw [zai hb] at e
     refine (I.hok b u e).stay (λc v hc q=>k c v (λz=> ?_) q) (λc q=>by rw [zai (za7 q hn)];exact q) λc xs q=>by rw [zai (za7 q hn)];exact q
     have z':=(hf c z).1
     rcases hc with hc|hc
     ·rw [hc,e] at z';cases z'
     ·rw [hc] at z';cases z'
theorem Inv.turnedL {t':Nat} {ch:List Addr} (I:Inv X pins σ H s) (hf:∀b∈ch,zlK X pins H b) (k:∀b u,b∉ch->s.heap.get? b=some u->h'.get? b=some u):Inv X pins σ H {s with heap:=h',toks:=t'}:=by
 refine I.step (g':=s.gens) (d':=s.drawn) (ch:=ch) (λb hb=>⟨(hf b hb).2.2.2.1,(hf b hb).2.1,(hf b hb).2.2.2.2.1,(hf b hb).2.2.2.2.2⟩) (λb u _ _ hc e _=>k b u hc e) (λb u _ _ hc e _=>⟨u.slots,k b u hc e⟩) (λb u _ e n=>n) (λb u hc e=>⟨u,k b u hc e⟩) (λb xs e=>e) (λb u xs e=>e) (λb ps e=>⟨#[],by rw [e];simp⟩) (λm hm=> ?_) (λb u e=> ?_) I.bare
 ·
  obtain ⟨o,es,ep,ho,r⟩:=hm
  exact ⟨o,es,ep,k _ o (λz=>(hf _ z).2.1 rfl) ho,r⟩
 ·
  refine (I.hok b u e).stay (λc v hc q=>k c v (λz=> ?_) q) (λc q=>q) λc xs q=>q
  have z':=(hf c z).1
  rcases hc with hc|hc
  ·rw [hc,e] at z';cases z'
  ·rw [hc] at z';cases z'
end
def Itz (K:W.Frag) (a b:Addr):It :=
 ⟨λi H=>∃xs ys x y,SqL K H a xs∧SqL K H b ys∧xs[i]? =some x∧ys[i]? =some y,λi H v H'=>∃p x y,v= .ref p∧H p=none∧H'=upd H p (.tup [x,y])∧∀xs ys,SqL K H a xs->SqL K H b ys->xs[i]? =some x∧ys[i]? =some y,λi H=>∃xs ys,SqL K H a xs∧SqL K H b ys∧(xs.length≤i∨ys.length≤i)⟩
theorem zpi {P:Program} {w:World} {K:W.Frag} {elts:List Expr} {x1:Nat} {tp:Pos} {a b z TI TO i1 i2:Addr} (D:ZipApart z TI TO i1 i2 a b) :
  Turn P w K (.Tuple elts x1 tp) (Itz K a b) [z,TI,TO,i1,i2] z (λi h=>IsZip h z TI TO .none∧IsPair h TI (.ref i1) (.ref i2)∧(∃p q,IsPair h TO p q)∧h.IsListIter i1 a i∧h.IsListIter i2 b i) where
 mem:=by simp
 obj:=λi h st c hc=>by
  obtain ⟨hz,hTI,⟨p,q,hTO⟩,⟨o1,e1,_,d1⟩,⟨o2,e2,_,d2⟩⟩:=st
  simp only [List.mem_cons,List.not_mem_nil,or_false] at hc
  rcases hc with rfl | rfl | rfl | rfl | rfl
  ·exact ⟨_,hz,λv z=>by cases z⟩
  ·exact ⟨_,hTI,λv z=>by cases z⟩
  ·exact ⟨_,hTO,λv z=>by cases z⟩
  ·exact ⟨o1,e1,λv z=>by rw [d1] at z;cases z⟩
  ·exact ⟨o2,e2,λv z=>by rw [d2] at z;cases z⟩
 keep:=λi h h' st k=>by
  obtain ⟨hz,hTI,⟨p,q,hTO⟩,h1,h2⟩:=st
  exact ⟨k z (by simp) _ hz,k TI (by simp) _ hTI,⟨p,q,k TO (by simp) _ hTO⟩,h1.at λo e=>k i1 (by simp) o e,h2.at λo e=>k i2 (by simp) o e⟩
 item:=by
  intro X hP hw hK hc i pins s σ H E I hf st hg
  subst hP hw hK
  obtain ⟨xs,ys,x,y,hxs,hys,hx,hy⟩:=hg
  obtain ⟨itx,rx,px,hzx⟩:=I.list hxs
  obtain ⟨ity,ry,py,hzy⟩:=I.list hys
  obtain ⟨u,hu,ru⟩:=rx.get hx
  obtain ⟨v,hv,rv⟩:=ry.get hy
  obtain ⟨hz,hTI,⟨p,q,hTO⟩,h1,h2⟩:=st
  refine wpAny_pyNext_zip_item (x:=u) (y:=v) D hz hTI hTO h1 h2 px.isList py.isList (by simpa using hu) (by simpa using hv) λh' a1 a2 a3 a4 a5 a6 hk=>?_
  refine ⟨_,rfl,wpAny_letOwnedTupleGo_zip a1 λh'' b1 b2=>?_⟩
  have zlt:z<s.heap.objs.size:=Heap.lt_size hz
  have lt:∀ c∈[z,TI,TO,i1,i2],c<s.heap.objs.size:=λc hc=>by
   simp only [List.mem_cons,List.not_mem_nil,or_false] at hc
   rcases hc with rfl | rfl | rfl | rfl | rfl
   ·exact zlt
   ·exact Heap.lt_size hTI
   ·exact Heap.lt_size hTO
   ·obtain ⟨_,e,_⟩:=h1;exact Heap.lt_size e
   ·obtain ⟨_,e,_⟩:=h2;exact Heap.lt_size e
  have tup:IsPair h'' s.heap.objs.size u v:=b2.extBut _ _ (Nat.ne_of_gt zlt) a5
  have I1:Inv X pins σ (upd H s.heap.objs.size (.tup [x,y])) { s with heap:=h'' }:=by
   refine I.turnedNew (t':=s.toks) (ch:=[z,TO,i1,i2]) (λc hc=>hf c ?_) (λc ob hc e=>?_) (Nat.le_refl _) ?_
   ·simp only [List.mem_cons,List.not_mem_nil,or_false] at hc ⊢
    rcases hc with z | z | z | z<;>simp [z]
   ·simp only [List.mem_cons,List.not_mem_nil,or_false,not_or] at hc
    exact b2.extBut _ _ hc.1 (hk c ob hc.1 hc.2.1 hc.2.2.1 hc.2.2.2 e)
   ·exact ⟨by show 2≤sizeLine;decide,[u,v],.cons ru (.cons rv .nil),⟨_,tup,rfl,_,rfl⟩⟩
  refine ⟨.ref s.heap.objs.size,_,I1,rfl,⟨_,x,y,rfl,I.hok.fresh (Nat.le_refl _),rfl,λxs' ys' q1 q2=>?_⟩,⟨b1,?_,⟨_,_,b2.extBut _ _ D.TOz a2⟩,a3.extBut b2.extBut D.i1z,a4.extBut b2.extBut D.i2z⟩,λc hc=>?_⟩
  ·rw [I.list_inj q1 hxs,I.list_inj q2 hys];exact ⟨hx,hy⟩
  ·exact b2.extBut _ _ D.TIz (hk _ _ D.TIz D.TITO D.TIi1 D.TIi2 hTI)
  ·rw [zai (Nat.ne_of_lt (lt c hc))];exact (hf c hc).1
 done:=by
  intro X hP hw hK hc i pins s σ H E I hf st hg
  subst hP hw hK
  obtain ⟨xs,ys,hxs,hys,hend⟩:=hg
  obtain ⟨itx,rx,px,hzx⟩:=I.list hxs
  obtain ⟨ity,ry,py,hzy⟩:=I.list hys
  obtain ⟨hz,hTI,⟨p,q,hTO⟩,h1,h2⟩:=st
  have lx:=rx.length
  have ly:=ry.length
  refine wpAny_pyNext_zip_end (I.ok.hd hc) D hz hTI hTO h1 h2 px.isList py.isList ?_ λh' hk=>⟨rfl,?_⟩
  ·rcases hend with e | e
   ·exact .inl (by simp;omega)
   ·exact .inr (by simp;omega)
  ·refine I.turnedL (t':=s.toks) (ch:=[z,TO,i1,i2]) (λc hc=>hf c ?_) (λc ob hc e=>?_)
   ·simp only [List.mem_cons,List.not_mem_nil,or_false] at hc ⊢
    rcases hc with z | z | z | z<;>simp [z]
   ·simp only [List.mem_cons,List.not_mem_nil,or_false,not_or] at hc
    exact hk c ob hc.1 hc.2.1 hc.2.2.1 hc.2.2.2 e
 self:=λ_ _ _ _ _ st h=>wpAny_pyIter_zip st.1 h
section
variable {X:Cx}
def zun (K:W.Frag) (ta:TA):TI:=λσ H R=>ta σ H λvs H1=>∃a b,vs=[.ref a,.ref b]∧(∃xs,SqL K H1 a xs)∧(∃ys,SqL K H1 b ys)∧R (Itz K a b) H1
theorem ztr {a b:Expr} {ta:TA} {p pos tp:Pos} {elts:List Expr} {x1:Nat} (hg:Gl X "zip") (hm:X.mg "zip"=none) (ha:PA X [a,b] ta) (hs:starEach [a,b] X.env=[(false,eval a X.env),(false,eval b X.env)]:=by rfl) (hs2:starEach [b] X.env=[(false,eval b X.env)]:=by rfl) :
  PI X (.Tuple elts x1 tp) (.Call (.Name "zip" p) [a,b] [] pos) (zun X.K ta):=by
   intro pins s σ H R I h
   refine Call_ (zgn I hg hm boot_zip (PyProof.Rows.callWith_type1 (thn (ha pos pins s σ H _ I h) λus s1 ⟨vs,H1,I1,r1,q1⟩=> ?_) (by rw [hs,hs2]) (by rw [hs2];rfl)))
   obtain ⟨l1,l2,e,⟨xs,hx⟩,⟨ys,hy⟩,q⟩:=q1
   subst e
   cases r1 with
    |cons r rr=>
     cases rr with
      |cons r' rr=>
       cases rr
       cases r
       cases r'
       obtain ⟨itx,rx,px,hzx⟩:=I1.list hx
       obtain ⟨ity,ry,py,hzy⟩:=I1.list hy
       have lt1: @LT.lt Nat _ l1 s1.heap.objs.size:=by obtain ⟨o,e,_⟩:=px.isList;exact Heap.lt_size e
       have lt2: @LT.lt Nat _ l2 s1.heap.objs.size:=by obtain ⟨o,e,_⟩:=py.isList;exact Heap.lt_size e
       refine call_zip_2 px.isList py.isList λh' hz hTI hTO h1 h2 hsz hk=> ?_
       refine wpAny_pyIter_zip hz ?_
       have D:ZipApart (s1.heap.objs.size+4) (s1.heap.objs.size+2) (s1.heap.objs.size+3) s1.heap.objs.size (s1.heap.objs.size+1) l1 l2:=by constructor<;>(show @Ne Nat _ _;omega)
       refine ⟨s1.heap.objs.size+4,[s1.heap.objs.size+4,s1.heap.objs.size+2,s1.heap.objs.size+3,s1.heap.objs.size,s1.heap.objs.size+1],_,Itz X.K l1 l2,H1,rfl,I1.kept (t':=s1.toks) hk,zpi D,⟨hz,hTI,⟨_,_,hTO⟩,h1,h2⟩,λc hc=> ?_,q⟩
       have hle: @LE.le Nat _ s1.heap.objs.size c:=by
        simp only [List.mem_cons,List.not_mem_nil,or_false] at hc
        rcases hc with rfl|rfl|rfl|rfl|rfl<;>omega
       exact I1.fpOk hle (I1.hok.fresh hle)
end
theorem preSum_list:∀(ns:Ji) (k:Nat),k≤ns.length->preSum (λi=>(ns[i]?).getD 0) k=(ns.take k).sum
 | _,0,_=>by simp [preSum]
 | ns,k+1,h=>by
  have ih:=preSum_list ns k (by omega)
  have hk:k<ns.length:=by omega
  have e1:preSum (λi=>(ns[i]?).getD 0) (k+1)=preSum (λi=>(ns[i]?).getD 0) k+(ns[k]?).getD 0:=rfl
  have e2:ns.take (k+1)=ns.take k++[ns[k]]:=by rw [List.take_add_one,List.getElem?_eq_getElem hk];rfl
  rw [e1,ih,e2,List.sum_append,List.getElem?_eq_getElem hk]
  simp
section
variable {X:Cx}
theorem zrP (hc:X.calm=true):zeG X (.builtin "sum") (λxs H Q=>∃(a:Addr) (ns:Ji),xs=[.ref a]∧SqL X.K H a (ns.map V.int)∧Q (.int ns.sum) H):=by
 intro pins s σ H xs us Q I r h
 obtain ⟨a,ns,rfl,hq,q⟩:=h
 obtain ⟨u,rfl,rx⟩:=zgw r
 cases rx
 obtain ⟨its,rv,p,hz⟩:=I.list hq
 have hl:=rv.length
 rw [List.length_map] at hl
 have alt:a<s.heap.objs.size:=by obtain ⟨o,e,_⟩:=p.isList;exact Heap.lt_size e
 have hl1:(s.heap.push {cls:= .type "list_iterator",data:= .fields #[.ref a,.int 0 0]}).IsList a its.toArray:=Heap.IsList.push p.isList _
 refine call_sum_walkG (wpAny_pyIter_list p.isList ?_)
 refine ⟨s.heap.objs.size,[s.heap.objs.size,a],[s.heap.objs.size],its.toArray.size,_,_,λi=>(ns[i]?).getD 0,rfl,Walks.list (A:=X.A.in1) (I.ok.hd hc) s.heap.objs.size a (Nat.ne_of_lt alt) its.toArray,⟨⟨_,Heap.get?_push_size _ rfl,rfl,rfl⟩,hl1⟩,λb hb=> ?_,λi v hv=> ?_,λh' tk t' hk=> ?_⟩
 ·
  show b<(s.heap.push _).objs.size
  rw [Heap.size_push]
  simp only [List.mem_cons,List.not_mem_nil,or_false] at hb
  rcases hb with rfl|rfl
  ·exact Nat.lt_succ_self _
  ·exact Nat.lt_succ_of_lt alt
 ·
  have hv':its[i]? =some v:=by simpa using hv
  have hi:i<its.length:=(List.getElem?_eq_some_iff.mp hv').1
  obtain ⟨u,hu,ru⟩:=rv.get (i:=i) (x:= .int (ns[i]'(by omega))) (by rw [List.getElem?_map,List.getElem?_eq_getElem (by omega)];rfl)
  rw [hv'] at hu
  cases hu
  obtain ⟨t,rfl⟩:=ru
  have e:(ns[i]?).getD 0=ns[i]'(by omega):=by rw [List.getElem?_eq_getElem (show i<ns.length by omega)];rfl
  exact ⟨t,congrArg (λz=>Value.int z t) e.symm⟩
 ·
  have e:preSum (λi=>(ns[i]?).getD 0) its.toArray.size=ns.sum:=by rw [List.size_toArray,←hl,preSum_list ns _ (Nat.le_refl _),List.take_length]
  rw [e]
  exact ⟨.int ns.sum,H,I.kept (h':=h') (t':=tk) λb o e=>hk b o (by simp only [List.mem_singleton];exact Nat.ne_of_lt (Heap.lt_size e)) (Heap.get?_push_of_some _ e),⟨t',rfl⟩,q⟩
theorem zn8 (hc:X.calm=true):zeG X (.builtin "all") (λxs H Q=>∃(a:Addr) (bs:List Bool),xs=[.ref a]∧SqL X.K H a (bs.map V.bl)∧Q (.bl (bs.all id)) H):=by
 intro pins s σ H xs us Q I r h
 obtain ⟨a,bs,rfl,hq,q⟩:=h
 obtain ⟨u,rfl,rx⟩:=zgw r
 cases rx
 obtain ⟨its,rv,p,hz⟩:=I.list hq
 have hl:=rv.length
 rw [List.length_map] at hl
 have alt:a<s.heap.objs.size:=by obtain ⟨o,e,_⟩:=p.isList;exact Heap.lt_size e
 have hl1:(s.heap.push {cls:= .type "list_iterator",data:= .fields #[.ref a,.int 0 0]}).IsList a its.toArray:=Heap.IsList.push p.isList _
 refine call_all_walk (wpAny_pyIter_list p.isList ?_)
 refine ⟨s.heap.objs.size,[s.heap.objs.size,a],[s.heap.objs.size],its.toArray.size,_,_,λi=>(bs[i]?).getD true,rfl,Walks.list (A:=X.A.in1) (I.ok.hd hc) s.heap.objs.size a (Nat.ne_of_lt alt) its.toArray,⟨⟨_,Heap.get?_push_size _ rfl,rfl,rfl⟩,hl1⟩,λi v s' Q' E' hv hQ'=> ?_,λh' tk hk=> ?_⟩
 ·
  have hv':its[i]? =some v:=by simpa using hv
  have hi:i<its.length:=(List.getElem?_eq_some_iff.mp hv').1
  obtain ⟨u,hu,ru⟩:=rv.get (i:=i) (x:= .bl (bs[i]'(by omega))) (by rw [List.getElem?_map,List.getElem?_eq_getElem (by omega)];rfl)
  rw [hv'] at hu
  cases hu
  cases ru
  have e:(bs[i]?).getD true=bs[i]'(by omega):=by rw [List.getElem?_eq_getElem (show i<bs.length by omega)];rfl
  have hQ2:Q' ((bs[i]?).getD true) s':=hQ'
  rw [e] at hQ2
  exact wpAny_truthy_bool hQ2
 ·
  have e:(List.range its.toArray.size).all (λi=>(bs[i]?).getD true)=bs.all id:=by
   rw [List.size_toArray,←hl,Bool.eq_iff_iff,List.all_eq_true,List.all_eq_true]
   constructor
   ·
    intro z x hx
    obtain ⟨i,hi,rfl⟩:=List.getElem_of_mem hx
    have:=z i (List.mem_range.mpr hi)
    rw [List.getElem?_eq_getElem hi] at this
    exact this
   ·
    intro z i hi
    have hi':=List.mem_range.mp hi
    rw [List.getElem?_eq_getElem hi']
    exact z _ (List.getElem_mem hi')
  rw [e]
  exact ⟨.bl (bs.all id),H,I.kept (h':=h') (t':=tk) λb o e=>hk b o (by simp only [List.mem_singleton];exact Nat.ne_of_lt (Heap.lt_size e)) (Heap.get?_push_of_some _ e),rfl,q⟩
end
inductive EqV (K:W.Frag) (H:Hp):Nat->V->V->Bool->Prop where
 | flat {n:Nat} {x y:V} (fx:zhG x=true) (fy:zhG y=true):EqV K H n x y (eqV x y)
 | same {n:Nat} {a:Addr}:EqV K H n (.ref a) (.ref a) true
 | lists {n:Nat} {a b:Addr} {xs ys:List V} {e:Nat->Bool} (ne:a≠b) (ha:SqL K H a xs) (hb:SqL K H b ys) (hl:xs.length=ys.length)
   (he:∀ (j:Nat) (x y:V),xs[j]?=some x->ys[j]?=some y->EqV K H n x y (e j)):EqV K H (n+1) (.ref a) (.ref b) ((List.range xs.length).all e)
 | lens {n:Nat} {a b:Addr} {xs ys:List V} (ne:a≠b) (ha:SqL K H a xs) (hb:SqL K H b ys) (hl:xs.length≠ys.length):EqV K H (n+1) (.ref a) (.ref b) false
theorem EqV.at {X:Cx} {pins:List (Addr×Obj)} {σ:St} {H:Hp} {s:Shared} (I:Inv X pins σ H s) {n:Nat} {x y:V} {k:Bool} (h:EqV X.K H n x y k) :
  ∀ {A:Around} {u v:Value},zde x u->zde y v->A.units+n<cLine->SeqAt.EqAt A s u v k:=by
   induction h with
    |flat fx fy=>intro A u v rx ry _;exact zpZ rx ry fx fy
    |same=>intro A u v rx ry _;cases rx;cases ry;exact SeqAt.EqAt.same _
    | @ lists n a b xs ys e ne ha hb hl he ih=>
     intro A u v rx ry hu
     cases rx
     cases ry
     obtain ⟨ita,ra,pa,za⟩:=I.list ha
     obtain ⟨itb,rb,pb,zb⟩:=I.list hb
     have la:=ra.length
     have lb:=rb.length
     have q:=SeqAt.RcAt.lists (A:=A) (e:=e) pa.isList pb.isList (by simp;omega) (by omega) λj h1 h2=> ?_
     ·
      rw [List.size_toArray,←la] at q
      exact SeqAt.EqAt.of_refs ne q
     ·
      have h1':j<ita.length:=by simpa using h1
      have h2':j<itb.length:=by simpa using h2
      obtain ⟨u',hu',ru⟩:=ra.get (i:=j) (x:=xs[j]'(by omega)) (List.getElem?_eq_getElem (by omega))
      obtain ⟨v',hv',rv⟩:=rb.get (i:=j) (x:=ys[j]'(by omega)) (List.getElem?_eq_getElem (by omega))
      have eu:ita.toArray[j]=u':=by
       rw [List.getElem?_eq_getElem h1'] at hu'
       simpa using hu'
      have ev:itb.toArray[j]=v':=by
       rw [List.getElem?_eq_getElem h2'] at hv'
       simpa using hv'
      rw [eu,ev]
      exact ih j _ _ (List.getElem?_eq_getElem (by omega)) (List.getElem?_eq_getElem (by omega)) ru rv (by show A.units+1+n<cLine;omega)
    | @ lens n a b xs ys ne ha hb hl=>
     intro A u v rx ry hu
     cases rx
     cases ry
     obtain ⟨ita,ra,pa,za⟩:=I.list ha
     obtain ⟨itb,rb,pb,zb⟩:=I.list hb
     have la:=ra.length
     have lb:=rb.length
     exact SeqAt.EqAt.of_refs ne (SeqAt.RcAt.lists_lengths pa.isList pb.isList (by simp;omega) (by omega))
def zrq (K:W.Frag) (neg:Bool):R2:=λx y H Q=>∃a b n xs ys,x= .ref a∧y= .ref b∧SqL K H a xs∧SqL K H b ys∧n≤50∧((xs.length≠ys.length∧Q (.bl neg) H)∨∃e:Nat->Bool,xs.length=ys.length∧(∀(j:Nat) (x y:V),xs[j]? =some x->ys[j]? =some y->EqV K H n x y (e j))∧Q (.bl (if neg then !(List.range xs.length).all e else (List.range xs.length).all e)) H)
section
variable {X:Cx}
theorem zm1 {pins:List (Addr×Obj)} {σ:St} {H:Hp} {s:Shared} (I:Inv X pins σ H s) {n:Nat} {xs ys:List V} {ita itb:List Value} {e:Nat->Bool} (ra:zbH xs ita) (rb:zbH ys itb) (he:∀(j:Nat) (x y:V),xs[j]? =some x->ys[j]? =some y->EqV X.K H n x y (e j))
  {A:Around} (hu:A.units+1+n<cLine):∀j (h1:j<ita.toArray.size) (h2:j<itb.toArray.size),SeqAt.EqAt A.in1 s ita.toArray[j] itb.toArray[j] (e j):=λj h1 h2=>by
   have la:=ra.length
   have lb:=rb.length
   have h1':j<ita.length:=by simpa using h1
   have h2':j<itb.length:=by simpa using h2
   obtain ⟨u',hu',ru⟩:=ra.get (i:=j) (x:=xs[j]'(by omega)) (List.getElem?_eq_getElem (by omega))
   obtain ⟨v',hv',rv⟩:=rb.get (i:=j) (x:=ys[j]'(by omega)) (List.getElem?_eq_getElem (by omega))
   have eu:ita.toArray[j]=u':=by
    rw [List.getElem?_eq_getElem h1'] at hu'
    simpa using hu'
   have ev:itb.toArray[j]=v':=by
    rw [List.getElem?_eq_getElem h2'] at hv'
    simpa using hv'
   rw [eu,ev]
   exact (he j _ _ (List.getElem?_eq_getElem (by omega)) (List.getElem?_eq_getElem (by omega))).at I ru rv hu
theorem ztb (hu:X.A.units+64<cLine):OpR X (compareOp .Eq) (zrq X.K false):=by
 intro pins s σ H x y v u Q I rx ry h
 obtain ⟨a,b,n,xs,ys,rfl,rfl,ha,hb,hn,h⟩:=h
 cases rx
 cases ry
 obtain ⟨ita,ra,pa,za⟩:=I.list ha
 obtain ⟨itb,rb,pb,zb⟩:=I.list hb
 have la:=ra.length
 have lb:=rb.length
 rcases h with ⟨hl,q⟩|⟨e,hl,he,q⟩
 ·exact SeqAt.eq_list_lengthsAt pa.isList pb.isList (by simp;omega) (by omega) ⟨.bl false,H,I,rfl,q⟩
 ·
  refine SeqAt.eq_listAt (e:=e) pa.isList pb.isList (by simp;omega) (by omega) (zm1 I ra rb he (by omega)) ?_
  rw [List.size_toArray,←la]
  exact ⟨.bl _,H,I,rfl,q⟩
end
theorem all_eq {α:Type} [DecidableEq α] {xs ys:List α} (h:xs.length=ys.length):(List.range xs.length).all (λj=>decide (xs[j]? =ys[j]?))=decide (xs=ys):=by
 rw [Bool.eq_iff_iff,List.all_eq_true,decide_eq_true_iff]
 constructor
 ·
  intro z
  refine List.ext_getElem? λi=> ?_
  by_cases hi:i<xs.length
  ·exact of_decide_eq_true (z i (List.mem_range.mpr hi))
  ·rw [List.getElem?_eq_none (by omega),List.getElem?_eq_none (by omega)]
 ·
  rintro rfl i _
  exact decide_eq_true rfl
theorem zrq.ints {K:W.Frag} {neg:Bool} {H:Hp} {Q:VK} {a b:Addr} {ns ms:Ji} (ha:SqL K H a (ns.map V.int)) (hb:SqL K H b (ms.map V.int)) (q:Q (.bl (if neg then !decide (ns=ms) else decide (ns=ms))) H) :
  zrq K neg (.ref a) (.ref b) H Q:=by
   refine ⟨a,b,0,_,_,rfl,rfl,ha,hb,by omega,?_⟩
   by_cases hl:ns.length=ms.length
   ·
    refine .inr ⟨λj=>decide (ns[j]? =ms[j]?),by simp [hl],λj x y hx hy=> ?_,?_⟩
    ·
     rw [List.getElem?_map] at hx hy
     cases e1:ns[j]? with
      |none=>rw [e1] at hx;cases hx
      |some i=>
       cases e2:ms[j]? with
        |none=>rw [e2] at hy;cases hy
        |some k=>
         rw [e1] at hx
         rw [e2] at hy
         cases hx
         cases hy
         have q:=EqV.flat (K:=K) (H:=H) (n:=0) (x:= .int i) (y:= .int k) rfl rfl
         have e:eqV (.int i) (.int k)=decide (some i=some k):=by
          show (i==k)=_
          rw [Bool.beq_eq_decide_eq]
          simp
         rw [e] at q
         show EqV K H 0 (V.int i) (V.int k) (decide (ns[j]? =ms[j]?))
         rw [e1,e2]
         exact q
    ·
     rw [List.length_map,all_eq hl]
     exact q
   ·
    refine .inl ⟨by simpa using hl,?_⟩
    have e:decide (ns=ms)=false:=decide_eq_false (λz=>hl (by rw [z]))
    rw [e] at q
    cases neg<;>exact q
def Rows (K:W.Frag) (H:Hp) (a:Addr) (xss:Jq):Prop :=
 ∃as:List Addr,SqL K H a (as.map V.ref)∧as.length=xss.length∧∀(j:Nat) (p:Addr) (ns:Ji),as[j]? =some p->xss[j]? =some ns->H p=some (.lst (ns.map V.int))
theorem zj9 {ns ms:Ji} (h:ns.map V.int=ms.map V.int):ns=ms:=by
 induction ns generalizing ms with
  |nil=>
   cases ms with
    |nil=>rfl
    |cons _ _=>cases h
  |cons x r ih=>
   cases ms with
    |nil=>cases h
    |cons y s=>
     injection h with h1 h2
     injection h1 with h1
     rw [h1,ih h2]
theorem EqV.ints {K:W.Frag} {H:Hp} {n:Nat} {a b:Addr} {ns ms:Ji} (ha:H a=some (.lst (ns.map V.int))) (hb:H b=some (.lst (ms.map V.int))):EqV K H (n+1) (.ref a) (.ref b) (decide (ns=ms)):=by
 by_cases hab:a=b
 ·
  subst hab
  rw [ha] at hb
  have e:ns=ms:=zj9 (by injection hb with hb;injection hb)
  rw [decide_eq_true e]
  exact .same
 ·
  by_cases hl:ns.length=ms.length
  ·
   have q:=EqV.lists (K:=K) (H:=H) (n:=n) (e:=λj=>decide (ns[j]? =ms[j]?)) hab (SqL.of ha) (SqL.of hb) (by simp [hl]) λj x y hx hy=> ?_
   ·
    rw [List.length_map,all_eq hl] at q
    exact q
   ·
    rw [List.getElem?_map] at hx hy
    cases e1:ns[j]? with
     |none=>rw [e1] at hx;cases hx
     |some i=>
      cases e2:ms[j]? with
       |none=>rw [e2] at hy;cases hy
       |some k=>
        rw [e1] at hx
        rw [e2] at hy
        cases hx
        cases hy
        have q:=EqV.flat (K:=K) (H:=H) (n:=n) (x:= .int i) (y:= .int k) rfl rfl
        have e:eqV (.int i) (.int k)=decide (some i=some k):=by
         show (i==k)=_
         rw [Bool.beq_eq_decide_eq]
         simp
        rw [e] at q
        exact q
  ·
   rw [decide_eq_false (λz=>hl (by rw [z]))]
   exact .lens hab (SqL.of ha) (SqL.of hb) (by simpa using hl)
theorem zrq.rows {K:W.Frag} {neg:Bool} {H:Hp} {Q:VK} {a b:Addr} {xss yss:Jq} (ha:Rows K H a xss) (hb:Rows K H b yss) (q:Q (.bl (if neg then !decide (xss=yss) else decide (xss=yss))) H) :
  zrq K neg (.ref a) (.ref b) H Q:=by
   obtain ⟨as,hsa,hla,hra⟩:=ha
   obtain ⟨bs,hsb,hlb,hrb⟩:=hb
   refine ⟨a,b,1,_,_,rfl,rfl,hsa,hsb,by omega,?_⟩
   by_cases hl:xss.length=yss.length
   ·
    refine .inr ⟨λj=>decide (xss[j]? =yss[j]?),by simp;omega,λj x y hx hy=> ?_,?_⟩
    ·
     rw [List.getElem?_map] at hx hy
     cases e1:as[j]? with
      |none=>rw [e1] at hx;cases hx
      |some p=>
       cases e2:bs[j]? with
        |none=>rw [e2] at hy;cases hy
        |some p2=>
         rw [e1] at hx
         rw [e2] at hy
         cases hx
         cases hy
         have h1:j<xss.length:=by have:=(List.getElem?_eq_some_iff.mp e1).1;omega
         have h2:j<yss.length:=by omega
         have q:=EqV.ints (K:=K) (n:=0) (hra j p _ e1 (List.getElem?_eq_getElem h1)) (hrb j p2 _ e2 (List.getElem?_eq_getElem h2))
         show EqV K H 1 (V.ref p) (V.ref p2) (decide (xss[j]? =yss[j]?))
         rw [List.getElem?_eq_getElem h1,List.getElem?_eq_getElem h2]
         have e:decide (xss[j]=yss[j])=decide (some xss[j]=some yss[j]):=by simp
         rw [e] at q
         exact q
    ·
     rw [List.length_map,hla,all_eq hl]
     exact q
   ·
    refine .inl ⟨by simp;omega,?_⟩
    have e:decide (xss=yss)=false:=decide_eq_false (λz=>hl (by rw [z]))
    rw [e] at q
    cases neg<;>exact q
section
variable {X:Cx}
theorem znc {n k m:Nat} (h:n<2^k) (hk:k≤m) (hm:0<m):n.log2<m:=by
 by_cases hn:n=0
 ·
  subst hn
  exact Nat.lt_of_le_of_lt (by decide:Nat.log2 0≤0) hm
 ·exact Nat.lt_of_lt_of_le ((Nat.log2_lt hn).mpr h) hk
theorem zmQ {i:Int} {k:Nat} (h:i.natAbs.log2<k):Builtin.Int.intBits i≤k:=by
 unfold Builtin.Int.intBits
 split
 ·exact Nat.zero_le _
 ·omega
def zhD (i j:Int):Prop:=0<j∧j.natAbs.log2<9000
theorem zcB:OpR X (binaryOp .FloorDiv) (rI zhD λi j=> .int (i/j)):=opI λi j _ _ _ _ _ hc q=>by
 have hj:j≠0:=by have:=hc.1;omega
 have e:i.fdiv j=i/j:=Int.fdiv_eq_ediv_of_nonneg _ (by have:=hc.1;omega)
 exact floordiv_int hj (by rw [e];exact q) (.inl (PyProof.noPylong_of_log2 hc.2))
end
end L2
namespace L2
open PySem PySem.Spec PyProof.Rows
def zpU (scope osc:Scope) (N own fvn:List Str) (fv:List Nat):Bool :=
 (scope.names.all λy=>y.2 != .cell||scope.names.lookup y.1==some .cell) && (scope.names.all λy=>y.2 != .free||scope.names.lookup y.1==some .free) && (scope.kind== .function) && (scope.names.all λy=>y.2 != .local||scope.names.lookup y.1==some .local) && (scope.names.all λy=>y.2 != .free||osc.names.lookup y.1==some .cell||osc.names.lookup y.1==some .free) && (fvn.map some==fv.map λi=>N[i]?) && (fvn.all λx=>scope.names.lookup x==some .free)
theorem BlkScope.of {X:Cx} {scope osc:Scope} {N own fvn:List Str} {fv:List Nat} (hX:X.env.scope=osc) (hN:X.N=N) (h:zpU scope osc N own fvn fv=true):BlkScope X scope own fvn fv:=by
 subst hX hN
 unfold zpU at h
 simp only [Bool.and_eq_true,List.all_eq_true,bne_iff_ne,beq_iff_eq,Bool.or_eq_true] at h
 obtain ⟨⟨⟨⟨⟨⟨h1,h1'⟩,h2⟩,h3⟩,h4⟩,h5⟩,h6⟩:=h
 refine ⟨λy hy e=> ?_,λy hy e=> ?_,h2,λy hy e=> ?_,λy hy e=> ?_,h5,h6⟩
 ·
  rcases h1 y hy with z|z
  ·exact absurd e z
  ·exact z
 ·
  rcases h1' y hy with z|z
  ·exact absurd e z
  ·exact z
 ·
  rcases h3 y hy with z|z
  ·exact absurd e z
  ·exact z
 ·
  rcases h4 y hy with (z|z)|z
  ·exact absurd e z
  ·exact .inl z
  ·exact .inr z
theorem Same.new {H:Hp} {p:Addr} (h:H p=none) (o:HO):Same H (upd H p o):=λb u q=>by rw [zai (za7 q h)];exact q
theorem Same.tup {K:W.Frag} {H H':Hp} {a:Addr} {xs:List V} (e:Same H H') (h:SqT K H a xs):SqT K H' a xs:=by
 rcases h with (h|⟨o,h⟩)|h
 ·exact .inl (.inl (e _ _ h))
 ·exact .inl (.inr ⟨o,e _ _ h⟩)
 ·exact .inr h
theorem Same.rows {K:W.Frag} {H H':Hp} {a:Addr} {xss:Jq} (e:Same H H') (h:Rows K H a xss):Rows K H' a xss:=by
 obtain ⟨as,h1,h2,h3⟩:=h
 exact ⟨as,e.seq h1,h2,λj p ns q1 q2=>e _ _ (h3 j p ns q1 q2)⟩
structure Callee (P:Program) (w:World) (K:W.Frag) (mg:Str->Option Value) (base:Heap) (CX:CXT) (k:Nat) (x:Str) (ps:List Str) (sp:Sp):Prop where
 ex:∃ f fd,FnOk P w K mg base CX k f fd ps sp∧mg x=some (.ref f)∧W.keepIn K (.ref f)=true∧zfP K fd ps []
section
variable {X:Cx} {CX:CXT} {k:Nat} {ps:List Str} {sp:Sp} {E:XK} {x:Str} {p pos:Pos} {e:Expr} {es:List Expr} {t:TA}
theorem zaN (F:Callee X.prog X.w X.K X.mg X.base CX k x ps sp) (hr:Room k X.A) (hg:Gl X x) (hx:zfT CX X E)
  (ha:PA X (e::es) t) (hdb:(x==("__debug__" :Str))=false:=by decide) (he:starEach (e::es) X.env=(false,eval e X.env)::starEach es X.env:=by rfl) (hpl:(backTo pos (starEach es X.env)).any (·.1)=false:=by rfl) :
  PE X (.Call (.Name x p) (e::es) [] pos) (tCall sp [] E t):=by
   obtain ⟨f,fd,G,hm,hk,hb⟩:=F.ex
   exact zrt G hr hg hm hk hb .nil hx ha hdb he hpl
end
section
variable {X:Cx} {K:W.Frag}
theorem zaO (hK:X.K=K):zeG X (.builtin "len") (λxs H Q=>∃p ys,xs=[.ref p]∧(SqL K H p ys∨SqT K H p ys)∧Q (.int ys.length) H):=by subst hK;exact zjh
theorem zdy (hK:X.K=K):zeG X (.type "list") (λxs H Q=>∃p ys,xs=[.ref p]∧(SqL K H p ys∨SqT K H p ys)∧∀l,H l=none->Q (.ref l) (upd H l (.lst ys))):=by subst hK;exact zjf
theorem zic (hK:X.K=K) (hc:X.calm=true):zeG X (.builtin "all") (λxs H Q=>∃(a:Addr) (bs:List Bool),xs=[.ref a]∧SqL K H a (bs.map V.bl)∧Q (.bl (bs.all id)) H):=by subst hK;exact zn8 hc
theorem zaJ (hK:X.K=K):IxR X (zrf K):=by subst hK;exact zqZ
theorem zcA (hK:X.K=K):IxR X (ztZ K):=by subst hK;exact zrO
theorem zcv (hK:X.K=K):SlR X (ztI K):=by subst hK;exact zq3
theorem zj4 (hK:X.K=K) (hu:X.A.units+64<cLine):OpR X (compareOp .Eq) (zrq K false):=by subst hK;exact ztb hu
theorem zbF {e:Expr} {f:Str} {pos:Pos} {ta:TE} (hK:X.K=K) (he:PE X e ta) (hb:attributeBase e f X.env (eval e X.env)=eval e X.env):PE X (.Attribute e f pos) (tFld K ta f):=by subst hK;exact zsP he hb
theorem zbz {tg l:Expr} {tl:TE} (hK:X.K=K) (hl:PE X l tl):PI X tg l (zo2 K tl):=by subst hK;exact zqr hl
theorem zgC {a b:Expr} {ta:TA} {p pos tp:Pos} {elts:List Expr} {x1:Nat} (hK:X.K=K) (hg:Gl X "zip") (hm:X.mg "zip"=none) (ha:PA X [a,b] ta) (hs:starEach [a,b] X.env=[(false,eval a X.env),(false,eval b X.env)]:=by rfl) (hs2:starEach [b] X.env=[(false,eval b X.env)]:=by rfl) :
  PI X (.Tuple elts x1 tp) (.Call (.Name "zip" p) [a,b] [] pos) (zun K ta):=by subst hK;exact ztr hg hm ha hs hs2
theorem zc7 {es:List Expr} {k:Nat} {t:TGs} {n:Nat} {pos:Pos} (hK:X.K=K) (hc:X.calm=true) (h:PGs X es t)
  (hn:(assignEach es X.env).length=n:=by rfl) (hst:(assignEach es X.env).findIdx? (·.1)=none:=by rfl):PG X (.Tuple es k pos) (zrM K n t):=by subst hK;exact zsB hc h hn hst
theorem zby {o e:Expr} {to:TE} {t:TA} {apos cpos:Pos} (hK:X.K=K) (ho:PE X o to) (ha:PA X [e] t)
  (hbase:attributeBase o "append" X.env (eval o X.env)=eval o X.env:=by rfl)
  (hfew:((backTo cpos (starEach [e] X.env)).all (λx=> !x.1) && (backToKw cpos (keywordEach [] X.env)).all (λx=>x.1.isSome) && decide (([e]:List Expr).length+([]:List Keyword).length+(if ([]:List Keyword).isEmpty then 0 else 1)<30))=true:=by rfl)
  (hline:(apos.endLine==cpos.line)=true:=by rfl) (hs:starEach [e] X.env=(false,eval e X.env)::starEach [] X.env:=by rfl) (hplain:(backTo cpos (starEach [] X.env)).any (·.1)=false:=by rfl) :
  PE X (.Call (.Attribute o "append" apos) [e] [] cpos) (tBM K "list" zf9 to t):=by
   subst hK
   exact zmM PySem.F.plainAttrs_list PySem.F.slot_list_append PySem.F.type_list_append zjr ho ha hbase hfew hline hs hplain
end
end L2
namespace L2
open PySem PySem.Spec PyProof.Rows
theorem zau {n:Nat} (h:n≤10000):n≤sizeLine:=Nat.le_trans h (by decide)
end L2
namespace L2
open PySem PySem.Spec PyProof.Rows
section
variable {M:Model} {A:Around} {E:Value->Shared->Prop} {s:Shared}
end
def ExcAt (h:Heap) (H:Hp) (Fz:Addr->Prop) (L e:Addr) (cls:Value) (dct:Option Addr):Prop :=
 ∃oe vs a0,h.get? e=some oe∧oe.cls=cls∧oe.dict=dct∧oe.data= .fields vs∧vs[0]? =some a0∧1<vs.size∧H e=none∧Fz e∧(vs[1]? =some .none∨∃T oT ts,vs[1]? =some (.ref T)∧T≠e∧h.get? T=some oT∧oT.data= .fields ts∧(ts[3]? =some .none∨ts[3]? =some (rawInt L))∧H T=none∧Fz T)
def zuo (h:Heap) (H:Hp) (Fz:Addr->Prop) (fl:Value) (e:Addr) (cls:Value) (dct:Option Addr):Prop :=
 ∃oe vs a0,h.get? e=some oe∧oe.cls=cls∧oe.dict=dct∧oe.data= .fields vs∧vs[0]? =some a0∧1<vs.size∧H e=none∧Fz e∧∃T oT ts,vs[1]? =some (.ref T)∧T≠e∧h.get? T=some oT∧oT.data= .fields ts∧ts[3]? =some fl∧H T=none∧Fz T
structure Own (X:Cx):Prop where
 stk:X.stack=X.env :: X.outer
 fr:X.env.frame=some X.env.locals
 ex:X.ex=[]
theorem zeE.there {P:Program} {w:World} {H:Hp} {h:Heap} {a:Addr} {o:HO} (x:zeE P w H h a o):∃ob,h.get? a=some ob:=by
 cases o with
  |lst xs=>obtain ⟨_,_,_,_,e⟩:=x;exact ⟨_,e⟩
  |tup xs=>obtain ⟨_,_,_,o,e,_⟩:=x;exact ⟨_,e⟩
  |dK kvs=>obtain ⟨_,_,_,_,o,_,_,e,_⟩:=x;exact ⟨_,e⟩
  |dT kvs=>obtain ⟨_,_,_,_,o,_,_,e,_⟩:=x;exact ⟨_,e⟩
  |set S n=>obtain ⟨o,_,_,_,e,_⟩:=x;exact ⟨_,e⟩
  |ins C dx fs=>obtain ⟨_,_,_,e,_⟩:=x;exact ⟨_,e⟩
  |own y=>obtain ⟨_,e⟩:=x;exact ⟨_,e⟩
  |xd fs=>obtain ⟨_,⟨_,_,_,e,_⟩,_⟩:=x;exact ⟨_,e⟩
  |rng lo hi=>obtain ⟨_,_,_,e⟩:=x;exact ⟨_,e⟩
  |frz ob u=>obtain ⟨e,_⟩:=x;exact ⟨_,e⟩
  |tbl ps=>exact ⟨_,(show h.get? a=some _ from x)⟩
  |met f y=>exact ⟨_,(show h.get? a=some _ from x)⟩
  |ext φ=>obtain ⟨_,e,_⟩:=x;exact e
section
variable {X:Cx} {pins:List (Addr×Obj)} {σ:St} {H:Hp} {s:Shared} {h':Heap}
def Fz (X:Cx) (pins:List (Addr×Obj)) (b:Addr):Prop:=X.s₀.heap.get? b=none∧∀p∈X.pn++pins,p.1≠b
end
theorem exc_obj {K:W.Frag} {h:Heap} {C:Addr} {bmB:List Value} {newId:String} (X:K.In h) (q:W.excIn K C bmB newId=true) :
  ∃bm N nm qn bs hdct sn sub ab col dd k0 k1 k2 k3 k5 mN,h.get? C=some (excClassObj nm qn C N bs bm hdct sn sub ab col dd k0 k1 k2 k3 k5 newId)∧h.Ns N mN∧mN "__init__" =none∧OwnTail h bmB bm:=by
   unfold W.excIn at q
   split at q
   ·
    rename_i dd cd sl ho
    split at q
    ·
     rename_i C' bm k0 k1 k2 k3 n k5 hm hs
     simp only [Bool.and_eq_true,beq_iff_eq,Bool.not_eq_true'] at q
     obtain ⟨⟨⟨⟨⟨rfl,rfl⟩,hdel⟩,ht⟩,hok⟩,hni⟩:=q
     obtain ⟨nm,bs,mro,ns,qn,hd,sn,sub,ab,col,del⟩:=cd
     dsimp only at hm hdel hok hni
     subst hm hdel
     have hsl:sl= #[k0,k1,k2,k3,some (.builtin n),k5]:=by
      obtain ⟨l⟩:=sl
      simp only at hs
      rw [hs]
     subst hsl
     exact ⟨bm,ns,nm,qn,bs,hd,sn,sub,ab,col,dd,k0,k1,k2,k3,k5,_,X _ _ ho,.of_isNs (W.isNs_of_in X hok),W.nsMap_none_of_in X hok hni,W.tail_of_in X ht⟩
    ·cases q
   ·cases q
end L2
namespace L2
open PySem PySem.Spec PyProof.Rows
def XP (X:Cx) (pins:List (Addr×Obj)) (σ:St) (E:XK) (ev:Value) (s':Shared):Prop :=
 ∃e cls dct H',ev= .ref e∧Inv X pins σ H' s'∧ExcAt s'.heap H' (Fz X pins) X.env.locals e cls dct∧E cls dct H'
abbrev XS:=St->XK
def CXE (P:Program) (w:World):CXT:=λouter H s E ev s'=>∃e cls dct H',ev= .ref e∧s'.os=s.os∧AllBare s'.gens∧Un (frs outer) [] H H' s.heap s'.heap∧HOk P w H' s'.heap∧zuo s'.heap H' (λb=>s.heap.get? b=none) .none e cls dct∧E cls dct H'
theorem zaF {P:Program} {w:World} {X:Cx}:zfT (CXE P w) X E0:=λ_ _ _ _ _ _ _ h=>by
 obtain ⟨_,_,_,_,_,_,_,_,_,_,f⟩:=h
 exact False.elim f
abbrev TEX:=St->Hp->VK->XK->Prop
section
variable {X:Cx} {e:Expr} {st:Stmt} {rest:List Stmt} {pos:Pos}
end
section
variable {X:Cx} {k:Nat} {ps:List Str} {sp:Sp} {x:Str} {p pos:Pos} {e:Expr} {es:List Expr} {t:TA}
end
section
variable {P:Program} {w:World} {K:W.Frag} {mg:Str->Option Value} {base:Heap}
theorem Fun.okN {x qual:Str} {st:Stmt} {f:Addr} {fd:FuncData} {N ps:List Str} {k:Nat} {sp:Sp} (F:Fun K x qual st f fd) (S:FnScope N ps (zag st)) (len:∀vs H Q E,sp vs H Q E->vs.length=ps.length)
  (hbody:∀(cdv:Value) (A:Around) (outer:List Env) (s:Shared) (H:Hp) (vs:List V) (Q:VK) (E:XK),Room k (A.deeper (envOfC qual (zag st) s.heap.objs.size f cdv))->sp vs H Q E→∃t,PSs (zoW (CXE P w) P w K mg base N qual (zag st) f cdv A outer s H E).nox (zdA st) t∧t {nx:=λ_ H'=>Q .non H',rt:=Q} (start N vs) H):FnOk P w K mg base (CXE P w) (k+1) f fd ps sp:=by
   obtain ⟨oc,od,kV,doc,pm,an,cdv,ct,osl,rfl,lk,hcd⟩:=F.ex
   refine zul lk hcd S len λA outer s H vs Q E hr hsp=> ?_
   obtain ⟨t,h,q⟩:=hbody cdv A outer s H vs Q E hr hsp
   exact ⟨t,λpins s1 σ H1 D I hw=>wpAny_mono (h pins s1 σ H1 D (I.wish _) hw) (λ_ _ q=>SP.unwish q) λ_ _ f=>f.elim,q⟩
end
end L2
namespace L2
open PySem PySem.Spec PyProof.Rows
structure Ds where
 pr:Hp->V->Prop
 up:∀ {H H':Hp} {v:V},Same H H'->pr H v->pr H' v
theorem zdk {ds:List Ds} {H H':Hp} (e:Same H H'):∀ {vs:List V} {ds:List Ds},Paired (λv (d:Ds)=>d.pr H v) vs ds->Paired (λv (d:Ds)=>d.pr H' v) vs ds
 | _,_,.nil=>.nil
 | _,_,.cons (b:=d) h t=> .cons (d.up e h) (zdk (ds:=[]) e t)
theorem zbR {α β:Type} {R S:α->β->Prop} (h:∀a b,R a b->S a b):∀ {xs:List α} {ys:List β},Paired R xs ys->Paired S xs ys
 | _,_,.nil=>.nil
 | _,_,.cons q t=> .cons (h _ _ q) (zbR h t)
theorem za2 {α β:Type} {R:α->β->Prop}:∀ {xs:List α} {ys:List β} {i:Nat} {y:β},Paired R xs ys->ys[i]? =some y->∃x,xs[i]? =some x∧R x y
 | _,_,_,_,.nil,e=>by simp at e
 | _,_,0,_,.cons r _,e=>by simp at e;subst e;exact ⟨_,rfl,r⟩
 | _,_,i+1,y,.cons _ t,e=>by
  obtain ⟨u,h1,h2⟩:=za2 (i:=i) (y:=y) t (by simpa using e)
  exact ⟨u,by simpa using h1,h2⟩
theorem zcp {α β:Type} {R:α->β->Prop}:∀ {xs xs':List α} {ys ys':List β},Paired R xs ys->Paired R xs' ys'->Paired R (xs++xs') (ys++ys')
 | _,_,_,_,.nil,s=>s
 | _,_,_,_,.cons r t,s=> .cons r (zcp t s)
theorem zhQ {α β:Type} {R:α->β->Prop} {x:α} {y:β} (r:R x y):∀ {xs:List α} {ys:List β} (i:Nat),Paired R xs ys->Paired R (xs.set i x) (ys.set i y)
 | _,_,_,.nil=>.nil
 | _,_,0,.cons _ t=>.cons r t
 | _,_,i+1,.cons q t=> .cons q (zhQ r i t)
theorem zgP {α β:Type} {R:α->β->Prop}:∀ {xs:List α} {ys:List β} (n:Nat),Paired R xs ys->Paired R (xs.take n) (ys.take n)
 | _,_,0,_=>.nil
 | _,_,_+1,.nil=>.nil
 | _,_,n+1,.cons r t=> .cons r (zgP n t)
theorem zg1 {α β:Type} {R:α->β->Prop}:∀ {xs:List α} {ys:List β} (n:Nat),Paired R xs ys->Paired R (xs.drop n) (ys.drop n)
 | _,_,0,r=>r
 | _,_,_+1,.nil=>.nil
 | _,_,n+1,.cons _ t=>zg1 n t
theorem zie {α β:Type} {R:α->β->Prop} {xs:List α} {ys:List β} (h:Paired R xs ys):∀n:Nat,Paired R (List.replicate n xs).flatten (List.replicate n ys).flatten
 | 0=>.nil
 | n+1=>by
  rw [List.replicate_succ,List.replicate_succ,List.flatten_cons,List.flatten_cons]
  exact zcp h (zie h n)
abbrev dV (v:V):Ds:=⟨λ_ u=>u=v,λ_ h=>h⟩
abbrev dI (n:Int):Ds:=dV (.int n)
abbrev dB (b:Bool):Ds:=dV (.bl b)
abbrev dN:Ds:=dV .non
abbrev dS (x:Str):Ds:=dV (.str x)
def dL (ds:List Ds):Ds:=⟨λH v=>∃p vs,v= .ref p∧H p=some (.lst vs)∧Paired (λv (d:Ds)=>d.pr H v) vs ds,λe ⟨p,vs,h1,h2,h3⟩=>⟨p,vs,h1,e _ _ h2,zdk (ds:=[]) e h3⟩⟩
def dQ (K:W.Frag) (ds:List Ds):Ds:=⟨λH v=>∃p vs,v= .ref p∧SqL K H p vs∧Paired (λv (d:Ds)=>d.pr H v) vs ds,λe ⟨p,vs,h1,h2,h3⟩=>⟨p,vs,h1,e.seq h2,zdk (ds:=[]) e h3⟩⟩
def dT (ds:List Ds):Ds:=⟨λH v=>∃p vs,v= .ref p∧H p=some (.tup vs)∧Paired (λv (d:Ds)=>d.pr H v) vs ds,λe ⟨p,vs,h1,h2,h3⟩=>⟨p,vs,h1,e _ _ h2,zdk (ds:=[]) e h3⟩⟩
def dO (C:Addr) (fs:List (Str×Ds)):Ds:=⟨λH v=>∃p dx vs,v= .ref p∧H p=some (.ins C dx vs)∧H dx=some (.own p)∧Paired (λ(a:Str×V) (b:Str×Ds)=>a.1=b.1∧b.2.pr H a.2) vs fs,λe ⟨p,dx,vs,h1,h2,h3,h4⟩=>⟨p,dx,vs,h1,e _ _ h2,e _ _ h3,zbR (λ_ b q=>⟨q.1,b.2.up e q.2⟩) h4⟩⟩
class Enc (α:Type) where
 d:α->Ds
instance:Enc Int:=⟨dI⟩
instance:Enc Bool:=⟨dB⟩
instance:Enc Unit:=⟨λ_=>dN⟩
instance:Enc Str:=⟨dS⟩
instance {α:Type} [Enc α]:Enc (List α):=⟨λxs=>dL (xs.map Enc.d)⟩
instance {α β:Type} [Enc α] [Enc β]:Enc (α×β):=⟨λp=>dT [Enc.d p.1,Enc.d p.2]⟩
instance {α:Type} [Enc α]:Enc (Option α):=⟨λo=>match o with | none=>dN | some x=>Enc.d x⟩
structure T3 (α β γ:Type) where
 a:α
 b:β
 c:γ
instance {α β γ:Type} [Enc α] [Enc β] [Enc γ]:Enc (T3 α β γ):=⟨λp=>dT [Enc.d p.a,Enc.d p.b,Enc.d p.c]⟩
structure Grow (F H F' H':Hp):Prop where
 f:Same F F'
 fh:Same F' H'
 h:Same H H'
 no:∀ a,H a≠none->F a=none->F' a=none
theorem Grow.refl {F H:Hp} (e:Same F H):Grow F H F H:=⟨Same.refl _,e,Same.refl _,λ_ _ h=>h⟩
theorem Same.some {H H':Hp} (e:Same H H') {a:Addr} (h:H a≠none):H' a≠none:=by
 cases q:H a with
  |none=>exact absurd q h
  |some o=>rw [e _ _ q];simp
theorem Grow.trans {F H F' H' F'' H'':Hp} (g:Grow F H F' H') (k:Grow F' H' F'' H''):Grow F H F'' H'' :=
 ⟨g.f.trans k.f,k.fh,g.h.trans k.h,λa h1 h2=>k.no a (g.h.some h1) (g.no a h1 h2)⟩
theorem Grow.new {F H F' H':Hp} (g:Grow F H F' H') {p:Addr} {o:HO} (hp:H' p=none):Grow F H (upd F' p o) (upd H' p o):=by
 have hf:F' p=none:=by
  cases q:F' p with
   |none=>rfl
   |some u=>rw [g.fh _ _ q] at hp;cases hp
 refine ⟨g.f.trans (Same.new hf _),λa u q=> ?_,g.h.trans (Same.new hp _),λa h1 h2=> ?_⟩
 ·
  by_cases e:a=p
  ·subst e;rw [zat] at q ⊢;exact q
  ·rw [zai e] at q ⊢;exact g.fh _ _ q
 ·
  have:a≠p:=λe=>by subst e;exact (g.h.some h1) hp
  rw [zai this];
  exact g.no a h1 h2
theorem Grow.newH {F H F' H':Hp} (g:Grow F H F' H') {p:Addr} {o:HO} (hp:H' p=none):Grow F H F' (upd H' p o) :=
 ⟨g.f,g.fh.trans (Same.new hp _),g.h.trans (Same.new hp _),g.no⟩
theorem Grow.setH {F H F' H':Hp} (g:Grow F H F' H') {p:Addr} {o:HO} (hf:F' p=none) (hp:H p=none):Grow F H F' (upd H' p o) :=
 ⟨g.f,λa u q=>by rw [zai (za7 q hf)];exact g.fh _ _ q,λa u q=>by rw [zai (za7 q hp)];exact g.h _ _ q,g.no⟩
theorem Grow.take {F H F' H':Hp} (g:Grow F H F' H') {p:Addr} {o:HO} (hp:H p=none) (e:H' p=some o):Grow F H (upd F' p o) H':=by
 refine ⟨λa u q=> ?_,λa u q=> ?_,g.h,λa h1 h2=> ?_⟩
 ·
  by_cases z:a=p
  ·
   subst z
   have:=g.fh _ _ (g.f _ _ q)
   rw [e] at this;
   cases this;
   exact zat
  ·rw [zai z];exact g.f _ _ q
 ·
  by_cases z:a=p
  ·subst z;rw [zat] at q;cases q;exact e
  ·rw [zai z] at q;exact g.fh _ _ q
 ·
  have:a≠p:=λz=>by subst z;exact h1 hp
  rw [zai this];
  exact g.no a h1 h2
def off (F Hb:Hp):Hp:=λa=>match Hb a with|none=>F a|some _=>none
theorem zdb {F Hb:Hp} {a:Addr} {o:HO}:off F Hb a=some o↔Hb a=none∧F a=some o:=by
 unfold off
 cases q:Hb a with
  |none=>simp
  |some u=>simp
theorem zsF {F F' Hb:Hp} (e:Same F F'):Same (off F Hb) (off F' Hb):=λa o q=>by rw [zdb] at q ⊢;exact ⟨q.1,e _ _ q.2⟩
theorem zn6 {F Hb:Hp}:Same (off F Hb) F:=λa o q=>(zdb.mp q).2
theorem znA {F Hb Hc:Hp} (e:Same Hb Hc):Same (off F Hc) (off F Hb):=λa o q=>by
 rw [zdb] at q ⊢
 refine ⟨?_,q.2⟩
 cases z:Hb a with
  |none=>rfl
  |some u=>rw [e _ _ z] at q;cases q.1
def zfp (m:Bool) (F Hb:Hp):Hp:=match m with|true=>off F Hb|false=>F
theorem za8 {m:Bool} {F F' Hb:Hp} (e:Same F F'):Same (zfp m F Hb) (zfp m F' Hb):=by
 cases m with
  |true=>exact zsF e
  |false=>exact e
theorem za4 {m:Bool} {F Hb:Hp}:Same (zfp m F Hb) F:=by
 cases m with
  |true=>exact zn6
  |false=>exact Same.refl _
theorem zep {m:Bool} {F Hb:Hp} {p:Addr} {o:HO} (hb:Hb p=none) (hp:F p=some o):zfp m F Hb p=some o:=by
 cases m with
  |true=>exact zdb.mpr ⟨hb,hp⟩
  |false=>exact hp
inductive Slot where
 | no
 | va (m:Bool) (d:Ds)
 | ow (m:Bool) (ds:List Ds)
 | ob (m:Bool) (C p dx:Addr) (fs:List (Str×Ds))
 | tl (d:Ds)
 | ol (p:Addr) (ds:List Ds)
abbrev Ctx:=List Slot
def zeV (Hb F H:Hp) (own:Nat->Option Addr) (i:Nat) (v:Option V):Slot->Prop
 | .tl d=>∃x R,v=some x∧Same R H∧(∀a o,R a=some o->F a=none∧Hb a=none)∧(∀j p,own j=some p->R p=none)∧d.pr R x
 | .no=>True
 | .va m d=>∃x,v=some x∧d.pr (zfp m F Hb) x
 | .ow m ds=>∃p vs,v=some (.ref p)∧own i=some p∧F p=none∧Hb p=none∧H p=some (.lst vs)∧Paired (λv (d:Ds)=>d.pr (zfp m F Hb) v) vs ds
 | .ol p ds=>∃vs,v=some (.ref p)∧own i=some p∧F p=none∧Hb p=none∧H p=some (.lst vs)∧Paired (λv (d:Ds)=>d.pr F v) vs ds
 | .ob m C p dx fs=>∃vs,v=some (.ref p)∧own i=some p∧(F p=none∧F dx=none)∧(Hb p=none∧Hb dx=none)∧(H p=some (.ins C dx vs)∧H dx=some (.own p))∧Paired (λ(a:Str×V) (b:Str×Ds)=>a.1=b.1∧b.2.pr (zfp m F Hb) a.2) vs fs
structure At (F0 Hb F H:Hp) (σ:St) (own:Nat->Option Addr) (Γ:Ctx):Prop where
 g:Grow F0 Hb F H
 inj:∀ i j p,own i=some p->own j=some p->i=j
 liv:∀ i p,own i=some p->H p≠none
 sl:∀ i s,Γ[i]?=some s->zeV Hb F H own i (σ[i]?).join s
 len:σ.length=Γ.length
theorem zeV.grow {Hb F H F' H':Hp} {own:Nat->Option Addr} {i:Nat} {v:Option V} {s:Slot} (h:zeV Hb F H own i v s) (g:Grow F H F' H'):zeV Hb F' H' own i v s:=by
 cases s with
  |no=>trivial
  |tl d=>
   obtain ⟨x,R,e,h1,h2,h3,h4⟩:=h
   exact ⟨x,R,e,h1.trans g.h,λa o q=>⟨g.no a (by rw [h1 _ _ q];simp) (h2 a o q).1,(h2 a o q).2⟩,h3,h4⟩
  |va m d=>obtain ⟨x,e,q⟩:=h;exact ⟨x,e,d.up (za8 g.f) q⟩
  |ow m ds=>
   obtain ⟨p,vs,e,ho,hf,hb,hp,q⟩:=h
   exact ⟨p,vs,e,ho,g.no p (by rw [hp];simp) hf,hb,g.h _ _ hp,zdk (ds:=[]) (za8 g.f) q⟩
  |ol p ds=>
   obtain ⟨vs,e,ho,hf,hb,hp,q⟩:=h
   exact ⟨vs,e,ho,g.no p (by rw [hp];simp) hf,hb,g.h _ _ hp,zdk (ds:=[]) g.f q⟩
  |ob m C p dx fs=>
   obtain ⟨vs,e,ho,hf,hb,hp,q⟩:=h
   exact ⟨vs,e,ho,⟨g.no p (by rw [hp.1];simp) hf.1,g.no dx (by rw [hp.2];simp) hf.2⟩,hb,⟨g.h _ _ hp.1,g.h _ _ hp.2⟩,zbR (λ_ b z=>⟨z.1,b.2.up (za8 g.f) z.2⟩) q⟩
theorem At.grow {F0 Hb F H F' H':Hp} {σ:St} {own:Nat->Option Addr} {Γ:Ctx} (a:At F0 Hb F H σ own Γ) (g:Grow F H F' H'):At F0 Hb F' H' σ own Γ :=
 ⟨a.g.trans g,a.inj,λi p e=>g.h.some (a.liv i p e),λi s e=>(a.sl i s e).grow g,a.len⟩
theorem At.fh {F0 Hb F H:Hp} {σ:St} {own:Nat->Option Addr} {Γ:Ctx} (a:At F0 Hb F H σ own Γ):Same F H:=a.g.fh
theorem zdt {σ:St} {i:Nat} {x:Option V} (h:i<σ.length):((σ.set i x)[i]?).join=x:=by rw [List.getElem?_set_self h];rfl
theorem zew {σ:St} {i j:Nat} {x:Option V} (h:i≠j):((σ.set i x)[j]?).join=(σ[j]?).join:=by rw [List.getElem?_set_ne h]
theorem At.set {F0 Hb F H:Hp} {σ:St} {own:Nat->Option Addr} {Γ:Ctx} (a:At F0 Hb F H σ own Γ) (i:Nat) {m:Bool} {d:Ds} {v:V} (h:d.pr (zfp m F Hb) v) :
  At F0 Hb F H (σ.set i (some v)) own (Γ.set i (.va m d)):=by
   refine ⟨a.g,a.inj,a.liv,λj s e=> ?_,by simp [a.len]⟩
   by_cases z:i=j
   ·
    subst z
    have hi:i<Γ.length:=by
     have:=(List.getElem?_eq_some_iff.mp e).1
     simpa using this
    rw [List.getElem?_set_self hi] at e
    cases e
    rw [zdt (by rw [a.len];exact hi)]
    exact ⟨v,rfl,h⟩
   ·
    rw [List.getElem?_set_ne z] at e
    rw [zew z]
    exact a.sl j s e
theorem At.setOwn {F0 Hb F1 H1 F H:Hp} {σ:St} {own:Nat->Option Addr} {Γ:Ctx} (a1:At F0 Hb F1 H1 σ own Γ) (g:Grow F1 H1 F H) (i:Nat) {m:Bool} {ds:List Ds} {p:Addr} {vs:List V} (h1:H1 p=none) (hf:F p=none) (hp:H p=some (.lst vs))
  (h:Paired (λv (d:Ds)=>d.pr (zfp m F Hb) v) vs ds):At F0 Hb F H (σ.set i (some (.ref p))) (λj=>if j=i then some p else own j) (Γ.set i (.ow m ds)):=by
   have a:=a1.grow g
   have hb:Hb p=none:=a1.g.h.free h1
   have ho:∀j,own j≠some p:=λj e=>a1.liv j p e h1
   refine ⟨a.g,λj k q e1 e2=> ?_,λj q e=> ?_,λj s e=> ?_,by simp [a.len]⟩
   ·
    skip
    split at e1<;>split at e2
    ·omega
    ·cases e1;exact absurd e2 (ho k)
    ·cases e2;exact absurd e1 (ho j)
    ·exact a.inj j k q e1 e2
   ·
    skip
    split at e
    ·cases e;rw [hp];simp
    ·exact a.liv j q e
   ·
    by_cases z:i=j
    ·
     subst z
     have hi:i<Γ.length:=by
      have:=(List.getElem?_eq_some_iff.mp e).1
      simpa using this
     rw [List.getElem?_set_self hi] at e
     cases e
     rw [zdt (by rw [a.len];exact hi)]
     exact ⟨p,vs,rfl,by simp,hf,hb,hp,h⟩
    ·
     rw [List.getElem?_set_ne z] at e
     rw [zew z]
     have z':¬j=i:=Ne.symm z
     cases s with
      |tl d=>
       obtain ⟨x,R,q1,q2,q3,q4,q5⟩:=a1.sl j _ e
       refine ⟨x,R,q1,q2.trans g.h,λb o w=>⟨g.no b (by rw [q2 _ _ w];simp) (q3 b o w).1,(q3 b o w).2⟩,λk q w=> ?_,q5⟩
       dsimp only at w
       split at w
       ·cases w;exact q2.free h1
       ·exact q4 k q w
      |no=>trivial
      |va m d=>exact a.sl j _ e
      |ow m ds=>
       obtain ⟨q,us,w1,w2,w3⟩:=a.sl j _ e
       exact ⟨q,us,w1,(if_neg z').trans w2,w3⟩
      |ol q ds=>
       obtain ⟨us,w1,w2,w3⟩:=a.sl j _ e
       exact ⟨us,w1,(if_neg z').trans w2,w3⟩
      |ob m C q dx fs=>
       obtain ⟨us,w1,w2,w3⟩:=a.sl j _ e
       exact ⟨us,w1,(if_neg z').trans w2,w3⟩
theorem At.turn {F0 Hb F H:Hp} {σ:St} {own:Nat->Option Addr} {Γ:Ctx} (a:At F0 Hb F H σ own Γ) {i:Nat} {m n:Bool} {ds es:List Ds} {p:Addr} {ws:List V} (e:Γ[i]? =some (.ow m ds)) (ep:σ[i]? =some (some (.ref p)))
  (h:Paired (λv (d:Ds)=>d.pr (zfp n F Hb) v) ws es):At F0 Hb F (upd H p (.lst ws)) σ own (Γ.set i (.ow n es)):=by
   obtain ⟨p',vs,e1,e2,hf,hb,hp,_⟩:=a.sl i _ e
   rw [ep] at e1
   have e1':p=p':=by
    have:some (V.ref p)=some (V.ref p'):=e1
    cases this;
    rfl
   subst e1'
   refine ⟨a.g.setH hf hb,a.inj,λj q ej=> ?_,λj s es'=> ?_,by simp [a.len]⟩
   ·
    by_cases z:q=p
    ·subst z;rw [zat];simp
    ·rw [zai z];exact a.liv j q ej
   ·
    by_cases z:i=j
    ·
     subst z
     have hi:i<Γ.length:=(List.getElem?_eq_some_iff.mp e).1
     rw [List.getElem?_set_self hi] at es'
     cases es'
     exact ⟨p,ws,by rw [ep];rfl,e2,hf,hb,zat,h⟩
    ·
     rw [List.getElem?_set_ne z] at es'
     have:=a.sl j s es'
     cases s with
      |no=>trivial
      |tl d=>
       obtain ⟨x,R,q1,q2,q3,q4,q5⟩:=this
       exact ⟨x,R,q1,λb o w=>by rw [zai (za7 w (q4 i p e2))];exact q2 b o w,q3,q4,q5⟩
      |va m d=>exact this
      |ow m ds=>
       obtain ⟨q,us,h1,h2,h3,h4,h5,h6⟩:=this
       have:q≠p:=λw=>by subst w;exact z (a.inj i j q e2 h2)
       exact ⟨q,us,h1,h2,h3,h4,by rw [zai this];exact h5,h6⟩
      |ol q ds=>
       obtain ⟨us,h1,h2,h3,h4,h5,h6⟩:=this
       have:q≠p:=λw=>by subst w;exact z (a.inj i j q e2 h2)
       exact ⟨us,h1,h2,h3,h4,by rw [zai this];exact h5,h6⟩
      |ob m C q dx fs=>
       obtain ⟨us,h1,h2,h3,h4,h5,h6⟩:=this
       have n1:q≠p:=λw=>by subst w;exact z (a.inj i j q e2 h2)
       have n2:dx≠p:=ziM h5.2 hp (by intro z;cases z)
       exact ⟨us,h1,h2,h3,h4,⟨by rw [zai n1];exact h5.1,by rw [zai n2];exact h5.2⟩,h6⟩
theorem At.turnOb {F0 Hb F H:Hp} {σ:St} {own:Nat->Option Addr} {Γ:Ctx} (a:At F0 Hb F H σ own Γ) {i:Nat} {m n:Bool} {C p dx:Addr} {fs gs:List (Str×Ds)} {ws:List (Str×V)} (e:Γ[i]? =some (.ob m C p dx fs))
  (h:Paired (λ(a:Str×V) (b:Str×Ds)=>a.1=b.1∧b.2.pr (zfp n F Hb) a.2) ws gs):At F0 Hb F (upd H p (.ins C dx ws)) σ own (Γ.set i (.ob n C p dx gs)):=by
   obtain ⟨vs,e1,e2,hf,hb,hp,_⟩:=a.sl i _ e
   have ndp:dx≠p:=ziM hp.2 hp.1 (by intro z;cases z)
   refine ⟨a.g.setH hf.1 hb.1,a.inj,λj q ej=> ?_,λj s es'=> ?_,by simp [a.len]⟩
   ·
    by_cases z:q=p
    ·subst z;rw [zat];simp
    ·rw [zai z];exact a.liv j q ej
   ·
    by_cases z:i=j
    ·
     subst z
     have hi:i<Γ.length:=(List.getElem?_eq_some_iff.mp e).1
     rw [List.getElem?_set_self hi] at es'
     cases es'
     exact ⟨ws,e1,e2,hf,hb,⟨zat,by rw [zai ndp];exact hp.2⟩,h⟩
    ·
     rw [List.getElem?_set_ne z] at es'
     have:=a.sl j s es'
     cases s with
      |no=>trivial
      |tl d=>
       obtain ⟨x,R,q1,q2,q3,q4,q5⟩:=this
       exact ⟨x,R,q1,λb o w=>by rw [zai (za7 w (q4 i p e2))];exact q2 b o w,q3,q4,q5⟩
      |va m d=>exact this
      |ow m ds=>
       obtain ⟨q,us,h1,h2,h3,h4,h5,h6⟩:=this
       have:q≠p:=λw=>by subst w;exact z (a.inj i j q e2 h2)
       exact ⟨q,us,h1,h2,h3,h4,by rw [zai this];exact h5,h6⟩
      |ol q ds=>
       obtain ⟨us,h1,h2,h3,h4,h5,h6⟩:=this
       have:q≠p:=λw=>by subst w;exact z (a.inj i j q e2 h2)
       exact ⟨us,h1,h2,h3,h4,by rw [zai this];exact h5,h6⟩
      |ob m C q dy fs=>
       obtain ⟨us,h1,h2,h3,h4,h5,h6⟩:=this
       have n1:q≠p:=λw=>by subst w;exact z (a.inj i j q e2 h2)
       have n2:dy≠p:=ziM h5.2 hp.1 (by intro z;cases z)
       exact ⟨us,h1,h2,h3,h4,⟨by rw [zai n1];exact h5.1,by rw [zai n2];exact h5.2⟩,h6⟩
inductive Wk:Ctx->Ctx->Prop where
 | nil:Wk [] []
 | eq {s Γ Δ}:Wk Γ Δ->Wk (s :: Γ) (s :: Δ)
 | no {s Γ Δ}:Wk Γ Δ->Wk (s :: Γ) (.no :: Δ)
 | old {m d Γ Δ}:Wk Γ Δ->Wk (.va m d :: Γ) (.va false d :: Δ)
 | oldL {m d Γ Δ}:Wk Γ Δ->Wk (.ow m d :: Γ) (.ow false d :: Δ)
theorem Wk.refl:∀Γ:Ctx,Wk Γ Γ
 | []=>.nil
 | _ :: Γ=> .eq (Wk.refl Γ)
theorem Wk.len {Γ Δ:Ctx} (h:Wk Γ Δ):Γ.length=Δ.length:=by induction h<;>simp_all
theorem Wk.slot {Γ Δ:Ctx} (h:Wk Γ Δ):∀ {i:Nat} {s:Slot},Δ[i]? =some s->∃r,Γ[i]? =some r∧∀ {Hb F H:Hp} {own:Nat->Option Addr} {j:Nat} {v:Option V},zeV Hb F H own j v r->zeV Hb F H own j v s:=by
 induction h with
  |nil=>intro i s e;simp at e
  |eq _ ih=>
   intro i s e
   cases i with
    |zero=>simp at e;subst e;exact ⟨_,rfl,λh=>h⟩
    |succ i=>simpa using ih (i:=i) (s:=s) (by simpa using e)
  |no _ ih=>
   intro i s e
   cases i with
    |zero=>simp at e;subst e;exact ⟨_,rfl,λ_=>trivial⟩
    |succ i=>simpa using ih (i:=i) (s:=s) (by simpa using e)
  |old _ ih=>
   intro i s e
   cases i with
    |zero=>simp at e;subst e;exact ⟨_,rfl,λ⟨x,h1,h2⟩=>⟨x,h1,Ds.up _ za4 h2⟩⟩
    |succ i=>simpa using ih (i:=i) (s:=s) (by simpa using e)
  |oldL _ ih=>
   intro i s e
   cases i with
    |zero=>simp at e;subst e;exact ⟨_,rfl,λ⟨p,vs,h1,h2,h3,h4,h5,h6⟩=>⟨p,vs,h1,h2,h3,h4,h5,zdk (ds:=[]) za4 h6⟩⟩
    |succ i=>simpa using ih (i:=i) (s:=s) (by simpa using e)
theorem At.wk {F0 Hb F H:Hp} {σ:St} {own:Nat->Option Addr} {Γ Δ:Ctx} (a:At F0 Hb F H σ own Γ) (w:Wk Γ Δ):At F0 Hb F H σ own Δ :=
 ⟨a.g,a.inj,a.liv,λi s e=>by
  obtain ⟨r,e1,h⟩:=w.slot e
  exact h (a.sl i r e1),by rw [a.len,w.len]⟩
theorem At.share {F0 Hb F H:Hp} {σ:St} {own:Nat->Option Addr} {Γ:Ctx} (a:At F0 Hb F H σ own Γ) {i:Nat} {m:Bool} {ds:List Ds} (e:Γ[i]? =some (.ow m ds)) :
  ∃F' own',Grow F0 Hb F' H∧At F0 Hb F' H σ own' (Γ.set i (.va m (dL ds))):=by
   obtain ⟨p,vs,e1,e2,hf,hb,hp,hq⟩:=a.sl i _ e
   have g:=a.g.take hb hp
   have fs:Same F (upd F p (.lst vs)):=Same.new hf _
   refine ⟨upd F p (.lst vs),λj=>if j=i then none else own j,g,g,λj k q h1 h2=> ?_,λj q h1=> ?_,λj s es=> ?_,by simp [a.len]⟩
   ·
    skip
    split at h1
    ·cases h1
    ·
     split at h2
     ·cases h2
     ·exact a.inj j k q h1 h2
   ·
    skip
    split at h1
    ·cases h1
    ·exact a.liv j q h1
   ·
    by_cases z:i=j
    ·
     subst z
     have hi:i<Γ.length:=(List.getElem?_eq_some_iff.mp e).1
     rw [List.getElem?_set_self hi] at es
     cases es
     exact ⟨.ref p,e1,p,vs,rfl,zep hb zat,zdk (ds:=[]) (za8 fs) hq⟩
    ·
     rw [List.getElem?_set_ne z] at es
     have z':¬j=i:=Ne.symm z
     have:=a.sl j s es
     cases s with
      |no=>trivial
      |tl d=>
       obtain ⟨x,R,q1,q2,q3,q4,q5⟩:=this
       refine ⟨x,R,q1,q2,λb o w=>⟨by rw [zai (za7 w (q4 i p e2))];exact (q3 b o w).1,(q3 b o w).2⟩,λk q w=> ?_,q5⟩
       dsimp only at w
       split at w
       ·cases w
       ·exact q4 k q w
      |va m d=>obtain ⟨x,h1,h2⟩:=this;exact ⟨x,h1,d.up (za8 fs) h2⟩
      |ow m ds=>
       obtain ⟨q,us,h1,h2,h3,h4,h5,h6⟩:=this
       have:q≠p:=λw=>by subst w;exact z (a.inj i j q e2 h2)
       exact ⟨q,us,h1,(if_neg z').trans h2,by rw [zai this];exact h3,h4,h5,zdk (ds:=[]) (za8 fs) h6⟩
      |ol q ds=>
       obtain ⟨us,h1,h2,h3,h4,h5,h6⟩:=this
       have:q≠p:=λw=>by subst w;exact z (a.inj i j q e2 h2)
       exact ⟨us,h1,(if_neg z').trans h2,by rw [zai this];exact h3,h4,h5,zdk (ds:=[]) fs h6⟩
      |ob m C q dx gs=>
       obtain ⟨us,h1,h2,h3,h4,h5,h6⟩:=this
       have n1:q≠p:=λw=>by subst w;exact z (a.inj i j q e2 h2)
       have n2:dx≠p:=ziM h5.2 hp (by intro z;cases z)
       exact ⟨us,h1,(if_neg z').trans h2,⟨by rw [zai n1];exact h3.1,by rw [zai n2];exact h3.2⟩,h4,h5,zbR (λ_ b z=>⟨z.1,b.2.up (za8 fs) z.2⟩) h6⟩
end L2
namespace L2
open PySem PySem.Spec PyProof.Rows
def Ev (Γ:Ctx) (t:TE) (m:Bool) (d:Ds):Prop:=∀(F0 Hb F H:Hp) (σ:St) (own:Nat->Option Addr) (Q:VK),At F0 Hb F H σ own Γ→(∀v F' H',Grow F H F' H'->d.pr (zfp m F' Hb) v->Q v H')->t σ H Q
def EvO (Γ:Ctx) (t:TE) (m:Bool) (ds:List Ds):Prop:=∀(F0 Hb F H:Hp) (σ:St) (own:Nat->Option Addr) (Q:VK),At F0 Hb F H σ own Γ→(∀p vs F' H',Grow F H F' H'->H p=none->F' p=none->H' p=some (.lst vs)->Paired (λv (d:Ds)=>d.pr (zfp m F' Hb) v) vs ds->Q (.ref p) H')->t σ H Q
def EvT (Γ:Ctx) (t:TT) (b:Bool):Prop:=∀(F0 Hb F H:Hp) (σ:St) (own:Nat->Option Addr) (Q:Bool->Hp->Prop),At F0 Hb F H σ own Γ→(∀F' H',Grow F H F' H'->Q b H')->t σ H Q
def EvA (Γ:Ctx) (t:TA) (m:Bool) (ds:List Ds):Prop:=∀(F0 Hb F H:Hp) (σ:St) (own:Nat->Option Addr) (Q:List V->Hp->Prop),At F0 Hb F H σ own Γ→(∀vs F' H',Grow F H F' H'->Paired (λv (d:Ds)=>d.pr (zfp m F' Hb) v) vs ds->Q vs H')->t σ H Q
def EvP (Γ:Ctx) (t:TO) (i:Option Int):Prop:=∀(F0 Hb F H:Hp) (σ:St) (own:Nat->Option Addr) (Q:Option Int->Hp->Prop),At F0 Hb F H σ own Γ→(∀F' H',Grow F H F' H'->Q i H')->t σ H Q
theorem At.free {F0 Hb F H:Hp} {σ:St} {own:Nat->Option Addr} {Γ:Ctx} (a:At F0 Hb F H σ own Γ) {F' H':Hp} (g:Grow F H F' H') {p:Addr} (h:H' p=none):H p=none∧F' p=none∧Hb p=none:=by
 have h1:=g.h.free h
 exact ⟨h1,g.fh.free h,a.g.h.free h1⟩
section
variable {Γ:Ctx} {t ta tb:TE} {m n:Bool} {d e:Ds} {ds es:List Ds} {K:W.Frag}
theorem Ev.old (h:Ev Γ t m d):Ev Γ t false d:=λF0 Hb F H σ own Q a k=>h F0 Hb F H σ own Q a λv F' H' g q=>k v F' H' g (d.up za4 q)
theorem Ev.conv (h:Ev Γ t m d) (e':d=e):Ev Γ t m e:=e' ▸ h
theorem EvO.conv (h:EvO Γ t m ds) (e':ds=es):EvO Γ t m es:=e' ▸ h
theorem EvT.conv {t:TT} {b c:Bool} (h:EvT Γ t b) (e':b=c):EvT Γ t c:=e' ▸ h
theorem EvO.ev (h:EvO Γ t m ds):Ev Γ t m (dL ds):=λF0 Hb F H σ own Q a k=>h F0 Hb F H σ own Q a λp vs F' H' g h1 h2 h3 q=>by
 have fs:Same F' (upd F' p (.lst vs)):=Same.new h2 _
 exact k (.ref p) (upd F' p (.lst vs)) H' (g.take h1 h3) ⟨p,vs,rfl,zep (a.g.h.free h1) zat,zdk (ds:=[]) (za8 fs) q⟩
theorem Ev.weak (h:Ev Γ t m (dL ds)):Ev Γ t m (dQ K ds):=λF0 Hb F H σ own Q a k=>h F0 Hb F H σ own Q a λv F' H' g ⟨p,vs,h1,h2,h3⟩=>k v F' H' g ⟨p,vs,h1,SqL.of h2,h3⟩
theorem zab {i:Nat} (h:Γ[i]? =some (.va m d)):Ev Γ (zhX i) m d:=λF0 Hb F H σ own Q a k=>by
 obtain ⟨x,e,q⟩:=a.sl i _ h
 have hi:i<σ.length:=by rw [a.len];exact (List.getElem?_eq_some_iff.mp h).1
 rw [List.getElem?_eq_getElem hi] at e
 have e':σ[i]=some x:=e
 exact ⟨x,by rw [List.getElem?_eq_getElem hi,e'],k x F H (Grow.refl a.fh) q⟩
theorem zaL {v:V}:Ev Γ (tC v) m (dV v):=λF0 Hb F H σ own Q a k=>k v F H (Grow.refl a.fh) rfl
theorem zaY {g:Int->Int->V} {x y:Int} (h1:Ev Γ ta false (dI x)) (h2:Ev Γ tb false (dI y)):Ev Γ (tOp (rI0 g) ta tb) m (dV (g x y)):=λF0 Hb F H σ own Q a k=>h1 F0 Hb F H σ own _ a λu F1 H1 g1 q1=>h2 F0 Hb F1 H1 σ own _ (a.grow g1) λv F2 H2 g2 q2=>⟨x,y,q1,q2,k _ F2 H2 (g1.trans g2) rfl⟩
theorem zbb {C:Int->Int->Prop} {g:Int->Int->V} {x y:Int} (h1:Ev Γ ta false (dI x)) (h2:Ev Γ tb false (dI y)) (c:C x y):Ev Γ (tOp (rI C g) ta tb) m (dV (g x y)):=λF0 Hb F H σ own Q a k=>h1 F0 Hb F H σ own _ a λu F1 H1 g1 q1=>h2 F0 Hb F1 H1 σ own _ (a.grow g1) λv F2 H2 g2 q2=>⟨x,y,q1,q2,c,k _ F2 H2 (g1.trans g2) rfl⟩
theorem zo4 {g:Int->V} {x:Int} (h1:Ev Γ ta false (dI x)):Ev Γ (tUn (rU g) ta) m (dV (g x)):=λF0 Hb F H σ own Q a k=>h1 F0 Hb F H σ own _ a λu F1 H1 g1 q1=>⟨x,q1,k _ F1 H1 g1 rfl⟩
theorem ztl {v w:V} (h1:Ev Γ ta false (dV v)) (h2:Ev Γ tb false (dV w)) (hs:scal v w=true):Ev Γ (tOp rEq ta tb) m (dB (decide (v=w))):=λF0 Hb F H σ own Q a k=>h1 F0 Hb F H σ own _ a λu F1 H1 g1 q1=>h2 F0 Hb F1 H1 σ own _ (a.grow g1) λv F2 H2 g2 q2=>by cases q1;cases q2;exact ⟨hs,k _ F2 H2 (g1.trans g2) rfl⟩
theorem zsk {v w:V} (h1:Ev Γ ta false (dV v)) (h2:Ev Γ tb false (dV w)) (hs:scal v w=true):Ev Γ (tOp rNe ta tb) m (dB (!decide (v=w))):=λF0 Hb F H σ own Q a k=>h1 F0 Hb F H σ own _ a λu F1 H1 g1 q1=>h2 F0 Hb F1 H1 σ own _ (a.grow g1) λv F2 H2 g2 q2=>by cases q1;cases q2;exact ⟨hs,k _ F2 H2 (g1.trans g2) rfl⟩
theorem zmF (x y:Int):decide (V.int x=V.int y)=decide (x=y):=by simp
theorem zhY {x y:Int} (h1:Ev Γ ta false (dI x)) (h2:Ev Γ tb false (dI y)):Ev Γ (tOp rEq ta tb) m (dB (decide (x=y))):=(ztl h1 h2 rfl).conv (by rw [zmF])
theorem zgm {x y:Int} (h1:Ev Γ ta false (dI x)) (h2:Ev Γ tb false (dI y)):Ev Γ (tOp rNe ta tb) m (dB (!decide (x=y))):=(zsk h1 h2 rfl).conv (by rw [zmF])
theorem zkd (x y:Str):decide (V.str x=V.str y)=decide (x=y):=by simp
theorem zdp {x y:Str} (h1:Ev Γ ta false (dS x)) (h2:Ev Γ tb false (dS y)):Ev Γ (tOp rEq ta tb) m (dB (decide (x=y))):=(ztl h1 h2 rfl).conv (by rw [zkd])
theorem zpw {x y:Str} (h1:Ev Γ ta false (dS x)) (h2:Ev Γ tb false (dS y)):Ev Γ (tOp rNe ta tb) m (dB (!decide (x=y))):=(zsk h1 h2 rfl).conv (by rw [zkd])
theorem zap {b:Bool} (h:Ev Γ t false (dB b)):EvT Γ (zqj t) b:=λF0 Hb F H σ own Q a k=>h F0 Hb F H σ own _ a λv F' H' g q=>⟨b,q,k F' H' g⟩
theorem zfz {b:Bool} (h:Ev Γ t false (dB b)):EvT Γ (tB t) b:=λF0 Hb F H σ own Q a k=>h F0 Hb F H σ own _ a λv F' H' g q=>⟨b,q,k F' H' g⟩
theorem ziz {t:TT} {b:Bool} (h:EvT Γ t b):EvT Γ (zuQ t) (!b):=λF0 Hb F H σ own Q a k=>h F0 Hb F H σ own _ a λF' H' g=>k F' H' g
theorem znW {t u:TT} {b c:Bool} (h:EvT Γ t b) (h2:b=true->EvT Γ u c):EvT Γ (zu2 t u) (b && c):=λF0 Hb F H σ own Q a k=>h F0 Hb F H σ own _ a λF' H' g=>by
 cases b with
  |true=>exact h2 rfl F0 Hb F' H' σ own Q (a.grow g) λF2 H2 g2=>k F2 H2 (g.trans g2)
  |false=>exact k F' H' g
theorem zlg {t u:TT} {b c:Bool} (h:EvT Γ t b) (h2:b=false->EvT Γ u c):EvT Γ (tOr t u) (b||c):=λF0 Hb F H σ own Q a k=>h F0 Hb F H σ own _ a λF' H' g=>by
 cases b with
  |false=>exact h2 rfl F0 Hb F' H' σ own Q (a.grow g) λF2 H2 g2=>k F2 H2 (g.trans g2)
  |true=>exact k F' H' g
theorem zid {b c:Bool} (h:Ev Γ ta false (dB b)) (h2:b=true->Ev Γ tb false (dB c)):Ev Γ (ztB ta tb) m (dB (b && c)):=λF0 Hb F H σ own Q a k=>h F0 Hb F H σ own _ a λv F' H' g q=>⟨b,q,by
 cases b with
  |true=>exact h2 rfl F0 Hb F' H' σ own Q (a.grow g) λv F2 H2 g2 q2=>k v F2 H2 (g.trans g2) q2
  |false=>exact k _ F' H' g rfl⟩
theorem zo8 {tc:TT} {α:Type} {b:Bool} {x y:α} (f:α->Ds) (h:EvT Γ tc b) (h1:b=true->Ev Γ ta m (f x)) (h2:b=false->Ev Γ tb m (f y)):Ev Γ (tIf tc ta tb) m (f (bif b then x else y)):=λF0 Hb F H σ own Q a k=>h F0 Hb F H σ own _ a λF' H' g=>by
 cases b with
  |true=>exact h1 rfl F0 Hb F' H' σ own Q (a.grow g) λv F2 H2 g2 q2=>k v F2 H2 (g.trans g2) q2
  |false=>exact h2 rfl F0 Hb F' H' σ own Q (a.grow g) λv F2 H2 g2 q2=>k v F2 H2 (g.trans g2) q2
theorem zae:EvA Γ zgo m []:=λF0 Hb F H σ own Q a k=>k [] F H (Grow.refl a.fh) .nil
theorem zac {tr:TA} (h:Ev Γ ta m d) (h2:EvA Γ tr m ds):EvA Γ (zdj ta tr) m (d::ds):=λF0 Hb F H σ own Q a k=>h F0 Hb F H σ own _ a λv F1 H1 g1 q1=>h2 F0 Hb F1 H1 σ own _ (a.grow g1) λvs F2 H2 g2 q2=>k _ F2 H2 (g1.trans g2) (.cons (d.up (za8 g2.f) q1) q2)
theorem zcH {tr:TA} (h:EvA Γ tr m ds) (hz:ds.length≤sizeLine):EvO Γ (ztN tr) m ds:=λF0 Hb F H σ own Q a k=>h F0 Hb F H σ own _ a λvs F1 H1 g1 q1=>⟨by rw [Paired.length q1];exact hz,λp hp=>by
 obtain ⟨h1,h2,h3⟩:=a.free g1 hp
 exact k p vs F1 _ (g1.newH hp) h1 h2 zat q1⟩
theorem zgs {tr:TA} (h:EvA Γ tr m ds) (hz:ds.length≤sizeLine):Ev Γ (zuN tr) m (dT ds):=λF0 Hb F H σ own Q a k=>h F0 Hb F H σ own _ a λvs F1 H1 g1 q1=>⟨by rw [Paired.length q1];exact hz,λp hp=>by
 obtain ⟨h1,h2,h3⟩:=a.free g1 hp
 exact k (.ref p) _ _ (g1.new hp) ⟨p,vs,rfl,zep h3 zat,zdk (ds:=[]) (za8 (Same.new h2 _)) q1⟩⟩
theorem zbM {tr:TA} (h:EvA Γ tr m []):EvO Γ (ztN tr) m []:=zcH h (Nat.zero_le _)
theorem zgi {R:V->Ds->Prop} {vs:List V} {ds:List Ds} {i:Int} {d:Ds} (h:Paired R vs ds) (e:atI ds i=some d):∃v,atI vs i=some v∧R v d:=by
 unfold atI at e ⊢
 rw [Paired.length h]
 cases q:ixN ds.length i with
  |none=>rw [q] at e;cases e
  |some j=>
   rw [q] at e
   obtain ⟨v,e1,r⟩:=za2 h (show ds[j]? =some d from e)
   exact ⟨v,e1,r⟩
theorem znH {α β:Type} {f:α->β} {xs:List α} {i:Int} {x:α} (e:atI xs i=some x):atI (xs.map f) i=some (f x):=by
 unfold atI at e ⊢
 rw [List.length_map]
 cases q:ixN xs.length i with
  |none=>rw [q] at e;cases e
  |some j=>
   rw [q] at e
   have e':xs[j]? =some x:=e
   show (xs.map f)[j]? =_
   rw [List.getElem?_map,e']
   rfl
theorem zt2 {i:Int} (h1:Ev Γ ta m (dQ K ds)) (h2:Ev Γ tb false (dI i)) (e:atI ds i=some d):Ev Γ (tOp (zrf K) ta tb) m d:=λF0 Hb F H σ own Q a k=>h1 F0 Hb F H σ own _ a λu F1 H1 g1 ⟨p,vs,e1,e2,e3⟩=>h2 F0 Hb F1 H1 σ own _ (a.grow g1) λv F2 H2 g2 q2=>by
 obtain ⟨x,ex,rx⟩:=zgi e3 e
 exact ⟨p,vs,i,x,e1,q2,(za4.trans (g2.f.trans g2.fh)).seq e2,ex,k x F2 H2 (g1.trans g2) (d.up (za8 g2.f) rx)⟩
theorem zeA {i:Int} (h1:Ev Γ ta m (dT ds)) (h2:Ev Γ tb false (dI i)) (e:atI ds i=some d):Ev Γ (tOp (ztZ K) ta tb) m d:=λF0 Hb F H σ own Q a k=>h1 F0 Hb F H σ own _ a λu F1 H1 g1 ⟨p,vs,e1,e2,e3⟩=>h2 F0 Hb F1 H1 σ own _ (a.grow g1) λv F2 H2 g2 q2=>by
 obtain ⟨x,ex,rx⟩:=zgi e3 e
 exact ⟨p,vs,i,x,e1,q2,.inl (.inl ((za4.trans (g2.f.trans g2.fh)) _ _ e2)),ex,k x F2 H2 (g1.trans g2) (d.up (za8 g2.f) rx)⟩
theorem ztt {t:TE} (h1:Ev Γ t false (dQ K ds)):Ev Γ (tCB (λxs H Q=>∃p ys,xs=[.ref p]∧(SqL K H p ys∨SqT K H p ys)∧Q (.int ys.length) H) (zdj t zgo)) m (dI ds.length):=λF0 Hb F H σ own Q a k=>h1 F0 Hb F H σ own _ a λu F1 H1 g1 ⟨p,vs,e1,e2,e3⟩=>⟨p,vs,by rw [e1],.inl (g1.fh.seq e2),k _ F1 H1 g1 (by show V.int _=_;rw [Paired.length e3])⟩
theorem zhA {t:TE} (h1:Ev Γ t m (dQ K ds)):EvO Γ (tCB (λxs H Q=>∃p ys,xs=[.ref p]∧(SqL K H p ys∨SqT K H p ys)∧∀l,H l=none->Q (.ref l) (upd H l (.lst ys))) (zdj t zgo)) m ds:=λF0 Hb F H σ own Q a k=>h1 F0 Hb F H σ own _ a λu F1 H1 g1 ⟨p,vs,e1,e2,e3⟩=>⟨p,vs,by rw [e1],.inl ((za4.trans g1.fh).seq e2),λl hl=>by
 obtain ⟨h1,h2,h3⟩:=a.free g1 hl
 exact k l vs F1 _ (g1.newH hl) h1 h2 zat e3⟩
theorem zda:EvP Γ zoe none:=λF0 Hb F H σ own Q a k=>k F H (Grow.refl a.fh)
theorem zc8 {i:Int} (h:Ev Γ t false (dI i)):EvP Γ (zsX t) (some i):=λF0 Hb F H σ own Q a k=>h F0 Hb F H σ own _ a λv F' H' g q=>⟨i,q,k F' H' g⟩
def zcu {α:Type} (xs:List α) (lo hi:Option Int):List α:=(xs.drop (HT.sIx xs.length 0 lo)).take (HT.sIx xs.length xs.length hi-HT.sIx xs.length 0 lo)
theorem zoL {α β:Type} {f:α->β} {xs:List α} {lo hi:Option Int}:(zcu xs lo hi).map f=zcu (xs.map f) lo hi:=by unfold zcu;rw [List.map_take,List.map_drop,List.length_map]
theorem zr7 {tl th:TO} {lo hi:Option Int} (h1:Ev Γ t m (dQ K ds)) (h2:EvP Γ tl lo) (h3:EvP Γ th hi):EvO Γ (tSl (ztI K) t tl th) m (zcu ds lo hi):=λF0 Hb F H σ own Q a k=>h1 F0 Hb F H σ own _ a λu F1 H1 g1 ⟨p,vs,e1,e2,e3⟩=>h2 F0 Hb F1 H1 σ own _ (a.grow g1) λF2 H2 g2=>h3 F0 Hb F2 H2 σ own _ ((a.grow g1).grow g2) λF3 H3 g3=>⟨p,vs,e1,(za4.trans (g1.fh.trans (g2.h.trans g3.h))).seq e2,λl hl=>by
 have g:=g1.trans (g2.trans g3)
 obtain ⟨h1,h2,h3⟩:=a.free g hl
 refine k l _ F3 _ (g.newH hl) h1 h2 zat ?_
 unfold zsb zcu
 rw [Paired.length e3]
 exact zgP _ (zg1 _ (zdk (ds:=[]) (za8 (g2.f.trans g3.f)) e3))⟩
theorem zss {es:List Ds} (h1:Ev Γ ta m (dL ds)) (h2:Ev Γ tb m (dL es)) (hz:ds.length+es.length≤sizeLine):EvO Γ (tOp ztS ta tb) m (ds++es):=λF0 Hb F H σ own Q a k=>h1 F0 Hb F H σ own _ a λu F1 H1 g1 ⟨p,vs,e1,e2,e3⟩=>h2 F0 Hb F1 H1 σ own _ (a.grow g1) λv F2 H2 g2 ⟨q,ws,f1,f2,f3⟩=>⟨p,q,vs,ws,e1,f1,(za4.trans (g2.f.trans g2.fh)) _ _ e2,(za4.trans g2.fh) _ _ f2,by rw [Paired.length e3,Paired.length f3];exact hz,λl hl=>by
 have g:=g1.trans g2
 obtain ⟨h1,h2,h3⟩:=a.free g hl
 exact k l _ F2 _ (g.newH hl) h1 h2 zat (zcp (zdk (ds:=[]) (za8 g2.f) e3) f3)⟩
theorem zsV {n:Int} (h1:Ev Γ ta m (dL ds)) (h2:Ev Γ tb false (dI n)) (hn: -(2 ^ 63)≤n∧n<2 ^ 63) (hz:ds.length*n.toNat≤sizeLine):EvO Γ (tOp zt5 ta tb) m (List.replicate n.toNat ds).flatten:=λF0 Hb F H σ own Q a k=>h1 F0 Hb F H σ own _ a λu F1 H1 g1 ⟨p,vs,e1,e2,e3⟩=>h2 F0 Hb F1 H1 σ own _ (a.grow g1) λv F2 H2 g2 q2=>⟨p,n,vs,e1,q2,(za4.trans (g2.f.trans g2.fh)) _ _ e2,hn.1,hn.2,by rw [Paired.length e3];exact hz,λl hl=>by
 have g:=g1.trans g2
 obtain ⟨h1,h2,h3⟩:=a.free g hl
 exact k l _ F2 _ (g.newH hl) h1 h2 zat (zie (zdk (ds:=[]) (za8 g2.f) e3) _)⟩
theorem zrX {d:Ds} {b:Bool} (h1:Ev Γ ta false d) (h2:Ev Γ tb false dN) (hb:∀H v,d.pr H v->decide (v=V.non)=b):Ev Γ (tOp (λx y H Q=>y= .non∧Q (.bl (decide (x= .non))) H) ta tb) m (dB b):=λF0 Hb F H σ own Q a k=>h1 F0 Hb F H σ own _ a λu F1 H1 g1 q1=>h2 F0 Hb F1 H1 σ own _ (a.grow g1) λv F2 H2 g2 q2=>⟨q2,k _ F2 H2 (g1.trans g2) (by show V.bl _=_;rw [hb _ _ q1])⟩
theorem zp6 {d:Ds} {b:Bool} (h1:Ev Γ ta false d) (h2:Ev Γ tb false dN) (hb:∀H v,d.pr H v->decide (v=V.non)=b):Ev Γ (tOp (λx y H Q=>y= .non∧Q (.bl (!decide (x= .non))) H) ta tb) m (dB (!b)):=λF0 Hb F H σ own Q a k=>h1 F0 Hb F H σ own _ a λu F1 H1 g1 q1=>h2 F0 Hb F1 H1 σ own _ (a.grow g1) λv F2 H2 g2 q2=>⟨q2,k _ F2 H2 (g1.trans g2) (by show V.bl _=_;rw [hb _ _ q1])⟩
theorem zbq {f:α->V} {R:Hp} {xs:List α}:∀ {vs:List V},Paired (λv (d:Ds)=>d.pr R v) vs (xs.map λx=>dV (f x))->vs=xs.map f:=by
 induction xs with
  |nil=>intro vs h;cases h;rfl
  |cons x xs ih=>
   intro vs h;
   cases h with
    |cons h1 h2=>rw [ih h2,h1];rfl
theorem zpJ {xs:List Bool} {t:TE} (h1:Ev Γ t false (dQ K (xs.map dB))):Ev Γ (tCB (λxs H Q=>∃(a:Addr) (bs:List Bool),xs=[.ref a]∧SqL K H a (bs.map V.bl)∧Q (.bl (bs.all id)) H) (zdj t zgo)) m (dB (xs.all id)):=λF0 Hb F H σ own Q a k=>h1 F0 Hb F H σ own _ a λu F1 H1 g1 ⟨p,vs,e1,e2,e3⟩=>⟨p,xs,by rw [e1],by rw [←zbq e3];exact g1.fh.seq e2,k _ F1 H1 g1 rfl⟩
theorem zfY {H:Hp} {f:Str} {d:Ds}:∀ {vs:List (Str×V)} {fs:List (Str×Ds)},Paired (λ(a:Str×V) (b:Str×Ds)=>a.1=b.1∧b.2.pr H a.2) vs fs->fs.lookup f=some d->∃v,vs.lookup f=some v∧d.pr H v
 | _,_,.nil,e=>by cases e
 | _,_,.cons (a:=(x,v)) (b:=(y,d')) ⟨h1,h2⟩ t,e=>by
  have h1:x=y:=h1
  subst h1
  simp only [List.lookup_cons] at e ⊢
  cases q:f==x with
   |true=>rw [q] at e;cases e;exact ⟨v,rfl,h2⟩
   |false=>rw [q] at e;exact zfY t e
theorem zdg {C:Addr} {fs:List (Str×Ds)} {f:Str} (h1:Ev Γ ta m (dO C fs)) (c:Cls K C) (nf:NoAttr K C f) (e:fs.lookup f=some d):Ev Γ (tFld K ta f) m d:=λF0 Hb F H σ own Q a k=>h1 F0 Hb F H σ own _ a λu F1 H1 g1 ⟨p,dx,vs,e1,e2,e3,e4⟩=>by
 obtain ⟨v,ev,qv⟩:=zfY e4 e
 exact ⟨p,C,dx,vs,v,e1,(za4.trans g1.fh) _ _ e2,c,nf,ev,k v F1 H1 g1 qv⟩
inductive Rs where
 | va (m:Bool) (d:Ds)
 | ow (m:Bool) (ds:List Ds)
 | ex (C:Addr) (φ:Hp->Option Addr->Prop)
def Spv {ι:Type} (args:ι->List Ds) (pre:ι->Prop) (res:ι->Rs):Sp:=λvs H Q E=>∃(x:ι) (F:Hp),Same F H∧Paired (λv (d:Ds)=>d.pr F v) vs (args x)∧pre x∧match res x with| .ex C φ=>∀dct F' H',Grow F H F' H'->φ F' dct->E (.ref C) dct H'| .va m d=>∀v F' H',Grow F H F' H'->d.pr (zfp m F' H) v->Q v H'| .ow m ds=>∀p ws F' H',Grow F H F' H'->H p=none->F' p=none->H' p=some (.lst ws)->Paired (λv (d:Ds)=>d.pr (zfp m F' H) v) ws ds->Q (.ref p) H'
theorem zfE {m:Bool} {F Hb H:Hp} (e:Same Hb H):Same (zfp m F H) (zfp m F Hb):=by
 cases m with
  |true=>exact znA e
  |false=>exact Same.refl _
theorem zao {ι:Type} {args:ι->List Ds} {pre:ι->Prop} {res:ι->Rs} {tr:TA} {E:XK} (x:ι) (h:EvA Γ tr false ds) (ha:ds=args x) (hp:pre x) (hr:res x=.va m d):Ev Γ (tCall (Spv args pre res) [] E tr) m d:=λF0 Hb F H σ own Q a k=>by
 subst ha
 refine h F0 Hb F H σ own _ a λvs F1 H1 g1 q1=>⟨x,F1,g1.fh,by rw [List.append_nil];exact q1,hp,?_⟩
 rw [hr]
 exactλv F' H' g q=>k v F' H' (g1.trans g) (d.up (zfE (a.g.h.trans g1.h)) q)
theorem zce {ι:Type} {args:ι->List Ds} {pre:ι->Prop} {res:ι->Rs} {tr:TA} {E:XK} (x:ι) (h:EvA Γ tr false es) (ha:es=args x) (hp:pre x) (hr:res x=.ow m ds):EvO Γ (tCall (Spv args pre res) [] E tr) m ds:=λF0 Hb F H σ own Q a k=>by
 subst ha
 refine h F0 Hb F H σ own _ a λvs F1 H1 g1 q1=>⟨x,F1,g1.fh,by rw [List.append_nil];exact q1,hp,?_⟩
 rw [hr]
 exactλp ws F' H' g h1 h2 h3 q=>k p ws F' H' (g1.trans g) (g1.h.free h1) h2 h3 (zdk (ds:=[]) (zfE (a.g.h.trans g1.h)) q)
end
end L2
namespace L2
open PySem PySem.Spec PyProof.Rows
def ztQ:List Nat->List V->St->St
 | j :: js,v :: vs,σ=>ztQ js vs (σ.set j (some v))
 | _,_,σ=>σ
def zok:List Nat->List Ds->Bool->Ctx->Ctx
 | j :: js,d :: ds,m,Γ=>zok js ds m (Γ.set j (.va m d))
 | _,_,_,Γ=>Γ
theorem At.setMany {F0 Hb F H:Hp} {own:Nat->Option Addr} {m:Bool}:∀ {js:List Nat} {vs:List V} {ds:List Ds} {σ:St} {Γ:Ctx},At F0 Hb F H σ own Γ->Paired (λv (d:Ds)=>d.pr (zfp m F Hb) v) vs ds→At F0 Hb F H (ztQ js vs σ) own (zok js ds m Γ)
 | [],_,_,_,_,a,.nil=>a
 | [],_,_,_,_,a,.cons _ _=>a
 | _ :: _,_,_,_,_,a,.nil=>a
 | j :: js,_,_,_,_,a,.cons h t=>At.setMany (js:=js) (a.set j h) t
theorem At.unset {F0 Hb F H:Hp} {own:Nat->Option Addr} {σ:St} {Γ:Ctx} {j:Nat} {s:Slot} (a:At F0 Hb F H σ own (Γ.set j s)) (h:Γ[j]?=some .no):At F0 Hb F H σ own Γ :=
 ⟨a.g,a.inj,a.liv,λi r e=>by
  by_cases z:j=i
  ·subst z;rw [h] at e;cases e;trivial
  ·exact a.sl i r (by rw [List.getElem?_set_ne z];exact e),by rw [a.len];simp⟩
theorem At.unsetMany {F0 Hb F H:Hp} {own:Nat->Option Addr} {σ:St} {m:Bool}:∀ {js:List Nat} {ds:List Ds} {Γ:Ctx},At F0 Hb F H σ own (zok js ds m Γ)->(∀j∈js,Γ[j]? =some .no)->js.Nodup->At F0 Hb F H σ own Γ
 | [],[],_,a,_,_=>a
 | [],_ :: _,_,a,_,_=>a
 | _ :: _,[],_,a,_,_=>a
 | j :: js,d :: ds,Γ,a,h,hn=>by
  have hn:=List.nodup_cons.mp hn
  refine At.unset (At.unsetMany (js:=js) (ds:=ds) (Γ:=Γ.set j (.va m d)) a (λi hi=> ?_) hn.2) (h j List.mem_cons_self)
  rw [List.getElem?_set_ne (λ(z:j=i)=>hn.1 (by rw [z];exact hi))]
  exact h i (List.mem_cons_of_mem _ hi)
def zsG {γ:Type} (Hb F:Hp) (J:It) (g:TG) (js:List Nat) (xs:List γ) (bds:γ->List Ds) (m:Bool):Prop:=∀H,Same F H->J.stop xs.length H∧∀i x,xs[i]? =some x->J.go i H∧∀v H',J.yld i H v H'->Grow F H F H'∧∀(σ:St) (Q:St->Hp->Prop),(∀vs,Paired (λv (d:Ds)=>d.pr (zfp m F Hb) v) vs (bds x)->Q (ztQ js vs σ) H')->g v σ H' Q
def Iv {γ:Type} (Γ:Ctx) (wi:TI) (g:TG) (js:List Nat) (xs:List γ) (bds:γ->List Ds) (m:Bool):Prop:=∀(F0 Hb F H:Hp) (σ:St) (own:Nat->Option Addr) (R:It->Hp->Prop),At F0 Hb F H σ own Γ→(∀J F' H',Grow F H F' H'->zsG Hb F' J g js xs bds m->R J H')->wi σ H R
section
variable {Γ:Ctx} {m:Bool} {K:W.Frag} {γ δ:Type}
theorem zsG.up {Hb F F':Hp} {J:It} {g:TG} {js:List Nat} {xs:List γ} {bds:γ->List Ds} (h:zsG Hb F J g js xs bds m) (e:Same F F'):zsG Hb F' J g js xs bds m:=λH hs=>by
 obtain ⟨h1,h2⟩:=h H (e.trans hs)
 refine ⟨h1,λi x ex=> ?_⟩
 obtain ⟨h3,h4⟩:=h2 i x ex
 refine ⟨h3,λv H' y=> ?_⟩
 obtain ⟨h5,h6⟩:=h4 v H' y
 exact ⟨⟨Same.refl _,hs.trans h5.h,h5.h,λ_ _ z=>z⟩,λσ Q k=>h6 σ Q λvs q=>k vs (zdk (ds:=[]) (za8 e) q)⟩
theorem zcQ {tl:TE} {j:Nat} {xs:List γ} (f:γ->Ds) (h:Ev Γ tl m (dQ K (xs.map f))):Iv Γ (zo2 K tl) (zds j) [j] xs (λx=>[f x]) m:=λF0 Hb F H σ own R a k=>h F0 Hb F H σ own _ a λu F1 H1 g1 ⟨p,vs,e1,e2,e3⟩=>by
 have e2':SqL K F1 p vs:=za4.seq e2
 refine ⟨p,e1,⟨vs,g1.fh.seq e2'⟩,k _ F1 H1 g1 λH hs=>⟨⟨vs,hs.seq e2',by rw [Paired.length e3,List.length_map];exact Nat.le_refl _⟩,λi x ex=> ?_⟩⟩
 obtain ⟨v,ev,qv⟩:=za2 e3 (show (xs.map f)[i]? =some (f x) by rw [List.getElem?_map,ex];rfl)
 refine ⟨⟨vs,v,hs.seq e2',ev⟩,λw H' y=> ?_⟩
 obtain ⟨rfl,y⟩:=y
 have:=y vs (hs.seq e2')
 rw [ev] at this
 cases this
 exact ⟨Grow.refl hs,λσ Q k=>k [v] (.cons qv .nil)⟩
theorem zop {tl:TE} {j1 j2:Nat} {xs:List γ} (f1 f2:γ->Ds) (h:Ev Γ tl m (dQ K (xs.map λx=>dT [f1 x,f2 x]))):Iv Γ (zo2 K tl) (zrM K 2 (ziK (zds j1) (ziK (zds j2) zs3))) [j1,j2] xs (λx=>[f1 x,f2 x]) m:=λF0 Hb F H σ own R a k=>h F0 Hb F H σ own _ a λu F1 H1 g1 ⟨p,vs,e1,e2,e3⟩=>by
 have e2':SqL K F1 p vs:=za4.seq e2
 refine ⟨p,e1,⟨vs,g1.fh.seq e2'⟩,k _ F1 H1 g1 λH hs=>⟨⟨vs,hs.seq e2',by rw [Paired.length e3,List.length_map];exact Nat.le_refl _⟩,λi x ex=> ?_⟩⟩
 obtain ⟨v,ev,qv⟩:=za2 e3 (show (xs.map λx=>dT [f1 x,f2 x])[i]? =some (dT [f1 x,f2 x]) by rw [List.getElem?_map,ex];rfl)
 refine ⟨⟨vs,v,hs.seq e2',ev⟩,λw H' y=> ?_⟩
 obtain ⟨rfl,y⟩:=y
 have:=y vs (hs.seq e2')
 rw [ev] at this
 cases this
 obtain ⟨q,ws,rfl,hq,qq⟩:=qv
 refine ⟨Grow.refl hs,λσ Q k=> ?_⟩
 cases qq with
  |cons q1 t=>
   cases t with
    |cons q2 t=>cases t;exact ⟨q,_,rfl,.inl (.inl ((za4.trans hs) _ _ hq)),rfl,_,_,rfl,_,_,rfl,rfl,k _ (.cons q1 (.cons q2 .nil))⟩
def zcY (lo:Int) (n:Nat):Ji:=(List.range n).map λ(i:Nat)=>lo+(i:Int)
theorem zlM {lo:Int} {n:Nat}:(zcY lo n).length=n:=by simp [zcY]
theorem zbe {lo:Int} {n i:Nat} {x:Int} (h:(zcY lo n)[i]? =some x):i<n∧x=lo+i:=by
 unfold zcY at h
 rw [List.getElem?_map] at h
 by_cases z:i<n
 ·
  rw [List.getElem?_range z] at h
  exact ⟨z,(Option.some.inj h).symm⟩
 ·rw [List.getElem?_eq_none (by simp;omega)] at h;cases h
theorem zsr {Hb F:Hp} {lo:Int} {n j:Nat}:zsG Hb F (Itr lo n) (zds j) [j] (zcY lo n) (λx=>[dI x]) m:=λH hs=>⟨by show n≤_;rw [zlM];exact Nat.le_refl _,λi x ex=>by
 obtain ⟨hi,rfl⟩:=zbe ex
 refine ⟨hi,λv H' y=> ?_⟩
 obtain ⟨rfl,rfl⟩:=y
 exact ⟨Grow.refl hs,λσ Q k=>k [_] (.cons rfl .nil)⟩⟩
theorem zgZ {t:TE} {j:Nat} {n:Int} (h:Ev Γ t false (dI n)) (hn: -(2 ^ 62)≤n∧n<2 ^ 62):Iv Γ (zsd (zdj t zgo)) (zds j) [j] (zcY 0 n.toNat) (λx=>[dI x]) m:=λF0 Hb F H σ own R a k=>h F0 Hb F H σ own _ a λu F1 H1 g1 q1=>⟨n,by rw [q1],hn.1,hn.2,k _ F1 H1 g1 zsr⟩
theorem zgf {α β:Type} {xs:List α} {ys:List β} {i:Nat} {p:α×β} (h:(xs.zip ys)[i]? =some p):xs[i]? =some p.1∧ys[i]? =some p.2:=by rw [List.getElem?_zip_eq_some] at h;exact h
theorem zkL {ta tb:TE} {j1 j2:Nat} {xs:List γ} {ys:List δ} (f1:γ->Ds) (f2:δ->Ds) (h1:Ev Γ ta m (dQ K (xs.map f1))) (h2:Ev Γ tb m (dQ K (ys.map f2))) :
  Iv Γ (zun K (zdj ta (zdj tb zgo))) (zrM K 2 (ziK (zds j1) (ziK (zds j2) zs3))) [j1,j2] (xs.zip ys) (λx=>[f1 x.1,f2 x.2]) m:=λF0 Hb F H σ own R a k=>h1 F0 Hb F H σ own _ a λu F1 H1 g1 ⟨p,vs,e1,e2,e3⟩=>h2 F0 Hb F1 H1 σ own _ (a.grow g1) λu' F2 H2 g2 ⟨q,ws,d1,d2,d3⟩=>by
   have e2':SqL K F2 p vs:=g2.f.seq (za4.seq e2)
   have d2':SqL K F2 q ws:=za4.seq d2
   have e3':=zdk (ds:=[]) (za8 (m:=m) (Hb:=Hb) g2.f) e3
   have le:=Paired.length e3
   have ld:=Paired.length d3
   rw [List.length_map] at le ld
   refine ⟨p,q,by rw [e1,d1],⟨vs,g2.fh.seq e2'⟩,⟨ws,g2.fh.seq d2'⟩,k _ F2 H2 (g1.trans g2) λH hs=>⟨⟨vs,ws,hs.seq e2',hs.seq d2',by rw [le,ld,List.length_zip];omega⟩,λi x ex=> ?_⟩⟩
   obtain ⟨x1,x2⟩:=zgf ex
   obtain ⟨v,ev,qv⟩:=za2 e3' (show (xs.map f1)[i]? =some (f1 x.1) by rw [List.getElem?_map,x1];rfl)
   obtain ⟨w,ew,qw⟩:=za2 d3 (show (ys.map f2)[i]? =some (f2 x.2) by rw [List.getElem?_map,x2];rfl)
   refine ⟨⟨vs,ws,v,w,hs.seq e2',hs.seq d2',ev,ew⟩,λz H' y=> ?_⟩
   obtain ⟨r,x',y',rfl,hr,rfl,hxy⟩:=y
   obtain ⟨hx,hy⟩:=hxy vs ws (hs.seq e2') (hs.seq d2')
   rw [ev] at hx;
   rw [ew] at hy
   cases hx;
   cases hy
   exact ⟨(Grow.refl hs).newH hr,λσ Q k=>⟨r,_,rfl,.inl (.inl zat),rfl,_,_,rfl,_,_,rfl,rfl,k [v,w] (.cons qv (.cons qw .nil))⟩⟩
def ztG:Option Slot->Slot
 | some (.va m d)=>.va m d
 | _=>.no
def zmS (own:Nat) (fv:List Nat) (Γ:Ctx):Ctx:=List.replicate own .no++fv.map λi=>ztG Γ[i]?
theorem At.block {F0 Hb F H:Hp} {own:Nat->Option Addr} {σ:St} (a:At F0 Hb F H σ own Γ) (k:Nat) (fv:List Nat):At F0 Hb F H (zgL k fv σ) (λ_=>none) (zmS k fv Γ):=by
 refine ⟨a.g,λ_ _ _ h=>(by cases h),λ_ _ h=>(by cases h),λi s e=> ?_,?_⟩
 ·
  unfold zmS at e
  unfold zgL
  by_cases hi:i<k
  ·
   rw [List.getElem?_append_left (by simpa using hi),List.getElem?_replicate,if_pos hi] at e
   cases e;
   trivial
  ·
   rw [List.getElem?_append_right (by simpa using hi),List.length_replicate,List.getElem?_map] at e
   rw [List.getElem?_append_right (by simpa using hi),List.length_replicate,List.getElem?_map]
   cases q:fv[i-k]? with
    |none=>rw [q] at e;cases e
    |some j=>
     rw [q] at e
     have e':ztG Γ[j]? =s:=Option.some.inj e
     subst e'
     show zeV Hb F H (λ_=>none) _ ((σ[j]?).join) (ztG Γ[j]?)
     cases z:Γ[j]? with
      |none=>trivial
      |some r=>
       cases r with
        |no=>trivial
        |va m d=>exact (show zeV Hb F H own j _ (.va m d) from a.sl j _ z)
        |ow m ds=>trivial
        |ob m C p dx fs=>trivial
        |ol p ds=>trivial
        |tl d=>trivial
 ·unfold zgL zmS;simp
theorem zrn {k:Nat} {fv:List Nat} {j:Nat} {d:Ds} (e:(zmS k fv Γ)[j]? =some (.tl d)):False:=by
 unfold zmS at e
 have:=List.mem_of_getElem? e
 rcases List.mem_append.mp this with q|q
 ·cases (List.mem_replicate.mp q).2
 ·
  obtain ⟨l,_,q⟩:=List.mem_map.mp q
  unfold ztG at q
  split at q<;>cases q
theorem zoy:EvT Γ zqU true:=λF0 Hb F H σ own Q a k=>k F H (Grow.refl a.fh)
theorem zmJ {xs:List γ} {i:Nat} {x:γ} (h:xs[i]?=some x):xs.take (i+1)=xs.take i++[x]:=by rw [List.take_succ,h];rfl
theorem zof {own:Nat} {fv:List Nat} {wi:TI} {tg:TG} {tt:TTs} {te:TE} {js:List Nat} {xs:List γ} {bds:γ->List Ds} {mi:Bool} {c:γ->Bool} {g:γ->Ds} (it:Iv Γ wi tg js xs bds mi) (hz:xs.length≤sizeLine) (hj:(∀j∈js,j<own)∧js.Nodup)
  (ht:∀(i:Nat) (x:γ),xs[i]? =some x->EvT (zok js (bds x) mi (zmS own fv Γ)) tt (c x)) (he:∀(i:Nat) (x:γ),xs[i]? =some x->c x=true->Ev (zok js (bds x) mi (zmS own fv Γ)) te m (g x)):EvO Γ (zpg own fv wi tg tt te) m ((xs.filter c).map g):=λF0 Hb F H σ ow Q a k=>it F0 Hb F H σ ow _ a λJ F1 H1 g1 ok D hD=>by
   have hno:∀j∈js,(zmS own fv Γ)[j]? =some .no:=λj hj'=>by
    have:=hj.1 j hj'
    unfold zmS
    rw [List.getElem?_append_left (by simpa using this),List.getElem?_replicate,if_pos this]
   obtain ⟨hD0,hDF,hDb⟩:=a.free g1 hD
   refine ⟨λi mm ys σb H2=>mm=xs.length-i∧i≤xs.length∧ys.length≤i∧∃F2,Grow F1 H1 F2 H2∧F2 D=none∧H2 D=some (.lst ys)∧Paired (λv (d:Ds)=>d.pr (zfp m F2 Hb) v) ys (((xs.take i).filter c).map g)∧At F0 Hb F2 H2 σb (λ_=>none) (zmS own fv Γ),⟨_,rfl,Nat.zero_le _,Nat.zero_le _,F1,(Grow.refl g1.fh).newH hD,hDF,zat,by simpa using Paired.nil,((a.grow g1).block own fv).grow ((Grow.refl g1.fh).newH hD)⟩,?_⟩
   rintro i mm ys σb H2 ⟨rfl,hi,hy,F2,g2,hF2,hH2,hP,a2⟩
   refine ⟨hH2,?_⟩
   obtain ⟨hstop,hitem⟩:=ok.up g2.f H2 g2.fh
   by_cases hlt:i<xs.length
   ·
    obtain ⟨go,yl⟩:=hitem i xs[i] (List.getElem?_eq_getElem hlt)
    refine .inr ⟨go,λx H' y=> ?_⟩
    obtain ⟨g3,bind⟩:=yl x H' y
    refine bind σb _ λvs hvs=> ?_
    have a3:=(a2.grow g3).setMany (js:=js) hvs
    have hx:xs[i]? =some xs[i]:=List.getElem?_eq_getElem hlt
    refine ht i _ hx F0 Hb F2 H' _ _ _ a3 λF4 H4 g4=> ?_
    have tk:=zmJ hx
    have gD:∀ {F5 H5:Hp},Grow F2 H2 F5 H5->F5 D=none∧H5 D=some (.lst ys):=λg=>⟨g.no D (by rw [hH2];simp) hF2,g.h _ _ hH2⟩
    cases hc:c xs[i] with
     |true=>
      rw [if_pos rfl]
      refine he i _ hx hc F0 Hb F4 H4 _ _ _ (a3.grow g4) λv F5 H5 g5 q5=> ?_
      have g25:=g3.trans (g4.trans g5)
      obtain ⟨n1,n2⟩:=gD g25
      have sD:Same H5 H5:=Same.refl _
      have n3:H1 D=none:=hD
      refine ⟨n2,by omega,xs.length-(i+1),by omega,rfl,hlt,by simp;omega,F5,?_,n1,zat,?_,?_⟩
      ·exact (g2.trans g25).setH n1 n3
      ·
       rw [tk,List.filter_append,List.map_append]
       refine zcp (zdk (ds:=[]) (za8 g25.f) hP) ?_
       rw [List.filter_cons,hc]
       exact .cons q5 .nil
      ·
       have a5:=((a3.grow g4).grow g5).unsetMany hno hj.2
       refine ⟨a5.g.setH n1 hDb,a5.inj,λ_ _ h=>(nomatch h),λj s es=> ?_,a5.len⟩
       ·
        have:=a5.sl j s es
        cases s with
         |no=>trivial
         |va m d=>exact this
         |ow m ds=>obtain ⟨_,_,_,h,_⟩:=this;exact (nomatch h)
         |ob m C p dx fs=>obtain ⟨_,_,h,_⟩:=this;exact (nomatch h)
         |ol p ds=>obtain ⟨_,_,h,_⟩:=this;exact (nomatch h)
         |tl d=>exact (zrn es).elim
     |false=>
      rw [if_neg Bool.false_ne_true]
      have g25:=g3.trans g4
      obtain ⟨n1,n2⟩:=gD g25
      refine ⟨xs.length-(i+1),by omega,rfl,hlt,by omega,F4,g2.trans g25,n1,n2,?_,(a3.grow g4).unsetMany hno hj.2⟩
      rw [tk,List.filter_append,List.map_append,List.filter_cons,hc]
      simpa using zdk (ds:=[]) (za8 g25.f) hP
   ·
    have e:i=xs.length:=by omega
    subst e
    rw [List.take_length] at hP
    exact .inl ⟨hstop,k D ys F2 H2 (g1.trans g2) hD0 hF2 hH2 hP⟩
theorem zdQ {own:Nat} {fv:List Nat} {wi:TI} {tg:TG} {te:TE} {js:List Nat} {xs:List γ} {bds:γ->List Ds} {mi:Bool} {g:γ->Ds} (it:Iv Γ wi tg js xs bds mi) (hz:xs.length≤sizeLine) (hj:(∀j∈js,j<own)∧js.Nodup)
  (he:∀(i:Nat) (x:γ),xs[i]? =some x->Ev (zok js (bds x) mi (zmS own fv Γ)) te m (g x)):EvO Γ (zpg own fv wi tg zqU te) m (xs.map g):=by
   have:=zof (c:=λ_=>true) it hz hj (λ_ _ _=>zoy) (λi x hx _=>he i x hx)
   rwa [show xs.filter (λ_=>true)=xs from List.filter_eq_self.mpr λ_ _=>rfl] at this
end
inductive Oc where
 | nx (Γ:Ctx)
 | rt (m:Bool) (d:Ds)
 | rl (m:Bool) (ds:List Ds)
 | bk (Γ:Ctx)
 | ct (Γ:Ctx)
 | ex (C:Addr) (φ:Hp->Option Addr->Prop) (Γ:Ctx)
 | rw (Γ:Ctx) (d:Ds)
def zgA (E:XS) (F0 Hb:Hp) (D:Ends):Oc->Prop
 | .ex C φ Γ=>∀dct F H σ own,At F0 Hb F H σ own Γ->φ F dct->E σ (.ref C) dct H
 | .rw Γ d=>∀v F H σ own,At F0 Hb F H σ own Γ->d.pr F v->D.rt v H
 | .nx Γ=>∀F H σ own,At F0 Hb F H σ own Γ->D.nx σ H
 | .bk Γ=>∀F H σ own,At F0 Hb F H σ own Γ->D.bk σ H
 | .ct Γ=>∀F H σ own,At F0 Hb F H σ own Γ->D.ct σ H
 | .rt m d=>∀v F H,Grow F0 Hb F H->d.pr (zfp m F Hb) v->D.rt v H
 | .rl m ds=>∀p vs F H,Grow F0 Hb F H->Hb p=none->F p=none->H p=some (.lst vs)->Paired (λv (d:Ds)=>d.pr (zfp m F Hb) v) vs ds->D.rt (.ref p) H
def Run (E:XS) (Γ:Ctx) (t:TS) (o:Oc):Prop:=∀(F0 Hb F H:Hp) (σ:St) (own:Nat->Option Addr) (D:Ends),At F0 Hb F H σ own Γ->zgA E F0 Hb D o->t D σ H
def Let {α:Type} {β:Type} (a:α) (k:α->β):β:=k a
def zcm {σ:Type} {γ:Type} {β:Type} (f:σ->γ->σ⊕β):σ->List γ->σ⊕β
 | s,[]=>.inl s
 | s,x :: xs=>match f s x with| .inl s'=>zcm f s' xs| .inr b=> .inr b
section
variable {E:XS} {Γ Δ:Ctx} {m:Bool} {K:W.Frag} {γ β:Type} {te:TE} {t u:TS} {d:Ds} {ds:List Ds} {o:Oc} {i:Nat}
theorem zaD (w:Wk Γ Δ):Run E Γ zqv (.nx Δ):=λF0 Hb F H σ own D a k=>k F H σ own (a.wk w)
theorem zaK (h:Ev Γ te m d):Run E Γ (zmn te) (.rt m d):=λF0 Hb F H σ own D a k=>h F0 Hb F H σ own _ a λv F' H' g q=>k v F' H' (a.g.trans g) q
theorem zgD (h:EvO Γ te m ds):Run E Γ (zmn te) (.rl m ds):=λF0 Hb F H σ own D a k=>h F0 Hb F H σ own _ a λp vs F' H' g h1 h2 h3 q=>k p vs F' H' (a.g.trans g) (a.g.h.free h1) h2 h3 q
theorem zh8 (e:Γ[i]? =some (.ow m ds)):Run E Γ (zmn (zhX i)) (.rl m ds):=λF0 Hb F H σ own D a k=>by
 obtain ⟨p,vs,e1,e2,e3,e4,e5,e6⟩:=a.sl i _ e
 have hi:i<σ.length:=by rw [a.len];exact (List.getElem?_eq_some_iff.mp e).1
 rw [List.getElem?_eq_getElem hi] at e1
 have e':σ[i]=some (.ref p):=e1
 exact ⟨_,by rw [List.getElem?_eq_getElem hi,e'],k p vs F H a.g e4 e3 e5 e6⟩
theorem zg3 (h:Run E Γ (zmn te) o) (ho:∀F0 Hb D D',D.rt=D'.rt->zgA E F0 Hb D o->zgA E F0 Hb D' o):Run E Γ (zdD (zmn te) u) o:=λF0 Hb F H σ own D a k=>h F0 Hb F H σ own _ a (ho F0 Hb D {D with nx:=u D} rfl k)
theorem zan (h:Run E Γ (zmn te) (.rt m d)):Run E Γ (zdD (zmn te) u) (.rt m d):=zg3 h λ_ _ _ _ e q v F H g p=>e ▸ q v F H g p
theorem zdv (h:Run E Γ (zmn te) (.rl m ds)):Run E Γ (zdD (zmn te) u) (.rl m ds):=zg3 h λ_ _ _ _ e q p vs F H g h1 h2 h3 h4=>e ▸ q p vs F H g h1 h2 h3 h4
theorem zcE (h:Ev Γ te m d) (k:Run E (Γ.set i (.va m d)) u o):Run E Γ (zdD (zl9 te (zds i)) u) o:=λF0 Hb F H σ own D a q=>h F0 Hb F H σ own _ a λv F' H' g p=>k F0 Hb F' H' _ own D ((a.grow g).set i p) q
theorem zdr (h:EvO Γ te m ds) (k:Run E (Γ.set i (.ow m ds)) u o):Run E Γ (zdD (zl9 te (zds i)) u) o:=λF0 Hb F H σ own D a q=>h F0 Hb F H σ own _ a λp vs F' H' g h1 h2 h3 h4=>k F0 Hb F' H' _ _ D (a.setOwn g i h1 h2 h3 h4) q
theorem zaC {α:Type} {x:α} (f:α->Ds) (fo:β->Oc) {kk:α->β} (h:Ev Γ te m (f x)) (k:∀y,y=x->Run E (Γ.set i (.va m (f y))) u (fo (kk y))):Run E Γ (zdD (zl9 te (zds i)) u) (fo (Let x kk)):=zcE h (k x rfl)
theorem zkJ {α:Type} {x:α} (f:α->List Ds) (fo:β->Oc) {kk:α->β} (h:EvO Γ te m (f x)) (k:∀y,y=x->Run E (Γ.set i (.ow m (f y))) u (fo (kk y))):Run E Γ (zdD (zl9 te (zds i)) u) (fo (Let x kk)):=zdr h (k x rfl)
theorem zeZ (h:Ev Γ te m d) (k:Run E Γ u o):Run E Γ (zdD (zjo te) u) o:=λF0 Hb F H σ own D a q=>h F0 Hb F H σ own _ a λv F' H' g p=>k F0 Hb F' H' σ own D (a.grow g) q
theorem zcX (e:Γ[i]? =some (.ow m ds)) (k:Run E (Γ.set i (.va m (dL ds))) t o):Run E Γ t o:=λF0 Hb F H σ own D a q=>by
 obtain ⟨F',own',_,a'⟩:=a.share e
 exact k F0 Hb F' H σ own' D a' q
theorem zsj (w:Wk Γ Δ) (k:Run E Δ t o):Run E Γ t o:=λF0 Hb F H σ own D a q=>k F0 Hb F H σ own D (a.wk w) q
theorem zb9 {α:Type} {tc:TT} {b:Bool} {x y:α} {r:TS} (fo:α->Oc) (h:EvT Γ tc b) (h1:b=true->Run E Γ (zdD t r) (fo x)) (h2:b=false->Run E Γ (zdD u r) (fo y)):Run E Γ (zdD (zrN tc t u) r) (fo (bif b then x else y)):=λF0 Hb F H σ own D a q=>h F0 Hb F H σ own _ a λF' H' g=>by
 cases b with
  |true=>rw [if_pos rfl];exact h1 rfl F0 Hb F' H' σ own D (a.grow g) q
  |false=>rw [if_neg Bool.false_ne_true];exact h2 rfl F0 Hb F' H' σ own D (a.grow g) q
theorem zcD {tc:TT} {r:TS} (h:EvT Γ tc true) (h1:Run E Γ (zdD t r) o):Run E Γ (zdD (zrN tc t u) r) o:=λF0 Hb F H σ own D a q=>h F0 Hb F H σ own _ a λF' H' g=>by rw [if_pos rfl];exact h1 F0 Hb F' H' σ own D (a.grow g) q
theorem zaA {tc:TT} {r:TS} (h:EvT Γ tc false) (h1:Run E Γ (zdD u r) o):Run E Γ (zdD (zrN tc t u) r) o:=λF0 Hb F H σ own D a q=>h F0 Hb F H σ own _ a λF' H' g=>by rw [if_neg Bool.false_ne_true];exact h1 F0 Hb F' H' σ own D (a.grow g) q
theorem zdq {tc:TT} {b:Bool} {r:TS} (G:Bool->Ctx) (h:EvT Γ tc b) (h1:b=true->Run E Γ t (.nx (G true))) (h2:b=false->Run E Γ u (.nx (G false))) (k:Run E (G b) r o):Run E Γ (zdD (zrN tc t u) r) o:=λF0 Hb F H σ own D a q=>h F0 Hb F H σ own _ a λF' H' g=>by
 cases b with
  |true=>rw [if_pos rfl];exact h1 rfl F0 Hb F' H' σ own _ (a.grow g) λF H σ own a'=>k F0 Hb F H σ own D a' q
  |false=>rw [if_neg Bool.false_ne_true];exact h2 rfl F0 Hb F' H' σ own _ (a.grow g) λF H σ own a'=>k F0 Hb F H σ own D a' q
theorem zak (k:Run E Γ u o):Run E Γ (zdD zqv u) o:=λF0 Hb F H σ own D a q=>k F0 Hb F H σ own D a q
theorem zkB {Δ:Ctx} (h:Run E Γ t (.nx Δ)) (k:Run E Δ u o):Run E Γ (zdD t u) o:=λF0 Hb F H σ own D a q=>h F0 Hb F H σ own _ a λF H σ own a'=>k F0 Hb F H σ own D a' q
theorem zaH {r:TS} (h:Run E Γ (zdD t (zdD u r)) o):Run E Γ (zdD (zdD t u) r) o:=λF0 Hb F H σ own D a q=>h F0 Hb F H σ own D a q
theorem zg5 {F0 Hb F H:Hp} {σ:St} {own:Nat->Option Addr} (a:At F0 Hb F H σ own Γ) (e:Γ[i]? =some (.ow m ds)) :
  ∃p vs,σ[i]? =some (some (.ref p))∧own i=some p∧F p=none∧Hb p=none∧H p=some (.lst vs)∧Paired (λv (d:Ds)=>d.pr (zfp m F Hb) v) vs ds:=by
   obtain ⟨p,vs,e1,e2,e3,e4,e5,e6⟩:=a.sl i _ e
   have hi:i<σ.length:=by rw [a.len];exact (List.getElem?_eq_some_iff.mp e).1
   rw [List.getElem?_eq_getElem hi] at e1
   have e':σ[i]=some (.ref p):=e1
   exact ⟨p,vs,by rw [List.getElem?_eq_getElem hi,e'],e2,e3,e4,e5,e6⟩
theorem zmk {te:TE} (e:Γ[i]? =some (.ow m ds)) (h:Ev Γ te m d) (hz:ds.length<sizeLine) (k:Run E (Γ.set i (.ow m (ds++[d]))) u o):Run E Γ (zdD (zjo (tBM K "list" zf9 (zhX i) (zdj te zgo))) u) o:=λF0 Hb F H σ own D a q=>by
 obtain ⟨p,vs,e1,e2,e3,e4,e5,e6⟩:=zg5 a e
 refine ⟨_,e1,.inl ⟨rfl,_,SqL.of e5⟩,?_⟩
 refine h F0 Hb F H σ own _ a λv F' H' g qv=> ?_
 obtain ⟨p',vs',f1,f2,f3,f4,f5,f6⟩:=zg5 (a.grow g) e
 rw [e1] at f1
 cases f1
 exact ⟨p,vs',v,rfl,rfl,f5,by rw [Paired.length f6];exact hz,k F0 Hb F' _ σ own D ((a.grow g).turn e e1 (zcp f6 (.cons qv .nil))) q⟩
theorem zor {tb:TE} {n:Bool} {j:Int} (e:Γ[i]? =some (.ow m ds)) (h2:Ev Γ tb false (dI j)) (ej:atI ds j=some d):Ev Γ (tOp (zrf K) (zhX i) tb) m d:=λF0 Hb F H σ own Q a k=>by
 obtain ⟨p,vs,e1,e2,e3,e4,e5,e6⟩:=zg5 a e
 refine ⟨_,e1,h2 F0 Hb F H σ own _ a λv F' H' g qv=> ?_⟩
 obtain ⟨x,ex,rx⟩:=zgi e6 ej
 exact ⟨p,vs,j,x,rfl,qv,SqL.of (g.h _ _ e5),ex,k x F' H' g (d.up (za8 g.f) rx)⟩
theorem zmq {te tj:TE} {j:Int} {n:Nat} (e:Γ[i]? =some (.ow m ds)) (h:Ev Γ te m d) (hj:Ev Γ tj false (dI j)) (ej:ixN ds.length j=some n) (k:Run E (Γ.set i (.ow m (ds.set n d))) u o):Run E Γ (zdD (zl9 te (ztO (zhX i) tj zoz)) u) o:=λF0 Hb F H σ own D a q=>by
 refine h F0 Hb F H σ own _ a λv F' H' g qv=> ?_
 obtain ⟨p,vs,e1,e2,e3,e4,e5,e6⟩:=zg5 (a.grow g) e
 refine ⟨_,e1,hj F0 Hb F' H' σ own _ (a.grow g) λw F2 H2 g2 qw=> ?_⟩
 obtain ⟨p',vs',f1,f2,f3,f4,f5,f6⟩:=zg5 ((a.grow g).grow g2) e
 rw [e1] at f1
 cases f1
 exact ⟨p,vs',j,n,rfl,qw,f5,by rw [Paired.length f6];exact ej,k F0 Hb F2 _ σ own D (((a.grow g).grow g2).turn e e1 (zhQ (R:=λv (d:Ds)=>d.pr (zfp m F2 Hb) v) (d.up (za8 g2.f) qv) n f6)) q⟩
theorem zih {S:Type} (f:S->γ->S ⊕ β):∀(xs:List γ) (s:S) (i:Nat) (s':S),zcm f s (xs.take i)= .inl s'->∀x,xs[i]? =some x->zcm f s (xs.take (i+1))=f s' x
 | [],_,_,_,_,_,h=>by simp at h
 | y :: ys,s,0,s',e,x,h=>by
  simp at h;
  subst h
  have e':s=s':=by simpa [zcm] using e
  subst e'
  show zcm f s [y]=_
  simp only [zcm]
  cases f s y<;>rfl
 | y :: ys,s,i+1,s',e,x,h=>by
  simp only [List.take_succ_cons,zcm] at e ⊢
  cases q:f s y with
   |inl s1=>rw [q] at e;exact zih f ys s1 i s' e x (by simpa using h)
   |inr b=>rw [q] at e;cases e
theorem zig {S:Type} (f:S->γ->S ⊕ β):∀(xs:List γ) (s:S) (i:Nat) (b:β),zcm f s (xs.take i)= .inr b->zcm f s xs= .inr b
 | [],s,i,b,e=>by simpa using e
 | y :: ys,s,0,b,e=>by simp [zcm] at e
 | y :: ys,s,i+1,b,e=>by
  simp only [List.take_succ_cons,zcm] at e ⊢
  cases q:f s y with
   |inl s1=>rw [q] at e;exact zig f ys s1 i b e
   |inr b'=>rw [q] at e;exact e
def zhL {S:Type} (G:S->Ctx) (res:β->Oc):S ⊕ β->Oc
 | .inl s=>.nx (G s)
 | .inr b=>res b
theorem Grow.rebase {F0 Hb F1 H1 F H:Hp} (g1:Grow F0 Hb F1 H1) (g:Grow F0 Hb F H) (e:Same F1 F):Grow F1 Hb F H :=
 ⟨e,g.fh,g.h,λa h1 h2=>g.no a h1 (g1.f.free h2)⟩
theorem Grow.unbase {F0 Hb F1 H1 F H:Hp} (g1:Grow F0 Hb F1 H1) (g:Grow F1 Hb F H):Grow F0 Hb F H :=
 ⟨g1.f.trans g.f,g.fh,g.h,λa h1 h2=>g.no a h1 (g1.no a h1 h2)⟩
theorem At.rebase {F0 Hb F1 H1 F H:Hp} {σ:St} {own:Nat->Option Addr} (g1:Grow F0 Hb F1 H1) (a:At F0 Hb F H σ own Γ) (e:Same F1 F):At F1 Hb F H σ own Γ:=⟨g1.rebase a.g e,a.inj,a.liv,a.sl,a.len⟩
theorem At.unbase {F0 Hb F1 H1 F H:Hp} {σ:St} {own:Nat->Option Addr} (g1:Grow F0 Hb F1 H1) (a:At F1 Hb F H σ own Γ):At F0 Hb F H σ own Γ:=⟨g1.unbase a.g,a.inj,a.liv,a.sl,a.len⟩
theorem zgA.rebase {F0 Hb F1 H1:Hp} {D:Ends} (g1:Grow F0 Hb F1 H1) (h:zgA E F0 Hb D o):zgA E F1 Hb D o:=by
 cases o with
  |nx Γ=>exactλF H σ own a=>h F H σ own (a.unbase g1)
  |bk Γ=>exactλF H σ own a=>h F H σ own (a.unbase g1)
  |ct Γ=>exactλF H σ own a=>h F H σ own (a.unbase g1)
  |rt m d=>exactλv F H g q=>h v F H (g1.unbase g) q
  |rl m ds=>exactλp vs F H g h1 h2 h3 q=>h p vs F H (g1.unbase g) h1 h2 h3 q
  |ex C φ Γ=>exactλdct F H σ own a p=>h dct F H σ own (a.unbase g1) p
  |rw Γ d=>exactλv F H σ own a q=>h v F H σ own (a.unbase g1) q
theorem zmr {S:Type} {wi:TI} {g:TG} {tb:TS} {js:List Nat} {xs:List γ} {bds:γ->List Ds} {mi:Bool} {s0:S} (G:S->Ctx) (res:β->Oc) (f:S->γ->S ⊕ β) (I:Nat->S->Prop) (it:Iv Γ wi g js xs bds mi) (w:Wk Γ (G s0)) (h0:I 0 s0)
  (hres:∀(b:β) (F0 Hb:Hp) (D D':Ends),D.rt=D'.rt->zgA E F0 Hb D (res b)->zgA E F0 Hb D' (res b))
  (body:∀(i:Nat) (x:γ) (s:S),xs[i]? =some x->I i s->(∀s',f s x= .inl s'->I (i+1) s')∧Run E (zok js (bds x) mi (G s)) tb (zhL G res (f s x))):Run E Γ (zsE wi g tb) (zhL G res (zcm f s0 xs)):=λF0 Hb F H σ own D a q=>it F0 Hb F H σ own _ a λJ F1 H1 g1 ok=>by
   have gb:Grow F0 Hb F1 H1:=a.g.trans g1
   refine ⟨λi mm σ H2=>mm=xs.length-i∧i≤xs.length∧∃s F2 own2,zcm f s0 (xs.take i)= .inl s∧I i s∧At F1 Hb F2 H2 σ own2 (G s),⟨_,rfl,Nat.zero_le _,s0,F1,own,by simp [zcm],h0,((a.grow g1).wk w).rebase gb (Same.refl _)⟩,?_⟩
   rintro i mm σ2 H2 ⟨rfl,hi,s,F2,own2,es,hI,a2⟩
   obtain ⟨hstop,hitem⟩:=ok.up a2.g.f H2 a2.fh
   by_cases hlt:i<xs.length
   ·
    have hx:xs[i]? =some xs[i]:=List.getElem?_eq_getElem hlt
    obtain ⟨go,yl⟩:=hitem i xs[i] hx
    obtain ⟨hI',hb⟩:=body i _ s hx hI
    have tk:=zih f xs s0 i s es _ hx
    refine .inr ⟨go,λσ' H'=>∃s' F3 own3,f s xs[i]= .inl s'∧At F1 Hb F3 H' σ' own3 (G s'),λσ' H' ⟨s',F3,own3,e3,a3⟩=>⟨xs.length-(i+1),by omega,rfl,hlt,s',F3,own3,by rw [tk,e3],hI' s' e3,a3⟩,λx H' y=> ?_⟩
    obtain ⟨g3,bind⟩:=yl x H' y
    refine bind σ2 _ λvs hvs=> ?_
    have a3:=(a2.grow g3).setMany (js:=js) hvs
    refine hb F1 Hb F2 H' _ own2 _ a3 ?_
    cases e3:f s xs[i] with
     |inl s'=>exactλF3 H3 σ3 own3 a4=>⟨s',F3,own3,rfl,a4⟩
     |inr b=>
      have:=zig f xs s0 (i+1) b (by rw [tk,e3])
      rw [this] at q
      exact hres b F1 Hb D _ rfl (zgA.rebase (o:=res b) gb q)
   ·
    have e:i=xs.length:=by omega
    subst e
    rw [List.take_length] at es
    rw [es] at q
    exact .inl ⟨hstop,q F2 H2 σ2 own2 (a2.unbase gb)⟩
end
end L2
namespace L2
open PySem PySem.Spec PyProof.Rows
structure EqD {α:Type} [DecidableEq α] (K:W.Frag) (f:α->Ds) (n:Nat):Prop where
 eq:∀ H x y v w,(f x).pr H v->(f y).pr H w->EqV K H n v w (decide (x=y))
 inj:∀ H x y v,(f x).pr H v->(f y).pr H v->x=y
theorem EqD.int {K:W.Frag} {n:Nat}:EqD K dI n:=⟨λH x y v w h1 h2=>by
 cases h1;
 cases h2
 have:decide (x=y)=eqV (.int x) (.int y):=Bool.eq_iff_iff.mpr (by unfold eqV;simp)
 rw [this];
 exact .flat rfl rfl,λH x y v h1 h2=>by cases h1;cases h2;rfl⟩
theorem EqD.bool {K:W.Frag} {n:Nat}:EqD K dB n:=⟨λH x y v w h1 h2=>by
 cases h1;
 cases h2
 have:decide (x=y)=eqV (.bl x) (.bl y):=by cases x<;>cases y<;>rfl
 rw [this];
 exact .flat rfl rfl,λH x y v h1 h2=>by cases h1;cases h2;rfl⟩
theorem EqD.str {K:W.Frag} {n:Nat}:EqD K dS n:=⟨λH x y v w h1 h2=>by
 cases h1;
 cases h2
 have:decide (x=y)=eqV (.str x) (.str y):=Bool.eq_iff_iff.mpr (by unfold eqV;simp)
 rw [this];
 exact .flat rfl rfl,λH x y v h1 h2=>by cases h1;cases h2;rfl⟩
theorem zrI {α:Type} [DecidableEq α] {xs ys:List α} (h:xs.length=ys.length):((List.range xs.length).all λj=>decide (xs[j]? =ys[j]?))=decide (xs=ys):=by
 by_cases e:xs=ys
 ·subst e;simp
 ·
  rw [decide_eq_false e]
  by_cases z:((List.range xs.length).all λj=>decide (xs[j]? =ys[j]?))=true
  ·
   exfalso
   apply e
   rw [List.all_eq_true] at z
   refine List.ext_getElem? λj=> ?_
   by_cases hj:j<xs.length
   ·simpa using z j (List.mem_range.mpr hj)
   ·rw [List.getElem?_eq_none (by omega),List.getElem?_eq_none (by omega)]
  ·simpa using z
theorem zph {α:Type} [DecidableEq α] {K:W.Frag} {f:α->Ds} {n:Nat} (E:EqD K f n) {H:Hp} {xs ys:List α} {vs ws:List V} (h1:Paired (λv (d:Ds)=>d.pr H v) vs (xs.map f)) (h2:Paired (λv (d:Ds)=>d.pr H v) ws (ys.map f)) (hl:xs.length=ys.length) :
  ∀(j:Nat) (x y:V),vs[j]? =some x->ws[j]? =some y->EqV K H n x y (decide (xs[j]? =ys[j]?)):=λj x y e1 e2=>by
   have l1:=Paired.length h1
   have l2:=Paired.length h2
   rw [List.length_map] at l1 l2
   have hj:j<vs.length:=(List.getElem?_eq_some_iff.mp e1).1
   have q1:xs[j]? =some (xs[j]'(by omega)):=List.getElem?_eq_getElem (by omega)
   have q2:ys[j]? =some (ys[j]'(by omega)):=List.getElem?_eq_getElem (by omega)
   obtain ⟨v,ev,rv⟩:=za2 h1 (show (xs.map f)[j]? =some (f (xs[j]'(by omega))) by rw [List.getElem?_map,q1];rfl)
   obtain ⟨w,ew,rw'⟩:=za2 h2 (show (ys.map f)[j]? =some (f (ys[j]'(by omega))) by rw [List.getElem?_map,q2];rfl)
   rw [e1] at ev;
   rw [e2] at ew
   cases ev;
   cases ew
   have:=E.eq H _ _ _ _ rv rw'
   rw [q1,q2]
   simpa using this
theorem zmI {α:Type} [DecidableEq α] {K:W.Frag} {f:α->Ds} {n:Nat} (E:EqD K f n) {Γ:Ctx} {ta tb:TE} {m neg:Bool} {xs ys:List α} (h1:Ev Γ ta false (dQ K (xs.map f))) (h2:Ev Γ tb false (dQ K (ys.map f))) (hn:n≤50:=by decide) :
  Ev Γ (tOp (zrq K neg) ta tb) m (dB (bif neg then !decide (xs=ys) else decide (xs=ys))):=λF0 Hb F H σ own Q a k=>h1 F0 Hb F H σ own _ a λu F1 H1 g1 ⟨p,vs,e1,e2,e3⟩=>h2 F0 Hb F1 H1 σ own _ (a.grow g1) λu' F2 H2 g2 ⟨q,ws,d1,d2,d3⟩=>by
   have e2':SqL K H2 p vs:=(g1.fh.trans g2.h).seq e2
   have d2':SqL K H2 q ws:=g2.fh.seq d2
   have e3':=zdk (ds:=[]) (g1.fh.trans g2.h) e3
   have d3':=zdk (ds:=[]) g2.fh d3
   have l1:=Paired.length e3'
   have l2:=Paired.length d3'
   rw [List.length_map] at l1 l2
   refine ⟨p,q,n,vs,ws,e1,d1,e2',d2',hn,?_⟩
   by_cases hl:xs.length=ys.length
   ·
    refine .inr ⟨_,by omega,zph E e3' d3' hl,k _ F2 H2 (g1.trans g2) ?_⟩
    rw [l1,zrI hl]
    cases neg<;>rfl
   ·
    refine .inl ⟨by omega,k _ F2 H2 (g1.trans g2) ?_⟩
    rw [show decide (xs=ys)=false from decide_eq_false λz=>hl (by rw [z])]
    cases neg<;>rfl
def zhI (N:List Str) (ds:List Ds):Ctx:=ds.map (.va false)++List.replicate (N.length-ds.length) .no
def zuW (n:Nat):Rs->Oc
 | .va m d=>.rt m d
 | .ow m ds=>.rl m ds
 | .ex C φ=> .ex C φ (List.replicate n .no)
theorem zk1 {F H:Hp} {N:List Str} {vs:List V} {ds:List Ds} (hF:Same F H) (hv:Paired (λv (d:Ds)=>d.pr F v) vs ds):At F H F H (start N vs) (λ_=>none) (zhI N ds):=by
 have hl:=Paired.length hv
 refine ⟨Grow.refl hF,λ_ _ _ h=>(nomatch h),λ_ _ h=>(nomatch h),λi s e=> ?_,by unfold start zhI;simp [hl]⟩
 unfold zhI at e
 unfold start
 by_cases hi:i<ds.length
 ·
  rw [List.getElem?_append_left (by simpa using hi),List.getElem?_map] at e
  rw [List.getElem?_append_left (by simpa [hl] using hi),List.getElem?_map]
  obtain ⟨v,ev,rv⟩:=za2 hv (List.getElem?_eq_getElem hi)
  rw [List.getElem?_eq_getElem hi] at e
  have e':Slot.va false ds[i]=s:=Option.some.inj e
  subst e'
  exact ⟨v,by rw [ev];rfl,rv⟩
 ·
  rw [List.getElem?_append_right (by simpa using hi),List.getElem?_replicate] at e
  split at e
  ·cases e;trivial
  ·cases e
def zqC (H F:Hp) (Q:VK) (E:XK):Rs->Prop
 | .ex C φ=>∀dct F' H',Grow F H F' H'->φ F' dct->E (.ref C) dct H'
 | .va m d=>∀v F' H',Grow F H F' H'->d.pr (zfp m F' H) v->Q v H'
 | .ow m ds=>∀p ws F' H',Grow F H F' H'->H p=none->F' p=none->H' p=some (.lst ws)->Paired (λv (d:Ds)=>d.pr (zfp m F' H) v) ws ds->Q (.ref p) H'
theorem zrb {E:XK} {F H:Hp} {N:List Str} {vs:List V} {ds:List Ds} {Q:VK} {t:TS} {r:Rs} (hF:Same F H) (hv:Paired (λv (d:Ds)=>d.pr F v) vs ds) (hq:zqC H F Q E r) (h:Run (λ_=>E) (zhI N ds) t (zuW N.length r)):t {nx:=λ_ H'=>Q .non H',rt:=Q} (start N vs) H:=by
 refine h F H F H _ _ _ (zk1 hF hv) ?_
 cases r with
  |va m d=>exactλv F' H' g q=>hq v F' H' g q
  |ow m ds=>exactλp ws F' H' g h1 h2 h3 q=>hq p ws F' H' g h1 h2 h3 q
  |ex C φ=>exactλdct F' H' σ own a p=>hq dct F' H' a.g p
theorem zoM {E:XK} {F H:Hp} {N:List Str} {vs:List V} {ds:List Ds} {Q:VK} {t:TS} {m:Bool} {Δ:Ctx} (hF:Same F H) (hv:Paired (λv (d:Ds)=>d.pr F v) vs ds) (hq:zqC H F Q E (.va m dN)) (h:Run (λ_=>E) (zhI N ds) t (.nx Δ)):t {nx:=λ_ H'=>Q .non H',rt:=Q} (start N vs) H :=
 h F H F H _ _ _ (zk1 hF hv) λF' H' σ own a=>hq _ F' H' a.g rfl
section
variable {P:Program} {w:World} {K:W.Frag} {mg:Str->Option Value} {base:Heap} {x qual:Str} {st:Stmt} {f:Addr} {fd:FuncData} {N ps:List Str} {k:Nat}
theorem Fun.okV {ι:Type} {args:ι->List Ds} {pre:ι->Prop} {res:ι->Rs} (F:Fun K x qual st f fd) (S:FnScope N ps (zag st)) (hl:∀i,(args i).length=ps.length)
  (hbody:∀(cdv:Value) (A:Around) (outer:List Env) (s:Shared) (H:Hp) (E:XK) (i:ι),Room k (A.deeper (envOfC qual (zag st) s.heap.objs.size f cdv))->pre i→∃t,PSs (zoW (CXE P w) P w K mg base N qual (zag st) f cdv A outer s H E).nox (zdA st) t∧(Run (λ_=>E) (zhI N (args i)) t (zuW N.length (res i))∨∃m Δ,res i= .va m dN∧Run (λ_=>E) (zhI N (args i)) t (.nx Δ))):FnOk P w K mg base (CXE P w) (k+1) f fd ps (Spv args pre res):=by
   refine F.okN S (λvs H Q E ⟨i,F',_,hv,_⟩=>by rw [Paired.length hv];exact hl i) λcdv A outer s H vs Q E hr ⟨i,F',hF,hv,hp,hq⟩=> ?_
   obtain ⟨t,h1,h2⟩:=hbody cdv A outer s H E i hr hp
   have hq':zqC H F' Q E (res i):=by
    cases e:res i with
     |va m d=>rw [e] at hq;exact hq
     |ow m ds=>rw [e] at hq;exact hq
     |ex C φ=>rw [e] at hq;exact hq
   refine ⟨_,h1,?_⟩
   rcases h2 with h2|⟨m,Δ,e,h2⟩
   ·exact zrb hF hv hq' h2
   ·
    rw [e] at hq'
    exact zoM hF hv hq' h2
end
def putD (f:Str) (d:Ds):List (Str×Ds)->List (Str×Ds)
 | []=>[(f,d)]
 | (g,x) :: r=>if g=f then (g,d)::r else (g,x)::putD f d r
theorem zib {R:V->Ds->Prop} {f:Str} {v:V} {d:Ds} (h:R v d):∀ {vs:List (Str×V)} {fs:List (Str×Ds)},Paired (λ(a:Str×V) (b:Str×Ds)=>a.1=b.1∧R a.2 b.2) vs fs->Paired (λ(a:Str×V) (b:Str×Ds)=>a.1=b.1∧R a.2 b.2) (putF f v vs) (putD f d fs)
 | _,_,.nil=> .cons ⟨rfl,h⟩ .nil
 | _,_,.cons (a:=(x,u)) (b:=(y,e)) ⟨h1,h2⟩ t=>by
  have h1:x=y:=h1
  subst h1
  unfold putF putD
  split
  ·exact .cons ⟨rfl,h⟩ t
  ·exact .cons ⟨rfl,h2⟩ (zib h t)
theorem zmy {Γ:Ctx} {i:Nat} {m:Bool} {C p dx:Addr} {fs:List (Str×Ds)} {K:W.Frag} {tv:TE} {d:Ds} {f:Str} {u:TS} {o:Oc} {E:XS} (e:Γ[i]? =some (.ob m C p dx fs)) (h:Ev Γ tv m d) (c:Cls K C) (nf:NoAttr K C f) (hz:fs.length<1000) (k:Run E (Γ.set i (.ob m C p dx (putD f d fs))) u o):Run E Γ (zdD (ztH K (zhX i) tv f) u) o:=λF0 Hb F H σ own D a q=>by
 refine h F0 Hb F H σ own _ a λv F' H' g qv=> ?_
 have a':=a.grow g
 obtain ⟨vs,e1,e2,e3,e4,e5,e6⟩:=a'.sl i _ e
 have hi:i<σ.length:=by rw [a.len];exact (List.getElem?_eq_some_iff.mp e).1
 rw [List.getElem?_eq_getElem hi] at e1
 have e':σ[i]=some (.ref p):=e1
 have ei:σ[i]? =some (some (.ref p)):=by rw [List.getElem?_eq_getElem hi,e']
 exact ⟨_,ei,p,C,dx,vs,rfl,e5.1,c,nf,by rw [Paired.length e6];exact hz,k F0 Hb F' _ σ own D (a'.turnOb e (zib (R:=λv (d:Ds)=>d.pr (zfp m F' Hb) v) qv e6)) q⟩
def zr2 {ι:Type} (C:Addr) (args:ι->List Ds) (pre:ι->Prop) (m:Bool) (fs:ι->List (Str×Ds)):Sp:=λvs H Q _=>∃(i:ι) (p dx:Addr) (ws:List V) (H1 F:Hp),vs= .ref p::ws∧H1 p=none∧H1 dx=none∧dx≠p∧H=upd (upd H1 dx (.own p)) p (.ins C dx [])∧Same F H1∧Paired (λv (d:Ds)=>d.pr F v) ws (args i)∧pre i∧∀us F' H',Grow F H1 F' H'->F' p=none->F' dx=none->H' p=some (.ins C dx us)->H' dx=some (.own p)->Paired (λ(a:Str×V) (b:Str×Ds)=>a.1=b.1∧b.2.pr (zfp m F' H1) a.2) us (fs i)->Q .non H'
def zmL (m:Bool) (C p dx:Addr) (N:List Str) (ds:List Ds):Ctx:= .ob m C p dx []::(ds.map (.va false)++List.replicate (N.length-(ds.length+1)) .no)
section
variable {P:Program} {w:World} {K:W.Frag} {mg:Str->Option Value} {base:Heap} {x qual:Str} {st:Stmt} {f:Addr} {fd:FuncData} {N ps:List Str} {k:Nat}
theorem zna {m:Bool} {F H1:Hp} {C p dx:Addr} {N:List Str} {ws:List V} {ds:List Ds} (hF:Same F H1) (hv:Paired (λv (d:Ds)=>d.pr F v) ws ds) (h1:H1 p=none) (h2:H1 dx=none) (h3:dx≠p) :
  At F H1 F (upd (upd H1 dx (.own p)) p (.ins C dx [])) (start N (.ref p::ws)) (λi=>if i=0 then some p else none) (zmL m C p dx N ds):=by
   have hl:=Paired.length hv
   have n1:upd H1 dx (.own p) p=none:=by rw [zai (Ne.symm h3)];exact h1
   have g:Grow F H1 F (upd (upd H1 dx (.own p)) p (.ins C dx [])):=((Grow.refl hF).newH h2).newH n1
   refine ⟨g,λi j q e1 e2=> ?_,λi q e=> ?_,λi s e=> ?_,?_⟩
   ·
    split at e1
    ·
     split at e2
     ·omega
     ·cases e2
    ·cases e1
   ·
    split at e
    ·cases e;rw [zat];simp
    ·cases e
   ·
    cases i with
     |zero=>
      have e':Slot.ob m C p dx []=s:=Option.some.inj e
      subst e'
      exact ⟨[],rfl,rfl,⟨hF.free h1,hF.free h2⟩,⟨h1,h2⟩,⟨zat,by rw [zai h3];exact zat⟩,.nil⟩
     |succ i=>
      have e:(ds.map (Slot.va false)++List.replicate (N.length-(ds.length+1)) Slot.no)[i]? =some s:=e
      show zeV H1 F _ _ _ ((ws.map some++List.replicate (N.length-(ws.length+1)) none)[i]?).join s
      by_cases hi:i<ds.length
      ·
       rw [List.getElem?_append_left (by simpa using hi),List.getElem?_map] at e
       rw [List.getElem?_append_left (by simpa [hl] using hi),List.getElem?_map]
       obtain ⟨v,ev,rv⟩:=za2 hv (List.getElem?_eq_getElem hi)
       rw [List.getElem?_eq_getElem hi] at e
       have e':Slot.va false ds[i]=s:=Option.some.inj e
       subst e'
       exact ⟨v,by rw [ev];rfl,rv⟩
      ·
       rw [List.getElem?_append_right (by simpa using hi),List.getElem?_replicate] at e
       split at e
       ·cases e;trivial
       ·cases e
   ·unfold start zmL;simp [hl]
theorem Fun.okI {ι:Type} {C:Addr} {args:ι->List Ds} {pre:ι->Prop} {m:Bool} {fs:ι->List (Str×Ds)} (F:Fun K x qual st f fd) (S:FnScope N ps (zag st)) (hl:∀i,(args i).length+1=ps.length)
  (hbody:∀(cdv:Value) (A:Around) (outer:List Env) (s:Shared) (H:Hp) (E:XK) (i:ι),Room k (A.deeper (envOfC qual (zag st) s.heap.objs.size f cdv))->pre i→∃t,PSs (zoW (CXE P w) P w K mg base N qual (zag st) f cdv A outer s H E).nox (zdA st) t∧∀p dx,∃Δ,Run (λ_=>E) (zmL m C p dx N (args i)) t (.nx Δ)∧Δ[0]? =some (.ob m C p dx (fs i))):FnOk P w K mg base (CXE P w) (k+1) f fd ps (zr2 C args pre m fs):=by
   refine F.okN S (λvs H Q E ⟨i,p,dx,ws,H1,F',e,_,_,_,_,_,hv,_⟩=>by rw [e,List.length_cons,Paired.length hv];exact hl i) λcdv A outer s H vs Q E hr ⟨i,p,dx,ws,H1,F',e,h1,h2,h3,h4,hF,hv,hp,hq⟩=> ?_
   subst e h4
   obtain ⟨t,t1,t2⟩:=hbody cdv A outer s _ E i hr hp
   obtain ⟨Δ,t2,t3⟩:=t2 p dx
   refine ⟨_,t1,?_⟩
   refine t2 F' H1 F' _ _ _ _ (zna hF hv h1 h2 h3) λF2 H2 σ2 own2 a2=> ?_
   obtain ⟨us,e1,e2,e3,e4,e5,e6⟩:=a2.sl 0 _ t3
   exact hq us F2 H2 a2.g e3.1 e3.2 e5.1 e5.2 e6
end
section
variable {Γ:Ctx} {K:W.Frag} {ds:List Ds} {tr:TA} {E:XK}
theorem zqm {ι:Type} {C:Addr} {args:ι->List Ds} {pre:ι->Prop} {m:Bool} {fs:ι->List (Str×Ds)} (i:ι) (h:EvA Γ tr false ds) (ha:ds=args i) (hp:pre i):Ev Γ (zoY C (zr2 C args pre m fs) [] E tr) m (dO C (fs i)):=λF0 Hb F H σ own Q a k=>by
 subst ha
 refine h F0 Hb F H σ own _ a λvs F1 H1 g1 q1 p dx h1 h2 h3=>⟨i,p,dx,vs,H1,F1,by rw [List.append_nil],h1,h2,h3,rfl,g1.fh,q1,hp,λus F' H' g n1 n2 e1 e2 e3=>⟨rfl,?_⟩⟩
 have g2:=g1.trans g
 obtain ⟨p0,_,pb⟩:=a.free g1 h1
 obtain ⟨d0,_,db⟩:=a.free g1 h2
 have g3:=(g2.take p0 e1).take d0 e2
 have s1:Same F' (upd F' p (.ins C dx us)):=Same.new n1 _
 have n3:upd F' p (.ins C dx us) dx=none:=by rw [zai h3];exact n2
 have s2:Same F' (upd (upd F' p (.ins C dx us)) dx (.own p)):=s1.trans (Same.new n3 _)
 refine k _ _ _ g3 ⟨p,dx,us,rfl,zep pb (by rw [zai (Ne.symm h3)];exact zat),zep db zat,?_⟩
 exact zbR (λ_ b q=>⟨q.1,b.2.up ((zfE (a.g.h.trans g1.h)).trans (za8 s2)) q.2⟩) e3
end
end L2
namespace L2
open PySem PySem.Spec PyProof.Rows
def Ite (K:W.Frag) (a:Addr):It :=
 ⟨λi H=>∃xs x,SqL K H a xs∧xs[i]? =some x,λi H v H'=>∃p x,v= .ref p∧H p=none∧H'=upd H p (.tup [.int (i:Int),x])∧∀xs,SqL K H a xs->xs[i]? =some x,λi H=>∃xs,SqL K H a xs∧xs.length≤i⟩
theorem znz {P:Program} {w:World} {K:W.Frag} {elts:List Expr} {x1:Nat} {tp:Pos} {a e it:Addr} (hne:e≠it) :
  Turn P w K (.Tuple elts x1 tp) (Ite K a) [e,it] e (λi h=>(∃old,IsEnum h e it (i:Int) old)∧h.IsListIter it a i) where
 mem:=by simp
 obj:=λi h st c hc=>by
  obtain ⟨⟨old,he⟩,⟨o1,e1,_,d1⟩⟩:=st
  simp only [List.mem_cons,List.not_mem_nil,or_false] at hc
  rcases hc with rfl | rfl
  ·exact ⟨_,he,λv z=>by cases z⟩
  ·exact ⟨o1,e1,λv z=>by rw [d1] at z;cases z⟩
 keep:=λi h h' st k=>by
  obtain ⟨⟨old,he⟩,h1⟩:=st
  exact ⟨⟨old,k e (by simp) _ he⟩,h1.at λo q=>k it (by simp) o q⟩
 item:=by
  intro X hP hw hK hc i pins s σ H E I hf st hg
  subst hP hw hK
  obtain ⟨xs,x,hxs,hx⟩:=hg
  obtain ⟨itx,rx,px,hzx⟩:=I.list hxs
  obtain ⟨u,hu,ru⟩:=rx.get hx
  obtain ⟨⟨old,he⟩,h1⟩:=st
  refine wpAny_pyNext_enum_item (x:=u) he h1 px.isList (by simpa using hu) hne λh' a1 a2 a3 a4 hk=>?_
  refine ⟨_,rfl,wpAny_letOwnedTupleGo_enum a1 λh'' b1 b2=>?_⟩
  have elt:e<s.heap.objs.size:=Heap.lt_size he
  have itl:it<s.heap.objs.size:=by obtain ⟨_,q,_⟩:=h1;exact Heap.lt_size q
  have tup:h''.get? s.heap.objs.size=some { cls:=.type "tuple",data:=.seq #[.int i s.toks,u] }:=b2.extBut _ _ (Nat.ne_of_gt elt) a3
  have I1:Inv X pins σ (upd H s.heap.objs.size (.tup [.int (i:Int),x])) { s with heap:=h'',toks:=s.toks+1 }:=by
   refine I.turnedNew (t':=s.toks+1) (ch:=[e,it]) (λc hc=>hf c hc) (λc ob hc q=>?_) (Nat.le_refl _) ?_
   ·simp only [List.mem_cons,List.not_mem_nil,or_false,not_or] at hc
    exact b2.extBut _ _ hc.1 (hk c ob hc.1 hc.2 q)
   ·exact ⟨by show 2≤sizeLine;decide,[.int i s.toks,u],.cons ⟨_,rfl⟩ (.cons ru .nil),⟨_,tup,rfl,_,rfl⟩⟩
  refine ⟨.ref s.heap.objs.size,_,I1,rfl,⟨_,x,rfl,I.hok.fresh (Nat.le_refl _),rfl,λxs' q1=>?_⟩,⟨⟨u,?_⟩,a2.extBut b2.extBut (Ne.symm hne)⟩,λc hc=>?_⟩
  ·rw [I.list_inj q1 hxs];exact hx
  ·exact b1
  ·have:c≠s.heap.objs.size:=by
    simp only [List.mem_cons,List.not_mem_nil,or_false] at hc
    rcases hc with rfl | rfl
    ·exact Nat.ne_of_lt elt
    ·exact Nat.ne_of_lt itl
   rw [zai this];exact (hf c hc).1
 done:=by
  intro X hP hw hK hc i pins s σ H E I hf st hg
  subst hP hw hK
  obtain ⟨xs,hxs,hend⟩:=hg
  obtain ⟨itx,rx,px,hzx⟩:=I.list hxs
  obtain ⟨⟨old,he⟩,h1⟩:=st
  have lx:=rx.length
  refine wpAny_pyNext_enum_end (I.ok.hd hc) he h1 px.isList (by simp;omega) λh' hk=>⟨rfl,?_⟩
  refine I.turnedL (t':=s.toks) (ch:=[e,it]) (λc hc=>hf c hc) (λc ob hc q=>?_)
  simp only [List.mem_cons,List.not_mem_nil,or_false,not_or] at hc
  exact hk c ob hc.2 q
 self:=λ_ _ _ _ _ st h=>by obtain ⟨⟨old,he⟩,_⟩:=st;exact wpAny_pyIter_enum he h
section
variable {X:Cx} {K:W.Frag}
def zqL (K:W.Frag) (ta:TA):TI:=λσ H R=>ta σ H λvs H1=>∃a,vs=[.ref a]∧(∃xs,SqL K H1 a xs)∧R (Ite K a) H1
theorem zhJ {a:Expr} {ta:TA} {p pos tp:Pos} {elts:List Expr} {x1:Nat} (hK:X.K=K) (hg:Gl X "enumerate") (hm:X.mg "enumerate" =none) (ha:PA X [a] ta) (hs:starEach [a] X.env=[(false,eval a X.env)]:=by rfl) :
  PI X (.Tuple elts x1 tp) (.Call (.Name "enumerate" p) [a] [] pos) (zqL K ta):=by
   subst hK
   intro pins s σ H R I h
   refine Call_ (zgn I hg hm boot_enumerate (PyProof.Rows.callWith_type1 (thn (ha pos pins s σ H _ I h) λus s1 ⟨vs,H1,I1,r1,q1⟩=> ?_) (by rw [hs];rfl) rfl))
   obtain ⟨l,e,⟨xs,hx⟩,q⟩:=q1
   subst e
   cases r1 with
    |cons r rr=>
     cases rr
     cases r
     obtain ⟨itx,rx,px,hzx⟩:=I1.list hx
     refine call_enumerate_list px.isList λh' he h1 hsz hk=>wpAny_pyIter_enum he ?_
     have hne:(s1.heap.objs.size+1:Nat)≠s1.heap.objs.size:=by omega
     refine ⟨s1.heap.objs.size+1,[s1.heap.objs.size+1,s1.heap.objs.size],_,Ite X.K l,H1,rfl,I1.kept (t':=s1.toks) hk,znz hne,⟨⟨_,he⟩,h1⟩,λc hc=> ?_,q⟩
     have hle: @LE.le Nat _ s1.heap.objs.size c:=by
      simp only [List.mem_cons,List.not_mem_nil,or_false] at hc
      rcases hc with rfl|rfl<;>omega
     exact I1.fpOk hle (I1.hok.fresh hle)
end
def Itv (K:W.Frag) (a:Addr) (n:Nat):It :=
 ⟨λi H=>i<n∧∃xs x,SqL K H a xs∧xs.length=n∧xs[n-1-i]? =some x,λi H x H'=>H'=H∧∀xs,SqL K H a xs->xs[n-1-i]? =some x,λi _=>i=n⟩
theorem zo6 {P:Program} {w:World} {K:W.Frag} {tg:Expr} (a it:Addr) (n:Nat):Turn P w K tg (Itv K a n) [it] it (λi h=>h.IsRevIter it a ((n:Int)-1-(i:Int))) where
 mem:=by simp
 obj:=λi h st b hb=>by
  have e:b=it:=by simpa using hb
  subst e
  obtain ⟨o,e,c,d⟩:=st
  exact ⟨o,e,λv z=>by rw [d] at z;cases z⟩
 keep:=λi h h' st k=>st.at λo e=>k it (by simp) o e
 item:=by
  intro X hP hw hK hc i pins s σ H E I hf st hg
  subst hP hw hK
  obtain ⟨hi,xs,x,hq,hn,hx⟩:=hg
  obtain ⟨its,rv,p,hz⟩:=I.list hq
  obtain ⟨u,hu,ru⟩:=rv.get hx
  obtain ⟨f0,f1,f2,f3,f4,f5⟩:=hf it (by simp)
  have e1:(n:Int)-1-(i:Int)=((n-1-i:Nat):Int):=by omega
  have e2:((n-1-i:Nat):Int)-1=(n:Int)-1-((i+1:Nat):Int):=by omega
  rw [e1] at st
  refine wpAny_pyNext_rev_item st p.isList (x:=u) (by simpa using hu) λh' st' sb=>?_
  rw [e2] at st'
  have I1:Inv X pins σ H { s with heap:=h' }:=I.turned (t':=s.toks) (λb o hb e=>(sb.2 b hb).trans e) f0 f1 f3 f4 f5
  obtain ⟨o,e,c,d⟩:=id st'
  exact ⟨u,rfl,zoZ (s:={ s with heap:=h' }) e c d (by decide) ⟨x,H,I1,ru,⟨rfl,λys hy=>by rw [I.list_inj hy hq];exact hx⟩,st',λb hb=>(hf b hb).1⟩⟩
 done:=by
  intro X hP hw hK hc i pins s σ H E I hf st hg
  subst hP hw hK
  have hg:i=n:=hg
  subst hg
  obtain ⟨f0,f1,f2,f3,f4,f5⟩:=hf it (by simp)
  have e1:(i:Int)-1-(i:Int)=-1:=by omega
  rw [e1] at st
  exact wpAny_pyNext_rev_end (I.ok.hd hc) st λh' eb=>⟨rfl,I.turned (t':=s.toks) (λb o hb e=>eb b o hb e) f0 f1 f3 f4 f5⟩
 self:=λ_ _ _ _ _ st h=>wpAny_pyIter_revIter st h
section
variable {X:Cx} {K:W.Frag}
def zuL (K:W.Frag) (ta:TA):TI:=λσ H R=>ta σ H λvs H1=>∃a xs,vs=[.ref a]∧SqL K H1 a xs∧R (Itv K a xs.length) H1
theorem zrW {a tg:Expr} {ta:TA} {p pos:Pos} (hK:X.K=K) (hg:Gl X "reversed") (hm:X.mg "reversed" =none) (ha:PA X [a] ta) (hs:starEach [a] X.env=[(false,eval a X.env)]:=by rfl) :
  PI X tg (.Call (.Name "reversed" p) [a] [] pos) (zuL K ta):=by
   subst hK
   intro pins s σ H R I h
   refine Call_ (zgn I hg hm boot_reversed (PyProof.Rows.callWith_type1 (thn (ha pos pins s σ H _ I h) λus s1 ⟨vs,H1,I1,r1,q1⟩=> ?_) (by rw [hs];rfl) rfl))
   obtain ⟨l,xs,e,hx,q⟩:=q1
   subst e
   cases r1 with
    |cons r rr=>
     cases rr
     cases r
     obtain ⟨itx,rx,px,hzx⟩:=I1.list hx
     have hl:=rx.length
     refine call_reversed_list px.isList ?_
     have ho:=Heap.get?_push_size s1.heap (o:=revObj l ((itx.toArray.size:Int)-1)) rfl
     have st:(s1.heap.push (revObj l ((itx.toArray.size:Int)-1))).IsRevIter s1.heap.objs.size l ((xs.length:Int)-1-((0:Nat):Int)):=⟨_,ho,rfl,by rw [List.size_toArray,←hl];simp [revObj]⟩
     refine wpAny_pyIter_revIter st ?_
     refine ⟨s1.heap.objs.size,[s1.heap.objs.size],_,Itv X.K l xs.length,H1,rfl,I1.kept (t':=s1.toks) (λb o e=>Heap.get?_push_of_some _ e),zo6 l s1.heap.objs.size xs.length,st,λc hc=> ?_,q⟩
     have hle: @LE.le Nat _ s1.heap.objs.size c:=by
      simp only [List.mem_cons,List.not_mem_nil,or_false] at hc
      rw [hc];
      exact Nat.le_refl _
     exact I1.fpOk hle (I1.hok.fresh hle)
theorem zm4 (hK:X.K=K) (hc:X.calm=true):zeG X (.builtin "any") (λxs H Q=>∃(a:Addr) (ns:Ji),xs=[.ref a]∧SqL K H a (ns.map V.int)∧Q (.bl (ns.any (· !=0))) H):=by
 subst hK
 intro pins s σ H xs us Q I r h
 obtain ⟨a,bs,rfl,hq,q⟩:=h
 obtain ⟨u,rfl,rx⟩:=zgw r
 cases rx
 obtain ⟨its,rv,p,hz⟩:=I.list hq
 have hl:=rv.length
 rw [List.length_map] at hl
 have alt:a<s.heap.objs.size:=by obtain ⟨o,e,_⟩:=p.isList;exact Heap.lt_size e
 have hl1:(s.heap.push {cls:= .type "list_iterator",data:= .fields #[.ref a,.int 0 0]}).IsList a its.toArray:=Heap.IsList.push p.isList _
 refine call_any_walk (wpAny_pyIter_list p.isList ?_)
 refine ⟨s.heap.objs.size,[s.heap.objs.size,a],[s.heap.objs.size],its.toArray.size,_,_,λi=>(bs[i]?).getD 0 !=0,rfl,Walks.list (A:=X.A.in1) (I.ok.hd hc) s.heap.objs.size a (Nat.ne_of_lt alt) its.toArray,⟨⟨_,Heap.get?_push_size _ rfl,rfl,rfl⟩,hl1⟩,λi v s' Q' E' hv hQ'=> ?_,λh' tk hk=> ?_⟩
 ·
  have hv':its[i]? =some v:=by simpa using hv
  have hi:i<its.length:=(List.getElem?_eq_some_iff.mp hv').1
  obtain ⟨u,hu,ru⟩:=rv.get (i:=i) (x:= .int (bs[i]'(by omega))) (by rw [List.getElem?_map,List.getElem?_eq_getElem (by omega)];rfl)
  rw [hv'] at hu
  cases hu
  obtain ⟨t,rfl⟩:=ru
  have e:(bs[i]?).getD 0=bs[i]'(by omega):=by rw [List.getElem?_eq_getElem (show i<bs.length by omega)];rfl
  have hQ2:Q' ((bs[i]?).getD 0 !=0) s':=hQ'
  rw [e] at hQ2
  exact PySem.P.truthy_int hQ2
 ·
  have e:(List.range its.toArray.size).any (λi=>(bs[i]?).getD 0 !=0)=bs.any (· !=0):=by
   rw [List.size_toArray,←hl,Bool.eq_iff_iff,List.any_eq_true,List.any_eq_true]
   constructor
   ·
    rintro ⟨i,hi,z⟩
    have hi':=List.mem_range.mp hi
    rw [List.getElem?_eq_getElem hi'] at z
    exact ⟨_,List.getElem_mem hi',z⟩
   ·
    rintro ⟨x,hx,z⟩
    obtain ⟨i,hi,rfl⟩:=List.getElem_of_mem hx
    exact ⟨i,List.mem_range.mpr hi,by rw [List.getElem?_eq_getElem hi];exact z⟩
  rw [e]
  exact ⟨.bl _,H,I.kept (h':=h') (t':=tk) λb o e=>hk b o (by simp only [List.mem_singleton];exact Nat.ne_of_lt (Heap.lt_size e)) (Heap.get?_push_of_some _ e),rfl,q⟩
end
section
variable {Γ:Ctx} {m:Bool} {K:W.Frag} {γ:Type}
def zb8 {α:Type} (xs:List α):List (Int×α):=(zcY 0 xs.length).zip xs
theorem zdM {α:Type} {xs:List α}:(zb8 xs).length=xs.length:=by simp [zb8,List.length_zip,zlM]
theorem zcw {α:Type} {xs:List α} {i:Nat} {p:Int×α} (h:(zb8 xs)[i]? =some p):i<xs.length∧p.1=i∧xs[i]? =some p.2:=by
 obtain ⟨h1,h2⟩:=zgf h
 obtain ⟨h3,h4⟩:=zbe h1
 exact ⟨h3,by rw [h4];omega,h2⟩
theorem zja {tl:TE} {j1 j2:Nat} {xs:List γ} (f:γ->Ds) (h:Ev Γ tl m (dQ K (xs.map f))) :
  Iv Γ (zqL K (zdj tl zgo)) (zrM K 2 (ziK (zds j1) (ziK (zds j2) zs3))) [j1,j2] (zb8 xs) (λx=>[dI x.1,f x.2]) m:=λF0 Hb F H σ own R a k=>h F0 Hb F H σ own _ a λu F1 H1 g1 ⟨p,vs,e1,e2,e3⟩=>by
   have e2':SqL K F1 p vs:=za4.seq e2
   have le:=Paired.length e3
   rw [List.length_map] at le
   refine ⟨p,by rw [e1],⟨vs,g1.fh.seq e2'⟩,k _ F1 H1 g1 λH hs=>⟨⟨vs,hs.seq e2',by rw [le,zdM];exact Nat.le_refl _⟩,λi x ex=> ?_⟩⟩
   obtain ⟨hi,x1,x2⟩:=zcw ex
   obtain ⟨v,ev,qv⟩:=za2 e3 (show (xs.map f)[i]? =some (f x.2) by rw [List.getElem?_map,x2];rfl)
   refine ⟨⟨vs,v,hs.seq e2',ev⟩,λz H' y=> ?_⟩
   obtain ⟨r,x',rfl,hr,rfl,hxy⟩:=y
   have hx:=hxy vs (hs.seq e2')
   rw [ev] at hx
   cases hx
   exact ⟨(Grow.refl hs).newH hr,λσ Q k=>⟨r,_,rfl,.inl (.inl zat),rfl,_,_,rfl,_,_,rfl,rfl,k [.int i,v] (.cons (by show V.int _=V.int _;rw [x1]) (.cons qv .nil))⟩⟩
theorem ztw {tl:TE} {j:Nat} {xs:List γ} (f:γ->Ds) (h:Ev Γ tl m (dQ K (xs.map f))):Iv Γ (zuL K (zdj tl zgo)) (zds j) [j] xs.reverse (λx=>[f x]) m:=λF0 Hb F H σ own R a k=>h F0 Hb F H σ own _ a λu F1 H1 g1 ⟨p,vs,e1,e2,e3⟩=>by
 have e2':SqL K F1 p vs:=za4.seq e2
 have le:=Paired.length e3
 rw [List.length_map] at le
 refine ⟨p,vs,by rw [e1],g1.fh.seq e2',k _ F1 H1 g1 λH hs=>⟨by show xs.reverse.length=vs.length;rw [List.length_reverse,le],λi x ex=> ?_⟩⟩
 have hi:i<xs.length:=by simpa using (List.getElem?_eq_some_iff.mp ex).1
 rw [List.getElem?_reverse hi] at ex
 obtain ⟨v,ev,qv⟩:=za2 e3 (show (xs.map f)[xs.length-1-i]? =some (f x) by rw [List.getElem?_map,ex];rfl)
 rw [←le] at ev
 refine ⟨⟨by rw [le];exact hi,vs,v,hs.seq e2',rfl,ev⟩,λw H' y=> ?_⟩
 obtain ⟨rfl,y⟩:=y
 have:=y vs (hs.seq e2')
 rw [ev] at this
 cases this
 exact ⟨Grow.refl hs,λσ Q k=>k [v] (.cons qv .nil)⟩
theorem zrS {xs:Ji} {t:TE} (h1:Ev Γ t false (dQ K (xs.map dI))):Ev Γ (tCB (λxs H Q=>∃(a:Addr) (ns:Ji),xs=[.ref a]∧SqL K H a (ns.map V.int)∧Q (.bl (ns.any (· !=0))) H) (zdj t zgo)) m (dB (xs.any (· !=0))):=λF0 Hb F H σ own Q a k=>h1 F0 Hb F H σ own _ a λu F1 H1 g1 ⟨p,vs,e1,e2,e3⟩=>⟨p,xs,by rw [e1],by rw [←zbq e3];exact g1.fh.seq e2,k _ F1 H1 g1 rfl⟩
end
end L2
namespace L2
open PySem PySem.Spec PyProof.Rows
theorem Ev.any {Γ:Ctx} {t:TE} {m n:Bool} {v:V} (h:Ev Γ t m (dV v)):Ev Γ t n (dV v):=λF0 Hb F H σ own Q a k=>h F0 Hb F H σ own Q a λu F' H' g q=>k u F' H' g q
theorem znP {α:Type} {R R':Hp} {g:α->V} {vs:List V} {xs:List α} (h:Paired (λv (d:Ds)=>d.pr R v) vs (xs.map λx=>dV (g x))):Paired (λv (d:Ds)=>d.pr R' v) vs (xs.map λx=>dV (g x)):=by
 rw [zbq h]
 clear h
 induction xs with
  |nil=>exact .nil
  |cons x xs ih=>exact .cons rfl ih
theorem EvO.anyV {Γ:Ctx} {t:TE} {m n:Bool} {α:Type} {g:α->V} {xs:List α} (h:EvO Γ t m (xs.map λx=>dV (g x))):EvO Γ t n (xs.map λx=>dV (g x)):=λF0 Hb F H σ own Q a k=>h F0 Hb F H σ own Q a λp vs F' H' g h1 h2 h3 q=>k p vs F' H' g h1 h2 h3 (znP q)
theorem EvO.anyI {Γ:Ctx} {t:TE} {m n:Bool} {xs:Ji} (h:EvO Γ t m (xs.map dI)):EvO Γ t n (xs.map dI):=EvO.anyV h
theorem EvO.anyS {Γ:Ctx} {t:TE} {m n:Bool} {xs:List Str} (h:EvO Γ t m (xs.map dS)):EvO Γ t n (xs.map dS):=EvO.anyV h
section
variable {X:Cx}
def zfy (i j:Int):Prop:=(-(2 ^ 64)<i∧i<2 ^ 64)∨(-(2 ^ 64)<j∧j<2 ^ 64)∨(i.natAbs.log2<60000000∧j.natAbs.log2<60000000)
theorem zob {a b:Int} (ha:Builtin.Int.intBits a≤60000000) (hb:Builtin.Int.intBits b≤60000000):IntMulOk a b:=by
 have h:Builtin.Int.intTooBig (Builtin.Int.intBits a+Builtin.Int.intBits b)=false:=by
  unfold Builtin.Int.intTooBig bitsLine
  exact decide_eq_false (by omega)
 unfold IntMulOk
 rw [h]
 simp
theorem zeQ:OpR X (binaryOp .Mult) (rI zfy λi j=> .int (i*j)):=opI λ_ _ _ _ _ _ _ hc q=>mul_int q (by
 rcases hc with h|h|h
 ·exact .of_left (intBits_le_64 h.1 h.2)
 ·exact .of_right (intBits_le_64 h.1 h.2)
 ·exact zob (zmQ h.1) (zmQ h.2))
end
def ixD {α:Type} [Inhabited α] (xs:List α) (i:Int):α:=(atI xs i).getD default
def InB (n:Nat) (i:Int):Prop:= -(n:Int)≤i∧i<n
theorem zh6 {n:Nat} {i:Int} (h:InB n i):∃j,ixN n i=some j∧j<n∧(0≤i->j=i.toNat):=by
 unfold InB at h
 unfold ixN
 by_cases h0:0≤i
 ·rw [if_pos h0,if_pos h.2];exact ⟨_,rfl,by omega,λ_=>rfl⟩
 ·rw [if_neg h0,if_pos h.1];exact ⟨_,rfl,by omega,λz=>absurd z h0⟩
theorem zn9 {α:Type} [Inhabited α] {xs:List α} {i:Int} (h:InB xs.length i):atI xs i=some (ixD xs i):=by
 obtain ⟨j,e,hj,_⟩:=zh6 h
 unfold ixD atI
 rw [e]
 show xs[j]? =some (xs[j]?.getD default)
 rw [List.getElem?_eq_getElem hj];
 rfl
theorem zrj {α:Type} [Inhabited α] {xs:List α} {n:Nat} {x:α} (h:xs[n]?=some x):ixD xs (n:Int)=x:=by
 have hn:n<xs.length:=(List.getElem?_eq_some_iff.mp h).1
 unfold ixD atI ixN
 rw [if_pos (by omega),if_pos (by omega)]
 show (xs[(n:Int).toNat]?).getD default=x
 rw [Int.toNat_natCast,h];
 rfl
theorem zq6 {α:Type} [Inhabited α] {xs:List α} {i:Int} (h:InB xs.length i):ixD xs i∈xs:=by
 have:=zn9 h
 unfold atI at this
 obtain ⟨j,e,hj,_⟩:=zh6 h
 rw [e] at this
 exact List.mem_of_getElem? this
def zeD {α:Type} (xs:List α) (i:Int) (x:α):List α:=match ixN xs.length i with|some n=>xs.set n x|none=>xs
theorem ziE {α:Type} {xs:List α} {i:Int} {x:α}:(zeD xs i x).length=xs.length:=by unfold zeD;split<;>simp
def zd9 {α:Type} (n:Int) (xs:List α):List α:=(List.replicate n.toNat xs).flatten
def dOpt {α:Type} (f:α->Ds):Option α->Ds
 | none=>dN
 | some x=>f x
def NN {α:Type} (f:α->Ds):Prop:=∀x H v,(f x).pr H v->v≠ .non
theorem NN.lst {α:Type} {f:α->Ds}:NN (λxs:List α=>dL (xs.map f)):=λ_ _ _ ⟨_,_,e,_⟩=>by rw [e];simp
theorem NN.tup {α:Type} {f:α->List Ds}:NN (λx=>dT (f x)):=λ_ _ _ ⟨_,_,e,_⟩=>by rw [e];simp
theorem NN.obj {α:Type} {C:Addr} {f:α->List (Str×Ds)}:NN (λx=>dO C (f x)):=λ_ _ _ ⟨_,_,_,e,_⟩=>by rw [e];simp
theorem NN.int:NN dI:=λ_ _ _ e=>by rw [show _=_ from e];simp
section
variable {E:XS} {Γ:Ctx} {m:Bool} {K:W.Frag} {α β γ:Type} {f:α->Ds} {t ta tb te:TE} {u r:TS} {o:Oc} {xs ys:List α} {i:Nat}
theorem zb5 [Inhabited α] {j:Int} (h1:Ev Γ ta m (dQ K (xs.map f))) (h2:Ev Γ tb false (dI j)) (h:InB xs.length j):Ev Γ (tOp (zrf K) ta tb) m (f (ixD xs j)):=zt2 h1 h2 (znH (zn9 h))
theorem zbs {n:Bool} (h1:Ev Γ t false (dQ K (xs.map f))):Ev Γ (tCB (λxs H Q=>∃p ys,xs=[.ref p]∧(SqL K H p ys∨SqT K H p ys)∧Q (.int ys.length) H) (zdj t zgo)) n (dI (xs.length:Nat)):=(ztt h1).conv (by rw [List.length_map])
theorem zd7 {tl th:TO} {lo hi:Option Int} (h1:Ev Γ t m (dQ K (xs.map f))) (h2:EvP Γ tl lo) (h3:EvP Γ th hi):EvO Γ (tSl (ztI K) t tl th) m ((zcu xs lo hi).map f):=(zr7 h1 h2 h3).conv zoL.symm
theorem zdB (h1:Ev Γ ta m (dL (xs.map f))) (h2:Ev Γ tb m (dL (ys.map f))) (hz:xs.length+ys.length≤sizeLine):EvO Γ (tOp ztS ta tb) m ((xs++ys).map f):=(zss h1 h2 (by rw [List.length_map,List.length_map];exact hz)).conv (List.map_append ..).symm
theorem zg8 {n:Nat}:(List.replicate n (xs.map f)).flatten=((List.replicate n xs).flatten).map f:=by
 induction n with
  |zero=>rfl
  |succ n ih=>rw [List.replicate_succ,List.replicate_succ,List.flatten_cons,List.flatten_cons,List.map_append,ih]
theorem zj7 {n:Int} (h1:Ev Γ ta m (dL (xs.map f))) (h2:Ev Γ tb false (dI n)) (hn: -(2 ^ 63)≤n∧n<2 ^ 63) (hz:xs.length*n.toNat≤sizeLine):EvO Γ (tOp zt5 ta tb) m ((zd9 n xs).map f):=(zsV h1 h2 hn (by rw [List.length_map];exact hz)).conv zg8
theorem zhj {x:Option α} {n:Bool} (h1:Ev Γ ta false (dOpt f x)) (h2:Ev Γ tb false dN) (hf:NN f):Ev Γ (tOp (λx y H Q=>y= .non∧Q (.bl (decide (x= .non))) H) ta tb) n (dB x.isNone):=zrX h1 h2 λH v q=>by
 cases x with
  |none=>rw [show v=V.non from q];rfl
  |some x=>exact decide_eq_false (hf x H v q)
theorem zgk {x:Option α} {n:Bool} (h1:Ev Γ ta false (dOpt f x)) (h2:Ev Γ tb false dN) (hf:NN f):Ev Γ (tOp (λx y H Q=>y= .non∧Q (.bl (!decide (x= .non))) H) ta tb) n (dB x.isSome):=(zp6 (b:=x.isNone) h1 h2 λH v q=>by
 cases x with
  |none=>rw [show v=V.non from q];rfl
  |some x=>exact decide_eq_false (hf x H v q)).conv (by cases x<;>rfl)
theorem zfI [Inhabited α] {j:Int} (e:Γ[i]? =some (.ow m (xs.map f))) (h2:Ev Γ tb false (dI j)) (h:InB xs.length j):Ev Γ (tOp (zrf K) (zhX i) tb) m (f (ixD xs j)):=zor (n:=m) e h2 (znH (zn9 h))
theorem zb2 {x:α} (e:Γ[i]? =some (.ow m (xs.map f))) (h:Ev Γ te m (f x)) (hz:xs.length<sizeLine) (k:Run E (Γ.set i (.ow m ((xs++[x]).map f))) u o):Run E Γ (zdD (zjo (tBM K "list" zf9 (zhX i) (zdj te zgo))) u) o :=
 zmk e h (by rw [List.length_map];exact hz) (by rw [List.map_append] at k;exact k)
theorem zmb {tj:TE} {x:α} {j:Int} (e:Γ[i]? =some (.ow m (xs.map f))) (h:Ev Γ te m (f x)) (hj:Ev Γ tj false (dI j)) (hb:InB xs.length j) (k:Run E (Γ.set i (.ow m ((zeD xs j x).map f))) u o):Run E Γ (zdD (zl9 te (ztO (zhX i) tj zoz)) u) o:=by
 obtain ⟨n,en,hn,_⟩:=zh6 hb
 refine zmq (n:=n) e h hj (by rw [List.length_map];exact en) ?_
 unfold zeD at k
 rw [en] at k
 rw [←List.map_set]
 exact k
theorem zhO {tj:TE} {x:α} {j:Int} (fo:β->Oc) {kk:List α->β} (e:Γ[i]? =some (.ow m (xs.map f))) (h:Ev Γ te m (f x)) (hj:Ev Γ tj false (dI j)) (hb:InB xs.length j) (k:∀y,y=zeD xs j x->Run E (Γ.set i (.ow m (y.map f))) u (fo (kk y))):Run E Γ (zdD (zl9 te (ztO (zhX i) tj zoz)) u) (fo (Let (zeD xs j x) kk)) :=
 zmb e h hj hb (k _ rfl)
theorem zek {x:α} (G:α->Ctx) (fo:β->Oc) {kk:α->β} (k:∀y,y=x->Run E (G y) u (fo (kk y))):Run E (G x) u (fo (Let x kk)):=k x rfl
def zqd (o:Oc):Prop:=(∃m d,o= .rt m d)∨(∃m ds,o= .rl m ds)∨∃C φ Γ,o= .ex C φ Γ
theorem zqd.meets (h:zqd o) {F0 Hb:Hp} {D D':Ends} (e:D.rt=D'.rt) (q:zgA E F0 Hb D o):zgA E F0 Hb D' o:=by
 rcases h with ⟨m,d,rfl⟩|⟨m,ds,rfl⟩|⟨C,φ,Γ',rfl⟩
 ·exactλv F H g p=>e ▸ q v F H g p
 ·exactλp vs F H g h1 h2 h3 h4=>e ▸ q p vs F H g h1 h2 h3 h4
 ·exact q
def zmi {S:Type} (x:S ⊕ β) (k:S->α) (w:β->α):α:=match x with| .inl s=>k s| .inr b=>w b
theorem zkH {f:Str} {d:Ds}:∀ {fs:List (Str×Ds)} {ns:List Str},fs.map Prod.fst=ns->ns.contains f=false->putD f d fs=fs++[(f,d)]
 | [],_,_,_=>rfl
 | (g,e) :: r,_,rfl,h=>by
  have h':f≠g∧f∉r.map Prod.fst:=by simpa using h
  unfold putD
  rw [if_neg (Ne.symm h'.1),zkH rfl (by simpa using h'.2)]
  rfl
theorem zgG {C p dx:Addr} {fs:List (Str×Ds)} {tv:TE} {d:Ds} {f:Str} (e:Γ[i]? =some (.ob m C p dx fs)) (h:Ev Γ tv m d) (c:Cls K C) (nf:NoAttr K C f) (ns:List Str) (hns:fs.map Prod.fst=ns) (hn:ns.contains f=false) (hz:ns.length<1000) (k:Run E (Γ.set i (.ob m C p dx (fs++[(f,d)]))) u o) :
  Run E Γ (zdD (ztH K (zhX i) tv f) u) o:=zmy e h c nf (by rw [←List.length_map (f:=Prod.fst),hns];exact hz) (by rw [zkH hns hn];exact k)
theorem zhR {S:Type} (f:S->γ->S):∀(xs:List γ) (s:S),zcm (β:=Empty) (λs x=> .inl (f s x)) s xs= .inl (xs.foldl f s)
 | [],_=>rfl
 | x :: xs,s=>zhR f xs (f s x)
theorem zec {S:Type} {f:S->γ->S} {I:Nat->S->Prop}:∀ {xs:List γ} {s:S} {n:Nat},I n s->(∀(i:Nat) (x:γ) (s:S),xs[i]? =some x->I (n+i) s->I (n+i+1) (f s x))->I (n+xs.length) (xs.foldl f s)
 | [],s,n,h,_=>h
 | x :: xs,s,n,h,k=>by
  have h1:=k 0 x s rfl h
  have:=zec (xs:=xs) (s:=f s x) (n:=n+1) h1 λi y s' e q=>by
   have:=k (i+1) y s' (by simpa using e) (by rw [show n+(i+1)=n+1+i by omega];exact q)
   rw [show n+1+i+1=n+(i+1)+1 by omega];
   exact this
  rw [List.length_cons,show n+(xs.length+1)=n+1+xs.length by omega]
  exact this
theorem zcy {S:Type} {wi:TI} {g:TG} {tb:TS} {js:List Nat} {xs:List γ} {bds:γ->List Ds} {mi:Bool} {s0:S} (G:S->Ctx) (fo:β->Oc) {kk:S->β} (f:S->γ->S) (I:Nat->S->Prop) (it:Iv Γ wi g js xs bds mi) (w:Wk Γ (G s0)) (h0:I 0 s0)
  (body:∀(i:Nat) (x:γ) (s:S),xs[i]? =some x->I i s->I (i+1) (f s x)∧Run E (zok js (bds x) mi (G s)) tb (.nx (G (f s x)))) (k:∀s,s=xs.foldl f s0->I xs.length s->Run E (G s) u (fo (kk s))):Run E Γ (zdD (zsE wi g tb) u) (fo (Let (xs.foldl f s0) kk)):=by
   refine zkB (Δ:=G (xs.foldl f s0)) ?_ (k _ rfl (by simpa using zec (n:=0) (I:=I) h0 λi x s e q=>by rw [Nat.zero_add] at q ⊢;exact (body i x s e q).1))
   have:=zmr (β:=Empty) G (λz=>z.elim) (λs x=> .inl (f s x)) I it w h0 (λb=>b.elim) λi x s e q=>⟨λs' z=>by cases z;exact (body i x s e q).1,(body i x s e q).2⟩
   rw [zhR] at this
   exact this
theorem zjk {S:Type} {f:S->γ->S ⊕ β} {I:Nat->S->Prop}:∀ {xs:List γ} {s s':S} {n:Nat},I n s->(∀(i:Nat) (x:γ) (s:S),xs[i]? =some x->I (n+i) s->∀s',f s x= .inl s'->I (n+i+1) s')->zcm f s xs= .inl s'->I (n+xs.length) s'
 | [],s,s',n,h,_,e=>by cases e;exact h
 | x :: xs,s,s',n,h,k,e=>by
  unfold zcm at e
  cases q:f s x with
   |inr b=>rw [q] at e;cases e
   |inl s1=>
    rw [q] at e
    have h1:=k 0 x s rfl h s1 q
    have:=zjk (xs:=xs) (s:=s1) (n:=n+1) h1 (λi y s' e q=>by
     have:=k (i+1) y s' (by simpa using e) (by rw [show n+(i+1)=n+1+i by omega];exact q)
     rw [show n+1+i+1=n+(i+1)+1 by omega];
     exact this) e
    rw [List.length_cons,show n+(xs.length+1)=n+1+xs.length by omega]
    exact this
theorem ziD {S:Type} {wi:TI} {g:TG} {tb:TS} {js:List Nat} {xs:List γ} {bds:γ->List Ds} {mi:Bool} {s0:S} (G:S->Ctx) (fo:α->Oc) (wr:β->α) {kk:S->α} (f:S->γ->S ⊕ β) (I:Nat->S->Prop) (hres:∀b,zqd (fo (wr b))) (it:Iv Γ wi g js xs bds mi) (w:Wk Γ (G s0)) (h0:I 0 s0)
  (body:∀(i:Nat) (x:γ) (s:S),xs[i]? =some x->I i s->(∀s',f s x= .inl s'->I (i+1) s')∧Run E (zok js (bds x) mi (G s)) tb (zhL G (λb=>fo (wr b)) (f s x))) (k:∀s,zcm f s0 xs= .inl s->I xs.length s->Run E (G s) u (fo (kk s))):Run E Γ (zdD (zsE wi g tb) u) (fo (zmi (zcm f s0 xs) kk wr)):=by
   have h:=zmr G (λb=>fo (wr b)) f I it w h0 (λb F0 Hb D D' e q=>(hres b).meets e q) body
   cases e:zcm f s0 xs with
    |inl s=>
     rw [e] at h
     exact zkB h (k s e (by simpa using zjk (n:=0) h0 (λi x s e q=>by rw [Nat.zero_add] at q ⊢;exact (body i x s e q).1) e))
    |inr b=>
     rw [e] at h
     exactλF0 Hb F H σ own D a q=>h F0 Hb F H σ own _ a ((hres b).meets (D:=D) rfl (show zgA E F0 Hb D (fo (wr b)) from q))
end
end L2
namespace L2
open PySem PySem.Spec PyProof.Rows PySem.Builtin PySem.Builtin.Getset_descriptor
structure XCls (K:W.Frag) (C:Addr):Prop where
 ga:W.findIn K (.ref C) "__getattribute__"=some (some (.builtin "BaseException.__getattribute__"))
 gn:W.findIn K (.ref C) "__getattr__"=some none
 cl:W.findIn K (.ref C) "__class__"=some (some (.builtin "object.__class__"))
 ob:W.mroIn K C (.type "object")=some true
 be:W.mroIn K C (.type "BaseException")=some true
 gt:W.specialIn K (.builtin "object.__class__") "__get__"=some (some (.builtin "getset_descriptor.__get__"))
 tk:W.takesIn K (.builtin "object.__class__")=some true
def XAt (h:Heap) (a C:Addr):Prop:=∃o vs,h.get? a=some o∧o.cls= .ref C∧o.data= .fields vs
section
variable {prog:Program} {w:World} {A:Around} {E:Value->Shared->Prop} {K:W.Frag} {C a:Addr} {h:Heap} {g:Array GenState} {d:Drawn} {t:Nat} {os:OsState}
theorem XAt.ty {M:Model} (x:XAt h a C):W.Looks M h (typeOf (.ref a)) (.ref C):=by
 obtain ⟨o,vs,hx,hc,hd⟩:=x
 exact hc ▸ (W.Looks.ld hx).andThen .now
end
section
variable {X:Cx} {K:W.Frag}
end
end L2
namespace L2
open PySem PySem.Spec PyProof.Rows
section
variable {X:Cx} {pins:List (Addr×Obj)} {σ:St} {H:Hp} {s:Shared}
theorem Inv.locals {h':Heap} {t':Nat} {m':Str->Option Value} {σ':St} (I:Inv X pins σ H s) (hs:Heap.SameBut X.env.locals s.heap h') (hn':h'.Ns X.env.locals m')
  (hl:∀(j:Nat) (y:Str) (v:V),X.N[j]? =some y->σ'[j]? =some (some v)->Vis X.env.scope y->∃u,zde v u∧zu0 X.env h' m' y u) (len:σ'.length=X.N.length):Inv X pins σ' H {s with heap:=h',toks:=t'}:=by
   have lt:∀b o,X.s₀.heap.get? b=some o->b≠X.env.locals:=λb o e=>Nat.ne_of_lt (Nat.lt_of_lt_of_le (Heap.lt_size e) I.ok.above)
   refine ⟨I.ok,I.os,I.bare,⟨λb o e n hb hx=>(hs.2 b (lt b o e)).trans (I.base.keep b o e n hb hx),λb o e n hb hx=> ?_,I.base.free,λb o e hx=> ?_,I.base.tups,I.base.frzs,I.base.tbls⟩,⟨m',hn',hl⟩,λy c e=> ?_,I.free,I.freeC,λp hp=> ?_,λb u e=> ?_,len⟩
   ·
    obtain ⟨sl,q⟩:=I.base.slot b o e n hb hx
    exact ⟨sl,(hs.2 b (lt b o e)).trans q⟩
   ·
    obtain ⟨o',q⟩:=I.base.there b o e hx
    exact ⟨o',(hs.2 b (lt b o e)).trans q⟩
   ·
    obtain ⟨w',z⟩:=I.cell y c e
    exact ⟨w',z.sameBut hs (I.cne y c e)⟩
   ·
    obtain ⟨e,n,ne,nf,d⟩:=I.pin p hp
    exact ⟨(hs.2 p.1 ne).trans e,n,ne,nf,d⟩
   ·
    refine (I.hok b u e).stay (λc v hc q=>(hs.2 c ?_).trans q) (λ_ q=>q) λ_ _ q=>q
    intro z
    have z':=I.free
    rw [←z] at z'
    rcases hc with hc|hc
    ·rw [hc,e] at z';cases z'
    ·rw [hc] at z';cases z'
abbrev Cx.marked (X:Cx) (e:Addr):Cx:= {X with A:=X.A.mark (some (.ref e)),calm:=false,xe:=λ_ _=>False}
theorem Inv.marked {e:Addr} (I:Inv X pins σ H s):Inv (X.marked e) pins σ H s :=
 ⟨⟨I.ok.mod,I.ok.kind,I.ok.glob,I.ok.blt,I.ok.above,I.ok.inj,I.ok.has,I.ok.cab,(λz=>(nomatch z)),I.ok.frames,I.ok.stk,I.ok.exf,I.ok.bs,I.ok.bsz,I.ok.noex,I.ok.exfs,I.ok.funs,I.ok.frf⟩,I.os,I.bare,I.base,I.loc,I.cell,I.free,I.freeC,I.pin,I.hok,I.len⟩
end
section
variable {X:Cx} {K:W.Frag}
end
end L2
namespace L2
open PySem PySem.Spec PyProof.Rows
section
variable {X:Cx} {K:W.Frag} {e:Expr} {st:Stmt} {rest:List Stmt} {pos:Pos}
end
def xdOk (H:Hp) (dct:Option Addr) (fs:List (Str×Ds)):Prop:=fs=[]∨∃d vs,dct=some d∧H d=some (.xd vs)∧Paired (λ(a:Str×V) (b:Str×Ds)=>a.1=b.1∧b.2.pr H a.2) vs fs
class XF (ε:Type) where
 fs:ε->List (Str×Ds)
def xφ {ε:Type} [XF ε] (e:ε):Hp->Option Addr->Prop:=λF dct=>xdOk F dct (XF.fs e)
section
variable {E:XS} {Γ Δ Γx:Ctx} {m:Bool} {K:W.Frag} {α β ε:Type} [XF ε] {u:TS} {o:Oc} {ds:List Ds}
end
section
variable {E:XS} {Γ:Ctx} {K:W.Frag} {α β ε:Type} [XF ε] {u:TS}
end
section
variable {P:Program} {w:World} {K:W.Frag} {mg:Str->Option Value} {base:Heap} {x qual:Str} {st:Stmt} {f:Addr} {fd:FuncData} {N ps:List Str} {k:Nat}
end
end L2
namespace L2
open PySem PySem.Spec PyProof.Rows
def EvN (Γ:Ctx) (t:TE) (d:Ds):Prop:=∀(F0 Hb F H:Hp) (σ:St) (own:Nat->Option Addr) (Q:VK),At F0 Hb F H σ own Γ->(∀v F' H',Grow F H F' H'->d.pr (off F' H) v->Q v H')->t σ H Q
def zuH:Slot->Slot
 | .va _ d=>.va false d
 | _=>.no
def ztP (Γ:Ctx):Ctx:=Γ.map zuH
theorem At.now {F0 Hb F H:Hp} {σ:St} {own:Nat->Option Addr} {Γ:Ctx} (a:At F0 Hb F H σ own Γ):At F H F H σ (λ_=>none) (ztP Γ):=by
 refine ⟨Grow.refl a.fh,λ_ _ _ h=>(nomatch h),λ_ _ h=>(nomatch h),λi s e=> ?_,by unfold ztP;rw [List.length_map];exact a.len⟩
 unfold ztP at e
 rw [List.getElem?_map] at e
 cases q:Γ[i]? with
  |none=>rw [q] at e;cases e
  |some r=>
   rw [q] at e
   have e':zuH r=s:=Option.some.inj e
   subst e'
   have h:=a.sl i r q
   cases r with
    |va m d=>
     obtain ⟨x,h1,h2⟩:=h
     exact ⟨x,h1,d.up za4 h2⟩
    |no=>trivial
    |ow m ds=>trivial
    |ob m C p dx fs=>trivial
    |ol p ds=>trivial
    |tl d=>trivial
theorem zlC {Γ:Ctx} {t:TE} {d:Ds} (h:Ev (ztP Γ) t true d):EvN Γ t d:=λF0 Hb F H σ own Q a k=>h F H F H σ _ Q a.now λv F' H' g q=>k v F' H' g q
theorem At.setTl {F0 Hb F H F' H':Hp} {σ:St} {own:Nat->Option Addr} {Γ:Ctx} (a:At F0 Hb F H σ own Γ) (g:Grow F H F' H') (i:Nat) {d:Ds} {v:V} (h:d.pr (off F' H) v):At F0 Hb F H' (σ.set i (some v)) own (Γ.set i (.tl d)):=by
 have gF:Grow F H F H':=⟨Same.refl _,a.fh.trans g.h,g.h,λ_ _ z=>z⟩
 have a':=a.grow gF
 refine ⟨a'.g,a'.inj,a'.liv,λj s e=> ?_,by simp [a.len]⟩
 by_cases z:i=j
 ·
  subst z
  have hi:i<Γ.length:=by simpa using (List.getElem?_eq_some_iff.mp e).1
  rw [List.getElem?_set_self hi] at e
  cases e
  rw [zdt (by rw [a.len];exact hi)]
  refine ⟨v,off F' H,rfl,zn6.trans g.fh,λb o q=> ?_,λj p q=> ?_,h⟩
  ·
   have hb:=(zdb.mp q).1
   exact ⟨a.fh.free hb,a.g.h.free hb⟩
  ·
   have:=a.liv j p q
   cases w:off F' H p with
    |none=>rfl
    |some o=>exact absurd (zdb.mp w).1 this
 ·
  rw [List.getElem?_set_ne z] at e
  rw [zew z]
  exact a'.sl j s e
section
variable {E:XS} {Γ:Ctx} {te:TE} {u:TS} {o:Oc} {d d1 d2:Ds} {K:W.Frag} {i j:Nat}
theorem zpn (h:EvN Γ te d) (k:Run E (Γ.set i (.tl d)) u o):Run E Γ (zdD (zl9 te (zds i)) u) o:=λF0 Hb F H σ own D a q=>h F0 Hb F H σ own _ a λv F' H' g p=>k F0 Hb F H' _ own D (a.setTl g i p) q
theorem zo7 {α β:Type} {x:α} (f:α->Ds) (fo:β->Oc) {kk:α->β} (h:EvN Γ te (f x)) (k:∀y,y=x->Run E (Γ.set i (.tl (f y))) u (fo (kk y))):Run E Γ (zdD (zl9 te (zds i)) u) (fo (Let x kk)):=zpn h (k x rfl)
end
def shS:Slot->Slot
 | .tl d=>.va true d
 | s=>s
def shC (Γ:Ctx):Ctx:=Γ.map shS
def zpX (Γ:Ctx):Bool:=Γ.all λs=>match s with| .ob _ _ _ _ _=>false|_=>true
open Classical in
noncomputable def wide (F Hb H:Hp) (own:Nat->Option Addr):Hp:=λa=>match F a with|some o=>some o|none=>if Hb a=none∧∀j,own j≠some a then H a else none
theorem zlc {F Hb H:Hp} {own:Nat->Option Addr}:Same F (wide F Hb H own):=λa o q=>by unfold wide;rw [q]
theorem zsf {F Hb H:Hp} {own:Nat->Option Addr} (e:Same F H):Same (wide F Hb H own) H:=λa o q=>by
 unfold wide at q
 cases z:F a with
  |some o'=>rw [z] at q;cases q;exact e _ _ z
  |none=>
   rw [z] at q
   dsimp only at q
   split at q
   ·exact q
   ·cases q
theorem At.wide {F0 Hb F H:Hp} {σ:St} {own:Nat->Option Addr} {Γ:Ctx} (a:At F0 Hb F H σ own Γ) (hno:zpX Γ=true):At F0 Hb (wide F Hb H own) H σ own (shC Γ):=by
 refine ⟨⟨a.g.f.trans zlc,zsf a.fh,a.g.h,λb h1 h2=> ?_⟩,a.inj,a.liv,λi s e=> ?_,by unfold shC;rw [List.length_map];exact a.len⟩
 ·
  unfold L2.wide
  rw [a.g.no b h1 h2]
  dsimp only
  rw [if_neg (λz=>h1 z.1)]
 ·
  unfold shC at e
  rw [List.getElem?_map] at e
  cases q:Γ[i]? with
   |none=>rw [q] at e;cases e
   |some r=>
    rw [q] at e
    have e':shS r=s:=Option.some.inj e
    subst e'
    have h:=a.sl i r q
    cases r with
     |va m d=>
      obtain ⟨x,h1,h2⟩:=h
      exact ⟨x,h1,d.up (za8 zlc) h2⟩
     |no=>trivial
     |ow m ds=>
      obtain ⟨p,vs,h1,h2,h3,h4,h5,h6⟩:=h
      refine ⟨p,vs,h1,h2,?_,h4,h5,zdk (ds:=[]) (za8 zlc) h6⟩
      unfold L2.wide
      rw [h3]
      dsimp only
      rw [if_neg (λz=>z.2 i h2)]
     |ol p ds=>
      obtain ⟨vs,h1,h2,h3,h4,h5,h6⟩:=h
      refine ⟨vs,h1,h2,?_,h4,h5,zdk (ds:=[]) zlc h6⟩
      unfold L2.wide
      rw [h3]
      dsimp only
      rw [if_neg (λz=>z.2 i h2)]
     |ob m C p dx fs=>
      have:=List.all_eq_true.mp hno _ (List.mem_of_getElem? q)
      cases this
     |tl d=>
      obtain ⟨x,R,h1,h2,h3,h4,h5⟩:=h
      refine ⟨x,h1,d.up (λb o w=> ?_) h5⟩
      refine zdb.mpr ⟨(h3 b o w).2,?_⟩
      unfold L2.wide
      rw [(h3 b o w).1]
      dsimp only
      rw [if_pos ⟨(h3 b o w).2,λj z=>by rw [h4 j b z] at w;cases w⟩]
      exact h2 b o w
section
variable {E:XS} {Γ:Ctx} {t:TE} {d:Ds} {m n:Bool} {u:TS} {o:Oc}
theorem Grow.only {F H H':Hp} (e:Same F H) (g:Same H H'):Grow F H F H':=⟨Same.refl _,e.trans g,g,λ_ _ z=>z⟩
theorem EvN.ev (h:EvN Γ t d):Ev Γ t true d:=λF0 Hb F H σ own Q a k=>h F0 Hb F H σ own Q a λv F' H' g q=>k v F' H' g (d.up (znA a.g.h) q)
theorem zmg {t:TS} (hno:zpX Γ=true) (k:Run E (shC Γ) t o):Run E Γ t o:=λF0 Hb F H σ own D a q=>k F0 Hb _ H σ own D (a.wide hno) q
def unS:Slot->Slot
 | .tl _=>.no
 | s=>s
def unC (Γ:Ctx):Ctx:=Γ.map unS
theorem At.spoil {F0 Hb F H:Hp} {σ:St} {own:Nat->Option Addr} (a:At F0 Hb F H σ own Γ) (hno:zpX Γ=true) {p:Addr} (w:HO) (h1:F p=none) (h2:Hb p=none) (h3:∀j,own j≠some p):At F0 Hb F (upd H p w) σ own (unC Γ):=by
 refine ⟨a.g.setH h1 h2,a.inj,λj q e=> ?_,λi s e=> ?_,by unfold unC;rw [List.length_map];exact a.len⟩
 ·
  have:q≠p:=λz=>h3 j (z ▸ e)
  rw [zai this];
  exact a.liv j q e
 ·
  unfold unC at e
  rw [List.getElem?_map] at e
  cases q:Γ[i]? with
   |none=>rw [q] at e;cases e
   |some r=>
    rw [q] at e
    have e':unS r=s:=Option.some.inj e
    subst e'
    have h:=a.sl i r q
    cases r with
     |va m d=>exact h
     |no=>trivial
     |ow m ds=>
      obtain ⟨x,vs,q1,q2,q3,q4,q5,q6⟩:=h
      have:x≠p:=λz=>h3 i (z ▸ q2)
      exact ⟨x,vs,q1,q2,q3,q4,by rw [zai this];exact q5,q6⟩
     |ol x ds=>
      obtain ⟨vs,q1,q2,q3,q4,q5,q6⟩:=h
      have:x≠p:=λz=>h3 i (z ▸ q2)
      exact ⟨vs,q1,q2,q3,q4,by rw [zai this];exact q5,q6⟩
     |ob m C p dx fs=>
      have:=List.all_eq_true.mp hno _ (List.mem_of_getElem? q)
      cases this
     |tl d=>trivial
end
theorem ev_some {Γ:Ctx} {t:TE} {m:Bool} {α:Type} [Inhabited α] {f:α->Ds} {x:Option α} (h:Ev Γ t m (dOpt f x)) (hs:x.isSome=true):Ev Γ t m (f (x.getD default)):=by
 cases x with
  |none=>cases hs
  |some v=>exact h
def gS {α:Type} [Inhabited α] (x:Option α):α:=x.getD default
section
variable {E:XS} {Γ:Ctx} {te:TE} {u:TS} {K:W.Frag} {i j:Nat} {α β:Type} {f:α->Ds}
end
section
variable {X:Cx} {K:W.Frag}
end
end L2
namespace Lat
abbrev Vc:=Nat->Int
inductive Sp (A:Vc->Prop):Vc->Prop
 | zero:Sp A (λ_=>0)
 | add {u a:Vc} (x:Int):Sp A u->A a->Sp A (λi=>u i+x*a i)
section
variable {A B:Vc->Prop} {u v a:Vc}
theorem Sp.conv (h:Sp A u) (e:∀ i,u i=v i):Sp A v:=(funext e:u=v) ▸ h
theorem Sp.mem (h:A a):Sp A a:=(Sp.add 1 Sp.zero h).conv λi=>by grind
theorem Sp.smul (x:Int) (h:Sp A u):Sp A (λi=>x*u i):=by
 induction h with
  |zero=>exact Sp.zero.conv λi=>by grind
  | @ add u a z _ ha ih=>exact (Sp.add (x*z) ih ha).conv λi=>by grind
theorem Sp.plus (h:Sp A u) (k:Sp A v):Sp A (λi=>u i+v i):=by
 induction k with
  |zero=>exact h.conv λi=>by grind
  | @ add w a z _ ha ih=>exact (Sp.add z ih ha).conv λi=>by grind
theorem Sp.lin (x y:Int) (h:Sp A u) (k:Sp A v):Sp A (λi=>x*u i+y*v i):=(h.smul x).plus (k.smul y)
theorem Sp.sub (k:∀a,A a->Sp B a) (h:Sp A u):Sp B u:=by
 induction h with
  |zero=>exact Sp.zero
  | @ add u a z _ ha ih=>exact (ih.plus ((k a ha).smul z)).conv λi=>by grind
theorem Sp.mono (k:∀ a,A a->B a) (h:Sp A u):Sp B u:=h.sub λa ha=> .mem (k a ha)
theorem Sp.at0 {i:Nat} (k:∀a,A a->a i=0) (h:Sp A u):u i=0:=by
 induction h with
  |zero=>rfl
  | @ add u a z _ ha ih=>show u i+z*a i=0;rw [ih,k a ha];simp
theorem Sp.split {a:Vc} (h:Sp (λu=>A u∨u=a) v):∃w y,Sp A w∧∀i,v i=w i+y*a i:=by
 induction h with
  |zero=>exact ⟨_,0,.zero,λi=>by grind⟩
  | @ add u b z _ hb ih=>
   obtain ⟨w,y,hw,e⟩:=ih
   rcases hb with hb|rfl
   ·exact ⟨_,y,.add z hw hb,λi=>by grind⟩
   ·exact ⟨w,y+z,hw,λi=>by grind⟩
end
noncomputable def comb:Ji->List Vc->Vc
 | x :: xs,a :: as=>λi=>x*a i+comb xs as i
 | _,_=>λ_=>0
theorem zfx {A:Vc->Prop}:∀ {xs:Ji} {as:List Vc},(∀a∈as,A a)->Sp A (comb xs as)
 | [],_,_=>.zero
 | _ :: _,[],_=>.zero
 | x :: xs,a :: as,h=>(((Sp.mem (h a List.mem_cons_self)).smul x).plus (zfx (xs:=xs) λb hb=>h b (List.mem_cons_of_mem _ hb))).conv λi=>by simp only [comb]
theorem zlq:∀ {xs ys:Ji} {as:List Vc} (i:Nat),xs.length=ys.length->comb (List.zipWith (· - ·) xs ys) as i=comb xs as i-comb ys as i
 | [],[],_,_,_=>by simp [comb]
 | x :: xs,y :: ys,[],_,_=>by simp [comb]
 | x :: xs,y :: ys,a :: as,i,h=>by
  have:=zlq (xs:=xs) (ys:=ys) (as:=as) i (by simpa using h)
  simp only [comb,List.zipWith_cons_cons,this]
  grind
theorem zhv:∀ {xs:Ji} {as:List Vc} (c:Int) (i:Nat),comb (xs.map (c* ·)) as i=c*comb xs as i
 | [],_,_,_=>by simp [comb]
 | x :: xs,[],_,_=>by simp [comb]
 | x :: xs,a :: as,c,i=>by
  have:=zhv (xs:=xs) (as:=as) c i
  simp only [comb,List.map_cons,this]
  grind
theorem ziF {X B:Nat} {i:Nat}:∀ {xs:Ji} {as:List Vc},(∀x∈xs,x.natAbs≤X)->(∀a∈as,(a i).natAbs≤B)->(comb xs as i).natAbs≤as.length*(X*B)
 | [],_,_,_=>by simp [comb]
 | _ :: _,[],_,_=>by simp [comb]
 | x :: xs,a :: as,h,k=>by
  have h1:=ziF (xs:=xs) (as:=as) (λy hy=>h y (List.mem_cons_of_mem _ hy)) λb hb=>k b (List.mem_cons_of_mem _ hb)
  have h2:(x*a i).natAbs≤X*B:=by rw [Int.natAbs_mul];exact Nat.mul_le_mul (h x List.mem_cons_self) (k a List.mem_cons_self)
  simp only [comb,List.length_cons,Nat.succ_mul]
  omega
theorem zpx:∀(M N:Nat) (f:Nat->Nat),M<N->(∀n,n<N->f n<M)->∃i j,i<j∧j<N∧f i=f j
 | 0,N,f,h,k=>absurd (k 0 h) (Nat.not_lt_zero _)
 | M+1,N,f,h,k=>by
  by_cases q:∃i,i<N-1∧f i=f (N-1)
  ·
   obtain ⟨i,h1,h2⟩:=q
   exact ⟨i,N-1,h1,by omega,h2⟩
  ·
   have q:∀i,i<N-1->f i≠f (N-1):=λi h1 h2=>q ⟨i,h1,h2⟩
   obtain ⟨i,j,h1,h2,h3⟩:=zpx M (N-1) (λn=>if f (N-1)<f n then f n-1 else f n) (by omega) λn hn=>by
    have a:=k n (by omega)
    have b:=k (N-1) (by omega)
    have c:=q n hn
    show (if f (N-1)<f n then f n-1 else f n)<M
    split<;>omega
   refine ⟨i,j,h1,by omega,?_⟩
   have a:=q i (by omega)
   have b:=q j h2
   split at h3<;>split at h3<;>omega
noncomputable def zhM (b:Nat):Nat->Nat->Ji
 | 0,_=>[]
 | k+1,n=>((n%b:Nat):Int)::zhM b k (n/b)
theorem zdV {b:Nat}:∀ {k n:Nat},(zhM b k n).length=k
 | 0,_=>rfl
 | k+1,n=>by simp [zhM,zdV]
theorem ziq {b:Nat} (hb:0<b):∀ {k n:Nat},∀x∈zhM b k n,0≤x∧x<b
 | 0,_,x,h=>by simp [zhM] at h
 | k+1,n,x,h=>by
  simp only [zhM,List.mem_cons] at h
  rcases h with rfl|h
  ·
   have:=Nat.mod_lt n hb
   omega
  ·exact ziq hb x h
theorem zkV {b:Nat} (hb:0<b):∀ {k n m:Nat},n<b ^ k->m<b ^ k->zhM b k n=zhM b k m->n=m
 | 0,n,m,h1,h2,_=>by simp at h1 h2;omega
 | k+1,n,m,h1,h2,e=>by
  simp only [zhM,List.cons.injEq] at e
  have h3:=zkV hb (k:=k) (Nat.div_lt_of_lt_mul (by rw [Nat.pow_succ,Nat.mul_comm] at h1;exact h1)) (Nat.div_lt_of_lt_mul (by rw [Nat.pow_succ,Nat.mul_comm] at h2;exact h2)) e.2
  have h4:=Nat.div_add_mod n b
  have h5:=Nat.div_add_mod m b
  rw [h3] at h4
  omega
noncomputable def enc (W:Nat) (u:Vc):List Nat->Nat
 | []=>0
 | h :: hs=>(u h+W).toNat+(2*W+1)*enc W u hs
theorem zpO {W:Nat} {u:Vc}:∀ {hs:List Nat},(∀h∈hs,(u h).natAbs≤W)->enc W u hs<(2*W+1) ^ hs.length
 | [],_=>by simp [enc]
 | h :: hs,k=>by
  have h1:=zpO (hs:=hs) λg hg=>k g (List.mem_cons_of_mem _ hg)
  have h2:=k h List.mem_cons_self
  simp only [enc,List.length_cons,Nat.pow_succ]
  have h3:(2*W+1)*(enc W u hs+1)≤(2*W+1)*(2*W+1) ^ hs.length:=Nat.mul_le_mul_left _ h1
  rw [Nat.mul_comm ((2*W+1) ^ hs.length)]
  rw [Nat.mul_add] at h3
  omega
theorem znO {W:Nat} {u v:Vc}:∀ {hs:List Nat},(∀h∈hs,(u h).natAbs≤W∧(v h).natAbs≤W)->enc W u hs=enc W v hs->∀h∈hs,u h=v h
 | [],_,_,h,hh=>by simp at hh
 | g :: hs,k,e,h,hh=>by
  have h2:=k g List.mem_cons_self
  simp only [enc] at e
  have e1:((u g+W).toNat+(2*W+1)*enc W u hs)%(2*W+1)=((v g+W).toNat+(2*W+1)*enc W v hs)%(2*W+1):=by rw [e]
  rw [Nat.add_mul_mod_self_left,Nat.add_mul_mod_self_left,Nat.mod_eq_of_lt (by omega),Nat.mod_eq_of_lt (by omega)] at e1
  have e2:u g=v g:=by omega
  rcases List.mem_cons.mp hh with rfl|hh
  ·exact e2
  ·
   refine znO (λx hx=>k x (List.mem_cons_of_mem _ hx)) ?_ h hh
   rw [e1] at e
   exact Nat.eq_of_mul_eq_mul_left (show 0<2*W+1 by omega) (Nat.add_left_cancel e)
theorem zsN {as:List Vc} {hs:List Nat} {B:Nat} (hl:hs.length<as.length) (hB:∀a∈as,∀h∈hs,(a h).natAbs≤B) :
  ∃xs:Ji,xs.length=as.length∧(∃x∈xs,x≠0)∧(∀x∈xs,x.natAbs≤(2*(as.length*B)+1) ^ hs.length)∧∀h∈hs,comb xs as h=0:=by
   generalize hY:2*(as.length*B)+1=Y
   have hY1:1≤Y:=by omega
   generalize hX:Y ^ hs.length=X
   have hX1:1≤X:=by rw [←hX];exact Nat.one_le_pow _ _ hY1
   have key:∀n,∀h∈hs,(comb (zhM (X+1) as.length n) as h).natAbs≤as.length*(X*B):=λn h hh=>ziF (λx hx=>by have:=ziq (by omega) x hx;omega) λa ha=>hB a ha h hh
   obtain ⟨i,j,h1,h2,h3⟩:=zpx ((2*(as.length*(X*B))+1) ^ hs.length) ((X+1) ^ as.length) (λn=>enc (as.length*(X*B)) (comb (zhM (X+1) as.length n) as) hs) (by
    have e1:2*(as.length*(X*B))+1≤Y*X:=by
     rw [←hY,Nat.add_mul,Nat.one_mul,Nat.mul_assoc,Nat.mul_assoc,Nat.mul_comm B X]
     omega
    calc
     (2*(as.length*(X*B))+1) ^ hs.length≤(Y*X) ^ hs.length:=Nat.pow_le_pow_left e1 _
     _=X*X ^ hs.length:=by rw [Nat.mul_pow,hX]
     _=X ^ (hs.length+1):=by rw [Nat.pow_succ,Nat.mul_comm]
     _≤X ^ as.length:=Nat.pow_le_pow_right hX1 hl
     _<(X+1) ^ as.length:=Nat.pow_lt_pow_left (by omega) (by omega)) λn _=>zpO (key n)
   refine ⟨List.zipWith (· - ·) (zhM (X+1) as.length i) (zhM (X+1) as.length j),by simp [zdV],?_,λx hx=> ?_,λh hh=> ?_⟩
   ·
    refine Classical.byContradiction λq=> ?_
    have q:∀x∈List.zipWith (· - ·) (zhM (X+1) as.length i) (zhM (X+1) as.length j),x=0:=λx hx=>Classical.byContradiction λz=>q ⟨x,hx,z⟩
    have e:zhM (X+1) as.length i=zhM (X+1) as.length j:=by
     refine List.ext_getElem (by simp [zdV]) λk k1 k2=> ?_
     have:=q _ (List.getElem_mem (l:=List.zipWith (· - ·) (zhM (X+1) as.length i) (zhM (X+1) as.length j)) (n:=k) (by simp [zdV] at*;omega))
     rw [List.getElem_zipWith] at this
     omega
    have:=zkV (by omega) (Nat.lt_trans h1 h2) h2 e
    omega
   ·
    obtain ⟨k,hk,rfl⟩:=List.getElem_of_mem hx
    have hk':k<as.length:=by simpa [zdV] using hk
    rw [List.getElem_zipWith]
    have:=ziq (b:=X+1) (by omega) _ (List.getElem_mem (l:=zhM (X+1) as.length i) (n:=k) (by rw [zdV];exact hk'))
    have:=ziq (b:=X+1) (by omega) _ (List.getElem_mem (l:=zhM (X+1) as.length j) (n:=k) (by rw [zdV];exact hk'))
    omega
   ·
    rw [zlq _ (by simp [zdV])]
    have:=znO (λh hh=>⟨key i h hh,key j h hh⟩) h3 h hh
    omega
theorem first {u:Vc} {c:Nat} (h:u c≠0):∃d,d≤c∧u d≠0∧∀i,i<d->u i=0:=by
 induction c using Nat.strongRecOn with
  |_ c ih=>
   by_cases q:∃i,i<c∧u i≠0
   ·
    obtain ⟨i,h1,h2⟩:=q
    obtain ⟨d,h3,h4⟩:=ih i h1 h2
    exact ⟨d,by omega,h4⟩
   ·exact ⟨c,Nat.le_refl c,h,λi hi=>Classical.byContradiction λz=>q ⟨i,hi,z⟩⟩
noncomputable def bnd (k B C:Nat):Nat:=(k+1)*((2*((k+1)*C)+1) ^ k*B)
theorem zi9 {k l B C:Nat} (h:k≤l):bnd k B C≤bnd l B C:=by
 unfold bnd
 refine Nat.mul_le_mul (by omega) (Nat.mul_le_mul_right _ ?_)
 refine Nat.le_trans (Nat.pow_le_pow_right (by omega) h) (Nat.pow_le_pow_left ?_ _)
 have:=Nat.mul_le_mul_right C (show k+1≤l+1 by omega)
 omega
structure Wit (A:Vc->Prop) (B E:Nat) (hs:List Nat) (as:List Vc):Prop where
 len:hs.length=as.length
 mem:∀ a∈as,A a
 bd:∀ a∈as,∀ i,(a i).natAbs≤B
 van:∀ u,Sp A u->(∀ h∈hs,u h=0)->∀ i,u i=0
 hd:∀ h∈hs,∃ v,Sp A v∧(∀ i,i<h->v i=0)∧v h≠0∧∀ i,(v i).natAbs≤E
 ind:∀ xs:Ji,xs.length=as.length->(∀ i,comb xs as i=0)->∀ x∈xs,x=0
theorem Wit.nil {B E:Nat}:Wit (λ_=>False) B E [] [] where
 len:=rfl
 mem:=by simp
 bd:=by simp
 van:=λu h _ i=>h.at0 λ_ z=>z.elim
 hd:=by simp
 ind:=λxs h _ x hx=>by rw [List.length_eq_zero_iff.mp h] at hx;simp at hx
theorem Wit.rel {A:Vc->Prop} {B C E:Nat} {hs:List Nat} {as:List Vc} {u:Vc} (W:Wit A B E hs as) (hBC:B≤C) (hu:∀h∈hs,(u h).natAbs≤C) :
  ∃(x:Int) (xs:Ji),x≠0∧xs.length=as.length∧x.natAbs≤(2*((as.length+1)*C)+1) ^ as.length∧(∀y∈xs,y.natAbs≤(2*((as.length+1)*C)+1) ^ as.length)∧∀h∈hs,x*u h+comb xs as h=0:=by
   obtain ⟨xs,h1,⟨z,hz,hz0⟩,h3,h4⟩:=zsN (as:=u::as) (hs:=hs) (B:=C) (by simp [W.len]) λa ha h hh=>by
    rcases List.mem_cons.mp ha with rfl|ha
    ·exact hu h hh
    ·exact Nat.le_trans (W.bd a ha h) hBC
   rw [W.len,List.length_cons] at h3
   match xs,h1 with
    |x::xs,h1=>
     refine ⟨x,xs,λq=> ?_,by simpa using h1,h3 x List.mem_cons_self,λy hy=>h3 y (List.mem_cons_of_mem _ hy),λh hh=>by have:=h4 h hh;simpa [comb] using this⟩
     subst q
     have k1:∀i,comb xs as i=0:=W.van _ (zfx W.mem) λh hh=>by have:=h4 h hh;simpa [comb] using this
     have k2:=W.ind xs (by simpa using h1) k1
     rcases List.mem_cons.mp hz with rfl|hz
     ·exact hz0 rfl
     ·exact hz0 (k2 z hz)
theorem Wit.step {A:Vc->Prop} {B E:Nat} {hs:List Nat} {as:List Vc} {a:Vc} (W:Wit A B E hs as) (ha:∀i,(a i).natAbs≤B) (hE:bnd as.length B B≤E) :
  ∃hs' as',Wit (λu=>A u∨u=a) B E hs' as'∧as'.length≤as.length+1:=by
   obtain ⟨x,xs,hx,hl,b1,b2,h0⟩:=W.rel (u:=a) (Nat.le_refl B) λh _=>ha h
   have sp1:Sp A (comb xs as):=zfx W.mem
   have up:∀u,Sp A u->Sp (λu=>A u∨u=a) u:=λu hu=>hu.mono λ_=> .inl
   have hva:Sp (λu=>A u∨u=a) (λi=>x*a i+comb xs as i):=((Sp.mem (.inr rfl)).smul x).plus (up _ sp1)
   by_cases q:∃i,x*a i+comb xs as i≠0
   ·
    obtain ⟨i,hi⟩:=q
    obtain ⟨c,_,hc,hc0⟩:=first (u:=λi=>x*a i+comb xs as i) hi
    refine ⟨c::hs,a::as,⟨by simp [W.len],λb hb=> ?_,λb hb=> ?_,λu hu hv=> ?_,λh hh=> ?_,λys hy hys=> ?_⟩,by simp⟩
    ·
     rcases List.mem_cons.mp hb with rfl|hb
     ·exact .inr rfl
     ·exact .inl (W.mem b hb)
    ·
     rcases List.mem_cons.mp hb with rfl|hb
     ·exact ha
     ·exact W.bd b hb
    ·
     obtain ⟨w,y,hw,e⟩:=hu.split
     have k1:∀i,x*w i-y*comb xs as i=0:=λi=>by
      have:=W.van _ (hw.lin x (-y) sp1) (λh hh=>by
       have e1:=e h
       rw [hv h (List.mem_cons_of_mem _ hh)] at e1
       have e2:=h0 h hh
       grind) i
      grind
     have k2:y=0:=by
      have e1:=e c
      rw [hv c List.mem_cons_self] at e1
      have e2:=k1 c
      have e3:y*(x*a c+comb xs as c)=0:=by grind
      rcases Int.mul_eq_zero.mp e3 with z|z
      ·exact z
      ·exact (hc z).elim
     intro i
     have e1:=e i
     have e2:=k1 i
     have e3:x*u i=0:=by grind
     exact (Int.mul_eq_zero.mp e3).resolve_left hx
    ·
     rcases List.mem_cons.mp hh with rfl|hh
     ·
      refine ⟨_,hva,hc0,hc,λi=> ?_⟩
      have e1:=ziF (i:=i) b2 λb hb=>W.bd b hb i
      have e2:(x*a i).natAbs≤(2*((as.length+1)*B)+1) ^ as.length*B:=by rw [Int.natAbs_mul];exact Nat.mul_le_mul b1 (ha i)
      unfold bnd at hE
      rw [Nat.add_mul,Nat.one_mul] at hE
      show (x*a i+comb xs as i).natAbs≤E
      omega
     ·
      obtain ⟨v,q1,q2⟩:=W.hd h hh
      exact ⟨v,up v q1,q2⟩
    ·
     match ys,hy with
      |y::ys,hy=>
       have k1:∀i,x*comb ys as i-y*comb xs as i=0:=λi=>by
        have:=W.van _ ((zfx (xs:=ys) W.mem).lin x (-y) sp1) (λh hh=>by
         have e1:=hys h
         simp only [comb] at e1
         have e2:=h0 h hh
         grind) i
        grind
       have k2:y=0:=by
        have e1:=hys c
        simp only [comb] at e1
        have e2:=k1 c
        have e3:y*(x*a c+comb xs as c)=0:=by grind
        rcases Int.mul_eq_zero.mp e3 with z|z
        ·exact z
        ·exact (hc z).elim
       subst k2
       have k3:=W.ind ys (by simpa using hy) λi=>by have:=hys i;simpa [comb] using this
       intro z hz
       rcases List.mem_cons.mp hz with rfl|hz
       ·rfl
       ·exact k3 z hz
   ·
    have q:∀i,x*a i+comb xs as i=0:=λi=>Classical.byContradiction λz=>q ⟨i,z⟩
    refine ⟨hs,as,⟨W.len,λb hb=> .inl (W.mem b hb),W.bd,λu hu hv=> ?_,λh hh=> ?_,W.ind⟩,by omega⟩
    ·
     obtain ⟨w,y,hw,e⟩:=hu.split
     have k1:∀i,x*w i-y*comb xs as i=0:=λi=>by
      have:=W.van _ (hw.lin x (-y) sp1) (λh hh=>by
       have e1:=e h
       rw [hv h hh] at e1
       have e2:=h0 h hh
       grind) i
      grind
     intro i
     have e1:=e i
     have e2:=k1 i
     have e3:=q i
     have e4:x*u i=0:=by grind
     exact (Int.mul_eq_zero.mp e4).resolve_left hx
    ·
     obtain ⟨v,q1,q2⟩:=W.hd h hh
     exact ⟨v,up v q1,q2⟩
theorem Wit.small {A:Vc->Prop} {B C E:Nat} {hs:List Nat} {as:List Vc} {u:Vc} (W:Wit A B E hs as) (hBC:B≤C) (hs_:Sp A u) (hu:∀h∈hs,(u h).natAbs≤C) (i:Nat):(u i).natAbs≤bnd as.length B C:=by
 obtain ⟨x,xs,hx,hl,b1,b2,h0⟩:=W.rel hBC hu
 have k:=W.van _ ((hs_.smul x).plus (zfx (xs:=xs) W.mem)) h0 i
 have e1:=ziF (i:=i) b2 λb hb=>W.bd b hb i
 have e2:(x*u i).natAbs=(comb xs as i).natAbs:=by
  have k:x*u i+comb xs as i=0:=k
  omega
 rw [Int.natAbs_mul] at e2
 have e3:(u i).natAbs≤x.natAbs*(u i).natAbs:=Nat.le_mul_of_pos_left _ (Int.natAbs_pos.mpr hx)
 unfold bnd
 rw [Nat.add_mul]
 omega
theorem Wit.head {A:Vc->Prop} {B E:Nat} {hs:List Nat} {as:List Vc} {u:Vc} {h:Nat} (W:Wit A B E hs as) (hu:Sp A u) (h0:∀i,i<h->u i=0) (h1:u h≠0):h∈hs:=by
 refine Classical.byContradiction λq=> ?_
 have hm:∃n,∀g∈hs,g<n:=by
  clear W q
  induction hs with
   |nil=>exact ⟨0,by simp⟩
   |cons g hs ih=>
    obtain ⟨n,hn⟩:=ih
    exact ⟨max n (g+1),λk hk=>by
     rcases List.mem_cons.mp hk with rfl|hk
     ·omega
     ·have:=hn k hk;omega⟩
 obtain ⟨n,hn⟩:=hm
 have main:∀(d t:Nat) (u:Vc),n-t=d->h<t->Sp A u->u h≠0->(∀g∈hs,g<t->u g=0)->False:=by
  intro d
  induction d with
   |zero=>exactλt u e _ hu h1 k=>h1 (W.van u hu (λg hg=>k g hg (by have:=hn g hg;omega)) h)
   |succ d ih=>
    intro t u e ht hu h1 k
    by_cases z:t∈hs
    ·
     obtain ⟨v,v1,v2,v3,_⟩:=W.hd t z
     refine ih (t+1) _ (by omega) (by omega) (hu.lin (v t) (-(u t)) v1) ?_ λg hg hgt=> ?_
     ·
      show v t*u h+ -u t*v h≠0
      rw [v2 h ht]
      intro y
      rcases Int.mul_eq_zero.mp (show v t*u h=0 by grind) with y|y
      ·exact v3 y
      ·exact h1 y
     ·
      show v t*u g+ -u t*v g=0
      by_cases y:g=t
      ·subst y;grind
      ·rw [v2 g (by omega),k g hg (by omega)];grind
    ·
     exact ih (t+1) u (by omega) (by omega) hu h1 λg hg hgt=>k g hg (by
      have:g≠t:=λy=>z (y ▸ hg)
      omega)
 exact main _ (h+1) u rfl (by omega) hu h1 λg hg hgt=>by
  by_cases y:g=h
  ·exact (q (y ▸ hg)).elim
  ·exact h0 g (by omega)
end Lat
namespace L2
open PySem PySem.Spec PyProof.Rows
def whl {S:Type} (c:S->Bool) (f:S->S):Nat->S->S
 | 0,s=>s
 | n+1,s=>bif c s then whl c f n (f s) else s
theorem zle {S:Type} {c:S->Bool} {f:S->S} {s:S} (h:c s=false):∀n,whl c f n s=s
 | 0=>rfl
 | n+1=>by rw [whl,h];rfl
theorem zpR {S:Type} {c:S->Bool} {f:S->S} {s:S} (h:c s=true) (n:Nat):whl c f (n+1) s=whl c f n (f s):=by rw [whl,h];rfl
theorem zkA {S:Type} {c:S->Bool} {f:S->S} {I:S->Prop} {μ:S->Nat} (hs:∀s,I s->c s=true->I (f s)∧μ (f s)<μ s):∀ {n:Nat} {s:S},I s->μ s≤n->I (whl c f n s)∧c (whl c f n s)=false
 | 0,s,h,k=>⟨h,by
  show c s=false
  cases q:c s with
   |false=>rfl
   |true=>have:=(hs s h q).2;omega⟩
 | n+1,s,h,k=>by
  cases q:c s with
   |false=>rw [zle q];exact ⟨h,q⟩
   |true=>
    rw [zpR q]
    exact zkA hs (hs s h q).1 (by have:=(hs s h q).2;omega)
section
variable {E:XS} {Γ:Ctx} {β:Type} {u:TS}
theorem zmO {S:Type} {tc:TT} {tb:TS} {s0:S} (G:S->Ctx) (fo:β->Oc) {kk:S->β} (c:S->Bool) (f:S->S) (I:S->Prop) (μ:S->Nat) (n:Nat) (w:Wk Γ (G s0)) (h0:I s0) (hn:μ s0≤n)
  (body:∀s,I s->EvT (G s) tc (c s)∧(c s=true->(I (f s)∧μ (f s)<μ s)∧Run E (G s) tb (.nx (G (f s)))))
  (k:∀s,s=whl c f n s0->I s->c s=false->Run E (G s) u (fo (kk s))):Run E Γ (zdD (zpK tc tb) u) (fo (Let (whl c f n s0) kk)):=λF0 Hb F H σ own D a q=>by
   obtain ⟨i1,i2⟩:=zkA (n:=n) (λs hi hc=>((body s hi).2 hc).1) h0 hn
   have kf:=k _ rfl i1 i2
   refine ⟨λm σ H=>∃s F own,At F0 Hb F H σ own (G s)∧I s∧μ s=m∧∃j,μ s≤j∧whl c f j s=whl c f n s0,⟨_,s0,F,own,a.wk w,h0,rfl,n,hn,rfl⟩,?_⟩
   rintro m σ1 H1 ⟨s,F1,own1,a1,hI,rfl,j,hj,ej⟩
   obtain ⟨b1,b2⟩:=body s hI
   refine b1 F0 Hb F1 H1 σ1 own1 _ a1 λF2 H2 g=> ?_
   cases e:c s with
    |false=>
     rw [if_neg Bool.false_ne_true]
     rw [zle e] at ej
     rw [←ej] at kf
     exact kf F0 Hb F2 H2 σ1 own1 D (a1.grow g) (by rw [ej];exact q)
    |true=>
     rw [if_pos rfl]
     obtain ⟨⟨c1,c2⟩,c3⟩:=b2 e
     refine ⟨λσ' H'=>∃F own,At F0 Hb F H' σ' own (G (f s)),λσ' H' ⟨F',own',a'⟩=>⟨_,c2,f s,F',own',a',c1,rfl,j-1,by omega,?_⟩,?_⟩
     ·rw [←ej,show j=(j-1)+1 by omega,zpR e];simp
     ·exact c3 F0 Hb F2 H2 σ1 own1 _ (a1.grow g) λF' H' σ' own' a'=>⟨F',own',a'⟩
end
end L2
namespace Lat
noncomputable def vec (l:Ji):Vc:=λi=>l.getD i 0
noncomputable def hd:Ji->Nat
 | []=>0
 | x :: xs=>bif (!decide (x=0)) then 0 else hd xs+1
noncomputable def add (l s:Ji):Ji:=List.map (λ(x:Int×Int)=>x.1+x.2) (List.zip l s)
noncomputable def sub (l s:Ji):Ji:=List.map (λ(x:Int×Int)=>x.1-x.2) (List.zip l s)
noncomputable def mul (l:Ji) (c:Int):Ji:=List.map (λ(x:Int)=>x*c) l
theorem zmw {x:Int} {xs:Ji}:vec (x::xs) 0=x:=rfl
theorem zbE {x:Int} {xs:Ji} {i:Nat}:vec (x::xs) (i+1)=vec xs i:=by simp [vec]
theorem zdE {l:Ji} {i:Nat} (h:l.length≤i):vec l i=0:=by simp [vec,List.getD_eq_getElem?_getD,List.getElem?_eq_none h]
theorem zkg {l:Ji} {i:Nat} (h:i<l.length):vec l i∈l:=by simp only [vec,List.getD_eq_getElem?_getD,List.getElem?_eq_getElem h,Option.getD_some];exact List.getElem_mem h
theorem zi7 {l:Ji} {x:Int} (h:x∈l):∃i,i<l.length∧vec l i=x:=by
 obtain ⟨i,hi,e⟩:=List.getElem_of_mem h
 exact ⟨i,hi,by simp [vec,List.getD_eq_getElem?_getD,List.getElem?_eq_getElem hi,e]⟩
theorem zho {l s:Ji} (h:l.length=s.length) (e:∀i,vec l i=vec s i):l=s:=by
 refine List.ext_getElem h λi h1 h2=> ?_
 have:=e i
 simpa [vec,List.getD_eq_getElem?_getD,List.getElem?_eq_getElem h1,List.getElem?_eq_getElem h2] using this
theorem zpF {l:Ji} {B:Nat} (h:∀x∈l,x.natAbs≤B) (i:Nat):(vec l i).natAbs≤B:=by
 by_cases q:i<l.length
 ·exact h _ (zkg q)
 ·rw [zdE (by omega)];exact Nat.zero_le _
theorem zg9 {l s:Ji} (h:l.length=s.length):(sub l s).length=l.length:=by simp [sub,h]
theorem zmT {l s:Ji} (h:l.length=s.length):(add l s).length=l.length:=by simp [add,h]
theorem zaZ {l:Ji} {c:Int}:(mul l c).length=l.length:=by simp [mul]
theorem zeN:∀ {l s:Ji} {i:Nat},l.length=s.length->vec (sub l s) i=vec l i-vec s i
 | [],[],i,_=>by simp [sub,vec]
 | x :: l,y :: s,0,_=>rfl
 | x :: l,y :: s,i+1,h=>by
  have:=zeN (l:=l) (s:=s) (i:=i) (by simpa using h)
  rw [zbE,zbE,←this]
  exact zbE
theorem zkn:∀ {l s:Ji} {i:Nat},l.length=s.length->vec (add l s) i=vec l i+vec s i
 | [],[],i,_=>by simp [add,vec]
 | x :: l,y :: s,0,_=>rfl
 | x :: l,y :: s,i+1,h=>by
  have:=zkn (l:=l) (s:=s) (i:=i) (by simpa using h)
  rw [zbE,zbE,←this]
  exact zbE
theorem zd4:∀ {l:Ji} {c:Int} {i:Nat},vec (mul l c) i=vec l i*c
 | [],c,i=>by simp [mul,vec]
 | x :: l,c,0=>rfl
 | x :: l,c,i+1=>by
  have:=zd4 (l:=l) (c:=c) (i:=i)
  rw [zbE,←this]
  exact zbE
theorem zsT:∀ {l:Ji},hd l≤l.length
 | []=>Nat.le_refl 0
 | x :: xs=>by
  unfold hd
  cases (!decide (x=0))
  ·exact Nat.succ_le_succ zsT
  ·exact Nat.zero_le _
theorem zbY:∀ {l:Ji} {i:Nat},i<hd l->vec l i=0
 | [],i,h=>absurd h (Nat.not_lt_zero i)
 | x :: xs,i,h=>by
  unfold hd at h
  by_cases q:x=0
  ·
   rw [show (!decide (x=0))=false by simp [q]] at h
   have h:i<hd xs+1:=h
   cases i with
    |zero=>exact q
    |succ i=>rw [zbE];exact zbY (by omega)
  ·
   rw [show (!decide (x=0))=true by simp [q]] at h
   exact absurd h (Nat.not_lt_zero i)
theorem zgO:∀ {l:Ji},hd l<l.length->vec l (hd l)≠0
 | [],h=>absurd h (Nat.not_lt_zero _)
 | x :: xs,h=>by
  unfold hd at h ⊢
  by_cases q:x=0
  ·
   rw [show (!decide (x=0))=false by simp [q]] at h ⊢
   have h:hd xs+1<xs.length+1:=h
   show vec (x::xs) (hd xs+1)≠0
   rw [zbE]
   exact zgO (by omega)
  ·
   rw [show (!decide (x=0))=true by simp [q]]
   exact q
theorem zn5 {l:Ji} {d:Nat} (h:vec l d≠0) (k:∀i,i<d->vec l i=0):hd l=d:=by
 have h1:¬hd l<d:=λq=>by
  have hl:d<l.length:=Nat.lt_of_not_le λz=>h (zdE z)
  exact zgO (by omega) (k _ q)
 have h2:¬d<hd l:=λq=>h (zbY q)
 omega
theorem zrT {l:Ji} {d:Nat} (hl:d≤l.length) (k:∀i,i<d->vec l i=0):d≤hd l:=by
 refine Nat.le_of_not_lt λq=> ?_
 exact zgO (by omega) (k _ q)
noncomputable def quo (l s:Ji):Int:=vec l (hd s)/vec s (hd s)
noncomputable def zkC (l s:Ji):Ji:=bif (!decide (quo l s=0)) then sub l (mul s (quo l s)) else l
noncomputable def low (l:Ji) (ss:Jq):Ji:=ss.foldl zkC l
theorem zi2 {l s:Ji} (h:l.length=s.length):(zkC l s).length=l.length:=by
 unfold zkC
 cases (!decide (quo l s=0))
 ·rfl
 ·
  show (sub l (mul s (quo l s))).length=_
  rw [zg9 (by rw [zaZ];exact h)]
theorem zgI {l s:Ji} (h:l.length=s.length) (i:Nat):vec (zkC l s) i=vec l i-vec s i*quo l s:=by
 unfold zkC
 by_cases q:quo l s=0
 ·
  rw [show (!decide (quo l s=0))=false by simp [q],q]
  show vec l i=_
  omega
 ·
  rw [show (!decide (quo l s=0))=true by simp [q]]
  show vec (sub l (mul s (quo l s))) i=_
  rw [zeN (by rw [zaZ];exact h),zd4]
def Ech (n:Nat):Nat->Jq->Prop
 | _,[]=>True
 | lo,s :: ss=>s.length=n∧lo≤hd s∧hd s<n∧0<vec s (hd s)∧Ech n (hd s+1) ss
def SpL (ss:Jq):Vc->Prop:=Sp (λu=>∃s∈ss,u=vec s)
theorem Ech.mono {n:Nat}:∀ {ss:Jq} {lo lo':Nat},Ech n lo ss->lo'≤lo->Ech n lo' ss
 | [],_,_,_,_=>trivial
 | s :: ss,lo,lo',h,k=>⟨h.1,Nat.le_trans k h.2.1,h.2.2⟩
theorem Ech.mem {n:Nat}:∀ {ss:Jq} {lo:Nat},Ech n lo ss->∀t∈ss,t.length=n∧lo≤hd t∧hd t<n∧0<vec t (hd t)
 | [],_,_,t,h=>by simp at h
 | s :: ss,lo,h,t,ht=>by
  rcases List.mem_cons.mp ht with rfl|ht
  ·exact ⟨h.1,h.2.1,h.2.2.1,h.2.2.2.1⟩
  ·
   obtain ⟨a,b,c,d⟩:=Ech.mem h.2.2.2.2 t ht
   have:=h.2.1
   exact ⟨a,by omega,c,d⟩
theorem Ech.before {n lo i:Nat} {ss:Jq} (h:Ech n lo ss) (hi:i<lo):∀t∈ss,vec t i=0:=λt ht=>zbY (by have:=(h.mem t ht).2.1;omega)
theorem SpL.before {n lo i:Nat} {ss:Jq} {u:Vc} (h:Ech n lo ss) (hi:i<lo) (hu:SpL ss u):u i=0:=Sp.at0 (λa ⟨s,hs,e⟩=>by rw [e];exact h.before hi s hs) hu
theorem SpL.cons {s:Ji} {ss:Jq} {u:Vc} (h:SpL (s :: ss) u):∃w y,SpL ss w∧∀i,u i=w i+y*vec s i:=by
 have:Sp (λu=>(∃t∈ss,u=vec t)∨u=vec s) u:=Sp.mono (λa ⟨t,ht,e⟩=>by
  rcases List.mem_cons.mp ht with rfl|ht
  ·exact .inr e
  ·exact .inl ⟨t,ht,e⟩) h
 exact this.split
theorem SpL.mem {ss:Jq} {s:Ji} (h:s∈ss):SpL ss (vec s):=Sp.mem ⟨s,h,rfl⟩
theorem SpL.up {s:Ji} {ss:Jq} {u:Vc} (h:SpL ss u):SpL (s :: ss) u:=Sp.mono (λ_ ⟨t,ht,e⟩=>⟨t,List.mem_cons_of_mem _ ht,e⟩) h
theorem SpL.sub {ss tt:Jq} {u:Vc} (k:∀s∈ss,SpL tt (vec s)) (h:SpL ss u):SpL tt u:=Sp.sub (λ_ ⟨s,hs,e⟩=>e ▸ k s hs) h
theorem zk4 {n:Nat}:∀ {ss:Jq} {lo:Nat} {u:Vc},Ech n lo ss->SpL ss u->(∀t∈ss,0≤u (hd t)∧u (hd t)<vec t (hd t))->∀i,u i=0
 | [],_,u,_,h,_,i=>Sp.at0 (λ_ ⟨_,z,_⟩=>by simp at z) h
 | s :: ss,lo,u,e,h,k,i=>by
  obtain ⟨w,y,hw,hu⟩:=h.cons
  have e1:=SpL.before e.2.2.2.2 (Nat.lt_succ_self (hd s)) hw
  have e2:=hu (hd s)
  have e3:=k s List.mem_cons_self
  have e4:=e.2.2.2.1
  rw [e1] at e2
  have y0:y=0:=by
   rw [e2,Int.zero_add] at e3
   refine Classical.byContradiction λq=> ?_
   rcases Int.lt_or_gt_of_ne q with q|q
   ·
    have:=Int.mul_neg_of_neg_of_pos q e4
    omega
   ·
    have:=Int.mul_le_mul_of_nonneg_right (show (1:Int)≤y by omega) (Int.le_of_lt e4)
    omega
  have hu':∀i,u i=w i:=λi=>by rw [hu i,y0];omega
  have:u=w:=funext hu'
  subst this
  exact zk4 e.2.2.2.2 hw (λt ht=>k t (List.mem_cons_of_mem _ ht)) i
theorem zms {n:Nat}:∀ {ss:Jq} {lo:Nat} {u:Vc} {t:Ji},Ech n lo ss->SpL ss u->t∈ss->(∀i,i<hd t->u i=0)->vec t (hd t)∣u (hd t)
 | [],_,_,t,_,_,h,_=>by simp at h
 | s :: ss,lo,u,t,e,h,ht,k=>by
  obtain ⟨w,y,hw,hu⟩:=h.cons
  have e1:=SpL.before e.2.2.2.2 (Nat.lt_succ_self (hd s)) hw
  rcases List.mem_cons.mp ht with rfl|ht
  ·rw [hu,e1];exact ⟨y,by grind⟩
  ·
   have e5:=(Ech.mem e.2.2.2.2 t ht).2.1
   have e6:=hu (hd s)
   rw [k (hd s) (by omega),e1] at e6
   have y0:y=0:=(Int.mul_eq_zero.mp (show y*vec s (hd s)=0 by omega)).resolve_right (by have:=e.2.2.2.1;omega)
   have:u=w:=funext λi=>by rw [hu i,y0];omega
   subst this
   exact zms e.2.2.2.2 hw ht k
theorem zlI {n:Nat}:∀ {ss:Jq} {lo:Nat} {u:Vc} {h:Nat},Ech n lo ss->SpL ss u->(∀i,i<h->u i=0)->u h≠0->∃t∈ss,hd t=h
 | [],_,u,h,_,hu,_,q=>(q (Sp.at0 (λ_ ⟨_,z,_⟩=>by simp at z) hu)).elim
 | s :: ss,lo,u,h,e,hu,k,q=>by
  obtain ⟨w,y,hw,hu⟩:=hu.cons
  by_cases z:hd s=h
  ·exact ⟨s,List.mem_cons_self,z⟩
  ·
   have e1:=SpL.before e.2.2.2.2 (Nat.lt_succ_self (hd s)) hw
   by_cases y0:y=0
   ·
    have:u=w:=funext λi=>by rw [hu i,y0];omega
    subst this
    obtain ⟨t,ht,e⟩:=zlI e.2.2.2.2 hw k q
    exact ⟨t,List.mem_cons_of_mem _ ht,e⟩
   ·
    have e6:=hu (hd s)
    rw [e1,Int.zero_add] at e6
    have e7:u (hd s)≠0:=by
     rw [e6];
     intro z;
     rcases Int.mul_eq_zero.mp z with z|z
     ·exact y0 z
     ·have:=e.2.2.2.1;omega
    have e8:h<hd s:=Nat.lt_of_not_le λz'=>e7 (k _ (by omega))
    have e9:w h=0:=SpL.before e.2.2.2.2 (Nat.lt_succ_of_lt e8) hw
    rw [hu h,e9,zbY e8] at q
    simp at q
theorem zcd {n:Nat}:∀ {ss:Jq} {lo:Nat} {l:Ji},Ech n lo ss->l.length=n→(low l ss).length=n∧SpL ss (λi=>vec l i-vec (low l ss) i)∧(∀t∈ss,0≤vec (low l ss) (hd t)∧vec (low l ss) (hd t)<vec t (hd t))∧∀i,i<lo->vec (low l ss) i=vec l i
 | [],lo,l,_,h=>⟨h,Sp.zero.conv λi=>by show (0:Int)=vec l i-vec l i;omega,by simp,λ_ _=>rfl⟩
 | s :: ss,lo,l,e,h=>by
  have hl:l.length=s.length:=by rw [h,e.1]
  obtain ⟨a,b,c,d⟩:=zcd (l:=zkC l s) e.2.2.2.2 (by rw [zi2 hl,h])
  refine ⟨a,?_,λt ht=> ?_,λi hi=> ?_⟩
  ·
   refine ((SpL.up (s:=s) b).plus ((SpL.mem (ss:=s::ss) List.mem_cons_self).smul (quo l s))).conv λi=> ?_
   rw [zgI hl]
   show vec l i-vec s i*quo l s-vec (low (zkC l s) ss) i+quo l s*vec s i=vec l i-vec (low (zkC l s) ss) i
   rw [Int.mul_comm (quo l s)];
   omega
  ·
   rcases List.mem_cons.mp ht with rfl|ht
   ·
    show 0≤vec (low (zkC l t) ss) (hd t)∧vec (low (zkC l t) ss) (hd t)<_
    rw [d (hd t) (Nat.lt_succ_self _),zgI hl]
    have p:=e.2.2.2.1
    have e1:=Int.mul_ediv_add_emod (vec l (hd t)) (vec t (hd t))
    have e2:=Int.emod_nonneg (vec l (hd t)) (show vec t (hd t)≠0 by omega)
    have e3:=Int.emod_lt_of_pos (vec l (hd t)) p
    unfold quo
    omega
   ·exact c t ht
  ·
   show vec (low (zkC l s) ss) i=_
   have:=e.2.1
   rw [d i (by omega),zgI hl,zbY (show i<hd s by omega)];
   omega
end Lat
namespace Lat
abbrev G4:=Int×Int×Int×Int
noncomputable def cmC (s:G4):Bool:= !decide (s.2.1=(0:Int))
noncomputable def cmF (s:G4):G4:=(s.2.1,s.1-s.1/s.2.1*s.2.1,s.2.2.2,s.2.2.1-s.1/s.2.1*s.2.2.2)
structure GI (one other:Int) (s:G4):Prop where
 g:0<s.1
 m:0≤s.2.1
 gb:s.1≤one+other
 mb:s.2.1≤one+other
 tb:-other≤s.2.2.1∧s.2.2.1≤other
 lb:-other≤s.2.2.2∧s.2.2.2≤other
 sg:(0≤s.2.2.1∧s.2.2.2≤0∧s.2.1*s.2.2.1-s.1*s.2.2.2=other)∨(s.2.2.1≤0∧0≤s.2.2.2∧s.1*s.2.2.2-s.2.1*s.2.2.1=other)
 bg:∃ y,s.1=s.2.2.1*one+y*other
 bm:∃ y,s.2.1=s.2.2.2*one+y*other
 d1:∃ p q,one=p*s.1+q*s.2.1
 d2:∃ p q,other=p*s.1+q*s.2.1
theorem GI.start {one other:Int} (h1:0<one) (h2:0<other):GI one other (one,other,1,0) where
 g:=h1
 m:=by show 0≤other;omega
 gb:=by show one≤one+other;omega
 mb:=by show other≤one+other;omega
 tb:=by show -other≤1∧1≤other;omega
 lb:=by show -other≤0∧0≤other;omega
 sg:=.inl (by show (0:Int)≤1∧(0:Int)≤0∧other*1-one*0=other;omega)
 bg:=⟨0,by show one=1*one+0*other;omega⟩
 bm:=⟨1,by show other=0*one+1*other;omega⟩
 d1:=⟨1,0,by show one=1*one+0*other;omega⟩
 d2:=⟨0,1,by show other=0*one+1*other;omega⟩
theorem GI.step {one other:Int} {s:G4} (I:GI one other s) (hc:cmC s=true):GI one other (cmF s)∧(cmF s).2.1.toNat<s.2.1.toNat:=by
 obtain ⟨g,m,t,l⟩:=s
 obtain ⟨h1,h2,h3,h4,h5,h6,h7,⟨y1,h8⟩,⟨y2,h9⟩,⟨p1,q1,hA⟩,⟨p2,q2,hB⟩⟩:=I
 simp only at h1 h2 h3 h4 h5 h6 h7 h8 h9 hA hB
 have hm:0<m:=by
  unfold cmC at hc
  simp only [Bool.not_eq_true',decide_eq_false_iff_not] at hc
  omega
 have e1:=Int.mul_ediv_add_emod g m
 have e2:=Int.emod_nonneg g (show m≠0 by omega)
 have e3:=Int.emod_lt_of_pos g hm
 have e4:0≤g/m:=Int.ediv_nonneg (by omega) (by omega)
 have e5:g-g/m*m=g%m:=by rw [Int.mul_comm];omega
 show GI one other (m,g-g/m*m,l,t-g/m*l)∧(g-g/m*m).toNat<m.toNat
 rw [e5]
 generalize hq:g/m=q at*
 generalize hr:g%m=r at*
 have eg:g=m*q+r:=by omega
 have sg:(0≤l∧t-q*l≤0∧r*l-m*(t-q*l)=other)∨(l≤0∧0≤t-q*l∧m*(t-q*l)-r*l=other):=by
  rcases h7 with ⟨a,b,c⟩|⟨a,b,c⟩
  ·
   refine .inr ⟨b,?_,by grind⟩
   have:=Int.mul_nonneg e4 (show (0:Int)≤ -l by omega)
   grind
  ·
   refine .inl ⟨b,?_,by grind⟩
   have:=Int.mul_nonneg e4 b
   omega
 have hl: -other≤t-q*l∧t-q*l≤other:=by
  rcases sg with ⟨a,b,c⟩|⟨a,b,c⟩
  ·
   have k1:=Int.mul_nonneg e2 a
   have k2:=Int.mul_le_mul_of_nonneg_right (show (1:Int)≤m by omega) (show (0:Int)≤ -(t-q*l) by omega)
   have k3:m* -(t-q*l)= -(m*(t-q*l)):=by grind
   rw [k3] at k2
   omega
  ·
   have k1:=Int.mul_nonneg e2 (show (0:Int)≤ -l by omega)
   have k2:=Int.mul_le_mul_of_nonneg_right (show (1:Int)≤m by omega) b
   have k3:r* -l= -(r*l):=by grind
   rw [k3] at k1
   omega
 refine ⟨⟨hm,e2,h4,by show r≤_;omega,h6,hl,sg,⟨y2,h9⟩,⟨y1-q*y2,?_⟩,⟨p1*q+q1,p1,?_⟩,⟨p2*q+q2,p2,?_⟩⟩,by omega⟩
 ·
  show r=(t-q*l)*one+(y1-q*y2)*other
  grind
 ·
  show one=(p1*q+q1)*m+p1*r
  grind
 ·
  show other=(p2*q+q2)*m+p2*r
  grind
structure Cm (one other g x y:Int):Prop where
 pos:0<g
 le:g≤one+other
 xb:-other≤x∧x≤other
 eq:g=x*one+y*other
 d1:one/g*g=one
 d2:other/g*g=other
theorem GI.done {one other:Int} {s:G4} (h2:0<other) (I:GI one other s) (hc:cmC s=false):Cm one other s.1 s.2.2.1 ((s.1-s.2.2.1*one)/other):=by
 obtain ⟨g,m,t,l⟩:=s
 obtain ⟨h1,_,h3,_,h5,_,_,⟨y1,h8⟩,_,⟨p1,q1,hA⟩,⟨p2,q2,hB⟩⟩:=I
 simp only at h1 h3 h5 h8 hA hB
 have hm:m=0:=by
  unfold cmC at hc
  simpa using hc
 subst hm
 have e:(g-t*one)/other=y1:=by
  rw [show g-t*one=y1*other by omega]
  exact Int.mul_ediv_cancel _ (by omega)
 refine ⟨h1,h3,h5,?_,?_,?_⟩
 ·
  show g=t*one+(g-t*one)/other*other
  rw [e];
  exact h8
 ·exact Int.ediv_mul_cancel ⟨p1,by show one=g*p1;rw [Int.mul_comm];omega⟩
 ·exact Int.ediv_mul_cancel ⟨p2,by show other=g*p2;rw [Int.mul_comm];omega⟩
noncomputable def mg1 (s l:Ji) (x y:Int):Ji:=add (mul s x) (mul l y)
noncomputable def mg2 (s l:Ji) (g:Int):Ji:=sub (mul l (vec s (hd s)/g)) (mul s (vec l (hd s)/g))
theorem zhu {s l:Ji} {x y:Int} (h:s.length=l.length) (i:Nat):vec (mg1 s l x y) i=x*vec s i+y*vec l i:=by
 unfold mg1
 rw [zkn (by rw [zaZ,zaZ,h]),zd4,zd4,Int.mul_comm,Int.mul_comm (vec l i)]
theorem zij {s l:Ji} {g:Int} (h:s.length=l.length) (i:Nat):vec (mg2 s l g) i=vec s (hd s)/g*vec l i-vec l (hd s)/g*vec s i:=by
 unfold mg2
 rw [zeN (by rw [zaZ,zaZ,h]),zd4,zd4,Int.mul_comm,Int.mul_comm (vec s i)]
theorem znF {s l:Ji} {x y:Int} (h:s.length=l.length):(mg1 s l x y).length=s.length:=by unfold mg1;rw [zmT (by rw [zaZ,zaZ,h]),zaZ]
theorem zmp {s l:Ji} {g:Int} (h:s.length=l.length):(mg2 s l g).length=s.length:=by unfold mg2;rw [zg9 (by rw [zaZ,zaZ,h]),zaZ,h]
theorem znd {s l:Ji} {g x y:Int} (h:s.length=l.length) (C:Cm (vec s (hd s)) (vec l (hd s)) g x y) (i:Nat) :
  vec s i=vec s (hd s)/g*vec (mg1 s l x y) i-y*vec (mg2 s l g) i∧vec l i=vec l (hd s)/g*vec (mg1 s l x y) i+x*vec (mg2 s l g) i:=by
   rw [zhu h,zij h]
   have e1:=C.eq
   have e2:=C.d1
   have e3:=C.d2
   have e4:=C.pos
   generalize vec s (hd s)=a at*
   generalize vec l (hd s)=b at*
   generalize a/g=p at*
   generalize b/g=q at*
   have u:x*p+y*q=1:=by
    have:(x*p+y*q-1)*g=0:=by grind
    rcases Int.mul_eq_zero.mp this with z|z<;>omega
   constructor<;>grind
noncomputable def upr (l:Ji):Ji:=bif decide (vec l (hd l)<(0:Int)) then mul l (-(1:Int)) else l
theorem znN {l:Ji}:(upr l).length=l.length:=by
 unfold upr
 cases decide (vec l (hd l)<(0:Int))
 ·rfl
 ·exact zaZ
theorem zkq {l:Ji}:∃c:Int,c*c=1∧(∀i,vec (upr l) i=c*vec l i)∧0≤c*vec l (hd l):=by
 unfold upr
 by_cases q:vec l (hd l)<0
 ·
  rw [show decide (vec l (hd l)<(0:Int))=true by simp [q]]
  exact ⟨-1,by decide,λi=>by show vec (mul l (-(1:Int))) i=_;rw [zd4];omega,by omega⟩
 ·
  rw [show decide (vec l (hd l)<(0:Int))=false by simp [q]]
  exact ⟨1,by decide,λi=>by show vec l i=_;omega,by omega⟩
theorem zpy {l:Ji} (h:hd l<l.length):hd (upr l)=hd l∧0<vec (upr l) (hd l):=by
 obtain ⟨c,c1,c2,c3⟩:=zkq (l:=l)
 have e:=zgO h
 have c0:c≠0:=by intro z;subst z;simp at c1
 have e1:c*vec l (hd l)≠0:=λz=>by
  rcases Int.mul_eq_zero.mp z with z|z
  ·exact c0 z
  ·exact e z
 refine ⟨zn5 (by rw [c2];exact e1) λi hi=>by rw [c2,zbY hi];simp,by rw [c2];omega⟩
theorem zp4 {l:Ji} {ss:Jq} (h:SpL ss (vec l)):SpL ss (vec (upr l)):=by
 obtain ⟨c,_,c2,_⟩:=zkq (l:=l)
 exact (Sp.smul c h).conv λi=>(c2 i).symm
theorem znV {l:Ji} {ss:Jq} (h:SpL ss (vec (upr l))):SpL ss (vec l):=by
 obtain ⟨c,c1,c2,_⟩:=zkq (l:=l)
 exact (Sp.smul c h).conv λi=>by rw [c2,←Int.mul_assoc,c1,Int.one_mul]
structure Mg where
 f:Int->Int->Int×Int×Int
 ok:∀ a b:Int,0<a->0<b->Cm a b (f a b).1 (f a b).2.1 (f a b).2.2
noncomputable def tin (M:Mg):Jq->Ji->Jq
 | [],l=>bif decide (hd l<l.length) then [upr l] else []
 | s :: ss,l=>bif decide (hd l<hd s) then upr l::s::ss else bif decide (hd l=hd s) then mg1 s l (M.f (vec s (hd s)) (vec l (hd s))).2.1 (M.f (vec s (hd s)) (vec l (hd s))).2.2::tin M ss (low (mg2 s l (M.f (vec s (hd s)) (vec l (hd s))).1) ss) else s::tin M ss l
theorem zgB (M:Mg) {n:Nat}:∀ {ss:Jq} {lo:Nat} {l:Ji},Ech n lo ss->l.length=n->(∀i,i<lo->vec l i=0)->(∀t∈ss,0≤vec l (hd t)∧vec l (hd t)<vec t (hd t))->lo≤n→Ech n lo (tin M ss l)∧(tin M ss l).length≤ss.length+1∧(∀t∈tin M ss l,SpL (l::ss) (vec t))∧(∀t∈l::ss,SpL (tin M ss l) (vec t))
 | [],lo,l,_,hl,h0,_,hlo=>by
  unfold tin
  by_cases q:hd l<l.length
  ·
   rw [show decide (hd l<l.length)=true by simp [q],cond_true]
   obtain ⟨e1,e2⟩:=zpy q
   refine ⟨⟨by rw [znN,hl],by rw [e1];exact zrT (by omega) h0,by rw [e1];omega,by rw [e1];exact e2,trivial⟩,by simp,λt ht=> ?_,λt ht=> ?_⟩
   ·rw [List.mem_singleton.mp ht];exact zp4 (SpL.mem List.mem_cons_self)
   ·rw [List.mem_singleton.mp ht];exact znV (SpL.mem List.mem_cons_self)
  ·
   rw [show decide (hd l<l.length)=false by simp [q],cond_false]
   have hz:hd l=l.length:=by have:=zsT (l:=l);omega
   refine ⟨trivial,by simp,by simp,λt ht=> ?_⟩
   rw [List.mem_singleton.mp ht]
   exact Sp.zero.conv λi=>by
    by_cases z:i<l.length
    ·rw [zbY (by omega)]
    ·rw [zdE (by omega)]
 | s :: ss,lo,l,e,hl,h0,hr,hlo=>by
  unfold tin
  have hsl:s.length=l.length:=by rw [e.1,hl]
  by_cases q:hd l<hd s
  ·
   rw [show decide (hd l<hd s)=true by simp [q],cond_true]
   have hsn:=e.2.2.1
   obtain ⟨e1,e2⟩:=zpy (l:=l) (by omega)
   refine ⟨⟨by rw [znN,hl],by rw [e1];exact zrT (by omega) h0,by rw [e1];omega,by rw [e1];exact e2,e.1,by rw [e1];omega,e.2.2⟩,by simp,λt ht=> ?_,λt ht=> ?_⟩
   ·
    rcases List.mem_cons.mp ht with rfl|ht
    ·exact zp4 (SpL.mem List.mem_cons_self)
    ·exact SpL.mem (List.mem_cons_of_mem _ ht)
   ·
    rcases List.mem_cons.mp ht with rfl|ht
    ·exact znV (SpL.mem List.mem_cons_self)
    ·exact SpL.mem (List.mem_cons_of_mem _ ht)
  ·
   rw [show decide (hd l<hd s)=false by simp [q],cond_false]
   by_cases z:hd l=hd s
   ·
    rw [show decide (hd l=hd s)=true by simp [z],cond_true]
    have hb:0<vec l (hd s):=by
     have:=(hr s List.mem_cons_self).1
     have:=zgO (l:=l) (by rw [z,hl];exact e.2.2.1)
     rw [z] at this;
     omega
    have C:=M.ok _ _ e.2.2.2.1 hb
    generalize hg:(M.f (vec s (hd s)) (vec l (hd s))).1=g at*
    generalize hx:(M.f (vec s (hd s)) (vec l (hd s))).2.1=x at*
    generalize hy:(M.f (vec s (hd s)) (vec l (hd s))).2.2=y at*
    have f0:∀i,i<hd s->vec (mg1 s l x y) i=0:=λi hi=>by rw [zhu hsl,zbY hi,zbY (show i<hd l by omega)];omega
    have f1:vec (mg1 s l x y) (hd s)=g:=by rw [zhu hsl];exact C.eq.symm
    have f2:hd (mg1 s l x y)=hd s:=zn5 (by rw [f1];have:=C.pos;omega) f0
    have g0:∀i,i<hd s+1->vec (mg2 s l g) i=0:=λi hi=>by
     rw [zij hsl]
     by_cases zi:i=hd s
     ·
      subst zi
      have:=C.d1;
      have:=C.d2
      generalize vec s (hd s)/g=p at*
      generalize vec l (hd s)/g=r at*
      generalize vec s (hd s)=a at*
      generalize vec l (hd s)=b at*
      grind
     ·rw [zbY (show i<hd s by omega),zbY (show i<hd l by omega)];omega
    obtain ⟨k1,k2,k3,k4⟩:=zcd (l:=mg2 s l g) e.2.2.2.2 (by rw [zmp hsl,e.1])
    obtain ⟨i1,i2,i3,i4⟩:=zgB M (l:=low (mg2 s l g) ss) e.2.2.2.2 k1 (λi hi=>by rw [k4 i hi,g0 i hi]) k3 (by have:=e.2.2.1;omega)
    have low_in:∀ {tt:Jq},(∀t∈ss,SpL tt (vec t))->SpL tt (vec (mg2 s l g))->SpL tt (vec (low (mg2 s l g) ss)):=λh1 h2=>(Sp.lin 1 (-1) h2 (k2.sub h1)).conv λi=>by omega
    have low_out:∀ {tt:Jq},(∀t∈ss,SpL tt (vec t))->SpL tt (vec (low (mg2 s l g) ss))->SpL tt (vec (mg2 s l g)):=λh1 h2=>(Sp.plus h2 (k2.sub h1)).conv λi=>by omega
    have hS:SpL (l::s::ss) (vec s):=SpL.mem (List.mem_cons_of_mem _ List.mem_cons_self)
    have hL:SpL (l::s::ss) (vec l):=SpL.mem List.mem_cons_self
    refine ⟨⟨by rw [znF hsl,e.1],by rw [f2];exact e.2.1,by rw [f2];exact e.2.2.1,by rw [f2,f1];exact C.pos,by rw [f2];exact i1⟩,by simp only [List.length_cons];omega,λt ht=> ?_,λt ht=> ?_⟩
    ·
     rcases List.mem_cons.mp ht with rfl|ht
     ·exact (Sp.lin x y hS hL).conv λi=>(zhu hsl i).symm
     ·
      refine (i3 t ht).sub λv hv=> ?_
      rcases List.mem_cons.mp hv with rfl|hv
      ·
       refine low_in (λt ht=>SpL.mem (List.mem_cons_of_mem _ (List.mem_cons_of_mem _ ht))) ((Sp.lin (vec s (hd s)/g) (-(vec l (hd s)/g)) hL hS).conv λi=> ?_)
       rw [zij hsl];
       grind
      ·exact SpL.mem (List.mem_cons_of_mem _ (List.mem_cons_of_mem _ hv))
    ·
     have u1:∀v∈low (mg2 s l g) ss::ss,SpL (mg1 s l x y::tin M ss (low (mg2 s l g) ss)) (vec v):=λv hv=>(i4 v hv).up
     have u2:=low_out (λt ht=>u1 t (List.mem_cons_of_mem _ ht)) (u1 _ List.mem_cons_self)
     have u3:SpL (mg1 s l x y::tin M ss (low (mg2 s l g) ss)) (vec (mg1 s l x y)):=SpL.mem List.mem_cons_self
     rcases List.mem_cons.mp ht with rfl|ht
     ·exact (Sp.lin (vec t (hd s)/g) x u3 u2).conv λi=>((znd hsl C i).2).symm
     ·
      rcases List.mem_cons.mp ht with rfl|ht
      ·exact (Sp.lin (vec t (hd t)/g) (-y) u3 u2).conv λi=>by rw [(znd hsl C i).1];grind
      ·exact u1 t (List.mem_cons_of_mem _ ht)
   ·
    rw [show decide (hd l=hd s)=false by simp [z],cond_false]
    obtain ⟨i1,i2,i3,i4⟩:=zgB M (l:=l) e.2.2.2.2 hl (λi hi=>zbY (by omega)) (λt ht=>hr t (List.mem_cons_of_mem _ ht)) (by have:=e.2.2.1;omega)
    refine ⟨⟨e.1,e.2.1,e.2.2.1,e.2.2.2.1,i1⟩,by simp only [List.length_cons];omega,λt ht=> ?_,λt ht=> ?_⟩
    ·
     rcases List.mem_cons.mp ht with rfl|ht
     ·exact SpL.mem (List.mem_cons_of_mem _ List.mem_cons_self)
     ·
      refine (i3 t ht).sub λv hv=> ?_
      rcases List.mem_cons.mp hv with rfl|hv
      ·exact SpL.mem List.mem_cons_self
      ·exact SpL.mem (List.mem_cons_of_mem _ (List.mem_cons_of_mem _ hv))
    ·
     rcases List.mem_cons.mp ht with rfl|ht
     ·exact (i4 t List.mem_cons_self).up
     ·
      rcases List.mem_cons.mp ht with rfl|ht
      ·exact SpL.mem List.mem_cons_self
      ·exact (i4 t (List.mem_cons_of_mem _ ht)).up
noncomputable def stl:Jq->Jq
 | []=>[]
 | s :: ss=>low s (stl ss)::stl ss
def Red:Jq->Prop
 | []=>True
 | s :: ss=>(∀t∈ss,0≤vec s (hd t)∧vec s (hd t)<vec t (hd t))∧Red ss
theorem zlk {n:Nat}:∀ {ss:Jq} {lo:Nat},Ech n lo ss->Ech n lo (stl ss)∧Red (stl ss)∧(stl ss).length=ss.length∧(∀t∈stl ss,SpL ss (vec t))∧∀t∈ss,SpL (stl ss) (vec t)
 | [],_,_=>⟨trivial,trivial,rfl,by simp [stl],by simp⟩
 | s :: ss,lo,e=>by
  obtain ⟨a,b,c,d,f⟩:=zlk e.2.2.2.2
  obtain ⟨k1,k2,k3,k4⟩:=zcd (l:=s) a e.1
  have h1:hd (low s (stl ss))=hd s:=zn5 (by rw [k4 _ (Nat.lt_succ_self _)];have:=e.2.2.2.1;omega) λi hi=>by rw [k4 _ (by omega),zbY hi]
  refine ⟨⟨k1,by rw [h1];exact e.2.1,by rw [h1];exact e.2.2.1,by rw [h1,k4 _ (Nat.lt_succ_self _)];exact e.2.2.2.1,by rw [h1];exact a⟩,⟨k3,b⟩,by simp [stl,c],λt ht=> ?_,λt ht=> ?_⟩
  ·
   rcases List.mem_cons.mp ht with rfl|ht
   ·exact (Sp.lin 1 (-1) (SpL.mem (ss:=s::ss) List.mem_cons_self) (k2.sub λv hv=>(d v hv).up)).conv λi=>by omega
   ·exact (d t ht).up
  ·
   rcases List.mem_cons.mp ht with rfl|ht
   ·exact (Sp.plus (SpL.mem (ss:=stl (t::ss)) (s:=low t (stl ss)) List.mem_cons_self) (k2.sub λv hv=>SpL.mem (List.mem_cons_of_mem _ hv))).conv λi=>by omega
   ·exact (f t ht).up
noncomputable def clm (M:Mg) (rows:Jq):Jq:=rows.foldl (λss r=>stl (tin M ss (low r ss))) []
structure Stairs (n:Nat) (rows ss:Jq):Prop where
 ech:Ech n 0 ss
 red:Red ss
 inn:∀ t∈ss,SpL rows (vec t)
 out:∀ r∈rows,SpL ss (vec r)
theorem Stairs.nil {n:Nat}:Stairs n [] []:=⟨trivial,trivial,by simp,by simp⟩
theorem Stairs.step {n:Nat} {rows ss:Jq} {r:Ji} (M:Mg) (h:Stairs n rows ss) (hr:r.length=n):Stairs n (rows++[r]) (stl (tin M ss (low r ss)))∧(stl (tin M ss (low r ss))).length≤ss.length+1:=by
 obtain ⟨k1,k2,k3,_⟩:=zcd (l:=r) h.ech hr
 obtain ⟨t1,t2,t3,t4⟩:=zgB M h.ech k1 (λi hi=>absurd hi (Nat.not_lt_zero i)) k3 (Nat.zero_le n)
 obtain ⟨s1,s2,s3,s4,s5⟩:=zlk t1
 have inn:∀t∈ss,SpL (rows++[r]) (vec t):=λt ht=>(h.inn t ht).sub λv hv=>SpL.mem (List.mem_append_left _ hv)
 have hr':SpL (rows++[r]) (vec r):=SpL.mem (List.mem_append_right _ List.mem_cons_self)
 have f1:∀t∈low r ss::ss,SpL (stl (tin M ss (low r ss))) (vec t):=λt ht=>(t4 t ht).sub s5
 refine ⟨⟨s1,s2,λt ht=>(s4 t ht).sub λv hv=>(t3 v hv).sub λw hw=> ?_,λt ht=> ?_⟩,by rw [s3];exact t2⟩
 ·
  rcases List.mem_cons.mp hw with rfl|hw
  ·exact (Sp.lin 1 (-1) hr' (k2.sub inn)).conv λi=>by omega
  ·exact inn w hw
 ·
  rcases List.mem_append.mp ht with ht|ht
  ·exact (h.out t ht).sub λv hv=>f1 v (List.mem_cons_of_mem _ hv)
  ·
   rw [List.mem_singleton.mp ht]
   exact (Sp.plus (f1 _ List.mem_cons_self) (k2.sub λv hv=>f1 v (List.mem_cons_of_mem _ hv))).conv λi=>by omega
end Lat
namespace Lat
theorem zmP {n:Nat}:∀ {ss:Jq} {lo:Nat},Ech n lo ss->Red ss->∀t∈ss,∀t'∈ss,hd t'<hd t∨t=t'∨(0≤vec t (hd t')∧vec t (hd t')<vec t' (hd t'))
 | [],_,_,_,t,h,_,_=>by simp at h
 | s :: ss,lo,e,r,t,ht,t',ht'=>by
  rcases List.mem_cons.mp ht with h1|h1
  ·
   rcases List.mem_cons.mp ht' with h2|h2
   ·exact .inr (.inl (h1.trans h2.symm))
   ·rw [h1];exact .inr (.inr (r.1 t' h2))
  ·
   rcases List.mem_cons.mp ht' with h2|h2
   ·
    rw [h2]
    have:=(Ech.mem e.2.2.2.2 t h1).2.1
    exact .inl (by omega)
   ·exact zmP e.2.2.2.2 r.2 t h1 t' h2
theorem zkh {n:Nat}:∀ {ss:Jq} {lo:Nat},Ech n lo ss->lo≤n->ss.length+lo≤n
 | [],_,_,h=>by simpa using h
 | s :: ss,lo,e,h=>by
  have:=zkh e.2.2.2.2 (by have:=e.2.2.1;omega)
  have:=e.2.1
  simp only [List.length_cons]
  omega
abbrev Rw (rows:Jq):Vc->Prop:=λu=>∃r∈rows,u=vec r
theorem ziX {B E R:Nat} (hE:bnd R B B≤E):∀(k:Nat) (rows:Jq),rows.length=k->k≤R+1->(∀r∈rows,∀x∈r,x.natAbs≤B)->∃hs as,Wit (Rw rows) B E hs as∧as.length≤rows.length
 | 0,rows,h,_,_=>by
  rw [List.length_eq_zero_iff.mp h]
  refine ⟨[],[],?_,by simp⟩
  have e:Rw []=λ_=>False:=funext λu=>propext ⟨λ⟨_,z,_⟩=>by simp at z,λz=>z.elim⟩
  rw [e]
  exact Wit.nil
 | k+1,rows,h,hk,hb=>by
  have hne:rows≠[]:=by intro z;rw [z] at h;simp at h
  obtain ⟨rs,r,rfl⟩:∃rs r,rows=rs++[r]:=⟨rows.dropLast,rows.getLast hne,(List.dropLast_concat_getLast hne).symm⟩
  have hl:rs.length=k:=by simpa using h
  obtain ⟨hs,as,W,h1⟩:=ziX hE k rs hl (by omega) λr hr=>hb r (List.mem_append_left _ hr)
  obtain ⟨hs',as',W',h2⟩:=W.step (a:=vec r) (λi=>zpF (hb r (List.mem_append_right _ List.mem_cons_self)) i) (Nat.le_trans (zi9 (by omega)) hE)
  refine ⟨hs',as',?_,by simp only [List.length_append,List.length_singleton];omega⟩
  have e:Rw (rs++[r])=λu=>Rw rs u∨u=vec r:=funext λu=>propext ⟨λ⟨s,hs,e⟩=>by
   rcases List.mem_append.mp hs with z|z
   ·exact .inl ⟨s,z,e⟩
   ·rw [List.mem_singleton.mp z] at e;exact .inr e,λz=>by
   rcases z with ⟨s,hs,e⟩|z
   ·exact ⟨s,List.mem_append_left _ hs,e⟩
   ·exact ⟨r,List.mem_append_right _ List.mem_cons_self,z⟩⟩
  rw [e]
  exact W'
theorem Stairs.wit {n B E:Nat} {rows ss:Jq} {hs:List Nat} {as:List Vc} (h:Stairs n rows ss) (W:Wit (Rw rows) B E hs as) (hBE:B≤E):∀t∈ss,(vec t (hd t)).natAbs≤E∧∀i,(vec t i).natAbs≤bnd as.length B E:=by
 have hd1:∀t∈ss,(vec t (hd t)).natAbs≤E:=λt ht=>by
  obtain ⟨m1,m2,m3,m4⟩:=h.ech.mem t ht
  obtain ⟨v,v1,v2,v3,v4⟩:=W.hd _ (W.head (h.inn t ht) (λi hi=>zbY hi) (by omega))
  have d:=zms h.ech (v1.sub λa ⟨r,hr,e⟩=>e ▸ h.out r hr) ht v2
  exact Nat.le_trans (Nat.le_of_dvd (Int.natAbs_pos.mpr v3) (Int.natAbs_dvd_natAbs.mpr d)) (v4 _)
 refineλt ht=>⟨hd1 t ht,λi=>W.small hBE (h.inn t ht) (λg hg=> ?_) i⟩
 obtain ⟨v,v1,v2,v3,v4⟩:=W.hd g hg
 obtain ⟨t',ht',rfl⟩:=zlI h.ech (v1.sub λa ⟨r,hr,e⟩=>e ▸ h.out r hr) v2 v3
 rcases zmP h.ech h.red t ht t' ht' with z|rfl|⟨z1,z2⟩
 ·rw [zbY z];exact Nat.zero_le _
 ·exact hd1 t ht
 ·have:=hd1 t' ht';omega
theorem zlm {k R b c:Nat} (hk:k≤R) (hR:R≤31) (hbc:b≤c):bnd k (2 ^ b) (2 ^ c)≤2 ^ ((c+7)*(R+1)):=by
 refine Nat.le_trans (zi9 hk) ?_
 unfold bnd
 have h1:R+1≤2 ^ 5:=by omega
 have h2:2*((R+1)*2 ^ c)+1≤2 ^ (c+7):=by
  have e1:(R+1)*2 ^ c≤2 ^ 5*2 ^ c:=Nat.mul_le_mul_right _ h1
  have e2:2 ^ (c+7)=4*(2 ^ 5*2 ^ c):=by rw [Nat.pow_add];omega
  have e3:0<2 ^ c:=Nat.pow_pos (by decide)
  omega
 calc
  (R+1)*((2*((R+1)*2 ^ c)+1) ^ R*2 ^ b)≤2 ^ 5*((2 ^ (c+7)) ^ R*2 ^ b):=Nat.mul_le_mul h1 (Nat.mul_le_mul_right _ (Nat.pow_le_pow_left h2 _))
  _=2 ^ (5+((c+7)*R+b)):=by rw [←Nat.pow_mul,←Nat.pow_add,←Nat.pow_add]
  _≤2 ^ ((c+7)*(R+1)):=Nat.pow_le_pow_right (by decide) (by rw [Nat.mul_add];omega)
def Bit (a:Nat) (l:Ji):Prop:=∀x∈l,x.natAbs≤2 ^ a
theorem Bit.vec {a:Nat} {l:Ji} (h:Bit a l) (i:Nat):(vec l i).natAbs≤2 ^ a:=zpF h i
theorem Bit.of {a:Nat} {l:Ji} (h:∀i,(Lat.vec l i).natAbs≤2 ^ a):Bit a l:=λx hx=>by
 obtain ⟨i,_,rfl⟩:=zi7 hx
 exact h i
theorem Bit.mono {a b:Nat} {l:Ji} (h:Bit a l) (k:a≤b):Bit b l:=λx hx=>Nat.le_trans (h x hx) (Nat.pow_le_pow_right (by decide) k)
noncomputable def eB (b R:Nat):Nat:=(b+7)*(R+1)
noncomputable def sB (b R:Nat):Nat:=(eB b R+7)*(R+1)
theorem Stairs.bits {n b R:Nat} {rows ss:Jq} (h:Stairs n rows ss) (hR:R≤31) (hr:rows.length≤R) (hb:∀r∈rows,Bit b r):∀t∈ss,(vec t (hd t)).natAbs≤2 ^ eB b R∧Bit (sB b R) t:=by
 obtain ⟨hs,as,W,hl⟩:=ziX (B:=2 ^ b) (E:=2 ^ eB b R) (R:=R) (zlm (Nat.le_refl _) hR (Nat.le_refl _)) rows.length rows rfl (by omega) hb
 have e:b≤eB b R:=by unfold eB;exact Nat.le_trans (by omega) (Nat.le_mul_of_pos_right _ (Nat.succ_pos R))
 refineλt ht=> ?_
 obtain ⟨a1,a2⟩:=h.wit W (Nat.pow_le_pow_right (by decide) e) t ht
 exact ⟨a1,Bit.of λi=>Nat.le_trans (a2 i) (zlm (Nat.le_trans hl hr) hR e)⟩
theorem zf8 {x y a b:Nat} (h1:x≤2^a) (h2:y≤2^b):x*y≤2^(a+b):=by rw [Nat.pow_add];exact Nat.mul_le_mul h1 h2
theorem zi4 {x d:Int} (_h:0<d):(x/d).natAbs≤x.natAbs:=by
 have:=Int.natAbs_ediv_le_natAbs x d
 exact this
structure Sd (n s:Nat) (t:Ji):Prop where
 len:t.length=n
 hd:hd t<n
 pos:0<vec t (Lat.hd t)
 top:(vec t (Lat.hd t)).natAbs≤2^8980
 bit:Bit s t
theorem zpB {n s a:Nat} {l t:Ji} (T:Sd n s t) (hb:Bit a l):(quo l t).natAbs≤2 ^ a:=Nat.le_trans (zi4 T.pos) (hb.vec _)
theorem zk8 {n s a:Nat} {l t:Ji} (T:Sd n s t) (hl:l.length=n) (hb:Bit a l):Bit (a+(s+1)) (zkC l t):=Bit.of λi=>by
 rw [zgI (by rw [hl,T.len])]
 have e1:=hb.vec i
 have e2:(vec t i*quo l t).natAbs≤2 ^ (s+a):=by rw [Int.natAbs_mul];exact zf8 (T.bit.vec i) (zpB T hb)
 have e3:2 ^ a≤2 ^ (s+a):=Nat.pow_le_pow_right (by decide) (by omega)
 have e4:2 ^ (a+(s+1))=2 ^ (s+a)+2 ^ (s+a):=by rw [show a+(s+1)=(s+a)+1 by omega,Nat.pow_succ];omega
 omega
theorem zeX {n s:Nat}:∀ {ss:Jq} {a:Nat} {l:Ji},(∀t∈ss,Sd n s t)->l.length=n->Bit a l->Bit (a+ss.length*(s+1)) (low l ss)
 | [],a,l,_,_,h=>by simpa [low] using h
 | t :: ss,a,l,T,hl,h=>by
  have T1:=T t List.mem_cons_self
  have:=zeX (ss:=ss) (λt ht=>T t (List.mem_cons_of_mem _ ht)) (by rw [zi2 (by rw [hl,T1.len]),hl]) (zk8 T1 hl h)
  refine Bit.mono this ?_
  rw [List.length_cons,Nat.succ_mul]
  omega
theorem Cm.bd {one other g x y:Int} (C:Cm one other g x y) (h2:0<other) (hy:y=(g-x*one)/other) {c:Nat} (b1:one.natAbs≤2 ^ c) (b2:other.natAbs≤2 ^ c):g.natAbs≤2 ^ (c+1)∧x.natAbs≤2 ^ c∧y.natAbs≤2 ^ (2*c+2):=by
 have e1:=C.le
 have e2:=C.xb
 have e3:=C.pos
 have g1:g.natAbs≤2 ^ (c+1):=by
  rw [Nat.pow_succ]
  omega
 have x1:x.natAbs≤2 ^ c:=by omega
 refine ⟨g1,x1,?_⟩
 rw [hy]
 refine Nat.le_trans (zi4 h2) ?_
 have e4:(x*one).natAbs≤2 ^ (c+c):=by rw [Int.natAbs_mul];exact zf8 x1 b1
 have e5:2 ^ (c+1)≤2 ^ (c+c+1):=Nat.pow_le_pow_right (by decide) (by omega)
 have e6:2 ^ (2*c+2)=2 ^ (c+c+1)+2 ^ (c+c+1):=by rw [show 2*c+2=(c+c+1)+1 by omega,Nat.pow_succ];omega
 have e7:2 ^ (c+c)≤2 ^ (c+c+1):=Nat.pow_le_pow_right (by decide) (by omega)
 omega
theorem zgc {a g:Int} (hg:0<g) {c:Nat} (h:a.natAbs≤2^c):(a/g).natAbs≤2 ^ c:=Nat.le_trans (zi4 hg) h
theorem zqV {n s a:Nat} {l t:Ji} {g x y:Int} (T:Sd n s t) (hl:l.length=n) (hb:Bit a l) (C:Cm (vec t (hd t)) (vec l (hd t)) g x y) (hlt:vec l (hd t)<vec t (hd t)) (h0:0≤vec l (hd t)):Bit (a+(s+8982)) (mg2 t l g):=Bit.of λi=>by
 rw [zij (by rw [hl,T.len])]
 have e1:(vec t (hd t)/g*vec l i).natAbs≤2 ^ (8980+a):=by rw [Int.natAbs_mul];exact zf8 (zgc C.pos T.top) (hb.vec i)
 have e2:(vec l (hd t)/g*vec t i).natAbs≤2 ^ (8980+s):=by rw [Int.natAbs_mul];exact zf8 (zgc C.pos (by have:=T.top;omega)) (T.bit.vec i)
 have e3:2 ^ (8980+a)≤2 ^ (a+(s+8981)):=Nat.pow_le_pow_right (by decide) (by omega)
 have e4:2 ^ (8980+s)≤2 ^ (a+(s+8981)):=Nat.pow_le_pow_right (by decide) (by omega)
 have e5:2 ^ (a+(s+8982))=2 ^ (a+(s+8981))+2 ^ (a+(s+8981)):=by rw [show a+(s+8982)=(a+(s+8981))+1 by omega,Nat.pow_succ];omega
 omega
theorem zrz {n s a:Nat} {l t:Ji} {x y:Int} (T:Sd n s t) (hl:l.length=n) (hb:Bit a l) (hx:x.natAbs≤2 ^ 8980) (hy:y.natAbs≤2 ^ 17962):Bit (a+(s+17964)) (mg1 t l x y):=Bit.of λi=>by
 rw [zhu (by rw [hl,T.len])]
 have e1:(x*vec t i).natAbs≤2 ^ (8980+s):=by rw [Int.natAbs_mul];exact zf8 hx (T.bit.vec i)
 have e2:(y*vec l i).natAbs≤2 ^ (17962+a):=by rw [Int.natAbs_mul];exact zf8 hy (hb.vec i)
 have e3:2 ^ (8980+s)≤2 ^ (a+(s+17963)):=Nat.pow_le_pow_right (by decide) (by omega)
 have e4:2 ^ (17962+a)≤2 ^ (a+(s+17963)):=Nat.pow_le_pow_right (by decide) (by omega)
 have e5:2 ^ (a+(s+17964))=2 ^ (a+(s+17963))+2 ^ (a+(s+17963)):=by rw [show a+(s+17964)=(a+(s+17963))+1 by omega,Nat.pow_succ];omega
 omega
theorem zno {a:Nat} {l:Ji} (h:Bit a l):Bit a (upr l):=by
 unfold upr
 cases decide (vec l (hd l)<(0:Int))
 ·exact h
 ·
  exact Bit.of λi=>by
   show (vec (mul l (-(1:Int))) i).natAbs≤_
   rw [zd4]
   have:=h.vec i
   omega
end Lat
namespace Lat
open L2
theorem zc3 (l:Ji) (k:Nat):ixD l (k:Int)=vec l k:=by
 by_cases h:k<l.length
 ·
  rw [zrj (List.getElem?_eq_getElem h)]
  simp [vec,List.getD_eq_getElem?_getD,List.getElem?_eq_getElem h]
 ·
  rw [zdE (by omega)]
  unfold ixD atI ixN
  rw [if_pos (by omega),if_neg (by omega)]
  rfl
theorem zjL {lo:Int} {n:Nat}:zcY lo (n+1)=lo::zcY (lo+1) n:=by
 unfold zcY
 rw [List.range_succ_eq_map,List.map_cons,List.map_map]
 congr 1
 ·simp
 ·exact List.map_congr_left λi _=>by show lo+((i+1:Nat):Int)=lo+1+(i:Int);omega
noncomputable abbrev hdB:Unit->Int×Int->Unit⊕Int:=λ_ x=>bif (!decide (x.2=(0:Int))) then (Sum.inr x.1) else (Sum.inl ())
theorem znY:∀(xs:Ji) (lo:Int),zmi (zcm hdB () ((zcY lo xs.length).zip xs)) (λ(_:Unit)=>lo+(xs.length:Int)) (λb=>b)=lo+(hd xs:Int)
 | [],lo=>rfl
 | x :: xs,lo=>by
  rw [List.length_cons,zjL,List.zip_cons_cons]
  unfold zcm hd
  cases q:(!decide (x=(0:Int))) with
   |true=>
    rw [show hdB () (lo,x)= .inr lo by unfold hdB;dsimp only;rw [q];rfl]
    show lo=lo+((0:Nat):Int)
    omega
   |false=>
    rw [show hdB () (lo,x)= .inl () by unfold hdB;dsimp only;rw [q];rfl]
    have:=znY xs (lo+1)
    have e:(λ(_:Unit)=>lo+1+(xs.length:Int))=(λ(_:Unit)=>lo+((xs.length+1:Nat):Int)):=funext λ_=>by omega
    rw [e] at this
    show zmi (zcm hdB () ((zcY (lo+1) xs.length).zip xs)) _ _=_
    rw [this]
    show lo+1+(hd xs:Int)=lo+((hd xs+1:Nat):Int)
    omega
theorem zur (xs:Ji):zmi (zcm hdB () (zb8 xs)) (λ(_:Unit)=>((xs.length:Nat):Int)) (λb=>b)=(hd xs:Int):=by
 have:=znY xs 0
 simp only [Int.zero_add] at this
 exact this
theorem ze6 {α:Type} {xs:List α} {k:Nat}:zcu xs (some (k:Int)) none=xs.drop k:=by
 unfold zcu
 rw [HT.sIx_nat,HT.sIx_none]
 by_cases h:k≤xs.length
 ·rw [Nat.min_eq_left h,List.take_of_length_le (by rw [List.length_drop];omega)]
 ·rw [Nat.min_eq_right (by omega),List.drop_eq_nil_of_le (by omega),List.drop_eq_nil_of_le (by omega)];simp
noncomputable def cmn (a b:Int):T3 Int Int Int:=Let (whl cmC cmF b.toNat (a,b,(1:Int),(0:Int))) (λ(r:G4)=>T3.mk r.1 r.2.2.1 ((r.1-(r.2.2.1*a))/b))
theorem znr {a b:Int} (h1:0<a) (h2:0<b):Cm a b (cmn a b).a (cmn a b).b (cmn a b).c:=by
 obtain ⟨i1,i2⟩:=zkA (n:=b.toNat) (c:=cmC) (f:=cmF) (I:=GI a b) (μ:=λs=>s.2.1.toNat) (λs h c=>h.step c) (GI.start h1 h2) (Nat.le_refl _)
 exact i1.done h2 i2
theorem zuc {a b:Int}:(cmn a b).c=((cmn a b).a-(cmn a b).b*a)/b:=rfl
noncomputable def MG:Mg:=⟨λa b=>((cmn a b).a,(cmn a b).b,(cmn a b).c),λ_ _ h1 h2=>znr h1 h2⟩
noncomputable def mrg (s l:Ji):Ji×Ji:=(mg1 s l (cmn (vec s (hd s)) (vec l (hd s))).b (cmn (vec s (hd s)) (vec l (hd s))).c,mg2 s l (cmn (vec s (hd s)) (vec l (hd s))).a)
theorem zk2 {s:Ji} {ss:Jq} {l:Ji}:tin MG (s::ss) l=bif decide (hd l<hd s) then upr l::s::ss else bif decide (hd l=hd s) then (mrg s l).1::tin MG ss (low (mrg s l).2 ss) else s::tin MG ss l:=rfl
abbrev TS2:=Jq×Ji
noncomputable def zmo (steps:Jq):TS2->Int×Ji->TS2⊕Jq:=λs x=>bif decide ((hd s.2:Int)<(hd x.2:Int)) then (Sum.inr ((s.1++[upr s.2])++(zcu steps (some x.1) none))) else Let (bif decide ((hd s.2:Int)=(hd x.2:Int)) then (s.1++[(mrg x.2 s.2).1]) else (s.1++[x.2])) (λ(g:Jq)=>Let (bif decide ((hd s.2:Int)=(hd x.2:Int)) then (low ((mrg x.2 s.2).2) (zcu steps (some (x.1+(1:Int))) none)) else s.2) (λ(l:Ji)=>Sum.inl (g,l)))
noncomputable abbrev ztL:TS2->Jq:=λr=>Let (bif decide ((hd r.2:Int)<((r.2.length:Nat):Int)) then (r.1++[upr r.2]) else r.1) (λ(g:Jq)=>g)
theorem ziw {steps:Jq}:∀(ss:Jq) (k:Nat) (g:Jq) (l:Ji),steps.drop k=ss->zmi (zcm (zmo steps) (g,l) ((zcY (k:Int) ss.length).zip ss)) ztL (λb=>b)=g++tin MG ss l
 | [],k,g,l,_=>by
  show ztL (g,l)=_
  unfold ztL Let tin
  dsimp only
  by_cases q:hd l<l.length
  ·rw [show decide ((hd l:Int)<((l.length:Nat):Int))=true by simp [q],show decide (hd l<l.length)=true by simp [q]];rfl
  ·
   rw [show decide ((hd l:Int)<((l.length:Nat):Int))=false by simpa using q,show decide (hd l<l.length)=false by simp [q]]
   simp
 | s :: ss,k,g,l,e=>by
  have e':steps.drop (k+1)=ss:=by rw [←List.drop_drop,e];rfl
  have e2:((k:Int)+(1:Int))=((k+1:Nat):Int):=by omega
  rw [List.length_cons,zjL,List.zip_cons_cons,zk2]
  unfold zcm
  by_cases q:hd l<hd s
  ·
   rw [show zmo steps (g,l) ((k:Int),s)= .inr ((g++[upr l])++(s::ss)) by
    unfold zmo;
    dsimp only
    rw [show decide ((hd l:Int)<(hd s:Int))=true by simp [q],cond_true,ze6,e]]
   rw [show decide (hd l<hd s)=true by simp [q],cond_true]
   show (g++[upr l])++(s::ss)=_
   simp
  ·
   rw [show decide (hd l<hd s)=false by simp [q],cond_false]
   have q':decide ((hd l:Int)<(hd s:Int))=false:=by simp;omega
   by_cases z:hd l=hd s
   ·
    rw [show zmo steps (g,l) ((k:Int),s)= .inl (g++[(mrg s l).1],low (mrg s l).2 ss) by
     unfold zmo Let;
     dsimp only
     rw [q',show decide ((hd l:Int)=(hd s:Int))=true by simp [z],cond_false,cond_true,cond_true,e2,ze6,e']]
    rw [show decide (hd l=hd s)=true by simp [z],cond_true]
    show zmi (zcm (zmo steps) _ ((zcY ((k:Int)+1) ss.length).zip ss)) _ _=_
    rw [e2,ziw ss (k+1) _ _ e']
    simp
   ·
    rw [show zmo steps (g,l) ((k:Int),s)= .inl (g++[s],l) by
     unfold zmo Let;
     dsimp only
     rw [q',show decide ((hd l:Int)=(hd s:Int))=false by simp;omega,cond_false,cond_false,cond_false]]
    rw [show decide (hd l=hd s)=false by simp [z],cond_false]
    show zmi (zcm (zmo steps) _ ((zcY ((k:Int)+1) ss.length).zip ss)) _ _=_
    rw [e2,ziw ss (k+1) _ _ e']
    simp
theorem zvh (steps:Jq) (l:Ji):zmi (zcm (zmo steps) ([],l) (zb8 steps)) ztL (λb=>b)=tin MG steps l:=by
 have:=ziw (steps:=steps) steps 0 [] l rfl
 simp only [List.nil_append] at this
 exact this
theorem zuY:∀(ss:Jq),List.foldl (λ(s:Jq) (x:Ji)=>[low x s]++s) [] ss.reverse=stl ss
 | []=>rfl
 | s :: ss=>by
  rw [List.reverse_cons,List.foldl_append,zuY ss]
  rfl
theorem zlu:∀ {ss:Jq} {j:Nat},stl (ss.drop j)=(stl ss).drop j
 | [],j=>by simp [stl]
 | s :: ss,0=>rfl
 | s :: ss,j+1=>by rw [List.drop_succ_cons,zlu];rfl
theorem zfy.of {x y:Int} {a b:Nat} (h1:x.natAbs≤2^a) (h2:y.natAbs≤2^b) (ha:a≤50000000) (hb:b≤50000000):zfy x y :=
 .inr (.inr ⟨znc (k:=a+1) (by have:2 ^ a<2 ^ (a+1):=Nat.pow_lt_pow_right (by decide) (Nat.lt_succ_self a);omega) (by omega) (by omega),znc (k:=b+1) (by have:2 ^ b<2 ^ (b+1):=Nat.pow_lt_pow_right (by decide) (Nat.lt_succ_self b);omega) (by omega) (by omega)⟩)
theorem zhD.of {x y:Int} {b:Nat} (h:0<y) (h2:y.natAbs≤2^b) (hb:b≤8990):zhD x y :=
 ⟨h,znc (k:=b+1) (by have:2 ^ b<2 ^ (b+1):=Nat.pow_lt_pow_right (by decide) (Nat.lt_succ_self b);omega) (by omega) (by omega)⟩
def zkc (a b:Int):Prop:=0<a∧0<b∧a.natAbs≤2 ^ 8980∧b.natAbs≤2 ^ 8980
section
variable {one other:Int} {s:G4}
theorem GI.gn (I:GI one other s) (h:zkc one other):s.1.natAbs≤2 ^ 8981:=by
 have:=I.g;
 have:=I.gb;
 obtain ⟨h1,h2,h3,h4⟩:=h
 rw [Nat.pow_succ]
 omega
theorem GI.mn (I:GI one other s) (h:zkc one other):s.2.1.natAbs≤2 ^ 8981:=by
 have:=I.m;
 have:=I.mb;
 obtain ⟨h1,h2,h3,h4⟩:=h
 rw [Nat.pow_succ]
 omega
theorem GI.tn (I:GI one other s) (h:zkc one other):s.2.2.1.natAbs≤2 ^ 8980:=by
 have:=I.tb;
 obtain ⟨h1,h2,h3,h4⟩:=h
 omega
theorem GI.ln (I:GI one other s) (h:zkc one other):s.2.2.2.natAbs≤2 ^ 8980:=by
 have:=I.lb;
 obtain ⟨h1,h2,h3,h4⟩:=h
 omega
theorem GI.pos (I:GI one other s) (hc:(!decide (s.2.1=(0:Int)))=true):0<s.2.1:=by
 have:=I.m
 simp only [Bool.not_eq_true',decide_eq_false_iff_not] at hc
 omega
theorem GI.div (I:GI one other s) (h:zkc one other) (hc:(!decide (s.2.1=(0:Int)))=true):zhD s.1 s.2.1:=zhD.of (I.pos hc) (I.mn h) (by decide)
theorem GI.mul1 (I:GI one other s) (h:zkc one other) (hc:(!decide (s.2.1=(0:Int)))=true) {p:Int} (e:p=s.1/s.2.1):zfy p s.2.1:=by subst e;exact zfy.of (zgc (I.pos hc) (I.gn h)) (I.mn h) (by decide) (by decide)
theorem GI.mul2 (I:GI one other s) (h:zkc one other) (hc:(!decide (s.2.1=(0:Int)))=true) {p:Int} (e:p=s.1/s.2.1):zfy p s.2.2.2:=by subst e;exact zfy.of (zgc (I.pos hc) (I.gn h)) (I.ln h) (by decide) (by decide)
theorem GI.mul3 (I:GI one other s) (h:zkc one other):zfy s.2.2.1 one:=zfy.of (I.tn h) h.2.2.1 (by decide) (by decide)
theorem zkc.div (h:zkc one other) {x:Int}:zhD x other:=zhD.of h.2.1 h.2.2.2 (by decide)
end
def LowP (row:Ji) (steps:Jq):Prop:=∃n a s,n≤1000∧row.length=n∧steps.length≤1000∧Bit a row∧(∀t∈steps,Sd n s t)∧a+steps.length*(s+1)+s≤50000000
section
variable {n s a i:Nat} {l t:Ji} {h q:Int}
theorem zlz (T:Sd n s t) (e:h=(hd t:Int)) (hl:l.length=n):InB l.length h:=by
 have:=T.hd
 unfold InB
 omega
theorem zp9 (T:Sd n s t) (e:h=(hd t:Int)):zhD (ixD l h) (ixD t h):=by
 subst e
 rw [zc3,zc3]
 exact zhD.of T.pos T.top (by decide)
theorem zqk (T:Sd n s t) (e:h=(hd t:Int)) (hb:Bit a l) (eq:q=ixD l h/ixD t h) (ha:a+s≤50000000):∀y∈t,zfy y q:=by
 subst e eq
 rw [zc3,zc3]
 exactλy hy=>zfy.of (T.bit y hy) (zpB T hb) (by omega) (by omega)
theorem zql (T:Sd n s t) (hl:l.length=n∧Bit (a+i*(s+1)) l) {y:Ji} (e:y=zkC l t):y.length=n∧Bit (a+(i+1)*(s+1)) y:=by
 subst e
 refine ⟨by rw [zi2 (by rw [hl.1,T.len]),hl.1],(zk8 T hl.1 hl.2).mono ?_⟩
 rw [Nat.succ_mul];
 omega
theorem zrr {k i:Nat} (h:a+k*(s+1)+s≤50000000) (hi:i<k):a+i*(s+1)+s≤50000000:=by
 have:=Nat.mul_le_mul_right (s+1) (show i≤k by omega)
 omega
end
def MrgP (t l:Ji):Prop:=∃n a s,n≤1000∧Sd n s t∧l.length=n∧Bit a l∧0<vec l (hd t)∧vec l (hd t)<vec t (hd t)∧a+s≤40000000
section
variable {n s a:Nat} {l t:Ji} {h:Int}
theorem zoc (T:Sd n s t) (e:h=(hd t:Int)) (h0:0<vec l (hd t)) (h1:vec l (hd t)<vec t (hd t)):zkc (ixD t h) (ixD l h):=by
 subst e
 rw [zc3,zc3]
 exact ⟨T.pos,h0,T.top,by have:=T.top;omega⟩
theorem zpY {x y:Int} (h:zkc x y):0<(cmn x y).a∧(cmn x y).a.natAbs≤2 ^ 8981∧(cmn x y).b.natAbs≤2 ^ 8980∧(cmn x y).c.natAbs≤2 ^ 17962:=by
 have C:=znr h.1 h.2.1
 have:=C.bd h.2.1 zuc h.2.2.1 h.2.2.2
 exact ⟨C.pos,this⟩
theorem ziY {x:Int} {a b:Nat} {l:Ji} (h1:Bit a l) (h2:x.natAbs≤2^b) (ha:a≤50000000) (hb:b≤50000000):∀y∈l,zfy y x:=λy hy=>zfy.of (h1 y hy) h2 ha hb
end
def TinP (steps:Jq) (row:Ji):Prop:=∃n a s,n≤1000∧Ech n 0 steps∧(∀t∈steps,Sd n s t)∧row.length=n∧Bit a row∧steps.length≤100∧a+(steps.length+2)*((steps.length+1)*(s+9000))+s≤40000000
theorem zlp {n:Nat}:∀ {ss:Jq} {lo j:Nat},Ech n lo ss->Ech n lo (ss.drop j)
 | [],_,_,_=>by simp [Ech]
 | _ :: _,_,0,h=>h
 | s :: ss,lo,j+1,h=>by
  rw [List.drop_succ_cons]
  exact zlp (h.2.2.2.2.mono (by have:=h.2.1;omega))
section
variable {n s a i:Nat} {steps:Jq} {st:TS2} {x:Int×Ji}
structure TI (steps:Jq) (n a s i:Nat) (st:TS2):Prop where
 g:st.1.length≤i
 len:st.2.length=n
 bit:Bit (a+steps.length*(s+1)+i*((steps.length+1)*(s+9000))) st.2
 red:∀ t∈steps.drop i,0≤vec st.2 (hd t)∧vec st.2 (hd t)<vec t (hd t)
theorem TI.start {row:Ji} (e:Ech n 0 steps) (T:∀t∈steps,Sd n s t) (hl:row.length=n) (hb:Bit a row):TI steps n a s 0 ([],low row steps):=by
 obtain ⟨k1,k2,k3,k4⟩:=zcd (l:=row) e hl
 exact ⟨Nat.le_refl 0,k1,by simpa using zeX T hl hb,by simpa using k3⟩
theorem TI.mem (hx:i<steps.length∧x.1=(i:Int)∧steps[i]? =some x.2):x.2∈steps∧x.2∈steps.drop i∧steps.drop i=x.2::steps.drop (i+1):=by
 have e:steps.drop i=x.2::steps.drop (i+1):=by
  rw [List.drop_eq_getElem_cons hx.1]
  congr 1
  have:=hx.2.2
  rw [List.getElem?_eq_getElem hx.1] at this
  exact Option.some.inj this
 exact ⟨List.mem_of_getElem? hx.2.2,by rw [e];exact List.mem_cons_self,e⟩
theorem TI.num (hi:i≤steps.length) (h:a+(steps.length+2)*((steps.length+1)*(s+9000))+s≤40000000):a+steps.length*(s+1)+i*((steps.length+1)*(s+9000))+(s+9000)≤40000000:=by
 have e1:i*((steps.length+1)*(s+9000))≤steps.length*((steps.length+1)*(s+9000)):=Nat.mul_le_mul_right _ hi
 have e2:steps.length*(s+1)≤(steps.length+1)*(s+9000):=Nat.mul_le_mul (by omega) (by omega)
 have e3:s+9000≤(steps.length+1)*(s+9000):=Nat.le_mul_of_pos_left _ (by omega)
 rw [Nat.add_mul] at h
 omega
theorem TI.mrg (I:TI steps n a s i st) (hn:n≤1000) (T:∀t∈steps,Sd n s t) (hx:i<steps.length∧x.1=(i:Int)∧steps[i]? =some x.2) (hh:hd st.2=hd x.2) (hN:a+(steps.length+2)*((steps.length+1)*(s+9000))+s≤40000000):MrgP x.2 st.2:=by
 obtain ⟨m1,m2,m3⟩:=TI.mem hx
 have r:=I.red _ m2
 have T1:=T _ m1
 have ne:=zgO (l:=st.2) (by rw [hh,I.len];exact T1.hd)
 rw [hh] at ne
 exact ⟨n,_,s,hn,T1,I.len,I.bit,by omega,r.2,by have:=TI.num (Nat.le_of_lt hx.1) hN;omega⟩
theorem zkm {t l:Ji} {b:Nat} (T:Sd n s t) (hl:l.length=n) (hb:Bit b l) (h0:0<vec l (hd t)) (h1:vec l (hd t)<vec t (hd t)):(mrg t l).2.length=n∧Bit (b+(s+8982)) (mrg t l).2∧(mrg t l).1.length=n∧Bit (b+(s+17964)) (mrg t l).1:=by
 have e:t.length=l.length:=by rw [hl,T.len]
 have P:zkc (vec t (hd t)) (vec l (hd t)):=⟨T.pos,h0,T.top,by have:=T.top;omega⟩
 have C:=zpY P
 exact ⟨by rw [show (mrg t l).2=mg2 t l _ from rfl,zmp e,T.len],zqV T hl hb (znr T.pos h0) h1 (by omega),by rw [show (mrg t l).1=mg1 t l _ _ from rfl,znF e,T.len],zrz T hl hb C.2.2.1 C.2.2.2⟩
theorem TI.low (I:TI steps n a s i st) (hn:n≤1000) (hk:steps.length≤100) (T:∀t∈steps,Sd n s t) (hx:i<steps.length∧x.1=(i:Int)∧steps[i]? =some x.2) (hh:hd st.2=hd x.2) (hN:a+(steps.length+2)*((steps.length+1)*(s+9000))+s≤40000000):LowP (Lat.mrg x.2 st.2).2 (zcu steps (some (x.1+(1:Int))) none):=by
 obtain ⟨m1,m2,m3⟩:=TI.mem hx
 have r:=I.red _ m2
 have T1:=T _ m1
 have ne:=zgO (l:=st.2) (by rw [hh,I.len];exact T1.hd)
 rw [hh] at ne
 obtain ⟨b1,b2,_⟩:=zkm T1 I.len I.bit (by omega) r.2
 rw [hx.2.1,show ((i:Int)+(1:Int))=((i+1:Nat):Int) by omega,ze6]
 refine ⟨n,_,s,hn,b1,by rw [List.length_drop];omega,b2,λt ht=>T t (List.mem_of_mem_drop ht),?_⟩
 have hp:(List.drop (i+1) steps).length*(s+1)≤steps.length*(s+9000):=Nat.mul_le_mul (by rw [List.length_drop];omega) (by omega)
 have hm:steps.length*(s+1)≤(steps.length+1)*(s+9000):=Nat.mul_le_mul (by omega) (by omega)
 have ho:i*((steps.length+1)*(s+9000))≤steps.length*((steps.length+1)*(s+9000)):=Nat.mul_le_mul_right _ (by omega)
 have hq:(steps.length+1)*(s+9000)=steps.length*(s+9000)+(s+9000):=Nat.succ_mul _ _
 rw [Nat.add_mul steps.length 2] at hN
 omega
theorem TI.step (I:TI steps n a s i st) (e:Ech n 0 steps) (T:∀t∈steps,Sd n s t) (hx:i<steps.length∧x.1=(i:Int)∧steps[i]? =some x.2) {st':TS2} (hf:zmo steps st x= .inl st'):TI steps n a s (i+1) st':=by
 obtain ⟨m1,m2,m3⟩:=TI.mem hx
 have r:=I.red _ m2
 have T1:=T _ m1
 have dd:∀t∈steps.drop (i+1),t∈steps.drop i:=λt ht=>by rw [m3];exact List.mem_cons_of_mem _ ht
 have mo:a+steps.length*(s+1)+i*((steps.length+1)*(s+9000))≤a+steps.length*(s+1)+(i+1)*((steps.length+1)*(s+9000)):=by
  have:=Nat.mul_le_mul_right ((steps.length+1)*(s+9000)) (show i≤i+1 by omega)
  omega
 unfold zmo Let at hf
 by_cases q:hd st.2<hd x.2
 ·
  rw [show decide ((hd st.2:Int)<(hd x.2:Int))=true by simp [q],cond_true] at hf
  cases hf
 ·
  rw [show decide ((hd st.2:Int)<(hd x.2:Int))=false by simp;omega,cond_false] at hf
  by_cases z:hd st.2=hd x.2
  ·
   rw [show decide ((hd st.2:Int)=(hd x.2:Int))=true by simp [z],cond_true,cond_true] at hf
   cases hf
   have ne:=zgO (l:=st.2) (by rw [z,I.len];exact T1.hd)
   rw [z] at ne
   obtain ⟨b1,b2,_⟩:=zkm T1 I.len I.bit (by omega) r.2
   rw [hx.2.1,show ((i:Int)+(1:Int))=((i+1:Nat):Int) by omega,ze6]
   have ed:Ech n 0 (steps.drop (i+1)):=zlp e
   obtain ⟨k1,k2,k3,k4⟩:=zcd (l:=(Lat.mrg x.2 st.2).2) ed b1
   refine ⟨by have:=I.g;simp;omega,k1,(zeX (λt ht=>T t (List.mem_of_mem_drop ht)) b1 b2).mono ?_,k3⟩
   have e5:(List.drop (i+1) steps).length*(s+1)≤steps.length*(s+9000):=Nat.mul_le_mul (by rw [List.length_drop];omega) (by omega)
   rw [Nat.succ_mul i,Nat.add_mul steps.length 1]
   omega
  ·
   rw [show decide ((hd st.2:Int)=(hd x.2:Int))=false by simp;omega,cond_false,cond_false] at hf
   cases hf
   exact ⟨by have:=I.g;simp;omega,I.len,I.bit.mono mo,λt ht=>I.red t (dd t ht)⟩
end
theorem tin_bit {n s K:Nat}:∀ {ss:Jq} {lo a:Nat} {l:Ji},Ech n lo ss->(∀t∈ss,Sd n s t)->l.length=n->(∀t∈ss,0≤vec l (hd t)∧vec l (hd t)<vec t (hd t))->Bit a l->ss.length≤K→∀t∈tin MG ss l,Bit (a+ss.length*((K+1)*(s+9000))+s+18000) t
 | [],lo,a,l,_,_,_,_,hb,_,t,ht=>by
  unfold tin at ht
  cases q:decide (hd l<l.length) with
   |true=>rw [q,cond_true] at ht;rw [List.mem_singleton.mp ht];exact (zno hb).mono (by omega)
   |false=>rw [q,cond_false] at ht;simp at ht
 | s' :: ss,lo,a,l,e,T,hl,r,hb,hK,t,ht=>by
  have T1:=T s' List.mem_cons_self
  have hS:∀t∈s'::ss,Bit (a+(s'::ss).length*((K+1)*(s+9000))+s+18000) t:=λt ht=>(T t ht).bit.mono (by omega)
  rw [zk2] at ht
  cases q:decide (hd l<hd s') with
   |true=>
    rw [q,cond_true] at ht
    rcases List.mem_cons.mp ht with rfl|ht
    ·exact (zno hb).mono (by omega)
    ·exact hS t ht
   |false=>
    rw [q,cond_false] at ht
    by_cases z:hd l=hd s'
    ·
     rw [show decide (hd l=hd s')=true by simp [z],cond_true] at ht
     have ne:=zgO (l:=l) (by rw [z,hl];exact T1.hd)
     rw [z] at ne
     have r1:=r s' List.mem_cons_self
     obtain ⟨b1,b2,b3,b4⟩:=zkm T1 hl hb (by omega) r1.2
     rcases List.mem_cons.mp ht with rfl|ht
     ·exact b4.mono (by omega)
     ·
      obtain ⟨k1,k2,k3,k4⟩:=zcd (l:=(mrg s' l).2) e.2.2.2.2 b1
      have:=tin_bit (K:=K) e.2.2.2.2 (λt ht=>T t (List.mem_cons_of_mem _ ht)) k1 k3 (zeX (λt ht=>T t (List.mem_cons_of_mem _ ht)) b1 b2) (by simp at hK;omega) t ht
      refine this.mono ?_
      have e5:ss.length*(s+1)≤K*(s+9000):=Nat.mul_le_mul (by simp at hK;omega) (by omega)
      rw [List.length_cons,Nat.succ_mul ss.length ((K+1)*(s+9000))]
      have e6:(K+1)*(s+9000)=K*(s+9000)+(s+9000):=Nat.succ_mul _ _
      omega
    ·
     rw [show decide (hd l=hd s')=false by simp [z],cond_false] at ht
     rcases List.mem_cons.mp ht with rfl|ht
     ·exact hS t List.mem_cons_self
     ·
      refine (tin_bit (K:=K) e.2.2.2.2 (λt ht=>T t (List.mem_cons_of_mem _ ht)) hl (λt ht=>r t (List.mem_cons_of_mem _ ht)) hb (by simp at hK;omega) t ht).mono ?_
      have:ss.length*((K+1)*(s+9000))≤(s'::ss).length*((K+1)*(s+9000)):=Nat.mul_le_mul_right _ (by simp)
      omega
def zse (steps:Jq):Prop:=steps.length≤1000∧∀j x,steps[j]? =some x->LowP x (stl (steps.drop (j+1)))
section
variable {steps fl:Jq} {i:Nat} {x:Ji}
theorem zkk (hx:steps.reverse[i]? =some x):∃j,j+1+i=steps.length∧steps[j]? =some x∧steps.drop j=x::steps.drop (j+1):=by
 have hi:i<steps.reverse.length:=(List.getElem?_eq_some_iff.mp hx).1
 rw [List.length_reverse] at hi
 rw [List.getElem?_reverse hi] at hx
 have hj:steps.length-1-i<steps.length:=by omega
 refine ⟨steps.length-1-i,by omega,hx,?_⟩
 rw [List.getElem?_eq_getElem hj] at hx
 rw [List.drop_eq_getElem_cons hj,Option.some.inj hx]
theorem zq0 (h:zse steps) (hx:steps.reverse[i]? =some x) (e:fl=stl (steps.drop (steps.length-i))):LowP x fl:=by
 obtain ⟨j,h1,h2,h3⟩:=zkk hx
 rw [e,show steps.length-i=j+1 by omega]
 exact h.2 j x h2
theorem zqT (hx:steps.reverse[i]? =some x) (e:fl=stl (steps.drop (steps.length-i))) {y:Jq} (hy:y=[low x fl]++fl):y=stl (steps.drop (steps.length-(i+1))):=by
 obtain ⟨j,h1,h2,h3⟩:=zkk hx
 rw [hy,e,show steps.length-i=j+1 by omega,show steps.length-(i+1)=j by omega,h3]
 rfl
theorem zjZ:∀ {ss:Jq},(stl ss).length=ss.length
 | []=>rfl
 | s :: ss=>by simp [stl,zjZ]
theorem zsI (h:zse steps) (hi:i<steps.length) (e:fl=stl (steps.drop (steps.length-i))):fl.length≤1000:=by
 rw [e,zjZ,List.length_drop]
 have:=h.1
 omega
end
def Fit (n b R:Nat):Prop:=n≤1000∧R≤31∧eB b R≤8980∧b+(min n R+2)*((min n R+1)*(sB b R+9000))+3*sB b R+18001+(min n R+1)*(sB b R+1)≤40000000
def zuS (rows:Jq):Prop:=∃n b R,Fit n b R∧rows.length≤R∧∀r∈rows,r.length=n∧Bit b r
section
variable {n b R i:Nat} {rows ss:Jq} {r:Ji}
theorem ziT (hr:rows[i]?=some r):clm MG (rows.take (i+1))=stl (tin MG (clm MG (rows.take i)) (low r (clm MG (rows.take i)))):=by
 have hi:=(List.getElem?_eq_some_iff.mp hr).1
 rw [List.take_succ_eq_append_getElem hi]
 unfold clm
 rw [List.foldl_append]
 rw [List.getElem?_eq_getElem hi] at hr
 rw [←Option.some.inj hr]
 rfl
theorem zgg (h:∀r∈rows,r.length=n):Stairs n rows (clm MG rows)∧(clm MG rows).length≤rows.length:=by
 have:∀i,i≤rows.length->Stairs n (rows.take i) (clm MG (rows.take i))∧(clm MG (rows.take i)).length≤i:=by
  intro i
  induction i with
   |zero=>exactλ_=>⟨by simpa [clm] using Stairs.nil,by simp [clm]⟩
   |succ i ih=>
    intro hi
    obtain ⟨s1,s2⟩:=ih (by omega)
    have e:rows[i]? =some rows[i]:=List.getElem?_eq_getElem (by omega)
    obtain ⟨t1,t2⟩:=s1.step MG (r:=rows[i]) (h _ (List.getElem_mem _))
    rw [ziT e,List.take_succ_eq_append_getElem (by omega)]
    exact ⟨t1,by omega⟩
 obtain ⟨t1,t2⟩:=this rows.length (Nat.le_refl _)
 rw [List.take_length] at t1 t2
 exact ⟨t1,t2⟩
theorem zjD (F:Fit n b R) (hl:rows.length≤R) (h:∀r∈rows,r.length=n∧Bit b r):Stairs n rows (clm MG rows)∧(clm MG rows).length≤min n R∧∀t∈clm MG rows,Sd n (sB b R) t:=by
 obtain ⟨s1,s2⟩:=zgg (rows:=rows) λr hr=>(h r hr).1
 refine ⟨s1,?_,λt ht=> ?_⟩
 ·
  have:=zkh s1.ech (Nat.zero_le n)
  omega
 ·
  obtain ⟨a1,a2,a3,a4⟩:=s1.ech.mem t ht
  obtain ⟨b1,b2⟩:=s1.bits F.2.1 hl (λr hr=>(h r hr).2) t ht
  exact ⟨a1,a3,a4,Nat.le_trans b1 (Nat.pow_le_pow_right (by decide) F.2.2.1),b2⟩
theorem zmu (F:Fit n b R) (hl:rows.length≤R) (h:∀r∈rows,r.length=n∧Bit b r) (hr:rows[i]?=some r) (e:ss=clm MG (rows.take i)):LowP r ss∧TinP ss r∧zse (tin MG ss (low r ss)):=by
 subst e
 have hi:=(List.getElem?_eq_some_iff.mp hr).1
 have hrm:=h r (List.mem_of_getElem? hr)
 obtain ⟨s1,s2,s3⟩:=zjD F (rows:=rows.take i) (by rw [List.length_take];omega) λr hr=>h r (List.mem_of_mem_take hr)
 obtain ⟨t1,t2,t3⟩:=zjD F (rows:=rows.take (i+1)) (by rw [List.length_take];omega) λr hr=>h r (List.mem_of_mem_take hr)
 rw [ziT hr] at t1 t2 t3
 obtain ⟨f1,f2,f3,f4⟩:=F
 generalize clm MG (rows.take i)=ss at*
 generalize hs:sB b R=s at*
 generalize hk:min n R=k at*
 obtain ⟨k1,k2,k3,k4⟩:=zcd (l:=r) s1.ech hrm.1
 have m1:ss.length*(s+1)≤(k+1)*(s+1):=Nat.mul_le_mul_right _ (by omega)
 have m2:(ss.length+2)*((ss.length+1)*(s+9000))≤(k+2)*((k+1)*(s+9000)):=Nat.mul_le_mul (by omega) (Nat.mul_le_mul_right _ (by omega))
 have hk32:k≤31:=by omega
 refine ⟨⟨n,b,s,f1,hrm.1,by omega,hrm.2,s3,by omega⟩,⟨n,b,s,f1,s1.ech,s3,hrm.1,hrm.2,by omega,by omega⟩,?_,λj x hx=> ?_⟩
 ·rw [zjZ] at t2;omega
 ·
  have hxm:=List.mem_of_getElem? hx
  have g1:=tin_bit (K:=k) s1.ech s3 k1 k3 (zeX s3 hrm.1 hrm.2) s2 x hxm
  obtain ⟨e1,_⟩:=zgB MG s1.ech k1 (λi hi=>absurd hi (Nat.not_lt_zero i)) k3 (Nat.zero_le n)
  rw [zlu]
  refine ⟨n,_,s,f1,(e1.mem x hxm).1,by rw [List.length_drop];omega,g1,λt ht=>t3 t (List.mem_of_mem_drop ht),?_⟩
  have m3:(List.drop (j+1) (stl (tin MG ss (low r ss)))).length*(s+1)≤(k+1)*(s+1):=Nat.mul_le_mul_right _ (by rw [List.length_drop];omega)
  have m4:ss.length*((k+1)*(s+9000))≤k*((k+1)*(s+9000)):=Nat.mul_le_mul_right _ s2
  have m5:(k+1)*(s+1)≤(k+1)*(s+9000):=Nat.mul_le_mul_left _ (by omega)
  rw [Nat.add_mul k 2] at f4
  omega
end
end Lat
namespace L2
open PySem PySem.Spec PyProof.Rows
section
variable {X:Cx} {K:W.Frag}
end
section
variable {E:XS} {Γ:Ctx} {te tj:TE} {u:TS} {o:Oc} {m:Bool} {K:W.Frag} {i j:Nat} {α β:Type} {f:α->Ds}
end
section
variable {E:XS} {Γ:Ctx} {u:TS} {o:Oc} {K:W.Frag} {i j:Nat}
end
end L2
namespace L2
open PySem PySem.Spec PyProof.Rows
end L2
namespace Lat
open L2
theorem zoD {α:Type} {xs:List α} {i:Int} {x y:α} (h:y∈zeD xs i x):y=x∨y∈xs:=by
 unfold zeD at h
 split at h
 ·
  rcases List.mem_or_eq_of_mem_set h with h|h
  ·exact .inr h
  ·exact .inl h
 ·exact .inr h
theorem zkP {α β:Type} (g:α->β):∀(xs:List α) (acc:List β),List.foldl (λs x=>s++[g x]) acc xs=acc++xs.map g
 | [],acc=>by simp
 | x :: xs,acc=>by rw [List.foldl_cons,zkP g xs];simp
theorem zfQ {n:Nat} (h:n≤24):Fit n 200 13:=by
 unfold Fit
 have e1:eB 200 13=2898:=rfl
 have e2:sB 200 13=40670:=rfl
 rw [e1,e2]
 refine ⟨by omega,by decide,by decide,?_⟩
 have hk:min n 13≤13:=by omega
 generalize min n 13=k at*
 have m1:(k+2)*((k+1)*(40670+9000))≤15*(14*(40670+9000)):=Nat.mul_le_mul (by omega) (Nat.mul_le_mul_right _ (by omega))
 have m2:(k+1)*(40670+1)≤14*(40670+1):=Nat.mul_le_mul_right _ (by omega)
 omega
end Lat
namespace Lat
theorem zju {n:Nat}:∀ {ss:Jq} {lo:Nat} {u:Vc},Ech n lo ss->SpL ss u->(∀t∈ss,-vec t (hd t)<u (hd t)∧u (hd t)<vec t (hd t))->∀i,u i=0
 | [],_,u,_,h,_,i=>Sp.at0 (λ_ ⟨_,z,_⟩=>by simp at z) h
 | s :: ss,lo,u,e,h,k,i=>by
  obtain ⟨w,y,hw,hu⟩:=h.cons
  have e1:=SpL.before e.2.2.2.2 (Nat.lt_succ_self (hd s)) hw
  have e2:=hu (hd s)
  have e3:=k s List.mem_cons_self
  have e4:=e.2.2.2.1
  rw [e1] at e2
  have y0:y=0:=by
   rw [e2,Int.zero_add] at e3
   refine Classical.byContradiction λq=> ?_
   rcases Int.lt_or_gt_of_ne q with q|q
   ·
    have:=Int.mul_le_mul_of_nonneg_right (show y≤(-1:Int) by omega) (Int.le_of_lt e4)
    omega
   ·
    have:=Int.mul_le_mul_of_nonneg_right (show (1:Int)≤y by omega) (Int.le_of_lt e4)
    omega
  have hu':∀i,u i=w i:=λi=>by rw [hu i,y0];omega
  have:u=w:=funext hu'
  subst this
  exact zju e.2.2.2.2 hw (λt ht=>k t (List.mem_cons_of_mem _ ht)) i
theorem Sp.image {A B:Vc->Prop} {g:Vc->Vc} {u:Vc} (h0:∀i,g (λ_=>0) i=0) (hl:∀(u a:Vc) (x:Int) i,g (λi=>u i+x*a i) i=g u i+x*g a i) (hA:∀a,A a->Sp B (g a)) (h:Sp A u):Sp B (g u):=by
 induction h with
  |zero=>exact Sp.zero.conv λi=>(h0 i).symm
  | @ add u a z _ ha ih=>exact (ih.plus ((hA a ha).smul z)).conv λi=>(hl u a z i).symm
theorem zdd {l:Ji} {n i:Nat}:vec (l.take n) i=if i<n then vec l i else 0:=by
 unfold vec
 rw [List.getD_eq_getElem?_getD,List.getD_eq_getElem?_getD,List.getElem?_take]
 split<;>rfl
theorem zdP {l:Ji} {n i:Nat}:vec (l.drop n) i=vec l (n+i):=by
 unfold vec
 rw [List.getD_eq_getElem?_getD,List.getD_eq_getElem?_getD,List.getElem?_drop]
theorem zhn {l t:Ji} {i:Nat}:vec (l++t) i=if i<l.length then vec l i else vec t (i-l.length):=by
 unfold vec
 rw [List.getD_eq_getElem?_getD,List.getD_eq_getElem?_getD,List.getD_eq_getElem?_getD,List.getElem?_append]
 split<;>rfl
theorem zj2 {l:Ji} {n:Nat} (h:hd l<n) (hl:hd l<l.length):hd (l.take n)=hd l:=zn5 (by rw [zdd,if_pos h];exact zgO hl) λi hi=>by
 rw [zdd]
 split
 ·exact zbY hi
 ·rfl
noncomputable def zoS (n:Nat) (ss:Jq):Jq:=List.map (λ(x:Ji)=>x.take n) (List.filter (λ(x:Ji)=>decide (hd x<n)) ss)
theorem ziW {n m:Nat} (hnm:n≤m):∀ {ss:Jq} {lo:Nat},Ech m lo ss->Ech n lo (zoS n ss)
 | [],_,_=>trivial
 | s :: ss,lo,e=>by
  unfold zoS
  by_cases q:hd s<n
  ·
   rw [List.filter_cons_of_pos (by simpa using q),List.map_cons]
   have hl:=e.1
   have e1:=zj2 q (by rw [hl];exact e.2.2.1)
   refine ⟨by rw [List.length_take,hl];omega,by rw [e1];exact e.2.1,by rw [e1];exact q,by rw [e1,zdd,if_pos q];exact e.2.2.2.1,?_⟩
   rw [e1]
   exact ziW hnm e.2.2.2.2
  ·
   rw [List.filter_cons_of_neg (by simpa using q)]
   exact (ziW hnm e.2.2.2.2).mono (by have:=e.2.1;omega)
theorem ziV {n:Nat} {ss:Jq} {t:Ji} (h:t∈zoS n ss):∃s∈ss,hd s<n∧t=s.take n:=by
 unfold zoS at h
 obtain ⟨s,hs,rfl⟩:=List.mem_map.mp h
 obtain ⟨h1,h2⟩:=List.mem_filter.mp hs
 exact ⟨s,h1,by simpa using h2,rfl⟩
theorem ziZ {n m:Nat} (hnm:n≤m):∀ {ss:Jq} {lo:Nat},Ech m lo ss->Red ss->Red (zoS n ss)
 | [],_,_,_=>trivial
 | s :: ss,lo,e,r=>by
  unfold zoS
  by_cases q:hd s<n
  ·
   rw [List.filter_cons_of_pos (by simpa using q),List.map_cons]
   refine ⟨λt ht=> ?_,ziZ hnm e.2.2.2.2 r.2⟩
   obtain ⟨x,hx,h1,rfl⟩:=ziV ht
   have ex:=Ech.mem e.2.2.2.2 x hx
   rw [zj2 h1 (by rw [ex.1];exact ex.2.2.1),zdd,zdd,if_pos h1,if_pos h1]
   exact r.1 x hx
  ·
   rw [List.filter_cons_of_neg (by simpa using q)]
   exact ziZ hnm e.2.2.2.2 r.2
noncomputable abbrev rst (n:Nat) (u:Vc):Vc:=λi=>if i<n then u i else 0
theorem zfJ {n:Nat} {l:Ji}:rst n (vec l)=vec (l.take n):=funext λi=>by rw [zdd]
theorem zis {n:Nat} (u a:Vc) (x:Int) (i:Nat):rst n (λi=>u i+x*a i) i=rst n u i+x*rst n a i:=by unfold rst;dsimp only;split<;>omega
theorem Stairs.cut {n m:Nat} {rows marked ss:Jq} (hnm:n≤m) (h:Stairs m marked ss) (k:∀r∈marked,∃r'∈rows,r.take n=r') (k':∀r'∈rows,∃r∈marked,r.take n=r'):Stairs n rows (zoS n ss):=by
 refine ⟨ziW hnm h.ech,ziZ hnm h.ech h.red,λt ht=> ?_,λr' hr'=> ?_⟩
 ·
  obtain ⟨s,hs,_,rfl⟩:=ziV ht
  rw [←zfJ]
  refine Sp.image (g:=rst n) (λi=>by unfold rst;split<;>rfl) zis (λa ⟨r,hr,e⟩=> ?_) (h.inn s hs)
  obtain ⟨r',hr',e'⟩:=k r hr
  rw [e,zfJ,e']
  exact SpL.mem hr'
 ·
  obtain ⟨r,hr,rfl⟩:=k' r' hr'
  rw [←zfJ]
  refine Sp.image (g:=rst n) (λi=>by unfold rst;split<;>rfl) zis (λa ⟨s,hs,e⟩=> ?_) (h.out r hr)
  rw [e,zfJ]
  by_cases q:hd s<n
  ·
   refine SpL.mem ?_
   unfold zoS
   exact List.mem_map.mpr ⟨s,List.mem_filter.mpr ⟨hs,by simpa using q⟩,rfl⟩
  ·
   exact Sp.zero.conv λi=>by
    rw [zdd]
    split
    ·rw [zbY (by omega)]
    ·rfl
def Led (n k:Nat) (rows:Jq) (u:Vc):Prop:=∀j,j<n->u j=comb (List.map (λi=>u (n+i)) (List.range k)) (rows.map vec) j
theorem Led.sp {n k:Nat} {rows:Jq} {A:Vc->Prop} {u:Vc} (hk:rows.length=k) (hA:∀a,A a->Led n k rows a) (h:Sp A u):Led n k rows u:=by
 induction h with
  |zero=>
   intro j _
   have:=zhv (xs:=List.map (λi=>(0:Int)) (List.range k)) (as:=rows.map vec) 0 j
   rw [List.map_map] at this
   have e:(List.map ((λx=>(0:Int)*x)∘λ(i:Nat)=>(0:Int)) (List.range k))=List.map (λ_=>(0:Int)) (List.range k):=List.map_congr_left λ_ _=>rfl
   rw [e] at this
   show (0:Int)=comb (List.map (λ(_:Nat)=>(0:Int)) (List.range k)) (rows.map vec) j
   omega
  | @ add u a z _ ha ih=>
   intro j hj
   have e1:=ih j hj
   have e2:=hA a ha j hj
   have e3:∀(xs:List Nat) (as:List Vc),comb (List.map (λi=>u (n+i)+z*a (n+i)) xs) as j=comb (List.map (λi=>u (n+i)) xs) as j+z*comb (List.map (λi=>a (n+i)) xs) as j:=by
    intro xs
    induction xs with
     |nil=>intro as;simp [comb]
     |cons x xs ihx=>
      intro as
      match as with
       |[]=>simp [comb]
       |b::as=>
        simp only [List.map_cons,comb,ihx as]
        grind
   show u j+z*a j=comb (List.map (λi=>u (n+i)+z*a (n+i)) (List.range k)) (rows.map vec) j
   rw [e3,←e1,←e2]
end Lat
namespace L2
open PySem PySem.Spec PyProof.Rows
end L2
namespace Lat
open L2
noncomputable def zif (k:Nat) (i:Int):Ji:=zeD (zd9 (k:Int) [(0:Int)]) i (1:Int)
noncomputable def mark (rows:Jq):Jq:=List.map (λ(x:Int×Ji)=>x.2++zif rows.length x.1) (zb8 rows)
theorem zeJ {k:Nat}:(zd9 (k:Int) [(0:Int)]).length=k:=by unfold zd9;simp
theorem zkW {k:Nat} {i:Int}:(zif k i).length=k:=by unfold zif;rw [ziE,zeJ]
theorem zik {k j:Nat}:vec (zd9 (k:Int) [(0:Int)]) j=0:=by
 by_cases h:j<(zd9 (k:Int) [(0:Int)]).length
 ·
  have:=zkg h
  unfold zd9 at this
  obtain ⟨l,h1,h2⟩:=List.mem_flatten.mp this
  rw [(List.mem_replicate.mp h1).2] at h2
  exact List.mem_singleton.mp h2
 ·exact zdE (by omega)
theorem zkY {k i j:Nat} (h:i<k):vec (zif k (i:Int)) j=if j=i then 1 else 0:=by
 unfold zif zeD ixN
 rw [if_pos (by omega),zeJ,if_pos (by omega)]
 show vec ((zd9 (k:Int) [(0:Int)]).set (i:Int).toNat 1) j=_
 rw [Int.toNat_natCast]
 unfold vec
 rw [List.getD_eq_getElem?_getD,List.getElem?_set]
 by_cases q:j=i
 ·
  subst q
  rw [if_pos rfl,if_pos (by rw [zeJ];exact h),if_pos rfl];
  rfl
 ·
  rw [if_neg (λz=>q z.symm),if_neg q,←List.getD_eq_getElem?_getD]
  exact zik
theorem zpp {k:Nat} {i:Int} {b:Nat}:Bit b (zif k i):=λx hx=>by
 unfold zif at hx
 rcases zoD hx with rfl|hx
 ·exact Nat.one_le_two_pow
 ·
  obtain ⟨j,_,rfl⟩:=zi7 hx
  rw [zik];
  exact Nat.zero_le _
theorem zfX {rows:Jq} {m:Ji} (h:m∈mark rows):∃(i:Nat) (r:Ji),rows[i]? =some r∧m=r++zif rows.length (i:Int):=by
 unfold mark at h
 obtain ⟨x,hx,rfl⟩:=List.mem_map.mp h
 obtain ⟨i,hi⟩:=List.getElem?_of_mem hx
 obtain ⟨h1,h2,h3⟩:=zcw hi
 exact ⟨i,x.2,h3,by rw [h2]⟩
theorem zrs {rows:Jq} {i:Nat} {r:Ji} (h:rows[i]?=some r):r++zif rows.length (i:Int)∈mark rows:=by
 unfold mark
 have hi:=(List.getElem?_eq_some_iff.mp h).1
 refine List.mem_map.mpr ⟨((i:Int),r),?_,rfl⟩
 refine List.mem_of_getElem? (i:=i) ?_
 unfold zb8
 rw [List.getElem?_zip_eq_some]
 refine ⟨?_,h⟩
 unfold zcY
 rw [List.getElem?_map,List.getElem?_range hi]
 show some ((0:Int)+(i:Int))=some (i:Int)
 rw [Int.zero_add]
theorem ze5 {rows:Jq}:(mark rows).length=rows.length:=by unfold mark;rw [List.length_map,zdM]
theorem zhb {n b:Nat} {rows:Jq} (h:∀r∈rows,r.length=n∧Bit b r):∀m∈mark rows,m.length=n+rows.length∧Bit b m:=λm hm=>by
 obtain ⟨i,r,hr,rfl⟩:=zfX hm
 have h1:=h r (List.mem_of_getElem? hr)
 refine ⟨by rw [List.length_append,h1.1,zkW],λx hx=> ?_⟩
 rcases List.mem_append.mp hx with hx|hx
 ·exact h1.2 x hx
 ·exact zpp x hx
theorem zjz:∀ {as:List Vc} {i c j:Nat} {a:Vc},as[i]? =some a->comb (List.map (λt=>if t=i+c then (1:Int) else 0) (List.map (· +c) (List.range as.length))) as j=a j
 | [],i,c,j,a,h=>by simp at h
 | b :: as,0,c,j,a,h=>by
  have h:b=a:=by simpa using h
  subst h
  rw [List.length_cons,List.range_succ_eq_map,List.map_cons,List.map_cons,List.map_map,List.map_map]
  simp only [comb,Nat.zero_add,if_true]
  have z:∀(xs:List Nat) (as:List Vc),(∀x∈xs,x≠0)->comb (List.map (λx=>if x+c=c then (1:Int) else 0) xs) as j=0:=by
   intro xs
   induction xs with
    |nil=>intro as _;simp [comb]
    |cons x xs ih=>
     intro as hx
     match as with
      |[]=>simp [comb]
      |d::as=>
       simp only [List.map_cons,comb]
       rw [if_neg (by have:=hx x List.mem_cons_self;omega),ih as λy hy=>hx y (List.mem_cons_of_mem _ hy)]
       omega
  have:=z (List.map Nat.succ (List.range as.length)) as (λx hx=>by obtain ⟨y,_,rfl⟩:=List.mem_map.mp hx;omega)
  rw [List.map_map] at this
  have e:(List.map (((λt=>if t=c then (1:Int) else 0)∘λx=>x+c)∘Nat.succ) (List.range as.length))=List.map ((λx=>if x+c=c then (1:Int) else 0)∘Nat.succ) (List.range as.length):=List.map_congr_left λ_ _=>rfl
  rw [e,this]
  omega
 | b :: as,i+1,c,j,a,h=>by
  have ih:=zjz (as:=as) (i:=i) (c:=c+1) (j:=j) (a:=a) (by simpa using h)
  rw [List.length_cons,List.range_succ_eq_map,List.map_cons,List.map_cons,List.map_map,List.map_map]
  simp only [comb]
  rw [if_neg (by omega)]
  rw [List.map_map] at ih
  have e:(List.map (((λt=>if t=i+1+c then (1:Int) else 0)∘λx=>x+c)∘Nat.succ) (List.range as.length))=List.map ((λt=>if t=i+(c+1) then (1:Int) else 0)∘λx=>x+(c+1)) (List.range as.length):=List.map_congr_left λx _=>by
   show (if x.succ+c=i+1+c then (1:Int) else 0)=if x+(c+1)=i+(c+1) then 1 else 0
   by_cases q:x=i
   ·rw [if_pos (by omega),if_pos (by omega)]
   ·rw [if_neg (by omega),if_neg (by omega)]
  rw [e,ih]
  omega
theorem zoq {n:Nat} {rows:Jq} (h:∀r∈rows,r.length=n):∀m∈mark rows,Led n rows.length rows (vec m):=λm hm j hj=>by
 obtain ⟨i,r,hr,rfl⟩:=zfX hm
 have hi:=(List.getElem?_eq_some_iff.mp hr).1
 have hl:=h r (List.mem_of_getElem? hr)
 have:=zjz (as:=rows.map vec) (i:=i) (c:=0) (j:=j) (a:=vec r) (by rw [List.getElem?_map,hr];rfl)
 rw [zhn,if_pos (by omega),←this,List.map_map,List.length_map]
 congr 1
 refine List.map_congr_left λt ht=> ?_
 show (if t+0=i+0 then (1:Int) else 0)=vec (r++zif rows.length (i:Int)) (n+t)
 rw [zhn,hl,if_neg (show¬n+t<n by omega),Nat.add_sub_cancel_left,zkY hi]
 rfl
structure Tr (n:Nat) (rows ss:Jq):Prop where
 st:Stairs (n+rows.length) (mark rows) ss
 sw:Stairs n rows (zoS n ss)
 led:∀ t∈ss,Led n rows.length rows (vec t)
theorem zjq {n:Nat} {rows:Jq} (h:∀r∈rows,r.length=n):Tr n rows (clm MG (mark rows)):=by
 have S:=(zgg (rows:=mark rows) (n:=n+rows.length) λm hm=>by
  obtain ⟨i,r,hr,rfl⟩:=zfX hm
  rw [List.length_append,zkW,h r (List.mem_of_getElem? hr)]).1
 have tk:∀ {i:Nat} {r:Ji},rows[i]? =some r->(r++zif rows.length (i:Int)).take n=r:=λhr=>by rw [List.take_append_of_le_length (by rw [h _ (List.mem_of_getElem? hr)];exact Nat.le_refl _),List.take_of_length_le (by rw [h _ (List.mem_of_getElem? hr)];exact Nat.le_refl _)]
 refine ⟨S,S.cut (by omega) (λm hm=> ?_) λr hr=> ?_,λt ht=> ?_⟩
 ·
  obtain ⟨i,r,hr,rfl⟩:=zfX hm
  exact ⟨r,List.mem_of_getElem? hr,tk hr⟩
 ·
  obtain ⟨i,hi⟩:=List.getElem?_of_mem hr
  exact ⟨_,zrs hi,tk hi⟩
 ·exact Led.sp rfl (λa ⟨m,hm,e⟩=>e ▸ zoq h m hm) (S.inn t ht)
theorem zon {n k:Nat} {rows:Jq} {t:Ji} (hl:t.length=n+k) (h:Led n k rows (vec t)) {j:Nat} (hj:j<n):vec t j=comb (t.drop n) (rows.map vec) j:=by
 rw [h j hj]
 congr 1
 refine List.ext_getElem (by simp [hl]) λi h1 h2=> ?_
 rw [List.getElem_map,List.getElem_range,List.getElem_drop]
 have:n+i<t.length:=by simp at h1;omega
 simp [vec,List.getD_eq_getElem?_getD,List.getElem?_eq_getElem this]
end Lat
namespace Lat
theorem zkf:∀ {l t:Ji} {q:Int} {i:Nat},l.length=t.length->vec (List.map (λ(x:Int×Int)=>x.1+(q*x.2)) (List.zip l t)) i=vec l i+q*vec t i
 | [],[],q,i,_=>by simp [vec]
 | a :: l,b :: t,q,0,_=>rfl
 | a :: l,b :: t,q,i+1,h=>by
  rw [zbE,zbE,←zkf (l:=l) (t:=t) (by simpa using h)]
  exact zbE
end Lat
namespace Lat
end Lat
namespace L2
open PySem PySem.Spec PyProof.Rows
section
variable {X:Cx} {K:W.Frag} {pos:Pos}
end
section
variable {E:XS} {Γ:Ctx} {te ta tb:TE} {u:TS} {o:Oc} {m:Bool} {K:W.Frag} {i j l:Nat} {α β:Type} {f:α->Ds}
end
end L2
namespace Lat
open L2
theorem zlF {xs:Ji} {as:List Vc} {j:Nat}:comb (List.map (λx=>(-1)*x) xs) as j=(-1)*comb xs as j:=zhv (-1) j
theorem znl {n:Nat} {rows ss:Jq} {v:Ji} (hlen:∀r∈rows,r.length=n) (T:Tr n rows ss) (hv:v.length=n+rows.length) (h:SpL rows (rst n (vec v))):∀j,j<n->vec (low v ss) j=0:=by
 obtain ⟨a1,a2,a3,a4⟩:=zcd (l:=v) T.st.ech hv
 have key:=zk4 (u:=rst n (vec (low v ss))) T.sw.ech (by
  have d:SpL rows (rst n (λi=>vec v i-vec (low v ss) i)):=by
   refine Sp.image (g:=rst n) (λi=>by unfold rst;split<;>rfl) zis (λa ⟨s,hs,e⟩=> ?_) a2
   rw [e]
   refine (T.st.inn s hs)|>λq=>Sp.image (g:=rst n) (λi=>by unfold rst;split<;>rfl) zis (λb ⟨m,hm,e2⟩=> ?_) q
   obtain ⟨i,r,hr,rfl⟩:=zfX hm
   rw [e2,zfJ]
   by_cases hl:r.length=n
   ·
    rw [List.take_append_of_le_length (by omega),List.take_of_length_le (by omega)]
    exact SpL.mem (List.mem_of_getElem? hr)
   ·
    exfalso
    have m1:=T.st.ech
    exact hl (hlen r (List.mem_of_getElem? hr))
  exact ((Sp.lin 1 (-1) h d).sub λa ⟨r,hr,e⟩=>e ▸ T.sw.out r hr).conv λi=>by
   unfold rst
   dsimp only
   split<;>omega) (λt ht=>by
  obtain ⟨s,hs,h1,rfl⟩:=ziV ht
  have es:=T.st.ech.mem s hs
  have eh:=zj2 h1 (by rw [es.1];exact es.2.2.1)
  rw [eh,zdd,if_pos h1]
  show 0≤(if hd s<n then vec (low v ss) (hd s) else 0)∧(if hd s<n then vec (low v ss) (hd s) else 0)<vec s (hd s)
  rw [if_pos h1]
  exact a3 s hs)
 intro j hj
 have:=key j
 unfold rst at this
 rwa [if_pos hj] at this
theorem zoG {n:Nat} {rows ss:Jq} {v:Ji} (T:Tr n rows ss) (hv:v.length=n+rows.length) (hz:∀i,vec v (n+i)=0) (h0:∀j,j<n->vec (low v ss) j=0):∀j,j<n->comb ((low v ss).drop n) (rows.map vec) j=(-1)*vec v j:=λj hj=>by
 obtain ⟨a1,a2,a3,a4⟩:=zcd (l:=v) T.st.ech hv
 have L:=Led.sp (n:=n) (k:=rows.length) rfl (λa ⟨s,hs,e⟩=>e ▸ T.led s hs) a2 j hj
 rw [h0 j hj] at L
 have e:List.map (λi=>vec v (n+i)-vec (low v ss) (n+i)) (List.range rows.length)=List.map (λx=>(-1)*x) ((low v ss).drop n):=by
  refine List.ext_getElem (by simp [a1]) λi h1 h2=> ?_
  rw [List.getElem_map,List.getElem_range,List.getElem_map,List.getElem_drop,hz i]
  have:n+i<(low v ss).length:=by simp [a1] at h1 ⊢;omega
  have e2:vec (low v ss) (n+i)=(low v ss)[n+i]:=by simp [vec,List.getD_eq_getElem?_getD,List.getElem?_eq_getElem this]
  rw [e2];
  omega
 rw [e,zlF] at L
 omega
end Lat
namespace L2
open PySem PySem.Spec PyProof.Rows
section
variable {X:Cx}
end
end L2
namespace L2
open PySem PySem.Spec PyProof.Rows
section
variable {E:XS} {Γ Γx:Ctx} {m:Bool} {α β ε S:Type} [XF ε] {u:TS} {ds:List Ds}
end
end L2
namespace L2
open PySem PySem.Spec PyProof.Rows
def zoh (R:Hp) (v:V) (ns:Ji):Prop:=∃r,v= .ref r∧R r=some (.lst (List.map V.int ns))
def dRI (nss:Jq):Ds:=⟨λR v=>∃p vs,v= .ref p∧R p=some (.lst vs)∧vs.Nodup∧V.ref p∉vs∧Paired (zoh R) vs nss,λe ⟨p,vs,h1,h2,h3,h4,h5⟩=>⟨p,vs,h1,e _ _ h2,h3,h4,zbR (λ_ _ ⟨r,q1,q2⟩=>⟨r,q1,e _ _ q2⟩) h5⟩⟩
section
variable {Γ:Ctx} {m:Bool} {K:W.Frag} {γ:Type} {te tj:TE} {i:Nat} {nss:Jq}
end
section
variable {E:XS} {Γ:Ctx} {m:Bool} {K:W.Frag} {te tj:TE} {u:TS} {o:Oc} {i:Nat} {nss:Jq}
theorem zk3 {R:Hp} {r:Addr} {new:Ji}:∀ {vs:List V} {nss:Jq} {j:Nat},Paired (zoh R) vs nss->vs.Nodup->vs[j]? =some (.ref r)->Paired (zoh (upd R r (.lst (new.map V.int)))) vs (nss.set j new)
 | _,_,_,.nil,_,h=>by simp at h
 | v :: vs,ns :: nss,0,.cons q t,hN,h=>by
  have h:v= .ref r:=by simpa using h
  subst h
  refine .cons ⟨r,rfl,zat⟩ ?_
  have hn1:=(List.nodup_cons.mp hN).1
  clear q h hN
  induction t with
   |nil=>exact .nil
   | @ cons a b as bs q t ih=>
    obtain ⟨r',rfl,q2⟩:=q
    have hne:r'≠r:=λz=>hn1 (by rw [z];exact List.mem_cons_self)
    exact .cons ⟨r',rfl,by rw [zai hne];exact q2⟩ (ih λz=>hn1 (List.mem_cons_of_mem _ z))
 | v :: vs,ns :: nss,j+1,.cons q t,hN,h=>by
  have hN:=List.nodup_cons.mp hN
  have h:vs[j]? =some (.ref r):=by simpa using h
  obtain ⟨r',rfl,q2⟩:=q
  have hne:r'≠r:=λz=>hN.1 (by rw [z];exact List.mem_of_getElem? h)
  exact .cons ⟨r',rfl,by rw [zai hne];exact q2⟩ (zk3 t hN.2 h)
theorem At.row {F0 Hb F H:Hp} {σ:St} {own:Nat->Option Addr} (a:At F0 Hb F H σ own Γ) (e:Γ[i]? =some (.tl (dRI nss))) (hno:zpX Γ=true) {k:Int} (hk:InB nss.length k) :
  ∃p vs r,σ[i]? =some (some (.ref p))∧H p=some (.lst vs)∧atI vs k=some (.ref r)∧H r=some (.lst ((ixD nss k).map V.int))∧∀(H':Hp) (new:Ji),Same H H'->At F0 Hb F (upd H' r (.lst (new.map V.int))) σ own ((unC Γ).set i (.tl (dRI (zeD nss k new)))):=by
   obtain ⟨x,R,h1,h2,h3,h4,p,vs,rfl,h6,h7,h8,h9⟩:=a.sl i _ e
   have hi:i<σ.length:=by rw [a.len];exact (List.getElem?_eq_some_iff.mp e).1
   have e':σ[i]? =some (some (.ref p)):=by
    rw [List.getElem?_eq_getElem hi] at h1 ⊢
    exact congrArg some h1
   have hl:=Paired.length h9
   obtain ⟨j,ej,hj,_⟩:=zh6 hk
   obtain ⟨v,ev,⟨r,rfl,hr⟩⟩:=za2 h9 (List.getElem?_eq_getElem (l:=nss) (i:=j) hj)
   have ex:ixD nss k=nss[j]:=by
    unfold ixD atI
    rw [ej]
    show (nss[j]?).getD default=_
    rw [List.getElem?_eq_getElem hj];
    rfl
   have es:∀new,zeD nss k new=nss.set j new:=λnew=>by unfold zeD;rw [ej]
   have rF:=h3 r _ hr
   have rO:∀l,own l≠some r:=λl z=>by rw [h4 l r z] at hr;cases hr
   have rp:p≠r:=λz=>h8 (by rw [z];exact List.mem_of_getElem? ev)
   refine ⟨p,vs,r,e',h2 _ _ h6,?_,by rw [ex];exact h2 _ _ hr,λH' new hs=> ?_⟩
   ·
    unfold atI
    rw [hl,ej]
    exact ev
   ·
    have a1:=(a.grow (Grow.only a.fh hs)).spoil hno (.lst (new.map V.int)) rF.1 rF.2 rO
    refine ⟨a1.g,a1.inj,a1.liv,λl s es'=> ?_,by rw [List.length_set];exact a1.len⟩
    by_cases z:i=l
    ·
     subst z
     rw [List.getElem?_set_self (by rw [←a1.len];exact hi)] at es'
     cases es'
     rw [e']
     refine ⟨.ref p,upd R r (.lst (new.map V.int)),rfl,λb w q=> ?_,λb w q=> ?_,λl' b q=> ?_,p,vs,rfl,by rw [zai rp];exact h6,h7,h8,by rw [es];exact zk3 h9 h7 ev⟩
     ·
      by_cases y:b=r
      ·subst y;rw [zat] at q ⊢;exact q
      ·rw [zai y] at q ⊢;exact hs _ _ (h2 _ _ q)
     ·
      by_cases y:b=r
      ·subst y;exact rF
      ·rw [zai y] at q;exact h3 b w q
     ·
      have y:b≠r:=λy=>rO l' (y ▸ q)
      rw [zai y];
      exact h4 l' b q
    ·
     rw [List.getElem?_set_ne z] at es'
     exact a1.sl l s es'
end
end L2
namespace L2
open PySem PySem.Spec PyProof.Rows
section
variable {E:XS} {Γ Δ:Ctx} {m:Bool} {K:W.Frag} {te ta tb:TE} {t u:TS} {d:Ds} {ds es:List Ds} {o:Oc} {i j:Nat}
theorem zhZ (h:Ev Γ te false d) (w:Wk Γ Δ):Run E Γ (zdD (zmn te) u) (.rw Δ d):=λF0 Hb F H σ own D a k=>h F0 Hb F H σ own _ a λv F' H' g q=>k v F' H' σ own ((a.grow g).wk w) q
end
section
variable {P:Program} {w:World} {K:W.Frag} {mg:Str->Option Value} {base:Heap} {x qual:Str} {st:Stmt} {f:Addr} {fd:FuncData} {N ps:List Str} {k:Nat}
end
section
variable {E:XS} {Γ Δ:Ctx} {m:Bool} {K:W.Frag} {te ta tb tj:TE} {t u:TS} {d:Ds} {ds es:List Ds} {o:Oc} {i j:Nat} {p:Addr} {α β:Type} {f:α->Ds} {xs:List α}
def EvM (Γ Δ:Ctx) (t:TE) (d:Ds):Prop:=∀(F0 Hb F H:Hp) (σ:St) (own:Nat->Option Addr) (Q:VK),At F0 Hb F H σ own Γ->(∀v F' H',At F0 Hb F' H' σ own Δ->d.pr F' v->Q v H')->t σ H Q
end
end L2
namespace L2
open PySem PySem.Spec PyProof.Rows
structure T5 (α β γ δ ε:Type) where
 a:α
 b:β
 c:γ
 d:δ
 e:ε
section
variable {E:XS} {Γ:Ctx} {m:Bool} {K:W.Frag} {te tj:TE} {u:TS} {o:Oc} {i j:Nat} {nss:Jq} {α β:Type}
end
end L2
namespace Lat
open L2
theorem zjE {j:Nat}:∀ {xs:Ji} {as:List Vc},(∀(i:Nat) (x:Int) (a:Vc),xs[i]? =some x->as[i]? =some a->x*a j=0)->comb xs as j=0
 | [],_,_=>rfl
 | _ :: _,[],_=>rfl
 | x :: xs,a :: as,h=>by
  have h0:=h 0 x a rfl rfl
  have:=zjE (j:=j) (xs:=xs) (as:=as) λi y b h1 h2=>h (i+1) y b (by simpa using h1) (by simpa using h2)
  simp only [comb,h0,this]
  rfl
theorem zi1 {j:Nat}:∀ {xs ys:Ji} {as bs:List Vc},xs.length=as.length->comb (xs++ys) (as++bs) j=comb xs as j+comb ys bs j
 | [],ys,[],bs,_=>by simp [comb]
 | x :: xs,ys,a :: as,bs,h=>by
  have:=zi1 (j:=j) (xs:=xs) (ys:=ys) (as:=as) (bs:=bs) (by simpa using h)
  simp only [List.cons_append,comb,this]
  omega
def Rel (n:Nat) (rows:Jq) (u:Vc):Prop:=∀j,j<n->comb (List.map u (List.range rows.length)) (rows.map vec) j=0
theorem zi6 {j:Nat} (u a:Vc) (z:Int):∀(xs:List Nat) (as:List Vc),comb (List.map (λi=>u i+z*a i) xs) as j=comb (List.map u xs) as j+z*comb (List.map a xs) as j
 | [],as=>by simp [comb]
 | x :: xs,[]=>by simp [comb]
 | x :: xs,b :: as=>by
  simp only [List.map_cons,comb,zi6 u a z xs as]
  grind
theorem Rel.sp {n:Nat} {rows:Jq} {A:Vc->Prop} {u:Vc} (hA:∀a,A a->Rel n rows a) (h:Sp A u):Rel n rows u:=by
 induction h with
  |zero=>
   intro j _
   refine zjE λi x a h1 _=> ?_
   rw [List.getElem?_map] at h1
   cases q:(List.range rows.length)[i]? with
    |none=>rw [q] at h1;cases h1
    |some y=>rw [q] at h1;have h1:(0:Int)=x:=Option.some.inj h1;rw [←h1];simp
  | @ add u a z _ ha ih=>
   intro j hj
   rw [zi6,ih j hj,hA a ha j hj]
   simp
theorem zix {l:Ji} {k:Nat} (h:l.length=k):List.map (vec l) (List.range k)=l:=by
 refine List.ext_getElem (by simp [h]) λi h1 h2=> ?_
 rw [List.getElem_map,List.getElem_range]
 simp [vec,List.getD_eq_getElem?_getD,List.getElem?_eq_getElem h2]
theorem zkM {n:Nat} {rows:Jq} {r:Ji} (h:r.length=rows.length):Rel n rows (vec r)↔∀j,j<n->comb r (rows.map vec) j=0:=by
 unfold Rel
 rw [zix h]
noncomputable def zfg (n:Nat) (ss:Jq):Jq:=List.map (λ(x:Ji)=>x.drop n) (List.filter (λ(x:Ji)=>decide (n≤hd x)) ss)
theorem zj8 {l:Ji} {n:Nat} (h:n≤hd l) (hl:hd l<l.length):hd (l.drop n)=hd l-n:=zn5 (by rw [zdP,show n+(hd l-n)=hd l by omega];exact zgO hl) λi hi=>by rw [zdP];exact zbY (by omega)
theorem zf2 {n:Nat} {ss:Jq} {t:Ji} (h:t∈zfg n ss):∃s∈ss,n≤hd s∧t=s.drop n:=by
 unfold zfg at h
 obtain ⟨s,hs,rfl⟩:=List.mem_map.mp h
 obtain ⟨h1,h2⟩:=List.mem_filter.mp hs
 exact ⟨s,h1,by simpa using h2,rfl⟩
theorem zhE {n k:Nat}:∀ {ss:Jq} {lo:Nat},Ech (n+k) lo ss->Ech k (lo-n) (zfg n ss)
 | [],_,_=>trivial
 | s :: ss,lo,e=>by
  unfold zfg
  by_cases q:n≤hd s
  ·
   rw [List.filter_cons_of_pos (by simpa using q),List.map_cons]
   have hl:=e.1
   have e1:=zj8 q (by rw [hl];exact e.2.2.1)
   have e3:=e.2.2.1
   have e2:=e.2.1
   refine ⟨by rw [List.length_drop,hl];omega,by rw [e1];omega,by rw [e1];omega,by rw [e1,zdP,show n+(hd s-n)=hd s by omega];exact e.2.2.2.1,?_⟩
   have:=zhE e.2.2.2.2
   rw [e1]
   exact this.mono (by omega)
  ·
   rw [List.filter_cons_of_neg (by simpa using q)]
   have:=zhE e.2.2.2.2
   exact this.mono (by have:=e.2.1;omega)
theorem zhl {n k:Nat}:∀ {ss:Jq} {lo:Nat},Ech (n+k) lo ss->Red ss->Red (zfg n ss)
 | [],_,_,_=>trivial
 | s :: ss,lo,e,r=>by
  unfold zfg
  by_cases q:n≤hd s
  ·
   rw [List.filter_cons_of_pos (by simpa using q),List.map_cons]
   refine ⟨λt ht=> ?_,zhl e.2.2.2.2 r.2⟩
   obtain ⟨x,hx,h1,rfl⟩:=zf2 ht
   have ex:=Ech.mem e.2.2.2.2 x hx
   rw [zj8 h1 (by rw [ex.1];exact ex.2.2.1),zdP,zdP,show n+(hd x-n)=hd x by omega]
   exact r.1 x hx
  ·
   rw [List.filter_cons_of_neg (by simpa using q)]
   exact zhl e.2.2.2.2 r.2
theorem zkF {m n:Nat}:∀ {ss:Jq} {lo:Nat} {u:Vc},Ech m lo ss->SpL ss u->(∀i,i<n->u i=0)->SpL (List.filter (λ(x:Ji)=>decide (n≤hd x)) ss) u
 | [],_,_,_,h,_=>h
 | s :: ss,lo,u,e,h,hz=>by
  obtain ⟨w,y,hw,hu⟩:=h.cons
  have e1:=SpL.before e.2.2.2.2 (Nat.lt_succ_self (hd s)) hw
  by_cases q:n≤hd s
  ·
   rw [List.filter_cons_of_pos (by simpa using q)]
   have hw0:∀i,i<n->w i=0:=λi hi=>SpL.before e.2.2.2.2 (by omega) hw
   exact ((SpL.up (s:=s) (zkF e.2.2.2.2 hw hw0)).plus ((SpL.mem (ss:=s::_) List.mem_cons_self).smul y)).conv λi=>(hu i).symm
  ·
   rw [List.filter_cons_of_neg (by simpa using q)]
   have e2:=hu (hd s)
   rw [hz _ (by omega),e1] at e2
   have e4:=e.2.2.2.1
   have hy:y=0:=by
    rcases Int.mul_eq_zero.mp (show y*vec s (hd s)=0 by omega) with z|z
    ·exact z
    ·omega
   refine zkF e.2.2.2.2 (hw.conv λi=> ?_) hz
   rw [hu i,hy];
   simp
theorem zmz {n:Nat} {rows ss:Jq} (hlen:∀r∈rows,r.length=n) (T:Tr n rows ss) :
  Ech rows.length 0 (zfg n ss)∧Red (zfg n ss)∧(∀t∈zfg n ss,Rel n rows (vec t))∧∀r:Ji,r.length=rows.length->Rel n rows (vec r)->SpL (zfg n ss) (vec r):=by
   refine ⟨by have:=zhE T.st.ech;exact this.mono (Nat.zero_le _),zhl T.st.ech T.st.red,λt ht=> ?_,λr hr hR=> ?_⟩
   ·
    obtain ⟨s,hs,h1,rfl⟩:=zf2 ht
    have hl:=(T.st.ech.mem s hs).1
    rw [zkM (by rw [List.length_drop,hl];omega)]
    intro j hj
    rw [←zon (k:=rows.length) hl (T.led s hs) hj]
    exact zbY (by omega)
   ·
    have hv:SpL (mark rows) (λi=>if i<n then 0 else vec r (i-n)):=by
     have h0:Sp (λu=>∃m∈mark rows,u=vec m) (comb r ((mark rows).map vec)):=zfx λa ha=>by
      obtain ⟨m,hm,rfl⟩:=List.mem_map.mp ha
      exact ⟨m,hm,rfl⟩
     refine Sp.conv h0 λi=> ?_
     have key:∀(j:Nat),comb r ((mark rows).map vec) j=if j<n then comb r (rows.map vec) j else comb r (List.map (λi=>vec (zif rows.length ((i:Nat):Int))) (List.range rows.length)) (j-n):=by
      intro j
      have em:mark rows=List.map (λi=>rows.getD i []++zif rows.length ((i:Nat):Int)) (List.range rows.length):=by
       refine List.ext_getElem? λi=> ?_
       by_cases hi:i<rows.length
       ·
        have e1:(zb8 rows)[i]? =some ((i:Int),rows[i]):=by
         unfold zb8
         rw [List.getElem?_zip_eq_some]
         refine ⟨?_,List.getElem?_eq_getElem hi⟩
         unfold zcY
         rw [List.getElem?_map,List.getElem?_range hi]
         show some ((0:Int)+(i:Int))=some (i:Int)
         rw [Int.zero_add]
        unfold mark
        rw [List.getElem?_map,e1,List.getElem?_map,List.getElem?_range hi]
        show some (rows[i]++zif rows.length (i:Int))=some (rows.getD i []++zif rows.length (i:Int))
        rw [List.getD_eq_getElem?_getD,List.getElem?_eq_getElem hi]
        rfl
       ·rw [List.getElem?_eq_none (by rw [ze5];omega),List.getElem?_eq_none (by rw [List.length_map,List.length_range];omega)]
      have er:rows.map vec=List.map (λi=>vec (rows.getD i [])) (List.range rows.length):=by
       refine List.ext_getElem (by simp) λi h1 h2=> ?_
       have hi:i<rows.length:=by simpa using h1
       rw [List.getElem_map,List.getElem_map,List.getElem_range,List.getD_eq_getElem?_getD,List.getElem?_eq_getElem hi]
       rfl
      rw [em,er,List.map_map]
      have gen:∀(xs:List Nat) (r:Ji),(∀i∈xs,(rows.getD i []).length=n)->comb r (List.map (vec∘λi=>rows.getD i []++zif rows.length ((i:Nat):Int)) xs) j=if j<n then comb r (List.map (λi=>vec (rows.getD i [])) xs) j else comb r (List.map (λi=>vec (zif rows.length ((i:Nat):Int))) xs) (j-n):=by
       intro xs
       induction xs with
        |nil=>intro r _;cases r<;>simp [comb]
        |cons x xs ih=>
         intro r hx
         match r with
          |[]=>simp [comb]
          |y::r=>
           have:=ih r λi hi=>hx i (List.mem_cons_of_mem _ hi)
           simp only [List.map_cons,comb,this]
           have hl:=hx x List.mem_cons_self
           show y*vec (rows.getD x []++zif rows.length ((x:Nat):Int)) j+_=_
           rw [zhn,hl]
           split<;>rfl
      refine gen _ r λi hi=> ?_
      have hi:=List.mem_range.mp hi
      rw [List.getD_eq_getElem?_getD,List.getElem?_eq_getElem hi]
      exact hlen _ (List.getElem_mem hi)
     rw [key i]
     by_cases q:i<n
     ·
      rw [if_pos q,if_pos q]
      exact (zkM hr).mp hR i q
     ·
      rw [if_neg q,if_neg q]
      have gen:∀(r:Ji) (c k:Nat) (j:Nat),c+r.length≤k->comb r (List.map (λi=>vec (zif k ((i:Nat):Int))) (List.map (· +c) (List.range r.length))) j=if c≤j then vec r (j-c) else 0:=by
       intro r
       induction r with
        |nil=>intro c k j _;simp [comb,vec]
        |cons y r ih=>
         intro c k j hk
         rw [List.length_cons] at hk
         have:=ih (c+1) k j (by omega)
         rw [List.length_cons,List.range_succ_eq_map,List.map_cons,List.map_cons]
         have em:List.map (λx=>x+c) (List.map Nat.succ (List.range r.length))=List.map (λx=>x+(c+1)) (List.range r.length):=by
          rw [List.map_map]
          exact List.map_congr_left λx _=>by show x.succ+c=x+(c+1);omega
         rw [em]
         simp only [comb,this]
         rw [show ((0+c:Nat):Int)=((c:Nat):Int) by omega,zkY (by omega)]
         by_cases e:j=c
         ·
          subst e
          rw [if_pos rfl,if_neg (by omega),if_pos (Nat.le_refl _),Nat.sub_self,zmw]
          omega
         ·
          rw [if_neg e]
          by_cases e2:c≤j
          ·rw [if_pos (by omega),if_pos e2,show j-c=(j-(c+1))+1 by omega,zbE];omega
          ·rw [if_neg (by omega),if_neg e2];omega
      have:=gen r 0 rows.length (i-n) (by omega)
      rw [hr] at this
      simpa using this
    have hs:SpL ss (λi=>if i<n then 0 else vec r (i-n)):=SpL.sub (λm hm=>T.st.out m hm) hv
    have ht:=zkF (n:=n) T.st.ech hs λi hi=>by simp [hi]
    have:=Sp.image (g:=λu=>λi=>u (n+i)) (B:=λu=>∃s∈zfg n ss,u=vec s) (λi=>rfl) (λu a x i=>rfl) (λa ⟨s,hs',e⟩=>by
     refine Sp.mem ⟨s.drop n,?_,?_⟩
     ·
      unfold zfg
      exact List.mem_map.mpr ⟨s,hs',rfl⟩
     ·rw [e];exact funext λi=>(zdP).symm) ht
    refine Sp.conv this λi=> ?_
    show (if n+i<n then (0:Int) else vec r (n+i-n))=vec r i
    rw [if_neg (by omega),Nat.add_sub_cancel_left]
theorem Sd.drop {n k s:Nat} {t:Ji} (h:Sd (n+k) s t) (hn:n≤Lat.hd t):Sd k s (t.drop n):=by
 have e:=zj8 hn (by rw [h.len];exact h.hd)
 have h1:=h.hd
 have e2:n+(Lat.hd t-n)=Lat.hd t:=by omega
 exact ⟨by rw [List.length_drop,h.len];omega,by rw [e];omega,by rw [e,zdP,e2];exact h.pos,by rw [e,zdP,e2];exact h.top,λx hx=>h.bit x (List.mem_of_mem_drop hx)⟩
end Lat
namespace L2
open PySem PySem.Spec PyProof.Rows
section
variable {X:Cx} {K:W.Frag}
theorem zmD (hK:X.K=K) (hc:X.calm=true):zeG X (.builtin "any") (λxs H Q=>∃(a:Addr) (ns:List Bool),xs=[.ref a]∧SqL K H a (ns.map V.bl)∧Q (.bl (ns.any id)) H):=by
 subst hK
 intro pins s σ H xs us Q I r h
 obtain ⟨a,bs,rfl,hq,q⟩:=h
 obtain ⟨u,rfl,rx⟩:=zgw r
 cases rx
 obtain ⟨its,rv,p,hz⟩:=I.list hq
 have hl:=rv.length
 rw [List.length_map] at hl
 have alt:a<s.heap.objs.size:=by obtain ⟨o,e,_⟩:=p.isList;exact Heap.lt_size e
 have hl1:(s.heap.push {cls:= .type "list_iterator",data:= .fields #[.ref a,.int 0 0]}).IsList a its.toArray:=Heap.IsList.push p.isList _
 refine call_any_walk (wpAny_pyIter_list p.isList ?_)
 refine ⟨s.heap.objs.size,[s.heap.objs.size,a],[s.heap.objs.size],its.toArray.size,_,_,λi=>(bs[i]?).getD false,rfl,Walks.list (A:=X.A.in1) (I.ok.hd hc) s.heap.objs.size a (Nat.ne_of_lt alt) its.toArray,⟨⟨_,Heap.get?_push_size _ rfl,rfl,rfl⟩,hl1⟩,λi v s' Q' E' hv hQ'=> ?_,λh' tk hk=> ?_⟩
 ·
  have hv':its[i]? =some v:=by simpa using hv
  have hi:i<its.length:=(List.getElem?_eq_some_iff.mp hv').1
  obtain ⟨u,hu,ru⟩:=rv.get (i:=i) (x:= .bl (bs[i]'(by omega))) (by rw [List.getElem?_map,List.getElem?_eq_getElem (by omega)];rfl)
  rw [hv'] at hu
  cases hu
  cases ru
  have e:(bs[i]?).getD false=bs[i]'(by omega):=by rw [List.getElem?_eq_getElem (show i<bs.length by omega)];rfl
  have hQ2:Q' ((bs[i]?).getD false) s':=hQ'
  rw [e] at hQ2
  exact wpAny_truthy_bool hQ2
 ·
  have e:(List.range its.toArray.size).any (λi=>(bs[i]?).getD false)=bs.any id:=by
   rw [List.size_toArray,←hl,Bool.eq_iff_iff,List.any_eq_true,List.any_eq_true]
   constructor
   ·
    rintro ⟨i,hi,z⟩
    have hi':=List.mem_range.mp hi
    rw [List.getElem?_eq_getElem hi'] at z
    exact ⟨_,List.getElem_mem hi',z⟩
   ·
    rintro ⟨x,hx,z⟩
    obtain ⟨i,hi,rfl⟩:=List.getElem_of_mem hx
    exact ⟨i,List.mem_range.mpr hi,by rw [List.getElem?_eq_getElem hi];exact z⟩
  rw [e]
  exact ⟨.bl _,H,I.kept (h':=h') (t':=tk) λb o e=>hk b o (by simp only [List.mem_singleton];exact Nat.ne_of_lt (Heap.lt_size e)) (Heap.get?_push_of_some _ e),rfl,q⟩
end
section
variable {Γ:Ctx} {m:Bool} {K:W.Frag}
theorem zqu {xs:List Bool} {t:TE} (h1:Ev Γ t false (dQ K (xs.map dB))):Ev Γ (tCB (λxs H Q=>∃(a:Addr) (ns:List Bool),xs=[.ref a]∧SqL K H a (ns.map V.bl)∧Q (.bl (ns.any id)) H) (zdj t zgo)) m (dB (xs.any id)):=λF0 Hb F H σ own Q a k=>h1 F0 Hb F H σ own _ a λu F1 H1 g1 ⟨p,vs,e1,e2,e3⟩=>⟨p,xs,by rw [e1],by rw [←zbq e3];exact g1.fh.seq e2,k _ F1 H1 g1 rfl⟩
end
end L2
namespace L2
open PySem PySem.Spec PyProof.Rows
section
variable {E:XS} {Γ:Ctx} {u:TS} {o:Oc} {K:W.Frag} {i j:Nat}
end
end L2
namespace Lat
open L2
end Lat
namespace L2
open PySem PySem.Spec PyProof.Rows
section
open PySem.SeqAt PySem.MeetsSeq PySem.MeetsSeq2 PySem.MeetsSeq3
open PySem.AutoSeq1 (wpAny_loadPart')
end
section
variable {X:Cx} {K:W.Frag}
end
section
variable {X:Cx} {K:W.Frag}
end
section
variable {E:XS} {Γ:Ctx} {te tj:TE} {t u:TS} {o:Oc} {m:Bool} {K:W.Frag} {i j:Nat} {α β:Type}
end
end L2
namespace L2
open PySem PySem.Spec PyProof.Rows
section
variable {X:Cx} {CX:CXT} {k:Nat} {f C:Addr} {fd:FuncData} {ps:List Str} {sp:Sp} {E:XK} {m:Str} {pos apos:Pos} {o e:Expr} {es:List Expr} {t:TA}
structure ByCls (K:W.Frag) (C f:Addr) (m:Str):Prop where
 ga:W.specialIn K (.ref C) "__getattribute__"=some (some (.builtin "type.__getattribute__"))
 rd:W.readsIn K C (.type "type")=true
 fn:W.findCls K (.ref C) (.type "type") m=some (.val (.ref f))
 kp:W.keepIn K (.ref f)=true
end
section
variable {E:XS} {Γ:Ctx} {u:TS} {o:Oc} {m m2:Bool} {K:W.Frag} {i:Nat} {ds:List Ds} {tr:TA}
end
section
variable {Γ:Ctx} {m:Bool}
theorem zpQ {ta:TE} {n:Int} (h:Ev Γ ta false (dI n)):Ev Γ (tCB (λxs H Q=>∃i,xs=[.int i]∧Q (.int (if i<0 then-i else i)) H) (zdj ta zgo)) m (dI ((n.natAbs:Nat):Int)):=λF0 Hb F H σ own Q a k=>h F0 Hb F H σ own _ a λv F1 H1 g1 q1=>by
 have q1:v= .int n:=q1
 subst q1
 refine ⟨n,rfl,k _ F1 H1 g1 ?_⟩
 show V.int _=V.int _
 congr 1
 split<;>omega
end
section
variable {X:Cx} {CX:CXT} {k k2:Nat} {f f2 C C2:Addr} {fd fd2:FuncData} {ps ps2:List Str} {sp sp2:Sp} {E:XK} {m:Str} {pos apos:Pos} {o e:Expr} {es:List Expr} {ta:TE} {t:TA}
theorem zkl {Γ:Ctx} {b:Bool} {ι:Type} {args:ι->List Ds} {pre:ι->Prop} {res:ι->Rs} {ds:List Ds} {d:Ds} {fs:List (Str×Ds)} (x:ι) (h1:Ev Γ ta false (dO C fs)) (h:EvA Γ t false ds) (ha:dO C fs::ds=args x) (hp:pre x) (hr:res x=.va b d) (hn:(fs.map Prod.fst).contains m=false) :
  Ev Γ (zoN C m (Spv args pre res) [] E ta t) b d:=λF0 Hb F H σ own Q a kk=>by
   refine h1 F0 Hb F H σ own _ a λu F1 H1 g1 ⟨p,dx,vs,e1,e2,e3,e4⟩=>⟨p,dx,vs,e1,g1.fh _ _ e2,?_,?_⟩
   ·
    have:∀ {vs:List (Str×V)} {fs:List (Str×Ds)} {R:Str×V->Str×Ds->Prop},Paired (λa b=>a.1=b.1∧R a b) vs fs->(fs.map Prod.fst).contains m=false->vs.lookup m=none:=by
     intro vs fs R hq
     induction hq with
      |nil=>intro _;rfl
      | @ cons a b _ _ w _ ih=>
       intro z
       rw [List.map_cons,List.contains_cons,Bool.or_eq_false_iff] at z
       obtain ⟨a1,a2⟩:=a
       rw [List.lookup_cons]
       have:(m==a1)=false:=by rw [show a1=b.1 from w.1];exact z.1
       rw [this]
       exact ih z.2
    exact this e4 hn
   ·
    refine h F0 Hb F1 H1 σ own _ (a.grow g1) λws F2 H2 g2 q2=>⟨x,F2,g2.fh,?_,hp,?_⟩
    ·
     rw [←ha,List.append_nil]
     refine .cons ((dO C fs).up (show Same F1 F2 from g2.f) ⟨p,dx,vs,e1,e2,e3,e4⟩) q2
    ·
     rw [hr]
     exactλv F' H' g q=>kk v F' H' ((g1.trans g2).trans g) (d.up (zfE ((a.grow g1).g.h.trans g2.h)) q)
end
section
variable {Γ:Ctx} {i:Nat} {m n:Bool} {ds:List Ds}
theorem EvT.borrowO {t:TT} {b:Bool} (e:Γ[i]? =some (.ow m ds)) (h:EvT (Γ.set i (.va m (dL ds))) t b):EvT Γ t b:=λF0 Hb F H σ own Q a k=>by
 obtain ⟨F1,own1,_,a1⟩:=a.share e
 exact h F0 Hb F1 H σ own1 Q a1 λF' H' g=>k F H' (Grow.only a.fh g.h)
end
end L2
namespace Lat
open L2
section
variable {n:Nat} {sw:Jq} {x:Ji} {R ss:Jq}
end
end Lat
namespace L2
open PySem PySem.Spec PyProof.Rows
section
variable {Γ:Ctx} {m:Bool} {K:W.Frag} {ta:TE} {α:Type} {f:α->Ds} {cl:α->Addr} {fs:α->List (Str×Ds)}
end
end L2
namespace L2
open PySem PySem.Spec PyProof.Rows
structure CalleeM (P:Program) (w:World) (K:W.Frag) (mg:Str->Option Value) (base:Heap) (CX:CXT) (k:Nat) (C:Addr) (m:Str) (ps:List Str) (sp:Sp):Prop where
 ex:∃ f fd,FnOk P w K mg base CX k f fd ps sp∧Meth K C m f∧zfP K fd ps []
def zu3 (t u:TE):TE:=λσ H Q=>t σ H Q∨u σ H Q
section
variable {X:Cx} {CX:CXT} {k:Nat} {C:Addr} {ps:List Str} {sp:Sp} {E:XK} {m:Str} {pos apos:Pos} {o e:Expr} {es:List Expr} {ta:TE} {t:TA}
theorem zfl {pl:Sem Bool} (he:PE X o ta) (c:Cls X.K C) (F:CalleeM X.prog X.w X.K X.mg X.base CX k C m ps sp) (hr:Room k X.A) (hx:zfT CX X E) (ha:PA X (e::es) t)
  (hst:starEach (e::es) X.env=(false,eval e X.env)::starEach es X.env:=by rfl) (hpl:(backTo pos (starEach es X.env)).any (·.1)=false:=by rfl)
  (ht:eval (.Call (.Attribute o m apos) (e::es) [] pos) X.env=(do
   let ov←eval o X.env
   standAt apos.atName
   let (f,first)←holding [ov] (getMethod ov m pl)
   callWith pos f first (backTo pos (starEach (e::es) X.env)) (backToKw pos (keywordEach [] X.env))):=by rfl) :
  PE X (.Call (.Attribute o m apos) (e::es) [] pos) (zoN C m sp [] E ta t):=by
   obtain ⟨f,fd,G,hm,hb⟩:=F.ex
   exact zru he c hm G hr hb .nil hx ha hst hpl ht
theorem Ev.inl {Γ:Ctx} {t u:TE} {b:Bool} {d:Ds} (h:Ev Γ t b d):Ev Γ (zu3 t u) b d:=λF0 Hb F H σ own Q a k=> .inl (h F0 Hb F H σ own Q a k)
theorem Ev.inr {Γ:Ctx} {t u:TE} {b:Bool} {d:Ds} (h:Ev Γ u b d):Ev Γ (zu3 t u) b d:=λF0 Hb F H σ own Q a k=> .inr (h F0 Hb F H σ own Q a k)
end
section
variable {Γ:Ctx} {ta tb tc:TE} {m:Bool}
end
section
variable {E:XS} {Γ:Ctx} {m:Bool} {K:W.Frag} {te:TE} {u:TS} {α β:Type}
end
end L2
namespace L2
open PySem PySem.Spec PyProof.Rows
def orX (t u:TEX):TEX:=λσ H Q E=>t σ H Q E∨u σ H Q E
section
variable {X:Cx} {a b e o:Expr} {es:List Expr} {pos apos:Pos} {k:Nat} {C:Addr} {ps:List Str} {sp:Sp} {m:Str} {tb to:TE} {ta:TEX} {t:TA}
end
def EvX {α ε:Type} [XF ε] (xc:ε->Addr) (Γ:Ctx) (te:TEX) (m:Bool) (d:α->Ds) (r:Except ε α):Prop:=∀(F0 Hb F H:Hp) (σ:St) (own:Nat->Option Addr) (Q:VK) (E:XK),At F0 Hb F H σ own Γ→(match r with| .ok v=>∀v' F' H',Grow F H F' H'->(d v).pr (zfp m F' Hb) v'->Q v' H'| .error e=>∀dct F' H',Grow F H F' H'->xφ e F' dct->E (.ref (xc e)) dct H')->te σ H Q E
section
variable {α β ε:Type} [XF ε] {xc:ε->Addr} {Γ Γx:Ctx} {te:TEX} {tb:TE} {m m0:Bool} {d:α->Ds} {r:Except ε α} {ds:List Ds} {u:TS} {E:XS}
theorem EvX.inl {t u:TEX} (h:EvX xc Γ t m d r):EvX xc Γ (orX t u) m d r:=λF0 Hb F H σ own Q E a k=> .inl (h F0 Hb F H σ own Q E a k)
theorem EvX.inr {t u:TEX} (h:EvX xc Γ u m d r):EvX xc Γ (orX t u) m d r:=λF0 Hb F H σ own Q E a k=> .inr (h F0 Hb F H σ own Q E a k)
end
end L2
namespace L2
open PySem PySem.Spec PyProof.Rows
section
variable {P:Program} {w:World} {K:W.Frag} {mg:Str->Option Value} {base:Heap} {x qual:Str} {st:Stmt} {f:Addr} {fd:FuncData} {N ps:List Str} {k:Nat}
end
section
variable {X:Cx} {k:Nat} {f C:Addr} {fd:FuncData} {ps:List Str} {sp:Sp} {x:Str} {p pos:Pos} {e:Expr} {es:List Expr} {t:TA}
end
section
variable {E:XS} {Γ Γx:Ctx} {u t:TS} {o:Oc} {ds:List Ds} {tr:TA} {K:W.Frag} {m:Bool} {ta:TE}
end
end L2
namespace Lat
open L2
end Lat
namespace L2
open PySem PySem.Spec PyProof.Rows
structure T6 (α β γ δ ε ζ:Type) where
 a:α
 b:β
 c:γ
 d:δ
 e:ε
 f:ζ
section
variable {E:XS} {Γ:Ctx} {m:Bool} {K:W.Frag} {te:TE} {u:TS} {α β:Type}
end
end L2
namespace PySem
open Sem (wp)
namespace F
end F
abbrev zty (h:Heap) (T:Addr) (a b c:Value):Prop:=h.get? T=some {cls:= .type "tuple",data:= .seq #[a,b,c]}
structure Zip3 (h:Heap) (n:Nat) (l1 l2 l3:Addr) (k:Nat) (f0:Value):Prop where
 z:IsZip h (n+5) (n+3) (n+4) f0
 ti:zty h (n+3) (.ref n) (.ref (n+1)) (.ref (n+2))
 to:∃ a b c,zty h (n+4) a b c
 i1:h.IsListIter n l1 k
 i2:h.IsListIter (n+1) l2 k
 i3:h.IsListIter (n+2) l3 k
section
variable {prog:Program} {w:World} {A:Around} {E:Value->Shared->Prop} {s:Shared} {n k:Nat} {l1 l2 l3:Nat}
end
section
variable {prog:Program} {w:World} {A:Around} {E:Value->Shared->Prop} {s:Shared}
end
end PySem
namespace L2
open PySem PySem.Spec PyProof.Rows
section
variable {X:Cx}
end
section
variable {Γ:Ctx} {m:Bool} {K:W.Frag} {γ δ ε:Type}
end
end L2
namespace L2
open PySem PySem.Spec PyProof.Rows
structure T4 (α β γ δ:Type) where
 a:α
 b:β
 c:γ
 d:δ
 deriving Inhabited
def ztM:Slot->Bool
 | .tl _=>false
 | _=>true
theorem At.shareB {F0 Hb F H:Hp} {σ:St} {own:Nat->Option Addr} {Γ:Ctx} (a:At F0 Hb F H σ own Γ) {i:Nat} {m:Bool} {C p dx:Addr} {fs:List (Str×Ds)} (e:Γ[i]? =some (.ob m C p dx fs)) (ht:Γ.all ztM=true) :
  ∃F' own',Grow F0 Hb F' H∧At F0 Hb F' H σ own' (Γ.set i (.va m (dO C fs))):=by
   obtain ⟨vs,e1,e2,hf,hb,hp,hq⟩:=a.sl i _ e
   have ne:dx≠p:=ziM hp.2 hp.1 (by intro z;cases z)
   have g:=(a.g.take hb.1 hp.1).take hb.2 hp.2
   have n3:upd F p (.ins C dx vs) dx=none:=by rw [zai ne];exact hf.2
   have fs':Same F (upd (upd F p (.ins C dx vs)) dx (.own p)):=(Same.new hf.1 _).trans (Same.new n3 _)
   refine ⟨upd (upd F p (.ins C dx vs)) dx (.own p),λj=>if j=i then none else own j,g,g,λj k q h1 h2=> ?_,λj q h1=> ?_,λj s es=> ?_,by simp [a.len]⟩
   ·
    skip
    split at h1
    ·cases h1
    ·
     split at h2
     ·cases h2
     ·exact a.inj j k q h1 h2
   ·
    skip
    split at h1
    ·cases h1
    ·exact a.liv j q h1
   ·
    by_cases z:i=j
    ·
     subst z
     have hi:i<Γ.length:=(List.getElem?_eq_some_iff.mp e).1
     rw [List.getElem?_set_self hi] at es
     cases es
     exact ⟨.ref p,e1,p,dx,vs,rfl,zep hb.1 (by rw [zai (Ne.symm ne)];exact zat),zep hb.2 zat,zbR (λ_ b z=>⟨z.1,b.2.up (za8 fs') z.2⟩) hq⟩
    ·
     rw [List.getElem?_set_ne z] at es
     have z':¬j=i:=Ne.symm z
     have:=a.sl j s es
     cases s with
      |no=>trivial
      |tl d=>
       have:=List.all_eq_true.mp ht _ (List.mem_of_getElem? es)
       cases this
      |va m d=>obtain ⟨x,h1,h2⟩:=this;exact ⟨x,h1,d.up (za8 fs') h2⟩
      |ow m ds=>
       obtain ⟨q,us,h1,h2,h3,h4,h5,h6⟩:=this
       have n1:q≠p:=λw=>by subst w;exact z (a.inj i j q e2 h2)
       have n2:q≠dx:=ziM h5 hp.2 (by intro z;cases z)
       exact ⟨q,us,h1,(if_neg z').trans h2,by rw [zai n2,zai n1];exact h3,h4,h5,zdk (ds:=[]) (za8 fs') h6⟩
      |ol q ds=>
       obtain ⟨us,h1,h2,h3,h4,h5,h6⟩:=this
       have n1:q≠p:=λw=>by subst w;exact z (a.inj i j q e2 h2)
       have n2:q≠dx:=ziM h5 hp.2 (by intro z;cases z)
       exact ⟨us,h1,(if_neg z').trans h2,by rw [zai n2,zai n1];exact h3,h4,h5,zdk (ds:=[]) fs' h6⟩
      |ob m C q dy gs=>
       obtain ⟨us,h1,h2,h3,h4,h5,h6⟩:=this
       have n1:q≠p:=λw=>by subst w;exact z (a.inj i j q e2 h2)
       have n2:dy≠p:=ziM h5.2 hp.1 (by intro z;cases z)
       have n3:q≠dx:=ziM h5.1 hp.2 (by intro z;cases z)
       have n4:dy≠dx:=λw=>by
        have:=h5.2
        rw [w,hp.2] at this
        cases this;
        exact n1 rfl
       exact ⟨us,h1,(if_neg z').trans h2,⟨by rw [zai n3,zai n1];exact h3.1,by rw [zai n4,zai n2];exact h3.2⟩,h4,h5,zbR (λ_ b z=>⟨z.1,b.2.up (za8 fs') z.2⟩) h6⟩
section
variable {Γ:Ctx} {te:TE} {d:Ds} {i:Nat} {m:Bool}
theorem EvN.borrowB {C p dx:Addr} {fs:List (Str×Ds)} (e:Γ[i]? =some (.ob m C p dx fs)) (ht:Γ.all ztM=true) (h:EvN (Γ.set i (.va m (dO C fs))) te d):EvN Γ te d:=λF0 Hb F H σ own Q a k=>by
 obtain ⟨F1,own1,_,a1⟩:=a.shareB e ht
 refine h F0 Hb F1 H σ own1 Q a1 λx F' H' g q=> ?_
 have e:∀b o,off F' H b=some o->H b=none∧F' b=some o:=λb o z=>zdb.mp z
 refine k x (λb=>match H b with|some _=>F b|none=>F' b) H' ⟨λb o z=> ?_,λb o z=> ?_,g.h,λb z1 z2=> ?_⟩ (d.up (λb o z=> ?_) q)
 ·
  show (match H b with|some _=>F b|none=>F' b)=some o
  rw [a.fh _ _ z];
  exact z
 ·
  have z:(match H b with|some _=>F b|none=>F' b)=some o:=z
  cases w:H b with
   |some o'=>rw [w] at z;exact g.h _ _ (a.fh _ _ z)
   |none=>rw [w] at z;exact g.fh _ _ z
 ·
  show (match H b with|some _=>F b|none=>F' b)=none
  cases w:H b with
   |some o'=>exact z2
   |none=>exact absurd w z1
 ·
  obtain ⟨h1,h2⟩:=e b o z
  refine zdb.mpr ⟨h1,?_⟩
  show (match H b with|some _=>F b|none=>F' b)=some o
  rw [h1];
  exact h2
end
section
variable {Γ:Ctx} {te:TE} {d d1 d2 d3:Ds} {i i1 i2 i3:Nat} {m m1 m2:Bool} {v v1 v2:V} {f g k:Str} {C:Addr}
variable {ι:Type} {a1 a2 a3 b3:ι->Ds} {pre:ι->Prop} {ds:List Ds} {tr:TA} {E:XK}
end
section
variable {E:XS} {Γ:Ctx} {m:Bool} {K:W.Frag} {tj:TE} {u:TS} {o:Oc} {i:Nat}
end
end L2
namespace Lat
open L2
section
variable {α β:Type}
end
section
variable {W:Nat} {ds im Bs:Jq} {u v:Vc}
end
end Lat
namespace L2
open PySem PySem.Spec PyProof.Rows
end L2
namespace L2
open PySem PySem.Spec PyProof.Rows
def FA (K:W.Frag) (f:Addr) (sn n:Str) (st:Stmt):Prop:=∃(oc kV dc pm cd ct:Value) (od an:Option Addr) (sl:Array (Option Value)),K.lookup f=some ⟨oc,od,.func (W.fnOf sn n (zfD st) (zdA st) (zag st) .none kV dc pm an cd ct),sl⟩∧W.codeIn K cd n=true∧W.keepIn K (.ref f)=true
theorem FA.m {K:W.Frag} {f:Addr} {sn n:Str} {st:Stmt} {oc kV dc pm cd ct:Value} {od an:Option Addr} {sl:Array (Option Value)} (l:K.lookup f=some ⟨oc,od,.func (W.fnOf sn n (zfD st) (zdA st) (zag st) .none kV dc pm an cd ct),sl⟩) (c:W.codeIn K cd n=true) (k:W.keepIn K (.ref f)=true):FA K f sn n st:=⟨_,_,_,_,_,_,_,_,_,l,c,k⟩
theorem ztq {K:W.Frag} {f:Addr} {sn n:Str} {st:Stmt} (q:FA K f sn n st):∃fd,Fun K sn n st f fd:=by
 obtain ⟨_,_,_,_,_,_,_,_,_,l,c,k⟩:=q
 exact ⟨_,zpz (st:=st) l c k⟩
noncomputable def FA.fd {K:W.Frag} {f:Addr} {sn n:Str} {st:Stmt} (q:FA K f sn n st):FuncData:=Classical.choose (ztq q)
theorem FA.f {K:W.Frag} {f:Addr} {sn n:Str} {st:Stmt} (q:FA K f sn n st):Fun K sn n st f q.fd:=Classical.choose_spec (ztq q)
theorem FA.k {K:W.Frag} {f:Addr} {sn n:Str} {st:Stmt} (q:FA K f sn n st):W.keepIn K (.ref f)=true:=by
 obtain ⟨_,_,_,_,_,_,_,_,_,l,c,k⟩:=q
 exact k
theorem cm (l:W.OpenLaw) (w:World) (base:Heap) {K:W.Frag} {mg:Str->Option Value} {k:Nat} {x:Str} {f:Addr} {fd:FuncData} {ps:List Str} {sp:Sp} (h:FnOk l.prog w K mg base (CXE l.prog w) k f fd ps sp) (m:mg x=some (.ref f)) (z:W.keepIn K (.ref f)=true) (b:zfP K fd ps []):Callee l.prog w K mg base (CXE l.prog w) k x ps sp:=⟨_,_,h,m,z,b⟩
end L2
namespace Lat
section
variable {n s i:Nat} {rows ss more:Jq} {r x:Ji}
end
end Lat
namespace Lat
open L2
section
variable {n m:Nat} {B S ss:Jq} {u v:Vc}
end
section
variable {n k s:Nat}
end
end Lat
namespace L2
open PySem PySem.Spec PyProof.Rows
end L2
namespace L2
open PySem PySem.Spec PyProof.Rows
end L2
namespace Lat
open L2
end Lat
namespace L2
open PySem PySem.Spec PyProof.Rows PySem.Builtin PySem.Builtin.ObjectAttr
abbrev bmV:List Value:=[.type "ValueError",.type "Exception",.type "BaseException",.type "object"]
def XL (K:W.Frag) (C S:Addr):Prop:=∃nm q N bs sn sub ab col dd k0 k1 k2 k3 k5,K.lookup C=some (excClassObj nm q C N bs (.ref S::bmV) true sn sub ab col dd k0 k1 k2 k3 k5 "ValueError.__new__")
structure XIni (K:W.Frag) (C S f:Addr) (n:Str):Prop where
 cl:XL K C S
 up:W.excIn K S bmV "ValueError.__new__"=true
 ini:W.findIn K (.ref C) "__init__"=some (some (.ref f))
 fn:W.isFn K (.ref f)=true
 sa:W.findIn K (.ref C) "__setattr__"=some (some (.builtin "object.__setattr__"))
 na:W.findIn K (.ref C) n=some none
 ob:W.mroIn K C (.type "object")=some true
section
variable {prog:Program} {w:World} {A:Around} {E:Value->Shared->Prop} {K:W.Frag} {h:Heap} {g:Array GenState} {d:Drawn} {t:Nat} {os:OsState}
variable {nm q:Str} {C N S fI:Addr} {bs bm:List Value} {hdct:Bool} {sn:List Str} {sub:List Value} {ab:Bool} {col:Option Bool} {dd:Option Addr} {k0 k1 k2 k3 k5:Option Value} {n:Str}
theorem XIni.tail (x:XIni K C S fI n) (X:K.In h):OwnTail h bmV (.ref S::bmV):=by
 obtain ⟨tl,N,nm,q,bs,hdct,sn,sub,ab,col,dd,k0,k1,k2,k3,k5,mN,hC,hN,hni,T⟩:=exc_obj X x.up
 exact .own hC hN hni .base
end
section
variable {prog:Program} {w:World} {A:Around} {E:Value->Shared->Prop} {K:W.Frag} {s:Shared} {x C S fI:Addr} {n:Str} {v:Value} {ox:Obj} {vs:Array Value}
end
section
variable {prog:Program} {w:World} {A:Around} {E:Value->Shared->Prop} {K:W.Frag} {s:Shared} {x C S fI dd:Addr} {n:Str} {v:Value} {ox:Obj} {vs:Array Value} {mA:Str->Option Value} {ns:List Str}
end
section
variable {X:Cx} {pins:List (Addr×Obj)} {σ:St} {H:Hp} {s:Shared} {a C S fI:Addr} {vs:Array Value} {f:Str}
end
section
variable {P:Program} {w:World} {K:W.Frag} {mg:Str->Option Value} {base:Heap} {x qual n n' a b c:Str} {st:Stmt} {f C S fI fI':Addr} {fd:FuncData} {k:Nat} {p1 p2 p3 p4 p5 p6 p7 p8:Pos}
end
section
variable {prog:Program} {w:World} {A:Around} {E:Value->Shared->Prop} {s:Shared} {env:Env} {K:W.Frag}
variable {nm q:Str} {C N fI:Addr} {bs bm:List Value} {hdct:Bool} {sn:List Str} {sub:List Value} {ab:Bool} {col:Option Bool} {dd:Option Addr} {k0 k1 k2 k3 k5:Option Value}
end
section
variable {X:Cx} {k:Nat} {ps:List Str} {x n:Str} {ns:List Str} {pos:Pos} {e:Expr} {es:List Expr} {t:TA} {C S f:Addr} {fd:FuncData}
end
section
variable {prog:Program} {w:World} {A:Around} {E:Value->Shared->Prop} {K:W.Frag} {C a:Addr} {h:Heap} {g:Array GenState} {d:Drawn} {t:Nat} {os:OsState} {f:Str} {v:Value} {od:Obj} {ox:Obj}
end
section
variable {E:XS} {Γ Γx:Ctx} {m:Bool} {K:W.Frag} {α β ε:Type} [XF ε] {u:TS} {o:Oc} {ds:List Ds}
theorem zh9 {α β:Type} {R S:α->β->Prop}:∀ {xs:List α} {ys:List β},Paired R xs ys->(∀a∈xs,∀b,R a b->S a b)->Paired S xs ys
 | _,_,.nil,_=>.nil
 | _,_,.cons q t,h=> .cons (h _ List.mem_cons_self _ q) (zh9 t λa ha b=>h a (List.mem_cons_of_mem _ ha) b)
end
instance:Inhabited (Str ⊕ Int):=⟨.inl default⟩
section
variable {Γ:Ctx} {ta:TE} {m:Bool} {x:Str ⊕ Int}
end
section
variable {P:Program} {w:World} {K:W.Frag} {mg:Str->Option Value} {base:Heap} {x qual:Str} {st:Stmt} {f:Addr} {fd:FuncData} {N ps:List Str} {k:Nat}
end
end L2
namespace L2
open PySem PySem.Spec PyProof.Rows
theorem zfu {X:Cx} {K:W.Frag} (hK:X.K=K):OpR X (compareOp .In) (rIn K false):=by subst hK;exact zn0
section
variable {E:XS} {Γ:Ctx} {m:Bool} {K:W.Frag} {te tj tk:TE} {u:TS} {o:Oc} {i:Nat} {nss:Jq}
theorem At.rows {F0 Hb F H H1:Hp} {σ:St} {own:Nat->Option Addr} {p r:Addr} {vs ws:List V} {nss':Jq} {ns:Ji} (a:At F0 Hb F H σ own Γ) (e:Γ[i]? =some (.tl (dRI nss))) (hno:zpX Γ=true) (es:σ[i]? =some (some (.ref p))) (ep:H p=some (.lst vs)) (hH:Same H H1) (r1:H r=none) (r3:H1 r=some (.lst (ns.map V.int)))
  (hw:∀R:Hp,R r=none->R p=some (.lst vs)->vs.Nodup->V.ref p∉vs->Paired (zoh R) vs nss->ws.Nodup∧V.ref p∉ws∧Paired (zoh (upd (upd R p (.lst ws)) r (.lst (ns.map V.int)))) ws nss') :
  At F0 Hb F (upd H1 p (.lst ws)) σ own ((unC Γ).set i (.tl (dRI nss'))):=by
   obtain ⟨x,R,h1,h2,h3,h4,p',vs',rfl,h6,h7,h8,h9⟩:=a.sl i _ e
   have hi:i<σ.length:=by rw [a.len];exact (List.getElem?_eq_some_iff.mp e).1
   rw [es] at h1
   have h1:V.ref p= .ref p':=Option.some.inj h1
   cases h1
   have z:=h2 _ _ h6
   rw [ep] at z
   cases z
   have rp:r≠p:=λz=>by rw [z,ep] at r1;cases r1
   have pF:=h3 p _ h6
   have pO:∀l,own l≠some p:=λl z=>by rw [h4 l p z] at h6;cases h6
   have a1:=(a.grow (Grow.only a.fh hH)).spoil hno (.lst ws) pF.1 pF.2 pO
   have rF:F r=none:=a.fh.free r1
   have Rr:R r=none:=by
    cases y:R r with
     |none=>rfl
     |some o=>have:=h2 _ _ y;rw [r1] at this;cases this
   obtain ⟨w1,w2,w3⟩:=hw R Rr h6 h7 h8 h9
   refine ⟨a1.g,a1.inj,a1.liv,λl s es'=> ?_,by rw [List.length_set];exact a1.len⟩
   by_cases z:i=l
   ·
    subst z
    rw [List.getElem?_set_self (by rw [←a1.len];exact hi)] at es'
    cases es'
    rw [es]
    refine ⟨.ref p,upd (upd R p (.lst ws)) r (.lst (ns.map V.int)),rfl,λb w q=> ?_,λb w q=> ?_,λl' b q=> ?_,p,ws,rfl,by rw [zai (Ne.symm rp),zat],w1,w2,w3⟩
    ·
     by_cases y:b=r
     ·subst y;rw [zat] at q;cases q;rw [zai rp];exact r3
     ·
      rw [zai y] at q
      by_cases y2:b=p
      ·subst y2;rw [zat] at q ⊢;exact q
      ·rw [zai y2] at q ⊢;exact hH _ _ (h2 _ _ q)
    ·
     by_cases y:b=r
     ·subst y;exact ⟨rF,a.g.h.free r1⟩
     ·
      rw [zai y] at q
      by_cases y2:b=p
      ·subst y2;exact pF
      ·rw [zai y2] at q;exact h3 b w q
    ·
     have y:b≠r:=λy=>a.liv l' b q (by rw [y];exact r1)
     have y2:b≠p:=λy=>pO l' (y ▸ q)
     rw [zai y,zai y2];
     exact h4 l' b q
   ·
    rw [List.getElem?_set_ne z] at es'
    exact a1.sl l s es'
end
end L2
namespace L2
open PySem PySem.Spec PyProof.Rows
def Slot.loose:Slot->Prop
 | .tl _=>True
 | .va _ _=>True
 | _=>False
end L2
namespace L2
open PySem PySem.Spec PyProof.Rows
def Its (x:Str):It:=⟨λi _=>i<x.cps.size,λi H v H'=>H'=H∧∃c,x.cps[i]? =some c∧v= .str ⟨#[c]⟩,λi _=>x.cps.size≤i⟩
theorem zpo {P:Program} {w:World} {K:W.Frag} {tg:Expr} (it:Addr) (x:Str) (t:Tok):Turn P w K tg (Its x) [it] it (λi h=>h.IsStrIter it "str_ascii_iterator" x t i) where
 mem:=by simp
 obj:=λi h st b hb=>by
  have e:b=it:=by simpa using hb
  subst e
  obtain ⟨o,e,c,d⟩:=st
  exact ⟨o,e,λv z=>by rw [d] at z;cases z⟩
 keep:=λi h h' st k=>by
  obtain ⟨o,e,c,d⟩:=st
  exact ⟨o,k it (by simp) o e,c,d⟩
 item:=by
  intro X hP hw hK hc i pins s σ H E I hf st hg
  subst hP hw hK
  obtain ⟨f0,f1,f2,f3,f4,f5⟩:=hf it (by simp)
  have hg:i<x.cps.size:=hg
  refine wpAny_pyNext_ascii_item st (c:=x.cps[i]) (by simp [hg]) λh' st' sb=>?_
  have I1:Inv X pins σ H { s with heap:=h',toks:=s.toks+1 }:=I.turned (t':=s.toks+1) (λb o hb e=>sb.extBut b o hb e) f0 f1 f3 f4 f5
  obtain ⟨o,e,c,d⟩:=id st'
  exact ⟨_,rfl,zoZ (s:={ s with heap:=h',toks:=s.toks+1 }) e c d (by decide) ⟨.str ⟨#[x.cps[i]]⟩,H,I1,⟨_,rfl⟩,⟨rfl,x.cps[i],by simp [hg],rfl⟩,st',λb hb=>(hf b hb).1⟩⟩
 done:=by
  intro X hP hw hK hc i pins s σ H E I hf st hg
  subst hP hw hK
  obtain ⟨f0,f1,f2,f3,f4,f5⟩:=hf it (by simp)
  exact wpAny_pyNext_ascii_end (I.ok.hd hc) st (by have hg:x.cps.size≤i:=hg;simp [hg]) λh' eb=>⟨rfl,I.turned (t':=s.toks) (λb o hb e=>eb b o hb e) f0 f1 f3 f4 f5⟩
 self:=λ_ _ _ _ _ st h=>wpAny_pyIter_striter_ascii st h
def zuI (tl:TE):TI:=λσ H R=>tl σ H λv H1=>∃x,v= .str x∧x.cps.all (· <128)=true∧R (Its x) H1
theorem zsL {X:Cx} {tg l:Expr} {tl:TE} (hl:PE X l tl):PI X tg l (zuI tl):=by
 intro pins s σ H R I h
 refine thn (hl pins s σ H _ I h) λv s1 ⟨y,H1,I1,r1,q1⟩=> ?_
 obtain ⟨x,e,ha,q⟩:=q1
 subst e
 obtain ⟨t,rfl⟩:=(show∃t,v=Value.str x t from r1)
 refine wpAny_pyIter_ascii ha ?_
 refine ⟨s1.heap.objs.size,[s1.heap.objs.size],_,_,H1,rfl,I1.kept (t':=s1.toks) λb o e=>Heap.get?_push_of_some _ e,zpo _ x t,⟨_,Heap.get?_push_size _ rfl,rfl,rfl⟩,λb hb=> ?_,q⟩
 have e:b=s1.heap.objs.size:=by simpa using hb
 subst e
 exact I1.fpOk (Nat.le_refl _) (I1.hok.fresh (Nat.le_refl _))
end L2
namespace L2
open PySem PySem.Spec PyProof.Rows
theorem zlj:∀(l:List (Str×Tok)),zbH ((l.map (·.1)).map V.str) (strValues l)
 | []=>.nil
 | (x,t) :: l=> .cons ⟨t,rfl⟩ (zlj l)
theorem zmc {X:Cx}:zeG X (.builtin "str.split") (λxs H Q=>∃x y,xs=[.str x,.str y]∧(y.length==0)=false∧x.length≤sizeLine∧(Txt.split x y).length≤sizeLine∧(Builtin.Str.partsBetween x (Builtin.Str.occurrences x y 0 x.length (x.length+1)) y.length).length≤sizeLine∧∀l,H l=none->Q (.ref l) (upd H l (.lst ((Txt.split x y).map V.str)))):=by
 intro pins s σ H xs us Q I r h
 obtain ⟨x,y,rfl,hy,hz,hz1,hz2,q⟩:=h
 obtain ⟨u1,u2,rfl,r1,r2⟩:=zte r
 obtain ⟨t,rfl⟩:=(show∃t,u1=Value.str x t from r1)
 obtain ⟨u,rfl⟩:=(show∃t,u2=Value.str y t from r2)
 have fin:∀(l:List (Str×Tok)) (k:Nat),l.map (·.1)=Txt.split x y->EP X pins σ Q (.ref s.heap.objs.size) {s with heap:=s.heap.push {cls:= .type "list",data:= .seq (strValues l).toArray},toks:=k}:=λl k e=>⟨.ref s.heap.objs.size,_,I.laid (t':=k) (λb o e=>Heap.get?_push_of_some _ e) (Nat.le_refl _) (show zeE X.prog X.w _ _ _ (.lst ((Txt.split x y).map V.str)) from ⟨by rw [List.length_map];exact hz1,strValues l,0,by rw [←e];exact zlj l,Heap.get?_push_size _ rfl⟩),rfl,q _ (I.hok.fresh (Nat.le_refl _))⟩
 refine wpAny_call (codeAny_call_builtin F.slot_str_split.plain F.entry_str_split (F.slot_str_split.check _ _ _ _ _ _ _ _ (typeIs_str _ _ _) (F.args_str_split_2 _ _) ?_))
 cases h1:(decide (x.length<y.length)||decide (Builtin.Str.strKind x<Builtin.Str.strKind y)) with
  |true=>exact meets_str_split_cannot_occur x y t u h1 X.prog X.w X.A (wants (EP X pins σ Q) X.xe) s (fin [(x,t)] s.toks (if_pos h1).symm)
  |false=>
   cases hf:(Builtin.Str.occurrences x y 0 x.length (x.length+1)).isEmpty with
    |true=>exact meets_str_split_not_found x y t u h1 hy hf X.prog X.w X.A (wants (EP X pins σ Q) X.xe) s (fin [(x,t)] s.toks ((if_neg (ne_true_of_eq_false h1)).trans (if_pos hf)).symm)
    |false=>
     refine meets_str_split_sep x y t u h1 hy hf hz hz2 X.prog X.w X.A (wants (EP X pins σ Q) X.xe) s ?_
     dsimp only
     rw [strsFrom_eq]
     exact fin (numbered s.toks _) _ ((numbered_texts _ _).trans ((if_neg (ne_true_of_eq_false h1)).trans (if_neg (ne_true_of_eq_false hf))).symm)
end L2
namespace L2
open PySem PySem.Spec PyProof.Rows
theorem ziS:∀ {ys:List Str} {its:List Value},zbH (ys.map V.str) its->∃l:List (Str×Tok),strValues l=its∧l.map (·.1)=ys
 | [],its,r=>by cases r;exact ⟨[],rfl,rfl⟩
 | y :: ys,its,r=>by
  cases r with
   |cons r1 r2=>
    obtain ⟨t,rfl⟩:=(show∃t,_=Value.str y t from r1)
    obtain ⟨l,e1,e2⟩:=ziS r2
    exact ⟨(y,t)::l,by rw [←e1];rfl,by rw [List.map_cons,e2]⟩
theorem znE {X:Cx}:zeG X (.builtin "str.join") (λxs H Q=>∃x a ys,xs=[.str x,.ref a]∧SqL X.K H a (ys.map V.str)∧JoinOk x ys=true∧Q (.str (Txt.join x ys)) H):=by
 intro pins s σ H xs us Q I r h
 obtain ⟨x,a,ys,rfl,hq,hok,q⟩:=h
 obtain ⟨u1,u2,rfl,r1,r2⟩:=zte r
 obtain ⟨t,rfl⟩:=(show∃t,u1=Value.str x t from r1)
 cases r2
 obtain ⟨its,rv,p,hz⟩:=I.list hq
 obtain ⟨l,rfl,rfl⟩:=ziS rv
 unfold JoinOk at hok
 rw [Bool.not_eq_true'] at hok
 refine wpAny_call (codeAny_call_builtin F.slot_str_join.plain F.entry_str_join (F.slot_str_join.check _ _ _ _ _ _ _ _ (typeIs_str _ _ _) (F.args_str_join_2 _ _) ?_))
 exact meets_str_join_list x t a l hok X.prog X.w X.A (wants (EP X pins σ Q) X.xe) s ⟨p.isList,post_join l ⟨joinFit_length hok,λt' k=>⟨.str _,H,I.tok _,⟨_,rfl⟩,q⟩⟩⟩
theorem zoQ {X:Cx}:MtR X "str.split" (λx vs H Q=>∃i j,(x= .str i∧vs=[.str j])∧(j.length==0)=false∧i.length≤sizeLine∧(Txt.split i j).length≤sizeLine∧(Builtin.Str.partsBetween i (Builtin.Str.occurrences i j 0 i.length (i.length+1)) j.length).length≤sizeLine∧∀l,H l=none->Q (.ref l) (upd H l (.lst ((Txt.split i j).map V.str)))):=by
 intro pins s σ H x vs v us Q I rx rv h
 obtain ⟨i,j,⟨rfl,rfl⟩,h⟩:=h
 exact zmc pins s σ H _ (v::us) Q I (.cons rx rv) ⟨i,j,rfl,h⟩
theorem zqc {X:Cx}:MtR X "str.join" (λx vs H Q=>∃i a ys,(x= .str i∧vs=[.ref a])∧SqL X.K H a (ys.map V.str)∧JoinOk i ys=true∧Q (.str (Txt.join i ys)) H):=by
 intro pins s σ H x vs v us Q I rx rv h
 obtain ⟨i,a,ys,⟨rfl,rfl⟩,h⟩:=h
 exact znE pins s σ H _ (v::us) Q I (.cons rx rv) ⟨i,a,ys,rfl,h⟩
theorem ziB (k:Str):∀ {l:List (Str×Tok)} (j:Nat) (h1:j<(strValues l).length) (h2:j<(l.map (·.1)).length),isStrOf k (strValues l)[j]=((l.map (·.1))[j]==k)
 | (x,t) :: l,0,_,_=>by
  show isStrOf k (.str x t)=(x==k)
  rfl
 | p :: l,j+1,h1,h2=>ziB k (l:=l) j (Nat.lt_of_succ_lt_succ h1) (Nat.lt_of_succ_lt_succ h2)
theorem zjP {k:Str}:∀ {ns:List Str} {j:Nat},j<ns.idxOf k->∀(h2:j<ns.length),(ns[j]==k)=false
 | n :: r,0,h,_=>by
  by_cases e:n=k
  ·subst e;simp at h
  ·simpa using e
 | n :: r,j+1,h,h2=>by
  by_cases e:n=k
  ·subst e;simp at h
  ·
   have e':(n==k)=false:=by simpa using e
   rw [List.idxOf_cons,e'] at h
   exact zjP (ns:=r) (j:=j) (by simpa using h) _
theorem zoR {X:Cx}:MtR X "list.index" (λx vs H Q=>∃(a:Addr) (ys:List Str) (k:Str),(x= .ref a∧vs=[.str k])∧SqL X.K H a (ys.map V.str)∧k∈ys∧Q (.int ((ys.idxOf k:Nat):Int)) H):=by
 intro pins s σ H x vs v us Q I rx rv h
 obtain ⟨a,ys,k,⟨rfl,rfl⟩,hq,hk,q⟩:=h
 cases rx
 obtain ⟨u,rfl,ru⟩:=zgw rv
 obtain ⟨t,rfl⟩:=(show∃t,u=Value.str k t from ru)
 obtain ⟨its,r,p,hz⟩:=I.list hq
 obtain ⟨l,rfl,rfl⟩:=ziS r
 obtain ⟨⟨cls,dd,data,sl⟩,ho,hc,n,hd⟩:=id p.isList
 simp only at hc hd
 subst hc hd
 have hj:(l.map (·.1)).idxOf k<(l.map (·.1)).length:=List.idxOf_lt_length_iff.mpr hk
 have hlen:(strValues l).length=(l.map (·.1)).length:=by unfold strValues;simp
 have hz':(l.map (·.1)).length≤sizeLine:=by simpa using hz
 have hs:sizeLine≤2 ^ 62:=by decide
 refine call_meets PySem.F.slot_list_index ⟨_,ho,rfl⟩ PySem.F.entry_list_index (PySem.F.args_list_index_2 _ _) (PySem.SeqAt.list_indexAt a (strValues l).toArray n dd sl (.str k t) (isStrOf k) ((l.map (·.1)).idxOf k) (by simpa [hlen] using hj) (by omega) ?_ ?_) ⟨ho,λy hy=>(eq_isStrOf k t (strsAre_of_values l) y (by simpa using hy)).at _ _,⟨.int _,H,I.tok _,⟨_,rfl⟩,q⟩⟩
 ·
  show isStrOf k (strValues l)[(l.map (·.1)).idxOf k]=true
  rw [ziB k _ (by omega) hj]
  simpa using List.getElem_idxOf hj
 ·
  intro j hjs hlt
  show isStrOf k (strValues l)[j]=false
  rw [ziB k j (by simpa using hjs) (by omega)]
  exact zjP hlt _
end L2
namespace L2
open PySem PySem.Spec PyProof.Rows
def chS (x:Str):List Str:=x.cps.toList.map λc=>⟨#[c]⟩
def ixS (x:Str) (i:Int):Str:=⟨#[(atI x.cps.toList i).getD 0]⟩
def zqW (x y:Str):Bool:= !(Builtin.Str.occurrences y x 0 y.length 1).isEmpty
theorem zfe {x:Str}:∀ {xs:List Str},inV (.str x) (xs.map V.str)=decide (x∈xs)
 | []=>rfl
 | y :: xs=>by
  have ih:=zfe (x:=x) (xs:=xs)
  unfold inV at ih ⊢
  rw [List.map_cons,List.any_cons,ih]
  unfold eqV
  by_cases h:x=y
  ·subst h;simp
  ·
   have:¬y=x:=λz=>h z.symm
   have e:(y==x)=false:=by simpa using this
   show (y==x||_)=_
   rw [e]
   simp [h]
theorem zeR {xs:List Str}:(xs.map V.str).all zhG=true:=by
 rw [List.all_eq_true]
 intro v hv
 obtain ⟨i,_,rfl⟩:=List.mem_map.mp hv
 rfl
section
variable {Γ:Ctx} {K:W.Frag} {m:Bool} {ta tb tl:TE} {x y:Str} {xs ys:List Str} {i:Int}
theorem zn7 (h1:Ev Γ ta false (dS x)) (h2:Ev Γ tb false (dQ K (xs.map dS))):Ev Γ (tOp (rIn K false) ta tb) m (dB (decide (x∈xs))):=λF0 Hb F H σ own Q a k=>h1 F0 Hb F H σ own _ a λu F1 H1 g1 q1=>h2 F0 Hb F1 H1 σ own _ (a.grow g1) λu' F2 H2 g2 ⟨p,vs,e1,e2,e3⟩=>by
 cases q1
 rw [zbq (f:=V.str) e3] at e2
 exact ⟨p,xs.map V.str,e1,.inl (g2.fh.seq e2),rfl,zeR,k _ F2 H2 (g1.trans g2) (by show V.bl _=V.bl _;rw [if_neg Bool.false_ne_true,zfe])⟩
theorem znB (h1:Ev Γ ta false (dS x)) (h2:Ev Γ tb false (dQ K (xs.map dS))):Ev Γ (tOp (rIn K true) ta tb) m (dB (!decide (x∈xs))):=λF0 Hb F H σ own Q a k=>h1 F0 Hb F H σ own _ a λu F1 H1 g1 q1=>h2 F0 Hb F1 H1 σ own _ (a.grow g1) λu' F2 H2 g2 ⟨p,vs,e1,e2,e3⟩=>by
 cases q1
 rw [zbq (f:=V.str) e3] at e2
 exact ⟨p,xs.map V.str,e1,.inl (g2.fh.seq e2),rfl,zeR,k _ F2 H2 (g1.trans g2) (by show V.bl _=V.bl _;rw [if_pos rfl,zfe])⟩
theorem zq2 (h1:Ev Γ ta false (dS x)) (h2:Ev Γ tb false (dS y)):Ev Γ (tOp (λx y H Q=>∃i j,x= .str i∧y= .str j∧Q (.bl (!(Builtin.Str.occurrences j i 0 j.length 1).isEmpty)) H) ta tb) m (dB (zqW x y)):=λF0 Hb F H σ own Q a k=>h1 F0 Hb F H σ own _ a λu F1 H1 g1 q1=>h2 F0 Hb F1 H1 σ own _ (a.grow g1) λu' F2 H2 g2 q2=>by
 cases q1;
 cases q2
 exact ⟨x,y,rfl,rfl,k _ F2 H2 (g1.trans g2) rfl⟩
theorem zbV (h1:Ev Γ ta false (dS x)) (h2:Ev Γ tb false (dS y)) (hz:x.length+y.length≤sizeLine):Ev Γ (tOp (λx y H Q=>∃i j,x= .str i∧y= .str j∧i.length+j.length≤sizeLine∧Q (.str (i++j)) H) ta tb) m (dS (x++y)):=λF0 Hb F H σ own Q a k=>h1 F0 Hb F H σ own _ a λu F1 H1 g1 q1=>h2 F0 Hb F1 H1 σ own _ (a.grow g1) λu' F2 H2 g2 q2=>by
 cases q1;
 cases q2
 exact ⟨x,y,rfl,rfl,hz,k _ F2 H2 (g1.trans g2) rfl⟩
theorem zjB (h1:Ev Γ ta false (dS x)) (h2:Ev Γ tb false (dI i)) (hz:x.length≤sizeLine) (hi:InB x.length i):Ev Γ (tOp zuV ta tb) m (dS (ixS x i)):=λF0 Hb F H σ own Q a k=>h1 F0 Hb F H σ own _ a λu F1 H1 g1 q1=>h2 F0 Hb F1 H1 σ own _ (a.grow g1) λu' F2 H2 g2 q2=>by
 cases q1;
 cases q2
 obtain ⟨j,e,hj,_⟩:=zh6 (n:=x.cps.toList.length) (i:=i) (by have h':InB x.cps.size i:=hi;simpa using h')
 have e2:atI x.cps.toList i=some (x.cps.toList[j]):=by
  unfold atI
  rw [e]
  exact List.getElem?_eq_getElem hj
 refine ⟨x,i,_,rfl,rfl,hz,e2,k _ F2 H2 (g1.trans g2) ?_⟩
 show V.str _=V.str (ixS x i)
 unfold ixS
 rw [e2];
 rfl
theorem zm2 (h1:Ev Γ ta false (dS x)) (hz:x.length≤sizeLine):Ev Γ (tCB (λxs H Q=>∃z,xs=[.str z]∧z.length≤sizeLine∧Q (.int z.length) H) (zdj ta zgo)) m (dI ((x.length:Nat):Int)):=λF0 Hb F H σ own Q a k=>h1 F0 Hb F H σ own _ a λu F1 H1 g1 q1=>by
 cases q1
 exact ⟨x,rfl,hz,k _ F1 H1 g1 rfl⟩
theorem zge (h1:Ev Γ ta false (dI i)) (hz:i.natAbs.log2<1920):Ev Γ (tCB (λxs H Q=>∃i,xs=[.int i]∧i.natAbs.log2<1920∧Q (.str (toString i)) H) (zdj ta zgo)) m (dS (toString i)):=λF0 Hb F H σ own Q a k=>h1 F0 Hb F H σ own _ a λu F1 H1 g1 q1=>by
 cases q1
 exact ⟨i,rfl,hz,k _ F1 H1 g1 rfl⟩
theorem zj6 (h1:Ev Γ ta false (dS x)) (h2:Ev Γ tb false (dQ K (ys.map dS))) (hok:JoinOk x ys=true):Ev Γ (tBM K "str" (λx vs H Q=>∃i a ys,(x= .str i∧vs=[.ref a])∧SqL K H a (ys.map V.str)∧JoinOk i ys=true∧Q (.str (Txt.join i ys)) H) ta (zdj tb zgo)) m (dS (Txt.join x ys)):=λF0 Hb F H σ own Q a k=>h1 F0 Hb F H σ own _ a λu F1 H1 g1 q1=>by
 cases q1
 exact ⟨rfl,h2 F0 Hb F1 H1 σ own _ (a.grow g1) λu' F2 H2 g2 ⟨p,vs,e1,e2,e3⟩=>by
  rw [zbq (f:=V.str) e3] at e2
  exact ⟨x,p,ys,⟨rfl,by rw [e1]⟩,g2.fh.seq (za4.seq e2),hok,k _ F2 H2 (g1.trans g2) rfl⟩⟩
theorem zku {F:Hp}:∀ {xs:List Str},Paired (λv (d:Ds)=>d.pr F v) (xs.map V.str) (xs.map dS)
 | []=>.nil
 | _ :: _=>.cons rfl zku
theorem zkU (h1:Ev Γ ta false (dS x)) (h2:Ev Γ tb false (dS y)) (hy:(y.length==0)=false) (hz:x.length≤sizeLine) (hz1:(Txt.split x y).length≤sizeLine) (hz2:(Builtin.Str.partsBetween x (Builtin.Str.occurrences x y 0 x.length (x.length+1)) y.length).length≤sizeLine):EvO Γ (tBM K "str" (λx vs H Q=>∃i j,(x= .str i∧vs=[.str j])∧(j.length==0)=false∧i.length≤sizeLine∧(Txt.split i j).length≤sizeLine∧(Builtin.Str.partsBetween i (Builtin.Str.occurrences i j 0 i.length (i.length+1)) j.length).length≤sizeLine∧∀l,H l=none->Q (.ref l) (upd H l (.lst ((Txt.split i j).map V.str)))) ta (zdj tb zgo)) m ((Txt.split x y).map dS):=λF0 Hb F H σ own Q a k=>h1 F0 Hb F H σ own _ a λu F1 H1 g1 q1=>by
 cases q1
 exact ⟨rfl,h2 F0 Hb F1 H1 σ own _ (a.grow g1) λu' F2 H2 g2 q2=>by
  cases q2
  refine ⟨x,y,⟨rfl,rfl⟩,hy,hz,hz1,hz2,λp hp=> ?_⟩
  obtain ⟨e1,e2,e3⟩:=a.free (g1.trans g2) hp
  exact k p _ F2 _ ((g1.trans g2).newH hp) e1 e2 zat zku⟩
theorem zs7 {j:Nat} (h:Ev Γ tl false (dS x)) (ha:x.cps.all (· <128)=true):Iv Γ (zuI tl) (zds j) [j] (chS x) (λc=>[dS c]) m:=λF0 Hb F H σ own R a k=>h F0 Hb F H σ own _ a λu F1 H1 g1 q1=>by
 cases q1
 refine ⟨x,rfl,ha,k _ F1 H1 g1 λH hs=>⟨by show x.cps.size≤_;unfold chS;simp,λi c ec=> ?_⟩⟩
 have hi:i<x.cps.size:=by
  have:=(List.getElem?_eq_some_iff.mp ec).1
  unfold chS at this
  simpa using this
 refine ⟨hi,λw H' y=> ?_⟩
 obtain ⟨rfl,d,ed,rfl⟩:=y
 have e:c=⟨#[d]⟩:=by
  unfold chS at ec
  rw [List.getElem?_map] at ec
  have:x.cps.toList[i]? =some d:=by simpa using ed
  rw [this] at ec
  exact (Option.some.inj ec).symm
 rw [e]
 exact ⟨Grow.refl hs,λσ Q k=>k [_] (.cons rfl .nil)⟩
end
end L2
namespace L2
open PySem PySem.Spec PyProof.Rows
theorem zkT {X:Cx} {K:W.Frag} (hK:X.K=K):OpR X (compareOp .NotIn) (rIn K true):=by subst hK;exact zjw
section
variable {X:Cx} {K:W.Frag} {o e:Expr} {to:TE} {t:TA} {apos cpos:Pos}
theorem zkX (hK:X.K=K) (ho:PE X o to) (ha:PA X [e] t)
  (hbase:attributeBase o "split" X.env (eval o X.env)=eval o X.env:=by rfl)
  (hfew:((backTo cpos (starEach [e] X.env)).all (λx=> !x.1) && (backToKw cpos (keywordEach [] X.env)).all (λx=>x.1.isSome) && decide (([e]:List Expr).length+([]:List Keyword).length+(if ([]:List Keyword).isEmpty then 0 else 1)<30))=true:=by rfl)
  (hline:(apos.endLine==cpos.line)=true:=by rfl) (hs:starEach [e] X.env=(false,eval e X.env)::starEach [] X.env:=by rfl) (hplain:(backTo cpos (starEach [] X.env)).any (·.1)=false:=by rfl) :
  PE X (.Call (.Attribute o "split" apos) [e] [] cpos) (tBM K "str" (λx vs H Q=>∃i j,(x= .str i∧vs=[.str j])∧(j.length==0)=false∧i.length≤sizeLine∧(Txt.split i j).length≤sizeLine∧(Builtin.Str.partsBetween i (Builtin.Str.occurrences i j 0 i.length (i.length+1)) j.length).length≤sizeLine∧∀l,H l=none->Q (.ref l) (upd H l (.lst ((Txt.split i j).map V.str)))) to t):=by
   subst hK
   exact zmM PySem.F.plainAttrs_str PySem.F.slot_str_split PySem.F.type_str_split zoQ ho ha hbase hfew hline hs hplain
theorem zkD (hK:X.K=K) (ho:PE X o to) (ha:PA X [e] t)
  (hbase:attributeBase o "join" X.env (eval o X.env)=eval o X.env:=by rfl)
  (hfew:((backTo cpos (starEach [e] X.env)).all (λx=> !x.1) && (backToKw cpos (keywordEach [] X.env)).all (λx=>x.1.isSome) && decide (([e]:List Expr).length+([]:List Keyword).length+(if ([]:List Keyword).isEmpty then 0 else 1)<30))=true:=by rfl)
  (hline:(apos.endLine==cpos.line)=true:=by rfl) (hs:starEach [e] X.env=(false,eval e X.env)::starEach [] X.env:=by rfl) (hplain:(backTo cpos (starEach [] X.env)).any (·.1)=false:=by rfl) :
  PE X (.Call (.Attribute o "join" apos) [e] [] cpos) (tBM K "str" (λx vs H Q=>∃i a ys,(x= .str i∧vs=[.ref a])∧SqL K H a (ys.map V.str)∧JoinOk i ys=true∧Q (.str (Txt.join i ys)) H) to t):=by
   subst hK
   exact zmM PySem.F.plainAttrs_str PySem.F.slot_str_join PySem.F.type_str_join zqc ho ha hbase hfew hline hs hplain
theorem zlL (hK:X.K=K) (ho:PE X o to) (ha:PA X [e] t)
  (hbase:attributeBase o "index" X.env (eval o X.env)=eval o X.env:=by rfl)
  (hfew:((backTo cpos (starEach [e] X.env)).all (λx=> !x.1) && (backToKw cpos (keywordEach [] X.env)).all (λx=>x.1.isSome) && decide (([e]:List Expr).length+([]:List Keyword).length+(if ([]:List Keyword).isEmpty then 0 else 1)<30))=true:=by rfl)
  (hline:(apos.endLine==cpos.line)=true:=by rfl) (hs:starEach [e] X.env=(false,eval e X.env)::starEach [] X.env:=by rfl) (hplain:(backTo cpos (starEach [] X.env)).any (·.1)=false:=by rfl) :
  PE X (.Call (.Attribute o "index" apos) [e] [] cpos) (tBM K "list" (λx vs H Q=>∃(a:Addr) (ys:List Str) (k:Str),(x= .ref a∧vs=[.str k])∧SqL K H a (ys.map V.str)∧k∈ys∧Q (.int ((ys.idxOf k:Nat):Int)) H) to t):=by
   subst hK
   exact zmM PySem.F.plainAttrs_list PySem.F.slot_list_index PySem.F.type_list_index zoR ho ha hbase hfew hline hs hplain
end
section
variable {Γ:Ctx} {K:W.Frag} {m:Bool} {ta tb:TE} {x:Str} {xs:List Str} {i:Int}
theorem zk9 (h1:Ev Γ ta false (dQ K (xs.map dS))) (h2:Ev Γ tb false (dS x)) (hx:x∈xs):Ev Γ (tBM K "list" (λx vs H Q=>∃(a:Addr) (ys:List Str) (k:Str),(x= .ref a∧vs=[.str k])∧SqL K H a (ys.map V.str)∧k∈ys∧Q (.int ((ys.idxOf k:Nat):Int)) H) ta (zdj tb zgo)) m (dI ((xs.idxOf x:Nat):Int)):=λF0 Hb F H σ own Q a k=>h1 F0 Hb F H σ own _ a λu F1 H1 g1 ⟨p,vs,e1,e2,e3⟩=>by
 rw [zbq (f:=V.str) e3] at e2
 have e4:SqL K F1 p (xs.map V.str):=za4.seq e2
 subst e1
 exact ⟨.inl ⟨rfl,_,g1.fh.seq e4⟩,h2 F0 Hb F1 H1 σ own _ (a.grow g1) λu' F2 H2 g2 q2=>by
  cases q2
  exact ⟨p,xs,x,⟨rfl,rfl⟩,g2.fh.seq (g2.f.seq e4),hx,k _ F2 H2 (g1.trans g2) rfl⟩⟩
theorem zmU (h1:Ev Γ ta false (dS x)) (h2:Ev Γ tb false (dT (xs.map dS))):Ev Γ (tOp (rIn K false) ta tb) m (dB (decide (x∈xs))):=λF0 Hb F H σ own Q a k=>h1 F0 Hb F H σ own _ a λu F1 H1 g1 q1=>h2 F0 Hb F1 H1 σ own _ (a.grow g1) λu' F2 H2 g2 ⟨p,vs,e1,e2,e3⟩=>by
 cases q1
 rw [zbq (f:=V.str) e3] at e2
 exact ⟨p,xs.map V.str,e1,.inr (.inl (.inl (g2.fh _ _ (za4 _ _ e2)))),rfl,zeR,k _ F2 H2 (g1.trans g2) (by show V.bl _=V.bl _;rw [if_neg Bool.false_ne_true,zfe])⟩
end
def rMulS:R2:=λx y H Q=>∃i n,x= .str i∧y= .int n∧MulOk i n∧Q (.str (Txt.mul i n)) H
theorem zfc {X:Cx}:OpR X (binaryOp .Mult) rMulS:=by
 intro pins s σ H x y v u Q I rx ry h
 obtain ⟨i,n,rfl,rfl,hz,q⟩:=h
 obtain ⟨t,rfl⟩:=(show∃t,v=Value.str i t from rx)
 obtain ⟨t',rfl⟩:=(show∃t,u=Value.int n t from ry)
 exact PySem.SB.mul hz λt' k=>⟨.str _,H,I.tok _,⟨_,rfl⟩,q⟩
theorem ziO {Γ:Ctx} {m:Bool} {ta tb:TE} {x:Str} {i:Int} (h1:Ev Γ ta false (dS x)) (h2:Ev Γ tb false (dI i)) (hz:MulOk x i):Ev Γ (tOp rMulS ta tb) m (dS (Txt.mul x i)):=λF0 Hb F H σ own Q a k=>h1 F0 Hb F H σ own _ a λu F1 H1 g1 q1=>h2 F0 Hb F1 H1 σ own _ (a.grow g1) λu' F2 H2 g2 q2=>by
 cases q1;
 cases q2
 exact ⟨x,i,rfl,rfl,hz,k _ F2 H2 (g1.trans g2) rfl⟩
end L2
namespace L2
open PySem PySem.Spec PyProof.Rows
def zqX (x:Str):Int:=(intText? x).getD 0
theorem zjj {X:Cx}:zeG X (.type "int") (λxs H Q=>∃x n,xs=[.str x]∧intText? x=some n∧x.length≤640∧Q (.int n) H):=by
 intro pins s σ H xs us Q I r h
 obtain ⟨x,n,rfl,hn,hl,q⟩:=h
 obtain ⟨u,rfl,r1⟩:=zgw r
 obtain ⟨t,rfl⟩:=(show∃t,u=Value.str x t from r1)
 exact W.KIN.call_text hn hl ⟨.int _,H,I.tok _,⟨_,rfl⟩,q⟩
theorem zqs {Γ:Ctx} {m:Bool} {ta:TE} {x:Str} (h1:Ev Γ ta false (dS x)) (hz:(intText? x).isSome=true∧x.length≤640):Ev Γ (tCB (λxs H Q=>∃x n,xs=[.str x]∧intText? x=some n∧x.length≤640∧Q (.int n) H) (zdj ta zgo)) m (dI (zqX x)):=λF0 Hb F H σ own Q a k=>h1 F0 Hb F H σ own _ a λu F1 H1 g1 q1=>by
 cases q1
 obtain ⟨n,hn⟩:=Option.isSome_iff_exists.mp hz.1
 exact ⟨x,n,rfl,hn,hz.2,k _ F1 H1 g1 (by show V.int n=V.int (zqX x);unfold zqX;rw [hn];rfl)⟩
end L2
namespace L2
open PySem PySem.Spec PyProof.Rows
def zfC:List Value->Option (List Str)
 | []=>some []
 | .str x _ :: r=>(zfC r).map (x:: ·)
 | _=>none
def zrC (K:W.Frag) (a:Addr):Option (List Str):=match K.lookup a with|some ⟨.type t,_,.seq its _,_⟩=>bif t=="tuple" && Nat.ble its.size 1000 then zfC its.toList else none|_=>none
theorem zjv:∀ {its:List Value} {xs:List Str},zfC its=some xs->zbH (xs.map V.str) its
 | [],xs,h=>by cases h;exact .nil
 | .str x t :: r,xs,h=>by
  cases e:zfC r with
   |none=>rw [zfC,e] at h;cases h
   |some ys=>
    rw [zfC,e] at h
    cases h
    exact .cons ⟨t,rfl⟩ (zjv e)
theorem zrd {K:W.Frag} {a:Addr} {xs:List Str} {H:Hp} (h:zrC K a=some xs):SqT K H a (xs.map V.str):=by
 unfold zrC at h
 split at h
 ·
  rename_i t d its n sl e
  cases q:(t=="tuple" && Nat.ble its.size 1000) with
   |false=>rw [q] at h;cases h
   |true=>
    rw [q,cond_true] at h
    obtain ⟨q1,q2⟩:=Bool.and_eq_true_iff.mp q
    have q1:t="tuple" :=by simpa using q1
    subst q1
    exact .inr ⟨_,its,n,e,rfl,rfl,Nat.le_trans (Nat.le_of_ble_eq_true q2) (by decide),zjv h⟩
 ·cases h
theorem zqK {Γ:Ctx} {K:W.Frag} {m:Bool} {ta:TE} {x:Str} {xs:List Str} {b:Addr} (h1:Ev Γ ta false (dS x)) (hk:zrC K b=some xs):Ev Γ (tOp (rIn K false) ta (tC (.ref b))) m (dB (decide (x∈xs))):=λF0 Hb F H σ own Q a k=>h1 F0 Hb F H σ own _ a λu F1 H1 g1 q1=>by
 cases q1
 exact ⟨b,xs.map V.str,rfl,.inr (zrd hk),rfl,zeR,k _ F1 H1 g1 (by show V.bl _=V.bl _;rw [if_neg Bool.false_ne_true,zfe])⟩
end L2
namespace L2
open PySem PySem.Spec PyProof.Rows
def zj3 (l:List Str) (x:Str):List Str:=if x∈l then l else l++[x]
def zgU (xs:List Str):List Str:=xs.foldl zj3 []
theorem zgJ {l:List Str} {x k:Str}:k∈zj3 l x↔k∈l∨k=x:=by
 unfold zj3
 by_cases h:x∈l
 ·rw [if_pos h];exact ⟨.inl,λz=>z.elim id λe=>e ▸ h⟩
 ·rw [if_neg h,List.mem_append,List.mem_singleton]
theorem zlD {l:List Str} {x:Str}:(zj3 l x).length=if x∈l then l.length else l.length+1:=by
 unfold zj3
 split
 ·rfl
 ·rw [List.length_append,List.length_singleton]
theorem zjF:∀(xs l:List Str),(xs.foldl zj3 l).length≤l.length+xs.length
 | [],l=>Nat.le_refl _
 | x :: xs,l=>by
  have h:=zjF xs (zj3 l x)
  have e:=zlD (l:=l) (x:=x)
  rw [List.foldl_cons,List.length_cons]
  split at e<;>omega
theorem zni (xs:List Str):(zgU xs).length≤xs.length:=by
 have:=zjF xs []
 simpa [zgU] using this
theorem zlo {xs:List Str} {i:Nat} {x:Str} (h:xs[i]?=some x):zgU (xs.take (i+1))=zj3 (zgU (xs.take i)) x:=by
 unfold zgU
 rw [List.take_succ,h]
 show List.foldl zj3 [] (xs.take i++[x])=_
 rw [List.foldl_append];
 rfl
def Sof (prog:Program) (w:World) (h:Heap) (a:Addr) (l:List Str):Prop:=h.SetOf (PySem.strKind prog w) a (λk=>decide (k∈l)) l.length
section
variable {prog:Program} {w:World} {A:Around} {R:Result->Shared->Prop} {I S:Addr} {fp wr:List Addr} {G:Array GenState->Array GenState->Prop} {St:Nat->Shared->Prop} {xs:List Str}
theorem Sof.keep {h h':Heap} {l:List Str} (x:Sof prog w h S l) (k:∀o,h.get? S=some o->h'.get? S=some o):Sof prog w h' S l:=by
 obtain ⟨o,es,ep,t,ho,r⟩:=x
 exact ⟨o,es,ep,t,k o ho,r⟩
theorem Sof.conv {h:Heap} {l':List Str} {f:Str->Bool} {n:Nat} (x:h.SetOf (PySem.strKind prog w) S f n) (e:∀k,f k=decide (k∈l')) (en:n=l'.length):Sof prog w h S l':=by
 have e2:f=λk=>decide (k∈l'):=funext e
 subst e2 en
 exact x
theorem zlh {n:Nat} {P:Nat->Value->Prop} (W:WalksS prog w A.in1 I fp wr G n P St) (hn:n=xs.length) (hP:∀i v,P i v->∃x t,xs[i]? =some x∧v=Value.str x t) (hSf:S ∉ fp) (hb:xs.length+1<scanBound):∀(k i:Nat) (s:Shared),i+k=xs.length->St i s->Sof prog w s.heap S (zgU (xs.take i))→(∀s',Moved (S::wr) G s s'->Sof prog w s'.heap S (zgU xs)->R (.ok (.ret .none)) s')->codeAny (model prog w) A (.builtin "set.update.loop" ⟨[.ref S,.ref I],[]⟩) R s
 | 0,i,s,hk,hst,hS,hR=>by
  have ei:i=n:=by omega
  subst ei
  rw [hn,List.take_length] at hS
  refine codeAny_builtin PyProof.Rows.F.entry_set_update_loop ?_
  rw [Around.under_plainId PyProof.Rows.F.plain_set_update_loop _]
  refine wpAny_bind (m:=pyNext (.ref I)) (W.done s _ _ hst λs' hm=> ?_)
  exact wpAny_pure (hR s' (hm.mono λb q=>List.mem_cons_of_mem _ q) (hS.keep λo e=>hm.heap S o (λq=>hSf (W.sub _ q)) e))
 | k+1,i,s,hk,hst,hS,hR=>by
  have up:∀b∈wr,b∈S::wr:=λb q=>List.mem_cons_of_mem _ q
  refine codeAny_builtin PyProof.Rows.F.entry_set_update_loop ?_
  rw [Around.under_plainId PyProof.Rows.F.plain_set_update_loop _]
  refine wpAny_bind (m:=pyNext (.ref I)) (W.item i s _ _ (by omega) hst λv s' hv hst' hm=> ?_)
  obtain ⟨x,t,hx,rfl⟩:=hP i v hv
  have hS1:Sof prog w s'.heap S (zgU (xs.take i)):=hS.keep λo e=>hm.heap S o (λq=>hSf (W.sub _ q)) e
  have hl:(zgU (xs.take i)).length+1<scanBound:=by
   have:=zni (xs.take i)
   have:=List.length_take_le i xs
   omega
  refine wpAny_bind (m:=holding [Value.str x t] (setAdd S (.str x t))) (wpAny_holding ?_)
  unfold setAdd
  refine wpAny_holding (wpAny_bind ((PySem.strKind prog w).pyHash (k:=x) (strKind_is _ _ _ _) ?_))
  refine wpAny_setAddHashed_of (knd:=PySem.strKind prog w) (s:= {s' with toks:=s'.toks+1}) (strKind_is _ _ _ _) rfl hS1 hl λh' hsb hS2=> ?_
  have hS3:Sof prog w h' S (zgU (xs.take (i+1))):=Sof.conv hS2 (λq=>by
   rw [zlo hx]
   by_cases z:q∈zgU (xs.take i)
   ·
    have:q∈zj3 (zgU (xs.take i)) x:=zgJ.mpr (.inl z)
    simp [z,this]
   ·
    by_cases y:q=x
    ·
     have:q∈zj3 (zgU (xs.take i)) x:=zgJ.mpr (.inr y)
     simp [y,zgJ]
    ·
     have:¬q∈zj3 (zgU (xs.take i)) x:=λc=>(zgJ.mp c).elim z y
     simp [z,y,this]) (by
   rw [zlo hx,zlD]
   by_cases z:x∈zgU (xs.take i)
   ·simp [z]
   ·simp [z])
  refine wpAny_pure ⟨plainId_quiet PyProof.Rows.F.plain_set_update_loop _,zlh W hn hP hSf hb k (i+1) _ (by omega) (W.frame _ s' _ _ hst' (Nat.le_succ _) λb q o e=> ?_) hS3 λs2 m2 S2=> ?_⟩
  ·rw [hsb.2 b (λz:b=S=>hSf (z ▸ q))];exact e
  ·
   refine hR s2 (Moved.trans W.gtrans ((hm.mono up).then_heap (Nat.le_succ _) λb o q e=> ?_) m2) S2
   rw [hsb.2 b (λz:b=S=>q (z ▸ List.mem_cons_self))];
   exact e
end
end L2
namespace L2
open PySem PySem.Spec PyProof.Rows
def zcT (b:Bool):Obj:= {cls:= .type "set",dict:=none,data:= .set #[] 0 (.fresh 0 0 b)}
set_option maxRecDepth 100000 in
set_option maxHeartbeats 8000000 in
theorem ziJ {prog:Program} {w:World} {A:Around} {E:Value->Shared->Prop} {s:Shared} {l:Addr} {ps:List (Str×Tok)} {Q:Value->Shared->Prop}
  (hh:A.handled=none) (hl:s.heap.IsList l (strValues ps).toArray) (hb:ps.length+1<scanBound)
  (h:∀ (h':Heap) (tk:Nat),Sof prog w h' s.heap.objs.size (zgU (ps.map (·.1)))->(∀ b o,b<s.heap.objs.size->s.heap.get? b=some o->h'.get? b=some o)->Q (.ref s.heap.objs.size) { s with heap:=h',toks:=tk }) :
  wpAny (model prog w) A (call (.type "set") [.ref l]) Q E s:=by
 obtain ⟨c,tl,hmro⟩:=PySem.F.called_set.mro
 have hmade:=PySem.F.called_set.made
 have hsub:=PySem.F.called_set.sub
 refine wpAny_call (codeAny_of_tree ?_)
 show wpAny _ _ (callAny (.type "set") _) _ _ _
 refine wpAny_pure ⟨Code.quiet_builtin _ (by decide +kernel),codeAny_builtin PySem.F.entry_type_call ?_⟩
 rw [Around.under_plain (weight_type_call_type "set" [.ref l] []) rfl]
 have h1:=PySem.F.called_set.notType
 have h2:=PySem.F.called_set.canCreate
 have hct:=PySem.F.typeCall_set_1 (.ref l)
 repeat (any_goals (first | assumption | wp_step))
 refine codeAny_mono (PySem.code_set_new_1 (.ref l) (E:=E) (Q₁:=λv s1=>∃ b:Bool,v=.ref s.heap.objs.size∧s1={ s with heap:=s.heap.push (zcT b) }) λb=>⟨b,rfl,rfl⟩) λr s1 hr=>?_
 cases r with
 | error e=>exact hr
 | ok f =>
  cases f with
  | ret obj =>
   obtain ⟨b,rfl,rfl⟩:=hr
   have hS:(s.heap.push (zcT b)).get? s.heap.objs.size=some (zcT b):=Heap.get?_push_size _ rfl
   have hT:Shared.TypeIs { s with heap:=s.heap.push (zcT b) } (.ref s.heap.objs.size) "set":=⟨_,hS,rfl⟩
   have hli:=PySem.F.called_set.init.lookup
   have hbi:=PySem.F.called_set.init.bind (.ref s.heap.objs.size)
   repeat (any_goals (first | assumption | wp_step))
   refine codeAny_mono (codeAny_call_builtin (R:=wants (λr s2=>r=.none∧∃ h' tk,s2={ s with heap:=h',toks:=tk }∧Sof prog w h' s.heap.objs.size (zgU (ps.map (·.1)))∧∀ b o,b<s.heap.objs.size->s.heap.get? b=some o->h'.get? b=some o) E) PySem.F.called_set.init.plain PySem.F.entry_set_init (PySem.check_set_init_1 hT ?_)) λr2 s2 hr2=>?_
   ·obtain ⟨⟨oc,od,odt,osl⟩,ho,hc,n,hd⟩:=hl
    simp only at hc hd
    subst hc hd
    have ho1:(s.heap.push (zcT b)).get? l=some { cls:=.type "list",dict:=od,data:=.seq (strValues ps).toArray n,slots:=osl }:=Heap.get?_push_of_some _ ho
    have z1:=PySem.F.sub_list_set
    have z2:=PySem.F.sub_list_frozenset
    have z3:(Value.type "list" == Value.type "dict")=false:=by decide
    have hl1:(s.heap.push (zcT b)).IsList l (strValues ps).toArray:=⟨_,ho1,rfl,n,rfl⟩
    unfold Builtin.«set.__init__» noKeywords Builtin.Frozenset.updateFrom
    generalize hPI:pyIter=PI
    wp_walk
    subst hPI
    refine wpAny_pyIter_list hl1 (wpAny_bind (wpAny_runValue ?_))
    have hlt:l<s.heap.objs.size:=Heap.lt_size ho
    have hz:(s.heap.push (zcT b)).objs.size=s.heap.objs.size+1:=Heap.size_push ..
    have W:=(Walks.list (prog:=prog) (w:=w) (A:=A.in1.in1.in1) (by simp [hh]) (s.heap.push (zcT b)).objs.size l (by rw [hz];exact Nat.ne_of_lt (Nat.lt_succ_of_lt hlt)) (strValues ps).toArray).toS
    have hlen:(strValues ps).toArray.size=(ps.map (·.1)).length:=by unfold strValues;simp
    have hSf:s.heap.objs.size ∉ [(s.heap.push (zcT b)).objs.size,l]:=by
     rw [hz]
     simp only [List.mem_cons,List.not_mem_nil,or_false,not_or]
     exact ⟨Nat.ne_of_lt (Nat.lt_succ_self _),Nat.ne_of_gt hlt⟩
    refine zlh (xs:=ps.map (·.1)) W hlen (λi v hv=>?_) hSf (by rw [List.length_map];exact hb) (ps.map (·.1)).length 0 _ (Nat.zero_add _) ⟨⟨_,Heap.get?_push_size _ rfl,rfl,rfl⟩,hl1.push _⟩ ?_ λs' hm hS'=>?_
    ·have hv:(strValues ps)[i]?=some v:=by simpa using hv
     unfold strValues at hv
     rw [List.getElem?_map] at hv
     cases q:ps[i]? with
     | none=>rw [q] at hv;cases hv
     | some p =>
      rw [q] at hv
      exact ⟨p.1,p.2,by rw [List.getElem?_map,q];rfl,(Option.some.inj hv).symm⟩
    ·have hg:((s.heap.push (zcT b)).push { cls:=.type "list_iterator",data:=.fields #[.ref l,.int 0 0] }).get? s.heap.objs.size=some (zcT b):=Heap.get?_push_of_some _ hS
     exact Sof.conv ((PyProof.Rows.setObjOf_fresh (knd:=PySem.strKind prog w) b).setOf hg (by unfold scanBound;omega)) (λ_=>rfl) rfl
    ·obtain ⟨h',g',d',tk',os'⟩:=s'
     have e1:g'=s.gens:=hm.gens
     have e2:d'=s.drawn:=hm.drawn
     have e3:os'=s.os:=hm.os
     subst e1 e2 e3
     show wpAny _ _ _ _ _ _
     refine wpAny_pure (wpAny_pure ⟨rfl,h',tk',rfl,hS',λa o ha e=>?_⟩)
     refine hm.heap a o ?_ (Heap.get?_push_of_some _ (Heap.get?_push_of_some _ e))
     rw [hz]
     simp only [List.mem_cons,List.not_mem_nil,or_false,not_or]
     exact ⟨Nat.ne_of_lt ha,Nat.ne_of_lt (Nat.lt_succ_of_lt ha)⟩
   ·cases r2 with
    | error e=>exact hr2
    | ok f2 =>
     cases f2 with
     | ret r =>
      obtain ⟨rfl,h',tk,rfl,hS',hk'⟩:=hr2
      repeat (any_goals (first | assumption | wp_step))
      exact h _ _ hS' hk'
     | _=>exact hr2.elim
  | _=>exact hr.elim
end L2
namespace L2
open PySem PySem.Spec PyProof.Rows
def znI (K:W.Frag) (te:TE):TE:=λσ H Q=>te σ H λv H1=>∃a ys,[v]=[V.ref a]∧SqL K H1 a (List.map V.str ys)∧ys.length+1<scanBound∧Q (.int ((zgU ys).length:Nat)) H1
theorem zoa:bootBuiltins "set" =some (.type "set"):=by decide+kernel
theorem zmE {X:Cx} {K:W.Frag} {e:Expr} {te:TE} {p p2 pos pos2:Pos} (hc:X.calm=true) (hK:X.K=K) (hg:Gl X "len") (hm:X.mg "len"=none) (hg2:Gl X "set") (hm2:X.mg "set"=none) (he:PE X e te)
  (st1:starEach [.Call (.Name "set" p2) [e] [] pos2] X.env=(false,eval (.Call (.Name "set" p2) [e] [] pos2) X.env)::starEach [] X.env:=by rfl) (st2:starEach [e] X.env=(false,eval e X.env)::starEach [] X.env:=by rfl) :
  PE X (.Call (.Name "len" p) [.Call (.Name "set" p2) [e] [] pos2] [] pos) (znI K te):=by
   subst hK
   intro pins s σ H Q I h
   refine wpAny_Call_Name_kw (zgn I hg hm PySem.boot_len ?_)
   refine PyProof.Rows.callWith_builtin1 ?_ st1 rfl
   rw [st1]
   refine Calls.spliced_cons ?_
   refine wpAny_Call_Name_kw (zgn I hg2 hm2 zoa ?_)
   refine PyProof.Rows.callWith_type1 (thn ((zbC he zcI st2) pos2 pins s σ H (λvs H1=>∃a ys,vs=[V.ref a]∧SqL X.K H1 a (List.map V.str ys)∧ys.length+1<scanBound∧Q (.int ((zgU ys).length:Nat)) H1) I h) λus s1 ⟨vs,H1,I1,r1,a,ys,ev,hq,hb,q⟩=> ?_) st2 rfl
   subst ev
   obtain ⟨u,rfl,ru⟩:=zgw r1
   cases ru
   obtain ⟨its,r,pl,hz⟩:=I1.list hq
   obtain ⟨l,rfl,rfl⟩:=ziS r
   refine ziJ (I1.ok.hd hc) pl.isList (by simpa using hb) λh' tk hS hk=> ?_
   obtain ⟨o,es,ep,t,ho,hex,hd,hel,hmem,hbd,hf,hn⟩:=hS
   have hl:=zni (l.map (·.1))
   have hs:scanBound=4096:=rfl
   refine wpAny_pure ?_
   refine call_len_set ho hex hd hf (by omega) ?_
   exact ⟨.int _,H1,I1.kept (t':=_) λb o e=>hk b o (Heap.lt_size e) e,⟨_,by rw [hn]⟩,q⟩
theorem zn3 {Γ:Ctx} {K:W.Frag} {m:Bool} {te:TE} {xs:List Str} (h:Ev Γ te false (dQ K (xs.map dS))) (hb:xs.length+1<4096):Ev Γ (znI K te) m (dI (((zgU xs).length:Nat):Int)):=λF0 Hb F H σ own Q a k=>h F0 Hb F H σ own _ a λu F1 H1 g1 ⟨p,vs,e1,e2,e3⟩=>by
 rw [zbq (f:=V.str) e3] at e2
 exact ⟨p,xs,by rw [e1],g1.fh.seq (za4.seq e2),hb,k _ F1 H1 g1 rfl⟩
end L2
namespace L2
open PySem PySem.Spec PyProof.Rows
end L2
namespace L2
open PySem PySem.Spec PyProof.Rows
def zjl (R:Hp) (v:V) (ns:List Str):Prop:=∃r,v= .ref r∧R r=some (.lst (List.map V.str ns))
def dRS (nss:List (List Str)):Ds:=⟨λR v=>∃p vs,v= .ref p∧R p=some (.lst vs)∧vs.Nodup∧V.ref p∉vs∧Paired (zjl R) vs nss,λe ⟨p,vs,h1,h2,h3,h4,h5⟩=>⟨p,vs,h1,e _ _ h2,h3,h4,zbR (λ_ _ ⟨r,q1,q2⟩=>⟨r,q1,e _ _ q2⟩) h5⟩⟩
theorem zqh {R:Hp} {v:V} {nss:List (List Str)} (h:(dRS nss).pr R v):(dL (nss.map λl=>dL (l.map dS))).pr R v:=by
 obtain ⟨p,vs,rfl,h2,h3,h4,h5⟩:=h
 refine ⟨p,vs,rfl,h2,?_⟩
 clear h2 h3 h4
 induction h5 with
  |nil=>exact .nil
  |cons q _ ih=>
   obtain ⟨r,rfl,q2⟩:=q
   exact .cons ⟨r,_,rfl,q2,zku⟩ ih
section
variable {E:XS} {Γ:Ctx} {m:Bool} {K:W.Frag} {te tj:TE} {u:TS} {o:Oc} {i:Nat} {nss:List (List Str)}
theorem zsC {t:TE} (h:Ev Γ t m (dRS nss)):Ev Γ t m (dL (nss.map λl=>dL (l.map dS))):=λF0 Hb F H σ own Q a k=>h F0 Hb F H σ own Q a λv F' H' g q=>k v F' H' g (zqh q)
theorem zjI {R:Hp} {r:Addr} {new:List Str}:∀ {vs:List V} {nss:List (List Str)} {j:Nat},Paired (zjl R) vs nss->vs.Nodup->vs[j]? =some (.ref r)->Paired (zjl (upd R r (.lst (new.map V.str)))) vs (nss.set j new)
 | _,_,_,.nil,_,h=>by simp at h
 | v :: vs,ns :: nss,0,.cons q t,hN,h=>by
  have h:v= .ref r:=by simpa using h
  subst h
  refine .cons ⟨r,rfl,zat⟩ ?_
  have hn1:=(List.nodup_cons.mp hN).1
  clear q h hN
  induction t with
   |nil=>exact .nil
   | @ cons a b as bs q t ih=>
    obtain ⟨r',rfl,q2⟩:=q
    have hne:r'≠r:=λz=>hn1 (by rw [z];exact List.mem_cons_self)
    exact .cons ⟨r',rfl,by rw [zai hne];exact q2⟩ (ih λz=>hn1 (List.mem_cons_of_mem _ z))
 | v :: vs,ns :: nss,j+1,.cons q t,hN,h=>by
  have hN:=List.nodup_cons.mp hN
  have h:vs[j]? =some (.ref r):=by simpa using h
  obtain ⟨r',rfl,q2⟩:=q
  have hne:r'≠r:=λz=>hN.1 (by rw [z];exact List.mem_of_getElem? h)
  exact .cons ⟨r',rfl,by rw [zai hne];exact q2⟩ (zjI t hN.2 h)
theorem At.rowS {F0 Hb F H:Hp} {σ:St} {own:Nat->Option Addr} (a:At F0 Hb F H σ own Γ) (e:Γ[i]? =some (.tl (dRS nss))) (hno:zpX Γ=true) {k:Int} (hk:InB nss.length k) :
  ∃p vs r,σ[i]? =some (some (.ref p))∧H p=some (.lst vs)∧atI vs k=some (.ref r)∧H r=some (.lst ((ixD nss k).map V.str))∧∀(H':Hp) (new:List Str),Same H H'->At F0 Hb F (upd H' r (.lst (new.map V.str))) σ own ((unC Γ).set i (.tl (dRS (zeD nss k new)))):=by
   obtain ⟨x,R,h1,h2,h3,h4,p,vs,rfl,h6,h7,h8,h9⟩:=a.sl i _ e
   have hi:i<σ.length:=by rw [a.len];exact (List.getElem?_eq_some_iff.mp e).1
   have e':σ[i]? =some (some (.ref p)):=by
    rw [List.getElem?_eq_getElem hi] at h1 ⊢
    exact congrArg some h1
   have hl:=Paired.length h9
   obtain ⟨j,ej,hj,_⟩:=zh6 hk
   obtain ⟨v,ev,⟨r,rfl,hr⟩⟩:=za2 h9 (List.getElem?_eq_getElem (l:=nss) (i:=j) hj)
   have ex:ixD nss k=nss[j]:=by
    unfold ixD atI
    rw [ej]
    show (nss[j]?).getD default=_
    rw [List.getElem?_eq_getElem hj];
    rfl
   have es:∀new,zeD nss k new=nss.set j new:=λnew=>by unfold zeD;rw [ej]
   have rF:=h3 r _ hr
   have rO:∀l,own l≠some r:=λl z=>by rw [h4 l r z] at hr;cases hr
   have rp:p≠r:=λz=>h8 (by rw [z];exact List.mem_of_getElem? ev)
   refine ⟨p,vs,r,e',h2 _ _ h6,?_,by rw [ex];exact h2 _ _ hr,λH' new hs=> ?_⟩
   ·
    unfold atI
    rw [hl,ej]
    exact ev
   ·
    have a1:=(a.grow (Grow.only a.fh hs)).spoil hno (.lst (new.map V.str)) rF.1 rF.2 rO
    refine ⟨a1.g,a1.inj,a1.liv,λl s es'=> ?_,by rw [List.length_set];exact a1.len⟩
    by_cases z:i=l
    ·
     subst z
     rw [List.getElem?_set_self (by rw [←a1.len];exact hi)] at es'
     cases es'
     rw [e']
     refine ⟨.ref p,upd R r (.lst (new.map V.str)),rfl,λb w q=> ?_,λb w q=> ?_,λl' b q=> ?_,p,vs,rfl,by rw [zai rp];exact h6,h7,h8,by rw [es];exact zjI h9 h7 ev⟩
     ·
      by_cases y:b=r
      ·subst y;rw [zat] at q ⊢;exact q
      ·rw [zai y] at q ⊢;exact hs _ _ (h2 _ _ q)
     ·
      by_cases y:b=r
      ·subst y;exact rF
      ·rw [zai y] at q;exact h3 b w q
     ·
      have y:b≠r:=λy=>rO l' (y ▸ q)
      rw [zai y];
      exact h4 l' b q
    ·
     rw [List.getElem?_set_ne z] at es'
     exact a1.sl l s es'
theorem zm0 {k:Int} {v:Str} (e:Γ[i]? =some (.tl (dRS nss))) (hno:zpX Γ=true) (hj:Ev Γ tj false (dI k)) (hk:InB nss.length k) (hv:Ev Γ te m (dS v)) (hz:(ixD nss k).length<sizeLine) (kk:Run E ((unC Γ).set i (.tl (dRS (zeD nss k (ixD nss k++[v]))))) u o) :
  Run E Γ (zdD (zjo (tBM K "list" zf9 (tOp (zrf K) (zhX i) tj) (zdj te zgo))) u) o:=λF0 Hb F H σ own D a q=>by
   obtain ⟨p,vs,r,s1,s2,s3,s4,s5⟩:=a.rowS e hno hk
   refine ⟨_,s1,hj F0 Hb F H σ own _ a λvk F1 H1 g1 qk=> ?_⟩
   have qk:vk= .int k:=qk
   subst qk
   refine ⟨p,vs,k,_,rfl,rfl,SqL.of (g1.h _ _ s2),s3,.inl ⟨rfl,_,SqL.of (g1.h _ _ s4)⟩,?_⟩
   refine hv F0 Hb F H1 σ own _ (a.grow (Grow.only a.fh g1.h)) λw F2 H2 g2 qw=> ?_
   have qw:w= .str v:=qw
   subst qw
   refine ⟨r,_,_,rfl,rfl,g2.h _ _ (g1.h _ _ s4),by rw [List.length_map];exact hz,?_⟩
   have:=s5 H2 (ixD nss k++[v]) (g1.h.trans g2.h)
   rw [List.map_append] at this
   exact kk F0 Hb F _ σ own D this q
theorem znf {tr:TA} (h:EvA Γ tr true []):Ev Γ (ztN tr) true (dRS []):=λF0 Hb F H σ own Q a k=>zbM h F0 Hb F H σ own Q a λp vs F' H' g h1 h2 h3 q=>by
 cases q
 exact k (.ref p) (upd F' p (.lst [])) H' (g.take h1 h3) ⟨p,[],rfl,zdb.mpr ⟨a.g.h.free h1,zat⟩,.nil,by simp,.nil⟩
theorem zko {te:TE} {i:Nat} {nss:List (List Str)} {ns:List Str} (e:Γ[i]? =some (.tl (dRS nss))) (hno:zpX Γ=true) (hv:EvO Γ te true (ns.map dS)) (hz:nss.length<sizeLine) (kk:Run E ((unC Γ).set i (.tl (dRS (nss++[ns])))) u o) :
  Run E Γ (zdD (zjo (tBM K "list" zf9 (zhX i) (zdj te zgo))) u) o:=λF0 Hb F H σ own D a q=>by
   obtain ⟨x,R,h1,h2,h3,h4,p,vs,rfl,h6,h7,h8,h9⟩:=a.sl i _ e
   have hi:i<σ.length:=by rw [a.len];exact (List.getElem?_eq_some_iff.mp e).1
   have e':σ[i]? =some (some (.ref p)):=by
    rw [List.getElem?_eq_getElem hi] at h1 ⊢
    exact congrArg some h1
   have hp:=h2 _ _ h6
   refine ⟨_,e',.inl ⟨rfl,_,SqL.of hp⟩,?_⟩
   refine hv F0 Hb F H σ own _ a λr ws F1 H1 g1 r1 r2 r3 q1=> ?_
   have ew:=zbq (f:=V.str) q1
   subst ew
   have rp:r≠p:=λz=>by rw [z,hp] at r1;cases r1
   refine ⟨p,vs,_,rfl,rfl,g1.h _ _ hp,by rw [Paired.length h9];exact hz,?_⟩
   have pF:=h3 p _ h6
   have pO:∀l,own l≠some p:=λl z=>by rw [h4 l p z] at h6;cases h6
   have a1:=(a.grow (Grow.only a.fh g1.h)).spoil hno (.lst (vs++[.ref r])) pF.1 pF.2 pO
   have rF:F r=none:=by
    cases z:F r with
     |none=>rfl
     |some o=>rw [a.fh _ _ z] at r1;cases r1
   refine kk F0 Hb F _ σ own D ?_ q
   refine ⟨a1.g,a1.inj,a1.liv,λl s es'=> ?_,by rw [List.length_set];exact a1.len⟩
   by_cases z:i=l
   ·
    subst z
    rw [List.getElem?_set_self (by rw [←a1.len];exact hi)] at es'
    cases es'
    rw [e']
    have rn:∀r',R r'≠none->r'≠r:=λr' w z=>by
     cases y:R r' with
      |none=>exact w y
      |some o=>have:=h2 _ _ y;rw [z,r1] at this;cases this
    refine ⟨.ref p,upd (upd R p (.lst (vs++[.ref r]))) r (.lst (ns.map V.str)),rfl,λb w q=> ?_,λb w q=> ?_,λl' b q=> ?_,p,vs++[.ref r],rfl,by rw [zai (Ne.symm rp),zat],?_,?_,?_⟩
    ·
     by_cases y:b=r
     ·subst y;rw [zat] at q;cases q;rw [zai rp];exact r3
     ·
      rw [zai y] at q
      by_cases y2:b=p
      ·subst y2;rw [zat] at q ⊢;exact q
      ·rw [zai y2] at q ⊢;exact g1.h _ _ (h2 _ _ q)
    ·
     by_cases y:b=r
     ·subst y;exact ⟨rF,a.g.h.free r1⟩
     ·
      rw [zai y] at q
      by_cases y2:b=p
      ·subst y2;exact pF
      ·rw [zai y2] at q;exact h3 b w q
    ·
     have y:b≠r:=λy=>a.liv l' b q (by rw [y];exact r1)
     have y2:b≠p:=λy=>pO l' (y ▸ q)
     rw [zai y,zai y2];
     exact h4 l' b q
    ·
     refine List.nodup_append.mpr ⟨h7,by simp,λv hv w hw z=> ?_⟩
     rw [List.mem_singleton.mp hw] at z
     subst z
     obtain ⟨n,hn⟩:=List.getElem?_of_mem hv
     have hl:=Paired.length h9
     obtain ⟨v',e',⟨r',er,hr⟩⟩:=za2 h9 (List.getElem?_eq_getElem (l:=nss) (i:=n) (by have:=(List.getElem?_eq_some_iff.mp hn).1;omega))
     rw [hn] at e'
     cases e'
     cases er
     exact rn _ (by rw [hr];simp) rfl
    ·
     intro z
     rcases List.mem_append.mp z with z|z
     ·exact h8 z
     ·
      have:=List.mem_singleton.mp z
      cases this
      exact rp rfl
    ·
     refine zcp ?_ (.cons ⟨r,rfl,zat⟩ .nil)
     have key:∀v∈vs,∀ns',zjl R v ns'->zjl (upd (upd R p (.lst (vs++[.ref r]))) r (.lst (ns.map V.str))) v ns':=λv hv ns' ⟨r',z1,z2⟩=>by
      subst z1
      refine ⟨r',rfl,?_⟩
      rw [zai (rn _ (by rw [z2];simp)),zai (λz=>h8 (by rw [←z];exact hv))]
      exact z2
     exact zh9 h9 key
   ·
    rw [List.getElem?_set_ne z] at es'
    exact a1.sl l s es'
end
end L2
namespace L2
open PySem PySem.Spec PyProof.Rows
theorem zns {Γ:Ctx} {K:W.Frag} {m n:Bool} {ta:TE} {i:Nat} {x:Str} {xs:List Str} (e:Γ[i]? =some (.ow n (xs.map dS))) (h1:Ev Γ ta false (dS x)):Ev Γ (tOp (rIn K false) ta (zhX i)) m (dB (decide (x∈xs))):=λF0 Hb F H σ own Q a k=>h1 F0 Hb F H σ own _ a λu F1 H1 g1 q1=>by
 cases q1
 obtain ⟨p,vs,e1,e2,e3,e4,e5,e6⟩:=zg5 (a.grow g1) e
 rw [zbq (f:=V.str) e6] at e5
 exact ⟨_,e1,p,xs.map V.str,rfl,.inl (SqL.of e5),rfl,zeR,k _ F1 H1 g1 (by show V.bl _=V.bl _;rw [if_neg Bool.false_ne_true,zfe])⟩
end L2
namespace L2
open PySem PySem.Spec PyProof.Rows
theorem zl8 {X:Cx} {K:W.Frag} {o e:Expr} {to:TE} {t:TA} {apos cpos:Pos} (hK:X.K=K) (ho:PE X o to) (ha:PA X [e] t)
  (hbase:attributeBase o "pop" X.env (eval o X.env)=eval o X.env:=by rfl)
  (hfew:((backTo cpos (starEach [e] X.env)).all (λx=> !x.1) && (backToKw cpos (keywordEach [] X.env)).all (λx=>x.1.isSome) && decide (([e]:List Expr).length+([]:List Keyword).length+(if ([]:List Keyword).isEmpty then 0 else 1)<30))=true:=by rfl)
  (hline:(apos.endLine==cpos.line)=true:=by rfl) (hs:starEach [e] X.env=(false,eval e X.env)::starEach [] X.env:=by rfl) (hplain:(backTo cpos (starEach [] X.env)).any (·.1)=false:=by rfl) :
  PE X (.Call (.Attribute o "pop" apos) [e] [] cpos) (tBM K "list" zmt to t):=by
   subst hK
   exact zmM PySem.F.plainAttrs_list PySem.F.slot_list_pop PySem.F.type_list_pop zov ho ha hbase hfew hline hs hplain
theorem zo0 {α:Type} {E:XS} {Γ:Ctx} {K:W.Frag} {i:Nat} {m:Bool} {f:α->Ds} {xs:List α} {u:TS} {o:Oc} (e:Γ[i]? =some (.ow m (xs.map f))) (hz:0<xs.length) (k:Run E (Γ.set i (.ow m (xs.tail.map f))) u o):Run E Γ (zdD (zjo (tBM K "list" zmt (zhX i) (zdj (tC (.int 0)) zgo))) u) o:=λF0 Hb F H σ own D a q=>by
 obtain ⟨p,vs,e1,e2,e3,e4,e5,e6⟩:=zg5 a e
 refine ⟨_,e1,.inl ⟨rfl,_,SqL.of e5⟩,?_⟩
 cases xs with
  |nil=>exact absurd hz (Nat.lt_irrefl 0)
  |cons x xs=>
   cases e6 with
    | @ cons v d vs' ds' q1 q2=>
     refine ⟨p,v::vs',0,0,v,rfl,rfl,e5,by decide,by decide,?_,rfl,k F0 Hb F _ σ own D (a.turn e e1 q2) q⟩
     unfold seqIndex?
     simp
end L2
namespace L2
open PySem PySem.Spec PyProof.Rows
section
variable {Γ:Ctx}
theorem At.setOb {F0 Hb F1 H1 F H:Hp} {σ:St} {own:Nat->Option Addr} (a1:At F0 Hb F1 H1 σ own Γ) (g:Grow F1 H1 F H) (i:Nat) {m:Bool} {C:Addr} {fs:List (Str×Ds)} {p dx:Addr} {vs:List (Str×V)} (h1:H1 p=none) (h2:H1 dx=none) (hf:F p=none) (hd:F dx=none) (hp:H p=some (.ins C dx vs)) (hx:H dx=some (.own p))
  (h:Paired (λ(a:Str×V) (b:Str×Ds)=>a.1=b.1∧b.2.pr (zfp m F Hb) a.2) vs fs):At F0 Hb F H (σ.set i (some (.ref p))) (λj=>if j=i then some p else own j) (Γ.set i (.ob m C p dx fs)):=by
   have a:=a1.grow g
   have hb:Hb p=none:=a1.g.h.free h1
   have hbd:Hb dx=none:=a1.g.h.free h2
   have ho:∀j,own j≠some p:=λj e=>a1.liv j p e h1
   refine ⟨a.g,λj k q e1 e2=> ?_,λj q e=> ?_,λj s e=> ?_,by simp [a.len]⟩
   ·
    skip
    split at e1<;>split at e2
    ·omega
    ·cases e1;exact absurd e2 (ho k)
    ·cases e2;exact absurd e1 (ho j)
    ·exact a.inj j k q e1 e2
   ·
    skip
    split at e
    ·cases e;rw [hp];simp
    ·exact a.liv j q e
   ·
    by_cases z:i=j
    ·
     subst z
     have hi:i<Γ.length:=by
      have:=(List.getElem?_eq_some_iff.mp e).1
      simpa using this
     rw [List.getElem?_set_self hi] at e
     cases e
     rw [zdt (by rw [a.len];exact hi)]
     exact ⟨vs,rfl,by simp,⟨hf,hd⟩,⟨hb,hbd⟩,⟨hp,hx⟩,h⟩
    ·
     rw [List.getElem?_set_ne z] at e
     rw [zew z]
     have z':¬j=i:=Ne.symm z
     cases s with
      |tl d=>
       obtain ⟨x,R,q1,q2,q3,q4,q5⟩:=a1.sl j _ e
       refine ⟨x,R,q1,q2.trans g.h,λb o w=>⟨g.no b (by rw [q2 _ _ w];simp) (q3 b o w).1,(q3 b o w).2⟩,λk q w=> ?_,q5⟩
       dsimp only at w
       split at w
       ·cases w;exact q2.free h1
       ·exact q4 k q w
      |no=>trivial
      |va m d=>exact a.sl j _ e
      |ow m ds=>
       obtain ⟨q,us,w1,w2,w3⟩:=a.sl j _ e
       exact ⟨q,us,w1,(if_neg z').trans w2,w3⟩
      |ol q ds=>
       obtain ⟨us,w1,w2,w3⟩:=a.sl j _ e
       exact ⟨us,w1,(if_neg z').trans w2,w3⟩
      |ob m C q dx fs=>
       obtain ⟨us,w1,w2,w3⟩:=a.sl j _ e
       exact ⟨us,w1,(if_neg z').trans w2,w3⟩
theorem zjA {E:XS} {u:TS} {o:Oc} {j:Nat} {K:W.Frag} {ds:List Ds} {tr:TA} {E1:XK} {ι:Type} {C:Addr} {args:ι->List Ds} {pre:ι->Prop} {m:Bool} {fs:ι->List (Str×Ds)} (i:ι) (h:EvA Γ tr false ds) (ha:ds=args i) (hp:pre i) (k:∀p dx,Run E (Γ.set j (.ob m C p dx (fs i))) u o) :
  Run E Γ (zdD (zl9 (zoY C (zr2 C args pre m fs) [] E1 tr) (zds j)) u) o:=λF0 Hb F H σ own D a q=>by
   subst ha
   refine h F0 Hb F H σ own _ a λvs F1 H1 g1 q1 p dx h1 h2 h3=>⟨i,p,dx,vs,H1,F1,by rw [List.append_nil],h1,h2,h3,rfl,g1.fh,q1,hp,λus F' H' g n1 n2 e1 e2 e3=>⟨rfl,?_⟩⟩
   exact k p dx F0 Hb F' H' _ _ D ((a.grow g1).setOb g j h1 h2 n1 n2 e1 e2 (zbR (λ_ b q=>⟨q.1,b.2.up (zfE (a.g.h.trans g1.h)) q.2⟩) e3)) q
end
def SpvO {ι:Type} (C:Addr) (fs:ι->List (Str×Ds)) (args:ι->List Ds) (pre:ι->Prop) (res:ι->Ds) (fs':ι->List (Str×Ds)):Sp:=λvs H Q _=>∃(i:ι) (p dx:Addr) (us:List (Str×V)) (ws:List V) (H1 F:Hp),vs= .ref p::ws∧H1 p=none∧H1 dx=none∧dx≠p∧H=upd (upd H1 dx (.own p)) p (.ins C dx us)∧Same F H1∧Paired (λ(a:Str×V) (b:Str×Ds)=>a.1=b.1∧b.2.pr F a.2) us (fs i)∧Paired (λv (d:Ds)=>d.pr F v) ws (args i)∧pre i∧∀v us' F' H',Grow F H1 F' H'->F' p=none->F' dx=none->H' p=some (.ins C dx us')->H' dx=some (.own p)->Paired (λ(a:Str×V) (b:Str×Ds)=>a.1=b.1∧b.2.pr F' a.2) us' (fs' i)->(res i).pr F' v->Q v H'
def znL (C p dx:Addr) (N:List Str) (fs:List (Str×Ds)) (ds:List Ds):Ctx:= .ob false C p dx fs::(ds.map (.va false)++List.replicate (N.length-(ds.length+1)) .no)
section
variable {P:Program} {w:World} {K:W.Frag} {mg:Str->Option Value} {base:Heap} {x qual:Str} {st:Stmt} {f:Addr} {fd:FuncData} {N ps:List Str} {k:Nat}
theorem zmZ {F H1:Hp} {C p dx:Addr} {N:List Str} {us:List (Str×V)} {ws:List V} {fs:List (Str×Ds)} {ds:List Ds} (hF:Same F H1) (hu:Paired (λ(a:Str×V) (b:Str×Ds)=>a.1=b.1∧b.2.pr F a.2) us fs) (hv:Paired (λv (d:Ds)=>d.pr F v) ws ds) (h1:H1 p=none) (h2:H1 dx=none) (h3:dx≠p) :
  At F H1 F (upd (upd H1 dx (.own p)) p (.ins C dx us)) (start N (.ref p::ws)) (λi=>if i=0 then some p else none) (znL C p dx N fs ds):=by
   have hl:=Paired.length hv
   have n1:upd H1 dx (.own p) p=none:=by rw [zai (Ne.symm h3)];exact h1
   have g:Grow F H1 F (upd (upd H1 dx (.own p)) p (.ins C dx us)):=((Grow.refl hF).newH h2).newH n1
   refine ⟨g,λi j q e1 e2=> ?_,λi q e=> ?_,λi s e=> ?_,?_⟩
   ·
    split at e1
    ·
     split at e2
     ·omega
     ·cases e2
    ·cases e1
   ·
    split at e
    ·cases e;rw [zat];simp
    ·cases e
   ·
    cases i with
     |zero=>
      have e':Slot.ob false C p dx fs=s:=Option.some.inj e
      subst e'
      exact ⟨us,rfl,rfl,⟨hF.free h1,hF.free h2⟩,⟨h1,h2⟩,⟨zat,by rw [zai h3];exact zat⟩,hu⟩
     |succ i=>
      have e:(ds.map (Slot.va false)++List.replicate (N.length-(ds.length+1)) Slot.no)[i]? =some s:=e
      show zeV H1 F _ _ _ ((ws.map some++List.replicate (N.length-(ws.length+1)) none)[i]?).join s
      by_cases hi:i<ds.length
      ·
       rw [List.getElem?_append_left (by simpa using hi),List.getElem?_map] at e
       rw [List.getElem?_append_left (by simpa [hl] using hi),List.getElem?_map]
       obtain ⟨v,ev,rv⟩:=za2 hv (List.getElem?_eq_getElem hi)
       rw [List.getElem?_eq_getElem hi] at e
       have e':Slot.va false ds[i]=s:=Option.some.inj e
       subst e'
       exact ⟨v,by rw [ev];rfl,rv⟩
      ·
       rw [List.getElem?_append_right (by simpa using hi),List.getElem?_replicate] at e
       split at e
       ·cases e;trivial
       ·cases e
   ·unfold start znL;simp [hl]
theorem Fun.okO {ι:Type} {C:Addr} {fs:ι->List (Str×Ds)} {args:ι->List Ds} {pre:ι->Prop} {res:ι->Ds} {fs':ι->List (Str×Ds)} (F:Fun K x qual st f fd) (S:FnScope N ps (zag st)) (hl:∀i,(args i).length+1=ps.length)
  (hbody:∀(cdv:Value) (A:Around) (outer:List Env) (s:Shared) (H:Hp) (E:XK) (i:ι),Room k (A.deeper (envOfC qual (zag st) s.heap.objs.size f cdv))->pre i→∃t,PSs (zoW (CXE P w) P w K mg base N qual (zag st) f cdv A outer s H E).nox (zdA st) t∧∀p dx,∃Δ,Run (λ_=>E) (znL C p dx N (fs i) (args i)) t (.rw Δ (res i))∧Δ[0]? =some (.ob false C p dx (fs' i))):FnOk P w K mg base (CXE P w) (k+1) f fd ps (SpvO C fs args pre res fs'):=by
   refine F.okN S (λvs H Q E ⟨i,p,dx,us,ws,H1,F',e,_,_,_,_,_,_,hv,_⟩=>by rw [e,List.length_cons,Paired.length hv];exact hl i) λcdv A outer s H vs Q E hr ⟨i,p,dx,us,ws,H1,F',e,h1,h2,h3,h4,hF,hu,hv,hp,hq⟩=> ?_
   subst e h4
   obtain ⟨t,t1,t2⟩:=hbody cdv A outer s _ E i hr hp
   obtain ⟨Δ,t2,t3⟩:=t2 p dx
   refine ⟨_,t1,?_⟩
   refine t2 F' H1 F' _ _ _ _ (zmZ hF hu hv h1 h2 h3) λv F2 H2 σ2 own2 a2 q2=> ?_
   obtain ⟨us',e1,e2,e3,e4,e5,e6⟩:=a2.sl 0 _ t3
   exact hq v us' F2 H2 a2.g e3.1 e3.2 e5.1 e5.2 e6 q2
end
section
variable {E:XS} {Γ Δ:Ctx} {m b:Bool} {K:W.Frag} {te ta tb:TE} {t u r:TS} {d:Ds} {es:List Ds} {o:Oc} {i j:Nat} {C p dx:Addr}
theorem zha {n:Str} {R:Str×V->Str×Ds->Prop}:∀ {vs:List (Str×V)} {fs:List (Str×Ds)},Paired (λa b=>a.1=b.1∧R a b) vs fs->(fs.map Prod.fst).contains n=false->vs.lookup n=none
 | _,_,.nil,_=>rfl
 | _,_,.cons (a:=(a1,a2)) (b:=y) w t,z=>by
  rw [List.map_cons,List.contains_cons,Bool.or_eq_false_iff] at z
  rw [List.lookup_cons]
  have:(n==a1)=false:=by rw [show a1=y.1 from w.1];exact z.1
  rw [this]
  exact zha t z.2
theorem zet {ι:Type} {fs fs0:List (Str×Ds)} {fa:ι->List (Str×Ds)} {args:ι->List Ds} {pre:ι->Prop} {res:ι->Ds} {fb:ι->List (Str×Ds)} {tr:TA} {E:XK} {n:Str} (x:ι) (e:Γ[i]? =some (.ob m C p dx fs)) (h:EvA Γ tr false es) (hd:fs=fa x) (ha:es=args x) (hp:pre x) (hr:res x=d) (ho:fb x=fs0) (hn:(fs.map Prod.fst).contains n=false) :
  EvM Γ (Γ.set i (.ob false C p dx fs0)) (zoN C n (SpvO C fa args pre res fb) [] E (zhX i) tr) d:=λF0 Hb F H σ own Q a k=>by
   subst hd ha hr ho
   have hi:i<σ.length:=by rw [a.len];exact (List.getElem?_eq_some_iff.mp e).1
   obtain ⟨vs0,z1,_,_,_,z5,z6⟩:=a.sl i _ e
   have e':σ[i]? =some (some (.ref p)):=by
    rw [List.getElem?_eq_getElem hi] at z1 ⊢
    exact congrArg some z1
   refine ⟨_,e',p,dx,vs0,rfl,z5.1,zha z6 hn,h F0 Hb F H σ own _ a λvs F1 H1 g1 q1=> ?_⟩
   have a1:=a.grow g1
   obtain ⟨vs1,w1,w2,w3,w4,w5,w6⟩:=a1.sl i _ e
   have ne:dx≠p:=λz=>by
    have h1:=w5.1;
    have h2:=w5.2
    rw [z] at h2
    rw [h1] at h2;
    cases h2
   have hE:∀b,b≠p->b≠dx->(if b=p∨b=dx then none else H1 b)=H1 b:=λb n1 n2=>by rw [if_neg (by simp [n1,n2])]
   have hEp:(λb=>if b=p∨b=dx then none else H1 b) p=none:=if_pos (.inl rfl)
   have hEd:(λb=>if b=p∨b=dx then none else H1 b) dx=none:=if_pos (.inr rfl)
   have sE:∀ {R:Hp},Same R H1->R p=none->R dx=none->Same R (λb=>if b=p∨b=dx then none else H1 b):=λhR n1 n2 b w z=>by
    have b1:b≠p:=λy=>by rw [y,n1] at z;cases z
    have b2:b≠dx:=λy=>by rw [y,n2] at z;cases z
    show (if b=p∨b=dx then none else H1 b)=some w
    rw [hE b b1 b2];
    exact hR b w z
   refine ⟨x,p,dx,vs1,vs,λb=>if b=p∨b=dx then none else H1 b,F1,by rw [List.append_nil],hEp,hEd,ne,?_,sE a1.fh w3.1 w3.2,zbR (λ_ b z=>⟨z.1,b.2.up za4 z.2⟩) w6,?_,hp,λv us F' H' g n1 n2 h1 h2 h3 h4=> ?_⟩
   ·
    funext b
    by_cases b1:b=p
    ·rw [b1,zat,w5.1]
    ·
     rw [zai b1]
     by_cases b2:b=dx
     ·rw [b2,zat,w5.2]
     ·rw [zai b2,hE b b1 b2]
   ·exact q1
   ·
    have gg:Grow F1 H1 F' (upd H' p (.ins C dx vs1)):=by
     refine ⟨g.f,λb w z=> ?_,λb w z=> ?_,λb z1 z2=> ?_⟩
     ·rw [zai (λy=>by rw [y,n1] at z;cases z)];exact g.fh b w z
     ·
      by_cases b1:b=p
      ·rw [b1,zat];rw [b1,w5.1] at z;exact z
      ·
       rw [zai b1]
       by_cases b2:b=dx
       ·rw [b2,h2];rw [b2,w5.2] at z;exact z
       ·exact g.h b w (by show (if b=p∨b=dx then none else H1 b)=some w;rw [hE b b1 b2];exact z)
     ·
      by_cases b1:b=p
      ·rw [b1];exact n1
      ·
       by_cases b2:b=dx
       ·rw [b2];exact n2
       ·exact g.no b (by show (if b=p∨b=dx then none else H1 b)≠none;rw [hE b b1 b2];exact z1) z2
    have a2:=(a1.grow gg).turnOb (n:=false) (ws:=us) (gs:=fb x) e h3
    have eq:upd (upd H' p (.ins C dx vs1)) p (.ins C dx us)=H':=by
     funext b
     by_cases b1:b=p
     ·rw [b1,zat,h1]
     ·rw [zai b1,zai b1]
    rw [eq] at a2
    exact k v F' H' a2 h4
theorem zrD {x y:Str} (h1:EvM Γ Δ ta (dS x)) (h2:Ev Δ tb false (dS y)):EvM Γ Δ (tOp rNe ta tb) (dB (!decide (x=y))):=λF0 Hb F H σ own Q a k=>h1 F0 Hb F H σ own _ a λu F1 H1 a1 q1=>h2 F0 Hb F1 H1 σ own _ a1 λv F2 H2 g2 q2=>by
 cases q1;
 cases q2
 exact ⟨rfl,k _ F2 H2 (a1.grow g2) (by show V.bl _=V.bl _;rw [zkd])⟩
theorem zeO {Δ2:Ctx} (h:EvM Γ Δ te d) (w:Wk Δ Δ2):Run E Γ (zdD (zmn te) u) (.rw Δ2 d):=λF0 Hb F H σ own D a k=>h F0 Hb F H σ own _ a λv F' H' a' q=>k v F' H' σ own (a'.wk w) q
theorem zgF {α β:Type} {x:α} (fo:β->Oc) {kk:α->β} (k:∀y,y=x->Run E Γ t (fo (kk y))):Run E Γ t (fo (Let x kk)):=k x rfl
theorem zhH {f:Str} {d x:Ds} {r:List (Str×Ds)}:putD f d ((f,x)::r)=(f,d)::r:=by unfold putD;rw [if_pos rfl]
theorem zjG {f g:Str} {d x:Ds} {r r2:List (Str×Ds)} (h:(g == f)=false) (e:putD f d r=r2):putD f d ((g,x)::r)=(g,x)::r2:=by
 unfold putD
 rw [if_neg (by intro z;rw [z] at h;simp at h),e]
theorem ziP {tv:TE} {fs fs2:List (Str×Ds)} {f:Str} (e:Γ[i]? =some (.ob m C p dx fs)) (h:Ev Γ tv m d) (c:Cls K C) (nf:NoAttr K C f) (hz:fs.length<1000) (hf:putD f d fs=fs2) (k:Run E (Γ.set i (.ob m C p dx fs2)) u o):Run E Γ (zdD (ztH K (zhX i) tv f) u) o :=
 zmy e h c nf hz (hf ▸ k)
theorem zqA {α:Type} {c:Bool} {x y:α} (fo:α->Oc) (h:EvM Γ Δ te (dB c)) (h1:c=true->Run E Δ (zdD t r) (fo x)) (h2:c=false->Run E Δ (zdD u r) (fo y)):Run E Γ (zdD (zrN (zqj te) t u) r) (fo (bif c then x else y)):=λF0 Hb F H σ own D a q=>h F0 Hb F H σ own _ a λv F' H' a' qv=>⟨c,qv,by
 cases c with
  |true=>rw [if_pos rfl];exact h1 rfl F0 Hb F' H' σ own D a' q
  |false=>rw [if_neg Bool.false_ne_true];exact h2 rfl F0 Hb F' H' σ own D a' q⟩
theorem zh2 {fs:List (Str×Ds)} (e:Γ[i]? =some (.ob m C p dx fs)) (ht:Γ.all ztM=true) (k:Run E (Γ.set i (.va m (dO C fs))) t o):Run E Γ t o:=λF0 Hb F H σ own D a q=>by
 obtain ⟨F',own',_,a'⟩:=a.shareB e ht
 exact k F0 Hb F' H σ own' D a' q
end
end L2
namespace Wd
open PySem PySem.Builtin.Str
def Fr (c:Nat) (x:Str):Prop:=c∉x.cps.toList
theorem zmA {c:Nat}:∀ {a b u v:List Nat},c∉a->c∉b->a++c::u=b++c::v->a=b∧u=v
 | [],[],_,_,_,_,e=>⟨rfl,(List.cons.inj e).2⟩
 | [],y :: b,_,_,_,hb,e=>absurd (List.cons.inj e).1 λz=>hb (z ▸ List.mem_cons_self)
 | x :: a,[],_,_,ha,_,e=>absurd (List.cons.inj e).1 λz=>ha (z ▸ List.mem_cons_self)
 | x :: a,y :: b,u,v,ha,hb,e=>by
  obtain ⟨e1,e2⟩:=List.cons.inj e
  obtain ⟨h1,h2⟩:=zmA (λz=>ha (List.mem_cons_of_mem _ z)) (λz=>hb (List.mem_cons_of_mem _ z)) e2
  exact ⟨by rw [e1,h1],h2⟩
theorem zgH (s x:Str):Str.join s [x]=x:=rfl
theorem zgK (s x y:Str) (r:List Str):Str.join s (x::y::r)=x++s++Str.join s (y::r):=rfl
theorem zil (a b:Str) (c:Nat):(a++⟨#[c]⟩++b).cps.toList=a.cps.toList++c::b.cps.toList:=by rw [Str.cps_append,Str.cps_append,Array.toList_append,Array.toList_append,List.append_assoc];rfl
theorem zlG {c:Nat}:∀ {xs ys:List Str},xs≠[]->ys≠[]->(∀x∈xs,Fr c x)->(∀y∈ys,Fr c y)->Str.join ⟨#[c]⟩ xs=Str.join ⟨#[c]⟩ ys->xs=ys
 | [],_,h,_,_,_,_=>absurd rfl h
 | _,[],_,h,_,_,_=>absurd rfl h
 | [x],[y],_,_,_,_,e=>by rw [zgH,zgH] at e;rw [e]
 | [x],y :: z :: r,_,_,hx,_,e=>by
  rw [zgH,zgK] at e
  exact absurd (show c∈x.cps.toList by rw [e,zil];simp) (hx x List.mem_cons_self)
 | x :: z :: r,[y],_,_,_,hy,e=>by
  rw [zgH,zgK] at e
  exact absurd (show c∈y.cps.toList by rw [←e,zil];simp) (hy y List.mem_cons_self)
 | x :: z :: r,y :: w :: q,_,_,hx,hy,e=>by
  rw [zgK,zgK] at e
  have e':=congrArg (λs:Str=>s.cps.toList) e
  rw [zil,zil] at e'
  obtain ⟨h1,h2⟩:=zmA (hx x List.mem_cons_self) (hy y List.mem_cons_self) e'
  have h3:x=y:=Str.ext' (Array.toList_inj.mp h1)
  have h4:Str.join ⟨#[c]⟩ (z::r)=Str.join ⟨#[c]⟩ (w::q):=Str.ext' (Array.toList_inj.mp h2)
  rw [h3,zlG (List.cons_ne_nil _ _) (List.cons_ne_nil _ _) (λx h=>hx x (List.mem_cons_of_mem _ h)) (λx h=>hy x (List.mem_cons_of_mem _ h)) h4]
theorem zoC (x y:Str):Txt.split x y≠[]:=by
 unfold Txt.split
 split
 ·simp
 ·
  split
  ·simp
  ·
   rw [StrLaws.partsBetween_eq]
   obtain ⟨p,r,e⟩:=StrLaws.partsFrom_ne x y.length 0 (occurrences x y 0 x.length (x.length+1))
   rw [e];
   simp
theorem zl0 {c:Nat} {ws:List Str} (h:ws≠[]) (hf:∀w∈ws,Fr c w):Txt.split (Str.join ⟨#[c]⟩ ws) ⟨#[c]⟩=ws :=
 zlG (zoC _ _) h (StrLaws.split_free _ c) hf (StrLaws.join_split _ _)
theorem zjV {ws:List Str} (h:ws≠[]) (hf:∀w∈ws,Fr 32 w):Txt.split (Txt.join (" " :Str) ws) (" " :Str)=ws:=by
 have e:(" " :Str)=⟨#[32]⟩:=by decide+kernel
 show Txt.split (glued (" " :Str) ws) (" " :Str)=ws
 rw [StrLaws.glued_eq_join,e]
 exact zl0 h hf
open W.KIN in
theorem num_all (m:Nat):∀c∈(Str.ofString (toString ((m:Nat):Int))).cps.toList,48≤c∧c≤57:=by
 intro c hc
 rw [signs_num] at hc
 obtain ⟨ch,hch,e⟩:=List.mem_map.mp hc
 have r:=Nat.isDigit_of_mem_toDigits (by decide) (by decide) hch
 rw [←e]
 simp only [Char.isDigit,Bool.and_eq_true,decide_eq_true_eq] at r
 exact ⟨r.1,r.2⟩
theorem zmV {m:Nat} (h:10≤m):Nat.toDigits 10 m=Nat.toDigits 10 (m/10)++[Nat.digitChar (m%10)]:=by
 have hm:m%10<10:=Nat.mod_lt m (by decide)
 have t:Nat.toDigits 10 (m/10)++Nat.toDigits 10 (m%10)=Nat.toDigits 10 (10*(m/10)+m%10):=Nat.toDigits_append_toDigits (by decide) (by omega) hm
 rw [Nat.div_add_mod,Nat.toDigits_of_lt_base hm] at t
 exact t.symm
theorem znk:∀(k m:Nat),m<10 ^ (k+1)->(Nat.toDigits 10 m).length≤k+1
 | k,m,h=>by
  by_cases z:m<10
  ·rw [Nat.toDigits_of_lt_base z];simp
  ·
   cases k with
    |zero=>exact absurd h (by omega)
    |succ k=>
     rw [zmV (by omega),List.length_append]
     have:=znk k (m/10) (by rw [Nat.div_lt_iff_lt_mul (by decide)];rw [Nat.pow_succ] at h;exact h)
     simp only [List.length_cons,List.length_nil];
     omega
theorem zox (m:Nat) (h0:0<m):∃c r,(Nat.toDigits 10 m).map Char.toNat=c::r∧c≠48:=by
 induction m using Nat.strongRecOn with
  |_ m ih=>
   by_cases z:m<10
   ·
    rw [Nat.toDigits_of_lt_base z]
    refine ⟨_,_,rfl,?_⟩
    have:∀d:Nat,d<10->0<d->(Nat.digitChar d).toNat≠48:=by decide
    exact this m z h0
   ·
    obtain ⟨c,r,e,hc⟩:=ih (m/10) (by omega) (by omega)
    rw [zmV (by omega),List.map_append,e]
    exact ⟨c,_,rfl,hc⟩
open W.KIN in
theorem num_len {m:Nat} (h:m<10^12):(Str.ofString (toString ((m:Nat):Int))).length≤12:=by
 show Array.size _≤12
 rw [←Array.length_toList,signs_num,List.length_map]
 exact znk 11 m h
open W.KIN in
theorem zi0 {m:Nat} (h:0<m):∃c r,(Str.ofString (toString ((m:Nat):Int))).cps.toList=c::r∧c≠48:=by rw [signs_num];exact zox m h
open W.KIN in
theorem num_reads {m:Nat} (h:m<10^12) (h0:0<m):intText? (Str.ofString (toString ((m:Nat):Int)))=some ((m:Nat):Int):=by
 obtain ⟨c,r,e,_⟩:=zi0 h0
 have e2:=intText_digits (num_all m) (by rw [e];simp) (Nat.le_trans (num_len h) (by decide))
 rw [signs_num,val_back] at e2
 exact e2
open L2
abbrev num (m:Nat):Str:=((toString ((m:Nat):Int):String):Str)
theorem zls {α:Type} {a:List α} {r:α}:ixN (a++[r]).length (-1)=some a.length:=by
 rw [List.length_append]
 unfold ixN
 simp only [List.length_cons,List.length_nil]
 rw [if_neg (by omega),if_pos (by omega)]
 congr 1;
 omega
theorem zkO {α:Type} [Inhabited α] {a:List α} {r:α}:ixD (a++[r]) (-(1:Int))=r:=by
 unfold ixD atI
 rw [show (-(1:Int))= -1 from rfl,zls]
 show ((a++[r])[a.length]?).getD default=r
 rw [List.getElem?_append_right (Nat.le_refl _)];
 simp
theorem znt {α:Type} {a:List α} {r x:α}:zeD (a++[r]) (-(1:Int)) x=a++[x]:=by
 unfold zeD
 rw [show (-(1:Int))= -1 from rfl,zls]
 show (a++[r]).set a.length x=a++[x]
 rw [List.set_append_right _ _ (Nat.le_refl _)];
 simp
def stepT (s:List (List Str)) (x:Str):List (List Str):=bif decide (x∈[("+" :Str),("-" :Str)]) then s++[[x]] else zeD s (-(1:Int)) ((ixD s (-(1:Int)))++[x])
theorem zke {s:List (List Str)} {x:Str} (h:x∈[("+" :Str),("-" :Str)]):stepT s x=s++[[x]]:=by unfold stepT;rw [decide_eq_true h];rfl
theorem zio {a:List (List Str)} {r:List Str} {x:Str} (h:x∉[("+" :Str),("-" :Str)]):stepT (a++[r]) x=a++[r++[x]]:=by unfold stepT;rw [decide_eq_false h,zkO,znt];rfl
structure Tm where
 sg:Str
 ct:Option Nat
 nm:Str
def Tm.ws (t:Tm):List Str:=t.sg::(match t.ct with|none=>[t.nm]|some k=>[num k,t.nm])
def Tm.Ok (t:Tm):Prop:=t.sg∈[("+" :Str),("-" :Str)]∧t.nm∉[("+" :Str),("-" :Str)]∧∀k,t.ct=some k->num k∉[("+" :Str),("-" :Str)]
theorem num_nsg (k:Nat):num k∉[("+" :Str),("-" :Str)]:=by
 have h:=num_all k
 intro z
 have e1:(("+" :Str)).cps.toList=[43]:=by decide+kernel
 have e2:(("-" :Str)).cps.toList=[45]:=by decide+kernel
 have z:num k=("+" :Str)∨num k=("-" :Str):=by simpa using z
 rcases z with z|z
 ·
  have:=h 43 (by show 43∈(num k).cps.toList;rw [z,e1];simp)
  omega
 ·
  have:=h 45 (by show 45∈(num k).cps.toList;rw [z,e2];simp)
  omega
theorem fold_tms:∀ {ts:List Tm} {a:List (List Str)},(∀t∈ts,t.Ok)->(ts.flatMap Tm.ws).foldl stepT a=a++ts.map Tm.ws
 | [],a,_=>by simp
 | t :: ts,a,h=>by
  obtain ⟨h1,h2,h3⟩:=h t List.mem_cons_self
  rw [List.flatMap_cons,List.foldl_append]
  have e:t.ws.foldl stepT a=a++[t.ws]:=by
   unfold Tm.ws
   cases ec:t.ct with
    |none=>
     show [t.sg,t.nm].foldl stepT a=_
     rw [List.foldl_cons,List.foldl_cons,List.foldl_nil,zke h1,zio h2];
     rfl
    |some k=>
     show [t.sg,num k,t.nm].foldl stepT a=_
     rw [List.foldl_cons,List.foldl_cons,List.foldl_cons,List.foldl_nil,zke h1,zio (h3 k ec),zio h2];
     rfl
  rw [e,fold_tms λt ht=>h t (List.mem_cons_of_mem _ ht),List.map_cons]
  simp
def Wrd (x:Str):Prop:=(∀c∈x.cps.toList,c<128)∧1≤x.length∧x.length≤12
def Nm (x:Str):Prop:=(∀c∈x.cps.toList,97≤c∧c≤122)∧1≤x.length∧x.length≤12∧x≠("nothing" :Str)
theorem Wrd.asc {x:Str} (h:Wrd x):x.cps.all (· <128)=true:=by
 rw [←Array.all_toList]
 exact List.all_eq_true.mpr λc hc=>decide_eq_true (h.1 c hc)
theorem Wrd.line {x:Str} (h:Wrd x):x.length≤sizeLine:=Nat.le_trans h.2.2 (by decide)
theorem Wrd.ch {x:Str} (h:Wrd x):(chS x).length≤sizeLine:=by
 have:(chS x).length=x.length:=by unfold chS;simp [Str.length]
 rw [this];
 exact h.line
theorem Nm.wrd {x:Str} (h:Nm x):Wrd x:=⟨λc hc=>by have:=h.1 c hc;omega,h.2.1,h.2.2.1⟩
theorem num_wrd {m:Nat} (h:m<10^12) (h0:0<m):Wrd (num m):=⟨λc hc=>by have:=num_all m c hc;omega,by
 obtain ⟨c,r,e,_⟩:=zi0 h0
 show 1≤Array.size _
 rw [←Array.length_toList]
 show 1≤(num m).cps.toList.length
 rw [e];
 simp,num_len h⟩
theorem all_made {x y:Str} (h:∀c∈x.cps.toList,c∈y.cps.toList):((List.map (λ(x1:Str)=>(zqW x1 y)) (chS x)).all id)=true:=by
 rw [List.all_eq_true]
 intro b hb
 obtain ⟨w,hw,rfl⟩:=List.mem_map.mp hb
 unfold chS at hw
 obtain ⟨c,hc,rfl⟩:=List.mem_map.mp hw
 show zqW ⟨#[c]⟩ y=true
 unfold zqW
 rw [StrLaws.found_one]
 exact decide_eq_true (h c hc)
theorem in_let {c:Nat} (h:97≤c∧c≤122):c∈(("abcdefghijklmnopqrstuvwxyz" :Str)).cps.toList:=by
 have:∀c,c<128->97≤c->c≤122->c∈(("abcdefghijklmnopqrstuvwxyz" :Str)).cps.toList:=by decide+kernel
 exact this c (by omega) h.1 h.2
theorem in_fig {c:Nat} (h:48≤c∧c≤57):c∈(("0123456789" :Str)).cps.toList:=by
 have:∀c,c<128->48≤c->c≤57->c∈(("0123456789" :Str)).cps.toList:=by decide+kernel
 exact this c (by omega) h.1 h.2
theorem num_ix {m:Nat} (h0:0<m):ixS (num m) (0:Int)≠("0" :Str):=by
 obtain ⟨c,r,e,hc⟩:=zi0 h0
 intro z
 have e0:(("0" :Str)).cps= #[48]:=by decide+kernel
 have z':=congrArg Str.cps z
 rw [e0] at z'
 have a0:atI (num m).cps.toList (0:Int)=some c:=by
  unfold atI
  rw [show (num m).cps.toList=c::r from e]
  unfold ixN
  rw [if_pos (by omega),if_pos (by simp)]
  rfl
 have z2:(#[(atI (num m).cps.toList (0:Int)).getD 0]:Array Nat)= #[48]:=z'
 rw [a0] at z2
 have:c=48:=by simpa using z2
 exact hc this
def NsP (ws:List Str):Prop:=ws≠[]∧ws.length≤8∧∀w∈ws,w∉[("+" :Str),("-" :Str),("=" :Str)]
theorem NsP.len {ws:List Str} (h:NsP ws):ws.length≤sizeLine:=Nat.le_trans h.2.1 (by decide)
theorem NsP.no {ws:List Str} (h:NsP ws):((decide (((ws.length:Nat):Int)=(0:Int)))||((List.map (λ(x4:Str)=>(decide (x4∈[("+" :Str),("-" :Str),("=" :Str)]))) ws).any id))=false:=by
 rw [Bool.or_eq_false_iff]
 constructor
 ·
  have:ws.length≠0:=λz=>h.1 (List.length_eq_zero_iff.mp z)
  exact decide_eq_false (by omega)
 ·
  rw [List.any_eq_false]
  intro b hb
  obtain ⟨w,hw,rfl⟩:=List.mem_map.mp hb
  show¬(decide (w∈[("+" :Str),("-" :Str),("=" :Str)]))=true
  rw [decide_eq_false (h.2.2 w hw)];
  simp
def sgn (ws:List Str):List Str:=bif (decide ((zcu ws none (some (1:Int)))=[("-" :Str)])) then ws else ([("+" :Str)]++ws)
def RwI (i:Nat) (s:List (List Str)):Prop:=s.length≤i∧(0<i->s≠[])∧∀r∈s,r.length≤i
theorem cut1 (ws:List Str):zcu ws none (some (1:Int))=ws.take 1:=by
 cases ws with
  |nil=>rfl
  |cons w r=>
   unfold zcu
   have e1:HT.sIx (w::r).length (w::r).length (some (1:Int))=1:=by
    unfold HT.sIx
    simp
   have e0:HT.sIx (w::r).length 0 none=0:=rfl
   rw [e1,e0];
   rfl
theorem zmR (ws:List Str):(sgn ws).length≤ws.length+1:=by
 unfold sgn
 cases decide ((zcu ws none (some (1:Int)))=[("-" :Str)])<;>simp
theorem zkr {ws:List Str} {x:Str} (h:(sgn ws)[0]? =some x):x∈[("+" :Str),("-" :Str)]:=by
 unfold sgn at h
 by_cases z:(zcu ws none (some (1:Int)))=[("-" :Str)]
 ·
  rw [decide_eq_true z] at h
  have h:ws[0]? =some x:=h
  rw [cut1] at z
  cases ws with
   |nil=>cases h
   |cons w r=>
    have e1:w=x:=by simpa using h
    have e2:w=("-" :Str):=by simpa using z
    rw [←e1,e2];
    simp
 ·
  rw [decide_eq_false z] at h
  have h:some ("+" :Str)=some x:=h
  cases h;
  simp
theorem RwI.step {i:Nat} {s:List (List Str)} {x:Str} {ws:List Str} (h:RwI i s) (hx:(sgn ws)[i]? =some x):RwI (i+1) (stepT s x):=by
 by_cases z:x∈[("+" :Str),("-" :Str)]
 ·
  rw [zke z]
  refine ⟨by simpa using h.1,λ_=>by simp,λr hr=> ?_⟩
  rcases List.mem_append.mp hr with q|q
  ·have:=h.2.2 r q;omega
  ·
   have:r=[x]:=by simpa using q
   rw [this];
   simp
 ·
  have hi:0<i:=Nat.pos_of_ne_zero λe=>z (zkr (by rw [e] at hx;exact hx))
  have hs:=h.2.1 hi
  obtain ⟨a,r,e⟩:∃a r,s=a++[r]:=⟨s.dropLast,s.getLast hs,(List.dropLast_concat_getLast hs).symm⟩
  rw [e,zio z]
  rw [e] at h
  refine ⟨by have:=h.1;simp at this ⊢;omega,λ_=>by simp,λq hq=> ?_⟩
  rcases List.mem_append.mp hq with q'|q'
  ·have:=h.2.2 q (List.mem_append_left _ q');omega
  ·
   have e2:q=r++[x]:=by simpa using q'
   have:=h.2.2 r (by simp)
   rw [e2];
   simp;
   omega
theorem RwI.start:RwI 0 []:=⟨Nat.le_refl 0,λh=>absurd h (by decide),λ_ h=>by cases h⟩
theorem RwI.ix {i:Nat} {s:List (List Str)} {x:Str} {ws:List Str} (h:RwI i s) (hx:(sgn ws)[i]? =some x) (z:decide (x∈[("+" :Str),("-" :Str)])=false):InB s.length (-(1:Int)):=by
 have hi:0<i:=Nat.pos_of_ne_zero λe=>(of_decide_eq_false z) (zkr (by rw [e] at hx;exact hx))
 have hs:=h.2.1 hi
 have:s.length≠0:=λe=>hs (List.length_eq_zero_iff.mp e)
 unfold InB;
 omega
theorem RwI.lt {i:Nat} {s:List (List Str)} {x:Str} {ws:List Str} (h:RwI i s) (hx:(sgn ws)[i]? =some x) (hw:ws.length≤1000):s.length<sizeLine:=by
 have h1:=(List.getElem?_eq_some_iff.mp hx).1
 have h2:=zmR ws
 have:=h.1
 exact Nat.lt_of_le_of_lt (show _≤10000 by omega) (by decide)
theorem RwI.lt2 {i:Nat} {s:List (List Str)} {x:Str} {ws:List Str} (h:RwI i s) (hx:(sgn ws)[i]? =some x) (hw:ws.length≤1000) (z:decide (x∈[("+" :Str),("-" :Str)])=false):(ixD s (-(1:Int))).length<sizeLine:=by
 have h1:=(List.getElem?_eq_some_iff.mp hx).1
 have h2:=zmR ws
 have hi:0<i:=Nat.pos_of_ne_zero λe=>(of_decide_eq_false z) (zkr (by rw [e] at hx;exact hx))
 have hs:=h.2.1 hi
 obtain ⟨a,r,e⟩:∃a r,s=a++[r]:=⟨s.dropLast,s.getLast hs,(List.dropLast_concat_getLast hs).symm⟩
 rw [e,zkO]
 have:=h.2.2 r (by rw [e];simp)
 exact Nat.lt_of_le_of_lt (show _≤10000 by omega) (by decide)
theorem RwI.len {s:List (List Str)} {ws:List Str} (h:RwI (sgn ws).length s) (hw:ws.length≤1000):s.length≤sizeLine:=by
 have h2:=zmR ws
 have:=h.1
 exact zau (by omega)
theorem zlH:∀ {xs acc:List Str},xs.Nodup->(∀x∈xs,x∉acc)->xs.foldl zj3 acc=acc++xs
 | [],acc,_,_=>by simp
 | x :: xs,acc,h,d=>by
  obtain ⟨h1,h2⟩:=List.nodup_cons.mp h
  have e:zj3 acc x=acc++[x]:=by
   unfold zj3
   simp [d x List.mem_cons_self]
  rw [List.foldl_cons,e,zlH h2 λy hy z=>by
   rcases List.mem_append.mp z with z|z
   ·exact d y (List.mem_cons_of_mem _ hy) z
   ·
    have:y=x:=by simpa using z
    exact h1 (this ▸ hy)]
  simp
theorem setL_nodup {xs:List Str} (h:xs.Nodup):zgU xs=xs:=by
 have:=zlH (acc:=[]) h λ_ _ z=>by cases z
 simpa [zgU] using this
theorem zqp {ws:List Str} (hl:ws.length≤2000) (hw:∀w∈ws,w.length≤700):JoinOk (" " :Str) ws=true:=by
 unfold JoinOk
 have e:((" " :Str)).length=1:=by decide+kernel
 rw [StrLaws.joinFits hw (by rw [e];have:ws.length*700≤2000*700:=Nat.mul_le_mul_right _ hl;omega)]
 rfl
def NmsP (ns:List Str):Prop:=(∀n∈ns,Nm n)∧ns.Nodup∧ns.length≤8
theorem NmsP.len {ns:List Str} (h:NmsP ns):ns.length≤sizeLine:=Nat.le_trans h.2.2 (by decide)
def NwP (w:Str) (xs:Ji):Prop:=w.length≤12∧xs.length≤100∧∀x∈xs,0≤x∧x<10 ^ 12
theorem NwP.bit {w:Str} {xs:Ji} {x:Int} (h:NwP w xs) (hx:x∈xs):x.natAbs.log2<1920:=by
 obtain ⟨h0,h1⟩:=h.2.2 x hx
 by_cases z:x.natAbs=0
 ·rw [z];decide
 ·exact (Nat.log2_lt z).mpr (Nat.lt_of_lt_of_le (show x.natAbs<10 ^ 12 by omega) (by decide+kernel))
theorem num_leI {x:Int} (h0:0≤x) (h1:x<10^12):(((toString x:String):Str)).length≤12:=by
 obtain ⟨m,rfl⟩:=Int.eq_ofNat_of_zero_le h0
 exact num_len (by omega)
def BwP (ns:List Str) (xs:Ji):Prop:=ns.length≤8∧(∀n∈ns,n.length≤12)∧∀x∈xs,x.natAbs<10 ^ 12
def BwI (i:Nat) (s:List Str):Prop:=s.length≤3*i∧∀w∈s,w.length≤12
theorem BwI.start:BwI 0 []:=⟨Nat.le_refl 0,λ_ h=>by cases h⟩
theorem zs0:(("-" :Str)).length≤12∧(("+" :Str)).length≤12:=by decide+kernel
theorem BwI.app {n:Nat} {s t:List Str} (h:s.length≤n∧∀w∈s,w.length≤12) (ht:∀w∈t,w.length≤12):(s++t).length≤n+t.length∧∀w∈s++t,w.length≤12 :=
 ⟨by rw [List.length_append];have:=h.1;omega,λw hw=>by
  rcases List.mem_append.mp hw with z|z
  ·exact h.2 w z
  ·exact ht w z⟩
theorem BwI.lt {i:Nat} {s:List Str} {x:Str×Int} {ns:List Str} {xs:Ji} (h:BwI i s) (hp:BwP ns xs) (hx:(List.zip ns xs)[i]? =some x):s.length≤24:=by
 have h1:=(List.getElem?_eq_some_iff.mp hx).1
 rw [List.length_zip] at h1
 have:=h.1;
 have:=hp.1
 omega
def LnP (x:Str) (ws:List Str):Prop:=x=Txt.join (" " :Str) ws∧ws≠[]∧(∀w∈ws,Fr 32 w∧1≤w.length)∧x.length≤5000
theorem LnP.split {x:Str} {ws:List Str} (h:LnP x ws):Txt.split x (" " :Str)=ws:=by rw [h.1];exact zjV h.2.1 λw hw=>(h.2.2.1 w hw).1
theorem LnP.sl {x:Str} {ws:List Str} (h:LnP x ws):x.length≤sizeLine:=zau (by have:=h.2.2.2;omega)
theorem LnP.s2 {x:Str} {ws:List Str} (h:LnP x ws):(partsBetween x (occurrences x (" " :Str) 0 x.length (x.length+1)) ((" " :Str)).length).length≤sizeLine:=by
 rw [length_partsBetween]
 have:=StrLaws.occ_length_le x (" " :Str) 0 x.length (x.length+1)
 exact zau (by have:=h.2.2.2;omega)
theorem LnP.s1 {x:Str} {ws:List Str} (h:LnP x ws):(Txt.split x (" " :Str)).length≤sizeLine:=by
 unfold Txt.split
 split
 ·exact zau (by simp)
 ·
  split
  ·exact zau (by simp)
  ·exact h.s2
theorem LnP.no {x:Str} {ws us:List Str} (h:LnP x ws) (e:us=ws):decide (("" :Str)∈us)=false:=by
 rw [e]
 refine decide_eq_false λz=> ?_
 have:=(h.2.2.1 _ z).2
 exact absurd this (by decide+kernel)
theorem cut_tl {w:Str} {r:List Str}:zcu (w::r) (some (1:Int)) none=r:=by
 unfold zcu
 have e1:HT.sIx (w::r).length 0 (some (1:Int))=1:=by
  unfold HT.sIx
  simp
 have e0:HT.sIx (w::r).length (w::r).length none=(w::r).length:=rfl
 rw [e1,e0]
 simp
theorem ix_hd {w:Str} {r:List Str}:InB (w::r).length (0:Int):=by unfold InB;simp;omega
theorem ix0 {α:Type} [Inhabited α] {w:α} {r:List α}:ixD (w::r) (0:Int)=w:=by
 unfold ixD atI ixN
 rw [if_pos (by omega),if_pos (by simp)]
 rfl
theorem join_len {ws:List Str} {n B:Nat} (hl:ws.length≤n) (hw:∀w∈ws,w.length≤B):(Txt.join (" " :Str) ws).length≤n*B+n:=by
 show (glued (" " :Str) ws).length≤_
 have e:((" " :Str)).length=1:=by decide+kernel
 rw [size_glued,e]
 have h1:=StrLaws.sumLen_le ws hw
 have h2:ws.length*B≤n*B:=Nat.mul_le_mul_right _ hl
 omega
def lsF (s:List Str) (x:Str×Int):List Str:=bif (decide (x.2<(0:Int))) then (s++[("-" :Str),((toString ((0:Int)-x.2):String):Str),x.1]) else (bif (decide ((0:Int)<x.2)) then (s++[("+" :Str),((toString x.2:String):Str),x.1]) else s)
theorem BwP.mem {ns:List Str} {xs:Ji} {x:Str×Int} {i:Nat} (hp:BwP ns xs) (hx:(List.zip ns xs)[i]? =some x):x.1.length≤12∧x.2.natAbs<10 ^ 12:=by
 have hm:=List.mem_of_getElem? hx
 exact ⟨hp.2.1 x.1 (List.of_mem_zip (show (x.1,x.2)∈_ from hm)).1,hp.2.2 x.2 (List.of_mem_zip (show (x.1,x.2)∈_ from hm)).2⟩
theorem BwI.stepL {i:Nat} {s:List Str} {x:Str×Int} {ns:List Str} {xs:Ji} (h:BwI i s) (hp:BwP ns xs) (hx:(List.zip ns xs)[i]? =some x):BwI (i+1) (lsF s x):=by
 obtain ⟨m1,m2⟩:=hp.mem hx
 have k:∀(g:Str) (y:Int),g.length≤12->0≤y->y<10 ^ 12->BwI (i+1) (s++[g,((toString y:String):Str),x.1]):=λg y hg h0 h1=>BwI.app (n:=3*i) (t:=[g,((toString y:String):Str),x.1]) h λw hw=>by
  have:w=g∨w=((toString y:String):Str)∨w=x.1:=by simpa using hw
  rcases this with rfl|rfl|rfl
  ·exact hg
  ·exact num_leI h0 h1
  ·exact m1
 unfold lsF
 by_cases z:x.2<0
 ·
  rw [decide_eq_true z]
  exact k _ _ zs0.1 (by omega) (by omega)
 ·
  rw [decide_eq_false z]
  by_cases z2:0<x.2
  ·
   rw [decide_eq_true z2]
   exact k _ _ zs0.2 (by omega) (by omega)
  ·
   rw [decide_eq_false z2]
   exact ⟨by have:=h.1;show s.length≤_;omega,h.2⟩
theorem log_lt {y:Int} (h:y.natAbs<10^12):y.natAbs.log2<1920:=by
 by_cases z:y.natAbs=0
 ·rw [z];decide
 ·exact (Nat.log2_lt z).mpr (Nat.lt_of_lt_of_le h (by decide+kernel))
theorem BwI.joinL {s t:List Str} {ns:List Str} {xs:Ji} (h:BwI (List.zip ns xs).length s) (hp:BwP ns xs) (e:t=bif (decide ((ixD s (0:Int))=("+" :Str))) then (s.tail) else s):JoinOk (" " :Str) t=true:=by
 have h1:=h.1
 rw [List.length_zip] at h1
 have:=hp.1
 have sub:t.length≤s.length∧∀w∈t,w∈s:=by
  rw [e]
  cases decide ((ixD s (0:Int))=("+" :Str)) with
   |true=>exact ⟨by show s.tail.length≤_;simp,λw hw=>List.mem_of_mem_tail hw⟩
   |false=>exact ⟨Nat.le_refl _,λw hw=>hw⟩
 exact zqp (by omega) λw hw=>by have:=h.2 w (sub.2 w hw);omega
theorem ix_ne {α:Type} {s:List α} (h:s≠[]):InB s.length (0:Int):=by
 have:s.length≠0:=λe=>h (List.length_eq_zero_iff.mp e)
 unfold InB;
 omega
def tmOf (p:Str×Int):Tm:=⟨bif decide (p.2<0) then ("-" :Str) else ("+" :Str),some p.2.natAbs,p.1⟩
def tmL (ns:List Str) (xs:Ji):List Tm:=((List.zip ns xs).filter (λp=> !decide (p.2=0))).map tmOf
theorem ls_fold:∀(ps:List (Str×Int)) (s:List Str),ps.foldl lsF s=s++((ps.filter (λp=> !decide (p.2=0))).map tmOf).flatMap Tm.ws
 | [],s=>by simp
 | p :: ps,s=>by
  rw [List.foldl_cons,ls_fold ps]
  by_cases z:p.2=0
  ·
   have e1:lsF s p=s:=by unfold lsF;rw [decide_eq_false (by omega),decide_eq_false (by omega)];rfl
   rw [e1,List.filter_cons_of_neg (by simp [z])]
  ·
   rw [List.filter_cons_of_pos (by simp [z]),List.map_cons,List.flatMap_cons,←List.append_assoc]
   congr 1
   unfold lsF tmOf Tm.ws
   by_cases z2:p.2<0
   ·
    rw [decide_eq_true z2]
    have:(0:Int)-p.2=((p.2.natAbs:Nat):Int):=by omega
    rw [this];
    rfl
   ·
    rw [decide_eq_false z2,decide_eq_true (show (0:Int)<p.2 by omega)]
    have:p.2=((p.2.natAbs:Nat):Int):=by omega
    show s++[("+" :Str),((toString p.2:String):Str),p.1]=s++[("+" :Str),num p.2.natAbs,p.1]
    unfold num
    rw [←this]
def drp (ws:List Str):List Str:=bif decide (ws.head? =some ("+" :Str)) then ws.tail else ws
end Wd
namespace Wd
open PySem PySem.Builtin.Str L2
abbrev cs (x:Str):List Nat:=x.cps.toList
theorem cs_ext {x y:Str} (h:cs x=cs y):x=y:=Str.ext' (Array.toList_inj.mp h)
theorem cs_app (x y:Str):cs (x++y)=cs x++cs y:=by unfold cs;rw [Str.cps_append,Array.toList_append]
theorem cs_len (x:Str):x.length=(cs x).length:=by
 show Array.size _=_
 rw [←Array.length_toList]
theorem app_len (x y:Str):(x++y).length=x.length+y.length:=by rw [cs_len,cs_len,cs_len,cs_app,List.length_append]
abbrev abc:Str:=("abcdefghijklmnopqrstuvwxyz" :Str)
theorem zqb:∀k:Nat,k<26->cs (ixS abc ((k:Nat):Int))=[97+k]:=by decide+kernel
theorem zg4 {k:Int} (h0:0≤k) (h:k<26):cs (ixS abc k)=[97+k.toNat]:=by
 obtain ⟨m,rfl⟩:=Int.eq_ofNat_of_zero_le h0
 exact zqb m (by omega)
theorem zkR {c:Nat} {x:Array Nat} (hx:x.toList=[c]):∀(m:Nat) (a:Array Nat),((List.replicate m x).foldl (· ++ ·) a).toList=a.toList++List.replicate m c
 | 0,a=>by simp
 | m+1,a=>by
  rw [List.replicate_succ,List.foldl_cons,zkR hx m,Array.toList_append,hx,List.replicate_succ]
  simp
theorem cs_mul {c:Nat} {x:Str} {n:Int} (hx:cs x=[c]) (h:0≤n):cs (Txt.mul x n)=List.replicate n.toNat c:=by
 unfold Txt.mul
 by_cases h1:n<1
 ·
  have:n=0:=by omega
  subst this
  rw [if_pos h1];
  rfl
 ·
  rw [if_neg h1]
  by_cases h2:(n==1||x.length==0)=true
  ·
   rw [if_pos h2]
   have h3:x.length=1:=by rw [cs_len,hx];rfl
   have h4:n=1:=by simpa [h3] using h2
   subst h4
   exact hx
  ·
   rw [if_neg h2]
   show ((List.replicate n.toNat x.cps).foldl (· ++ ·) #[]).toList=_
   rw [zkR hx];
   simp
theorem mul_ok {c:Nat} {x:Str} {n:Int} (hx:cs x=[c]) (h:0≤n) (h9:n≤100):MulOk x n:=by
 have h3:x.length=1:=by rw [cs_len,hx];rfl
 refine ⟨?_,λh1 _=> ?_,λh1 _=> ?_⟩
 ·
  rw [Bool.or_eq_false_iff]
  exact ⟨decide_eq_false (by omega),decide_eq_false (by omega)⟩
 ·
  rw [h3]
  have:(1:Int)≤(2 ^ 63-1)/n:=(Int.le_ediv_iff_mul_le (by omega)).mpr (by omega)
  omega
 ·
  rw [h3,Nat.one_mul]
  unfold tooLong
  have h4:n.toNat≤100:=by omega
  have h5:100≤sizeLine:=by decide
  exact decide_eq_false (by omega)
theorem zuq:cs ("nothing" :Str)=[110,111,116,104,105,110,103]:=by decide+kernel
theorem zqD {p q b s:Nat}:List.replicate p b++s::List.replicate q b≠[110,111,116,104,105,110,103]:=by
 intro h
 have hl:=congrArg List.length h
 simp at hl
 have c:(p=0∧q=6)∨(p=1∧q=5)∨(p=2∧q=4)∨(p=3∧q=3)∨(p=4∧q=2)∨(p=5∧q=1)∨(p=6∧q=0):=by omega
 rcases c with ⟨rfl,rfl⟩|⟨rfl,rfl⟩|⟨rfl,rfl⟩|⟨rfl,rfl⟩|⟨rfl,rfl⟩|⟨rfl,rfl⟩|⟨rfl,rfl⟩<;>simp [List.replicate] at h<;>omega
theorem zn4 {x:Str} {p q b s:Nat} (h:cs x=List.replicate p b++s::List.replicate q b) (hb:97≤b∧b≤122) (hs:97≤s∧s≤122) (hl:p+q+1≤12):Nm x:=by
 refine ⟨λc hc=> ?_,?_,?_,λz=> ?_⟩
 ·
  have hc:c∈cs x:=hc
  rw [h] at hc
  rcases List.mem_append.mp hc with q|q
  ·rw [(List.mem_replicate.mp q).2];exact hb
  ·
   rcases List.mem_cons.mp q with q|q
   ·rw [q];exact hs
   ·rw [(List.mem_replicate.mp q).2];exact hb
 ·rw [cs_len,h];simp;omega
 ·rw [cs_len,h];simp;omega
 ·
  rw [z,zuq] at h
  exact zqD h.symm
theorem zqG {p q b s t:Nat} (h:List.replicate p b++s::List.replicate q b=List.replicate p b++t::List.replicate q b):s=t :=
 (List.cons.inj (List.append_cancel_left h)).1
theorem zk5 {α:Type} [DecidableEq α]:∀ {xs ys:List α},xs.Nodup->(∀x∈xs,x∈ys)->xs.length≤ys.length
 | [],ys,_,_=>by simp
 | x :: xs,ys,h,hs=>by
  obtain ⟨h1,h2⟩:=List.nodup_cons.mp h
  have hx:=hs x List.mem_cons_self
  have:=zk5 (ys:=ys.erase x) h2 λy hy=>(List.mem_erase_of_ne (λ(e:y=x)=>h1 (e ▸ hy))).mpr (hs y (List.mem_cons_of_mem _ hy))
  rw [List.length_erase_of_mem hx] at this
  have:0<ys.length:=List.length_pos_of_mem hx
  rw [List.length_cons];
  omega
def chg (bad:Str->Bool) (g:Int->Str) (s:Str) (x:Int):Str:=bif bad s then g x else s
theorem zir {bad:Str->Bool} {g:Int->Str}:∀ {xs:Ji} {s:Str},bad s=false->xs.foldl (chg bad g) s=s
 | [],s,_=>rfl
 | x :: xs,s,h=>by
  rw [List.foldl_cons]
  have:chg bad g s x=s:=by unfold chg;rw [h];rfl
  rw [this,zir h]
theorem zn1 {bad:Str->Bool} {g:Int->Str}:∀ {xs:Ji} {s:Str},bad (xs.foldl (chg bad g) s)=true->∀x∈xs,bad (g x)=true
 | [],s,_=>λx hx=>by cases hx
 | x :: xs,s,h=>λy hy=>by
  rw [List.foldl_cons] at h
  by_cases b:bad s=true
  ·
   have e:chg bad g s x=g x:=by unfold chg;rw [b];rfl
   rw [e] at h
   rcases List.mem_cons.mp hy with rfl|hy
   ·
    cases q:bad (g y) with
     |true=>rfl
     |false=>rw [zir q,q] at h;cases h
   ·exact zn1 h y hy
  ·
   have b:bad s=false:=by simpa using b
   have e:chg bad g s x=s:=by unfold chg;rw [b];rfl
   rw [e,zir b,b] at h
   cases h
theorem zk0 {bad:Str->Bool} {g:Int->Str} {P:Str->Prop}:∀ {xs:Ji} {s:Str},P s->(∀x∈xs,P (g x))->P (xs.foldl (chg bad g) s)
 | [],s,h,_=>h
 | x :: xs,s,h,hg=>by
  rw [List.foldl_cons]
  refine zk0 ?_ λy hy=>hg y (List.mem_cons_of_mem _ hy)
  unfold chg
  cases bad s with
   |true=>exact hg x List.mem_cons_self
   |false=>exact h
def Lt (x:Str):Prop:=∀c∈cs x,97≤c∧c≤122
theorem Lt.app {x y:Str} (h:Lt x) (h':Lt y):Lt (x++y):=λc hc=>by
 rw [cs_app] at hc
 rcases List.mem_append.mp hc with q|q
 ·exact h c q
 ·exact h' c q
theorem Lt.of {x:Str} {k:Int} (h0:0≤k) (h:k<26):Lt (ixS abc k):=λc hc=>by
 rw [zg4 h0 h] at hc
 have:c=97+k.toNat:=List.mem_singleton.mp hc
 omega
def wk (x:Int):Str:=Txt.mul (ixS abc x) (1+x)
theorem zq4 {x:Int} (h0:0≤x) (h:x<10):cs (wk x)=List.replicate (x.toNat+1) (97+x.toNat):=by
 unfold wk
 rw [cs_mul (zg4 h0 (by omega)) (by omega),show (1+x).toNat=x.toNat+1 by omega]
theorem zr0 {x:Int} (h0:0≤x) (h:x<10):Nm (wk x):=by
 refine zn4 (p:=x.toNat) (q:=0) (b:=97+x.toNat) (s:=97+x.toNat) ?_ (by omega) (by omega) (by omega)
 rw [zq4 h0 h,List.replicate_succ'];
 rfl
theorem zsZ {x y:Int} (h0:0≤x) (h:x<10) (h0':0≤y) (h':y<10) (e:wk x=wk y):x=y:=by
 have:=congrArg (λz=>(cs z).length) e
 simp only [zq4 h0 h,zq4 h0' h',List.length_replicate] at this
 omega
theorem znT:((zcY 0 10).map wk).Nodup:=by
 rw [List.nodup_iff_pairwise_ne,List.pairwise_map]
 have:(zcY 0 10).Pairwise λa b=>(0≤a∧a<10∧0≤b∧b<10)∧a≠b:=by decide
 exact this.imp λ {a b} h e=>h.2 (zsZ h.1.1 h.1.2.1 h.1.2.2.1 h.1.2.2.2 e)
theorem zm7 {x:Int} (h:x∈zcY 0 10):0≤x∧x<10:=by
 have:∀x∈zcY 0 10,0≤x∧x<10:=by decide
 exact this x h
theorem spell_new {ns:List Str} {w:Str} (hn:ns.length≤7) (hl:Lt w) (h1:1≤w.length) (h12:w.length≤12) :
  let r:=(zcY 0 10).foldl (chg (λs=>decide (s∈ns)||decide (s=("nothing" :Str))) wk) w;Nm r∧r∉ns:=by
   intro r
   have hP:Lt r∧1≤r.length∧r.length≤12:=by
    refine zk0 (P:=λr=>Lt r∧1≤r.length∧r.length≤12) ⟨hl,h1,h12⟩ λx hx=> ?_
    obtain ⟨a,b⟩:=zm7 hx
    have:=zr0 a b
    exact ⟨this.1,this.2.1,this.2.2.1⟩
   have hb:(decide (r∈ns)||decide (r=("nothing" :Str)))=false:=by
    cases q:(decide (r∈ns)||decide (r=("nothing" :Str))) with
     |false=>rfl
     |true=>
      have all:=zn1 (bad:=λs=>decide (s∈ns)||decide (s=("nothing" :Str))) (g:=wk) (xs:=zcY 0 10) (s:=w) q
      have sub:∀y∈(zcY 0 10).map wk,y∈ns:=λy hy=>by
       obtain ⟨x,hx,rfl⟩:=List.mem_map.mp hy
       obtain ⟨a,b⟩:=zm7 hx
       have h2:=(zr0 a b).2.2.2
       have h3:=all x hx
       simpa [h2] using h3
      have:=zk5 znT sub
      have e:((zcY 0 10).map wk).length=10:=by simp [zcY]
      omega
   obtain ⟨b1,b2⟩:=Bool.or_eq_false_iff.mp hb
   exact ⟨⟨hP.1,hP.2.1,hP.2.2,of_decide_eq_false b2⟩,of_decide_eq_false b1⟩
theorem NmsP.snoc {ns:List Str} {w:Str} (h:NmsP ns) (hw:Nm w) (hn:w ∉ ns) (hl:ns.length≤7):NmsP (ns++[w]):=by
 refine ⟨λn q=> ?_,?_,by simp;omega⟩
 ·
  rcases List.mem_append.mp q with q|q
  ·exact h.1 n q
  ·rw [List.mem_singleton.mp q];exact hw
 ·
  rw [List.nodup_append]
  exact ⟨h.2.1,by simp,λa ha b hb e=>hn (by rw [←List.mem_singleton.mp hb,←e];exact ha)⟩
theorem NmsP.nil:NmsP []:=⟨(λ_ h=>by cases h),List.nodup_nil,by decide⟩
def nA (f p z k:Int):Str:=(Txt.mul (ixS abc f) p++ixS abc ((f+k+1)%26))++Txt.mul (ixS abc f) (z-p-1)
def nB (f z k:Int):Str:=ixS abc ((f+k+1)%26)++Txt.mul (ixS abc f) ((z+k)%12)
theorem zqF {f p z k:Int} (hf:0≤f∧f<26) (hp:0≤p∧p<z):cs (nA f p z k)=List.replicate p.toNat (97+f.toNat)++(97+((f+k+1)%26).toNat)::List.replicate (z-p-1).toNat (97+f.toNat):=by
 unfold nA
 rw [cs_app,cs_app,cs_mul (zg4 hf.1 hf.2) hp.1,cs_mul (zg4 hf.1 hf.2) (by omega),zg4 (by omega) (by omega),List.append_assoc];
 rfl
theorem zqa {f z k:Int} (hf:0≤f∧f<26):cs (nB f z k)=List.replicate 0 (97+f.toNat)++(97+((f+k+1)%26).toNat)::List.replicate ((z+k)%12).toNat (97+f.toNat):=by
 unfold nB
 rw [cs_app,cs_mul (zg4 hf.1 hf.2) (by omega),zg4 (by omega) (by omega)];
 rfl
theorem nA_nm {f p z k:Int} (hf:0≤f∧f<26) (hp:0≤p∧p<z) (hz:z≤12):Nm (nA f p z k) :=
 zn4 (zqF hf hp) (by omega) (by omega) (by omega)
theorem nB_nm {f z k:Int} (hf:0≤f∧f<26):Nm (nB f z k):=zn4 (zqa hf) (by omega) (by omega) (by omega)
theorem nA_inj {f p z k l:Int} (hf:0≤f∧f<26) (hp:0≤p∧p<z) (hk:0≤k∧k<8) (hl:0≤l∧l<8) (e:nA f p z k=nA f p z l):k=l:=by
 have e:=congrArg cs e
 rw [zqF hf hp,zqF hf hp] at e
 have:=zqG e
 omega
theorem nB_inj {f z k l:Int} (hf:0≤f∧f<26) (hk:0≤k∧k<8) (hl:0≤l∧l<8) (e:nB f z k=nB f z l):k=l:=by
 have e:=congrArg cs e
 rw [zqa hf,zqa hf] at e
 have:=(List.cons.inj e).1
 omega
theorem nms_map {g:Int->Str} {n:Nat} (hn:n≤8) (h:∀k,0≤k->k<8->Nm (g k)) (hi:∀k l,(0≤k∧k<8)->(0≤l∧l<8)->g k=g l->k=l):NmsP ((zcY 0 n).map g):=by
 have m:∀x∈zcY 0 n,0≤x∧x<8:=λx hx=>by
  unfold zcY at hx
  obtain ⟨i,hi,rfl⟩:=List.mem_map.mp hx
  have:=List.mem_range.mp hi
  omega
 refine ⟨λw hw=> ?_,?_,by simp [zcY];omega⟩
 ·
  obtain ⟨x,hx,rfl⟩:=List.mem_map.mp hw
  exact h x (m x hx).1 (m x hx).2
 ·
  have nd:(zcY 0 n).Nodup:=by
   unfold zcY
   rw [List.nodup_iff_pairwise_ne,List.pairwise_map]
   exact (List.nodup_range (n:=n)).imp λ {a b} h e=>h (by omega)
  rw [List.nodup_iff_pairwise_ne,List.pairwise_map]
  rw [List.nodup_iff_pairwise_ne] at nd
  exact nd.imp_of_mem λ {a b} ha hb h e=>h (hi a b (m a ha) (m b hb) e)
theorem fold_map {α β:Type} {g:α->β}:∀(xs:List α) (s:List β),xs.foldl (λs x=>s++[g x]) s=s++xs.map g
 | [],s=>by simp
 | x :: xs,s=>by rw [List.foldl_cons,fold_map xs];simp
end Wd
namespace L2
open PySem
theorem zsv {K:W.Frag} {a:Addr} {d:Option Addr} {its:Array Value} {n:Nat} {sl:Array (Option Value)} {xs:List Str} (l:K.lookup a=some ⟨.type "tuple",d,.seq its n,sl⟩) (h:(bif ("tuple" :String)=="tuple" && Nat.ble its.size 1000 then zfC its.toList else none)=some xs):zrC K a=some xs:=by unfold zrC;rw [l];exact h
end L2
namespace L2
open PySem PySem.Spec PyProof.Rows
section
variable {E:XS} {Γ Δ:Ctx} {m b:Bool} {te:TE} {u:TS} {d:Ds} {o:Oc} {i:Nat} {C p dx:Addr}
theorem EvT.borrowB {t:TT} {fs:List (Str×Ds)} (e:Γ[i]? =some (.ob m C p dx fs)) (ht:Γ.all ztM=true) (h:EvT (Γ.set i (.va m (dO C fs))) t b):EvT Γ t b:=λF0 Hb F H σ own Q a k=>by
 obtain ⟨F1,own1,_,a1⟩:=a.shareB e ht
 exact h F0 Hb F1 H σ own1 Q a1 λF' H' g=>k F H' (Grow.only a.fh g.h)
theorem zhp (h:EvM Γ Δ te d) (k:Run E Δ u o):Run E Γ (zdD (zjo te) u) o:=λF0 Hb F H σ own D a q=>h F0 Hb F H σ own _ a λv F' H' a' qv=>k F0 Hb F' H' σ own D a' q
end
end L2
namespace L2
open PySem PySem.Spec PyProof.Rows
section
variable {E:XS} {K:W.Frag} {γ β:Type} {Γ:Ctx} {i j1 j2:Nat}
theorem At.swapS {F0 Hb F H:Hp} {σ:St} {own:Nat->Option Addr} {s:Slot} (a:At F0 Hb F H σ own Γ) (h:i<Γ.length->zeV Hb F H own i (σ[i]?).join s):At F0 Hb F H σ own (Γ.set i s):=by
 refine ⟨a.g,a.inj,a.liv,λj s' es=> ?_,by rw [List.length_set];exact a.len⟩
 by_cases z:j=i
 ·
  subst z
  have hi:j<Γ.length:=by
   have:=(List.getElem?_eq_some_iff.mp es).1
   rw [List.length_set] at this;
   exact this
  rw [List.getElem?_set_self hi] at es
  cases es
  exact h hi
 ·
  rw [List.getElem?_set_ne (Ne.symm z)] at es
  exact a.sl j s' es
theorem zpe {t:TS} {o:Oc} {ds:List Ds} (e:Γ[i]? =some (.ow false ds)) (k:∀p,Run E (Γ.set i (.ol p ds)) t o):Run E Γ t o:=λF0 Hb F H σ own D a q=>by
 obtain ⟨p,vs,h1,h2,h3,h4,h5,h6⟩:=a.sl i _ e
 exact k p F0 Hb F H σ own D (a.swapS λ_=>⟨vs,h1,h2,h3,h4,h5,h6⟩) q
theorem zmv {t:TS} {o:Oc} {ds:List Ds} {p:Addr} (e:Γ[i]? =some (.ol p ds)) (k:Run E (Γ.set i (.ow false ds)) t o):Run E Γ t o:=λF0 Hb F H σ own D a q=>by
 obtain ⟨vs,h1,h2,h3,h4,h5,h6⟩:=a.sl i _ e
 exact k F0 Hb F H σ own D (a.swapS λ_=>⟨p,vs,h1,h2,h3,h4,h5,h6⟩) q
theorem zmN {S:Type} {tb u:TS} {p:Addr} {xs:List γ} {s0:S} (f:γ->Ds) (G:S->Ctx) (fo:β->Oc) {kk:S->β} (g:S->Int×γ->S) (I:Nat->S->Prop) (hΓ:Γ[i]? =some (.ol p (xs.map f))) (hG:∀s,(G s)[i]? =some (.ol p (xs.map f))) (w:Wk Γ (G s0)) (h0:I 0 s0)
  (body:∀(n:Nat) (x:Int×γ) (s:S),(zb8 xs)[n]? =some x->I n s->I (n+1) (g s x)∧Run E (zok [j1,j2] [dI x.1,f x.2] false (G s)) tb (.nx (G (g s x))))
  (k:∀s,s=(zb8 xs).foldl g s0->I (zb8 xs).length s->Run E (G s) u (fo (kk s))) :
  Run E Γ (zdD (zsE (zqL K (zdj (zhX i) zgo)) (zrM K 2 (ziK (zds j1) (ziK (zds j2) zs3))) tb) u) (fo (Let ((zb8 xs).foldl g s0) kk)):=by
   refine zkB (Δ:=G ((zb8 xs).foldl g s0)) ?_ (k _ rfl (by simpa using zec (n:=0) (I:=I) h0 λi x s e q=>by rw [Nat.zero_add] at q ⊢;exact (body i x s e q).1))
   intro F0 Hb F H σ own D a q
   obtain ⟨vs,h1,h2,h3,h4,h5,h6⟩:=a.sl i _ hΓ
   have hi:i<σ.length:=by rw [a.len];exact (List.getElem?_eq_some_iff.mp hΓ).1
   have e':σ[i]? =some (some (.ref p)):=by
    rw [List.getElem?_eq_getElem hi] at h1 ⊢
    exact congrArg some h1
   refine ⟨_,e',p,rfl,⟨vs,.inl (.inl h5)⟩,?_⟩
   refine ⟨λn mm σ H2=>mm=xs.length-n∧n≤xs.length∧∃s F2 own2,((zb8 xs).take n).foldl g s0=s∧I n s∧At F0 Hb F2 H2 σ own2 (G s),⟨_,rfl,Nat.zero_le _,s0,F,own,by simp,h0,a.wk w⟩,?_⟩
   rintro n mm σ2 H2 ⟨rfl,hn,s,F2,own2,es,hI,a2⟩
   obtain ⟨us,z1,z2,z3,z4,z5,z6⟩:=a2.sl i _ (hG s)
   have le:=Paired.length z6
   rw [List.length_map] at le
   have sq:SqL K H2 p us:= .inl (.inl z5)
   by_cases hlt:n<xs.length
   ·
    have hx:(zb8 xs)[n]? =some ((zb8 xs)[n]'(by rw [zdM];exact hlt)):=List.getElem?_eq_getElem _
    generalize (zb8 xs)[n]'(by rw [zdM];exact hlt)=x at hx
    obtain ⟨_,x1,x2⟩:=zcw hx
    obtain ⟨v,ev,qv⟩:=za2 z6 (show (xs.map f)[n]? =some (f x.2) by rw [List.getElem?_map,x2];rfl)
    obtain ⟨hI',hb⟩:=body n _ s hx hI
    have tk:((zb8 xs).take (n+1)).foldl g s0=g s x:=by rw [List.take_add_one,hx,List.foldl_append,es];rfl
    refine .inr ⟨⟨us,v,sq,ev⟩,λσ' H'=>∃F3 own3,At F0 Hb F3 H' σ' own3 (G (g s x)),λσ' H' ⟨F3,own3,a3⟩=>⟨xs.length-(n+1),by omega,rfl,hlt,_,F3,own3,tk,hI',a3⟩,λz H' y=> ?_⟩
    obtain ⟨r,x',rfl,hr,rfl,hxy⟩:=y
    have hx':=hxy us sq
    rw [ev] at hx'
    cases hx'
    refine ⟨r,_,rfl,.inl (.inl zat),rfl,_,_,rfl,_,_,rfl,rfl,?_⟩
    exact hb F0 Hb F2 _ _ own2 _ ((a2.grow ((Grow.refl a2.fh).newH hr)).setMany (js:=[j1,j2]) (m:=false) (vs:=[.int n,v]) (ds:=[dI x.1,f x.2]) (.cons (by show V.int _=V.int _;rw [x1]) (.cons qv .nil))) λF3 H3 σ3 own3 a4=>⟨F3,own3,a4⟩
   ·
    have e:n=xs.length:=by omega
    subst e
    rw [show (zb8 xs).take xs.length=zb8 xs from by rw [←zdM (xs:=xs),List.take_length]] at es
    subst es
    exact .inl ⟨⟨us,sq,by rw [le];exact Nat.le_refl _⟩,q F2 H2 σ2 own2 a2⟩
end
end L2
set_option maxHeartbeats 4000000
set_option maxRecDepth 100000
set_option maxHeartbeats 4000000
namespace My
open PySem L2
def top (i:Nat):Stmt:=PySem.Challenge.pw_swapbook_k84_plain_roads_of_a_desk.main.body.getD i (.Pass ⟨0,0,0,0⟩)
abbrev zdG:Stmt:=top 16
abbrev zlr:Stmt:=top 17
abbrev zll:Stmt:=top 18
abbrev zi5:Stmt:=top 19
abbrev zcV:Stmt:=zdL (top 24) 0
abbrev zg0:Stmt:=top 25
abbrev zcG:Stmt:=top 26
abbrev zc1:Stmt:=top 27
abbrev zhz:Stmt:=top 29
abbrev ziy:Stmt:=top 30
abbrev zgM:Stmt:=top 31
abbrev zhr:Stmt:=top 32
abbrev ziA:Stmt:=top 33
abbrev zf6:Stmt:=top 34
abbrev zhg:Stmt:=top 35
abbrev zg7:Stmt:=top 36
abbrev zit:Stmt:=top 37
abbrev ziC:Stmt:=top 38
abbrev ziN:Stmt:=top 39
abbrev zhw:Stmt:=top 40
abbrev ziH:Stmt:=top 46
abbrev zfG:Stmt:=top 55
abbrev zhm:Stmt:=top 56
abbrev zgh:Stmt:=top 57
abbrev zff:Stmt:=top 59
abbrev zgS:Stmt:=top 61
abbrev zfL:Stmt:=top 62
abbrev zf4:Stmt:=top 63
abbrev zjQ:Stmt:=top 64
abbrev zcf:Stmt:=top 65
abbrev zfr:Stmt:=top 66
abbrev zcr:Stmt:=top 67
abbrev ziI:Stmt:=top 70
abbrev zjY:Stmt:=top 71
abbrev zeU:Stmt:=top 72
abbrev zjX:Stmt:=top 85
abbrev zdJ:Stmt:=zdL (top 86) 0
abbrev zkw:Stmt:=zdL (top 86) 1
abbrev zeI:Stmt:=zdL (top 86) 2
abbrev ziu:Stmt:=zdL (top 86) 4
abbrev zf7:Stmt:=zdL (top 86) 5
abbrev zf5:Stmt:=top 88
abbrev zev:Stmt:=top 89
abbrev zfn:Stmt:=top 90
abbrev zgb:Stmt:=top 91
abbrev zei:Stmt:=top 92
abbrev zji:Stmt:=top 93
abbrev zea:Stmt:=top 64
abbrev zc0:Stmt:=zdL (top 86) 1
abbrev zed:Stmt:=top 64
abbrev zcO:Stmt:=zdL (top 86) 4
abbrev zcj:Stmt:=zdL (top 86) 1
abbrev zcZ:Stmt:=zdL (top 86) 4
abbrev zct:Stmt:=zdL (top 86) 1
abbrev lI:Ji->Ds:=λxs=>dL (List.map dI xs)
structure Adr where
 no:Unit:=()
 Stairs:Addr
 Book:Addr
 Desk:Addr
 t_MARKS:Addr
structure StairsD where
 steps:Jq
 heads:Ji
 roads:Jq
 deriving Inhabited
structure BookD where
 many:Int
 swaps:Jq
 deriving Inhabited
def zaV (C:Addr) (b:BookD):Ds:=dO C [("many",dI b.many),("swaps",dL (List.map lI b.swaps))]
structure DeskD where
 names:(List Str)
 book:(Option BookD)
 deriving Inhabited
def zl3 (A:Adr) (C:Addr) (b:DeskD):Ds:=dO C [("names",dL (List.map dS b.names)),("book",dOpt (zaV A.Book) b.book)]
structure Txt (K:W.Frag) (mg:Str->Option Value) (A:Adr):Prop where
 abs:mg "abs"=none
 all:mg "all"=none
 any:mg "any"=none
 enumerate:mg "enumerate"=none
 int:mg "int"=none
 len:mg "len"=none
 list:mg "list"=none
 range:mg "range"=none
 reversed:mg "reversed"=none
 set:mg "set"=none
 str:mg "str"=none
 zip:mg "zip"=none
 Stairs:mg "Stairs"=some (.ref A.Stairs)
 Stairs_cl:Cls K A.Stairs
 Stairs_steps:NoAttr K A.Stairs "steps"
 Stairs_heads:NoAttr K A.Stairs "heads"
 Stairs_roads:NoAttr K A.Stairs "roads"
 Book:mg "Book"=some (.ref A.Book)
 Book_cl:Cls K A.Book
 Book_many:NoAttr K A.Book "many"
 Book_swaps:NoAttr K A.Book "swaps"
 Desk:mg "Desk"=some (.ref A.Desk)
 Desk_cl:Cls K A.Desk
 Desk_names:NoAttr K A.Desk "names"
 Desk_book:NoAttr K A.Desk "book"
 g_MOST_WARES:∃ t,mg "MOST_WARES"=some (.int 8 t)
 g_MOST_SWAPS:∃ t,mg "MOST_SWAPS"=some (.int 12 t)
 g_LETTERS:∃ t,mg "LETTERS"=some (.str "abcdefghijklmnopqrstuvwxyz" t)
 g_FIGURES:∃ t,mg "FIGURES"=some (.str "0123456789" t)
 g_LONGEST_NAME:∃ t,mg "LONGEST_NAME"=some (.int 12 t)
 g_LONGEST_COUNT:∃ t,mg "LONGEST_COUNT"=some (.int 12 t)
 yas:∃ t,mg "LONGEST_NUMBER"=some (.int 2 t)
 g_NOTHING:∃ t,mg "NOTHING"=some (.str "nothing" t)
 t_MARKS:mg "MARKS"=some (.ref A.t_MARKS)
 tk_MARKS:zrC K A.t_MARKS=some [("+":Str),("-":Str),("=":Str)]
section
variable {P:Program} {w:World} {K:W.Frag} {mg:Str->Option Value} {base:Heap} {f:Addr} {fd:FuncData} {A:Adr}
noncomputable def zco (P0:Str) (P1:Str):Bool :=
 ((List.map (λ(x1:Str)=>(zqW x1 P1)) (chS P0)).all id)
def zdF (P0:Str) (P1:Str):Prop:=Wd.Wrd P0
def zga (K:W.Frag) (A:Adr):Sp:=Spv (ι:=Str×Str) (λx=>[dS x.1,dS x.2]) (λx=>zdF x.1 x.2) (λx=> ↥[dB (zco x.1 x.2)])
theorem zl1:FnScope ["word","signs"] ["word","signs"] (zag zfG):=⟨rfl,rfl,rfl,by decide+kernel,rfl,by decide+kernel,by decide+kernel⟩
theorem zlU (F:Fun K "made_of" "made_of" zfG f fd) (T:Txt K mg A) :FnOk P w K mg base (CXE P w) 1 f fd ["word","signs"] (zga K A):=by
 refine F.okV zl1 (λ_=>rfl) (λcdv Ar outer s H E x hr hp=> ?_)
 obtain ⟨P0,P1⟩:=x
 have hu:=hr.units
 replace hp:zdF P0 P1:=hp
 unfold zdF at hp
 refine ⟨_,(zaa (zaP (zaS (zic (K:=K) rfl rfl) rfl T.all PyProof.Rows.boot_all ↑[(zcM rfl (.of (osc:=(zag zfG)) (N:=["word","signs"]) (own:=["sign"]) (fvn:=["signs"]) (fv:=[1]) rfl rfl (by decide+kernel)) (zsL (pv 0)) (λ_ _ _ _ _=>⟨(zaQ (i:=0) (show (["sign","signs"]:List Str).Nodup by decide+kernel) rfl (Or.inl rfl) (Or.inr rfl)),zcK,(zex znK (pv 0) (pv 1) rfl)⟩))])) zad),.inl ?_⟩
 show L2.Run _ ([⇑[dS P0],⇑[dS P1]]:L2.Ctx) _ ((λ(r:Bool)=>Oc.rt true (dB r)) (zco P0 P1))
 unfold zco
 exact (zan (zaK (zpJ (xs:=(List.map (λ(x1:Str)=>(zqW x1 P1)) (chS P0))) (Ev.weak (K:=K) (EvO.ev (EvO.conv (zdQ (g:=(λ(x1:Str)=>dB (zqW x1 P1))) (zs7 (m:=true) (x:=P0) (Ev.any (m:=false) (zab (i:=0) rfl)) ↥(hp.asc)) ↥(hp.ch) ⟨by decide,by decide⟩ (λi2 x1 hx3=>have qhx3:=List.mem_of_getElem? hx3;(zq2 (x:=x1) (y:=P1) (Ev.any (m:=true) (zab (i:=0) rfl)) (Ev.any (m:=false) (zab (i:=1) rfl))))) (by first|(rw [List.map_map];rfl)|(simp only [cond_true,cond_false];rw [List.map_map];rfl))))))))
noncomputable def zck (P0:Str):Bool :=
 ((zco P0 ("abcdefghijklmnopqrstuvwxyz" :Str)) && ((decide (((P0.length:Nat):Int)≤12)) && (!decide (P0=("nothing" :Str)))))
def zeu (P0:Str):Prop:=Wd.Wrd P0
def zh7 (K:W.Frag) (A:Adr):Sp:=Spv (ι:=Str) (λx=>[dS x]) (λx=>zeu x) (λx=> ↥[dB (zck x)])
theorem zma:FnScope ["word"] ["word"] (zag zhm):=⟨rfl,rfl,rfl,by decide+kernel,rfl,by decide+kernel,by decide+kernel⟩
theorem zmf (F:Fun K "is_name" "is_name" zhm f fd) (T:Txt K mg A) (yaC:Callee P w K mg base (CXE P w) 1 "made_of" ["word","signs"] (zga K A)):FnOk P w K mg base (CXE P w) 2 f fd ["word"] (zh7 K A):=by
 refine F.okV zma (λ_=>rfl) (λcdv Ar outer s H E P0 hr hp=> ?_)
 have hu:=hr.units
 replace hp:zeu P0:=hp
 unfold zeu at hp
 obtain ⟨ybm,yc7⟩:=T.g_LETTERS
 obtain ⟨yaI,yb0⟩:=T.g_LONGEST_NAME
 obtain ⟨ya0,ybn⟩:=T.g_NOTHING
 refine ⟨_,(zaa (zaP (zia (zaN yaC (hr.mono (by decide)) rfl zaF ↑[pv 0,(zd3 (v:= .str "abcdefghijklmnopqrstuvwxyz") rfl yc7 ⟨_,rfl⟩)]) (zia (zex zsm (zaS zgp rfl T.len PySem.boot_len ↑[pv 0]) (zd3 (v:= .int 12) rfl yb0 ⟨_,rfl⟩) (zaR _)) (zkN (zex zht (pv 0) (zd3 (v:= .str "nothing") rfl ybn ⟨_,rfl⟩) (zaR _)))))) zad),.inl ?_⟩
 show L2.Run _ ([⇑[dS P0]]:L2.Ctx) _ ((λ(r:Bool)=>Oc.rt true (dB r)) (zck P0))
 unfold zck
 exact (zan (zaK (zid (b:=(zco P0 ("abcdefghijklmnopqrstuvwxyz" :Str))) (Ev.any (m:=true) (zao (x:=(P0,("abcdefghijklmnopqrstuvwxyz" :Str))) (zac (Ev.any (m:=false) (zab (i:=0) rfl)) (zac zaL zae)) rfl (by show zdF P0 ("abcdefghijklmnopqrstuvwxyz" :Str);exact hp) rfl)) (λhb=>(zid (b:=(decide (((P0.length:Nat):Int)≤12))) (zaY (x:=((P0.length:Nat):Int)) (y:=12) (zm2 (x:=P0) (Ev.any (m:=false) (zab (i:=0) rfl)) ↥(hp.line)) zaL) (λhb=>(zpw (x:=P0) (y:=("nothing" :Str)) (Ev.any (m:=false) (zab (i:=0) rfl)) zaL)))))))
noncomputable def zcq (P0:Str):Bool :=
 ((zco P0 ("0123456789" :Str)) && ((decide (((P0.length:Nat):Int)≤12)) && (!decide ((ixS P0 (0:Int))=("0" :Str)))))
def zd1 (P0:Str):Prop:=Wd.Wrd P0
def zhi (K:W.Frag) (A:Adr):Sp:=Spv (ι:=Str) (λx=>[dS x]) (λx=>zd1 x) (λx=> ↥[dB (zcq x)])
theorem zks:FnScope ["word"] ["word"] (zag zgh):=⟨rfl,rfl,rfl,by decide+kernel,rfl,by decide+kernel,by decide+kernel⟩
theorem zjU (F:Fun K "is_count" "is_count" zgh f fd) (T:Txt K mg A) (yaC:Callee P w K mg base (CXE P w) 1 "made_of" ["word","signs"] (zga K A)):FnOk P w K mg base (CXE P w) 2 f fd ["word"] (zhi K A):=by
 refine F.okV zks (λ_=>rfl) (λcdv Ar outer s H E P0 hr hp=> ?_)
 have hu:=hr.units
 replace hp:zd1 P0:=hp
 unfold zd1 at hp
 obtain ⟨ybo,yc8⟩:=T.g_FIGURES
 obtain ⟨yaD,ybP⟩:=T.g_LONGEST_COUNT
 refine ⟨_,(zaa (zaP (zia (zaN yaC (hr.mono (by decide)) rfl zaF ↑[pv 0,(zd3 (v:= .str "0123456789") rfl yc8 ⟨_,rfl⟩)]) (zia (zex zsm (zaS zgp rfl T.len PySem.boot_len ↑[pv 0]) (zd3 (v:= .int 12) rfl ybP ⟨_,rfl⟩) (zaR _)) (zkN (zex zht (zbx zjt (pv 0) zaj (λ_ _=>rfl)) zaT (zaR _)))))) zad),.inl ?_⟩
 show L2.Run _ ([⇑[dS P0]]:L2.Ctx) _ ((λ(r:Bool)=>Oc.rt true (dB r)) (zcq P0))
 unfold zcq
 exact (zan (zaK (zid (b:=(zco P0 ("0123456789" :Str))) (Ev.any (m:=true) (zao (x:=(P0,("0123456789" :Str))) (zac (Ev.any (m:=false) (zab (i:=0) rfl)) (zac zaL zae)) rfl (by show zdF P0 ("0123456789" :Str);exact hp) rfl)) (λhb=>(zid (b:=(decide (((P0.length:Nat):Int)≤12))) (zaY (x:=((P0.length:Nat):Int)) (y:=12) (zm2 (x:=P0) (Ev.any (m:=false) (zab (i:=0) rfl)) ↥(hp.line)) zaL) (λhb=>(zpw (x:=(ixS P0 (0:Int))) (y:=("0" :Str)) (zjB (x:=P0) (i:=(0:Int)) (Ev.any (m:=false) (zab (i:=0) rfl)) zaL ↥(hp.line) (by have z:=hp.2.1;unfold InB;omega)) zaL)))))))
theorem ztn {k:Nat} (h0:0<k) (h:k<10^12):zcq (Wd.num k)=true:=by
 unfold zcq zco
 have h1:=Wd.num_len h
 have h1:(Wd.num k).length≤12:=h1
 rw [Wd.all_made (λc hc=>Wd.in_fig (Wd.num_all k c hc)),decide_eq_true (show (((Wd.num k).length:Nat):Int)≤12 by omega),decide_eq_false (Wd.num_ix h0)]
 rfl
theorem zum {x:Str} (h:Wd.Nm x):zck x=true:=by
 unfold zck zco
 have h1:=h.2.2.1
 rw [Wd.all_made (λc hc=>Wd.in_let (h.1 c hc)),decide_eq_true (show ((x.length:Nat):Int)≤12 by omega),decide_eq_false h.2.2.2]
 rfl
def TmP (ws:List Str):Prop:=∃t:Wd.Tm,ws=t.ws∧∀k,t.ct=some k->0<k∧k<10 ^ 12
theorem TmP.cases {ws:List Str} (h:TmP ws):(∃s n,ws=[s,n])∨∃s k n,ws=[s,Wd.num k,n]∧0<k∧k<10 ^ 12:=by
 obtain ⟨t,e,h⟩:=h
 unfold Wd.Tm.ws at e
 cases ec:t.ct with
  |none=>rw [ec] at e;exact .inl ⟨_,_,e⟩
  |some k=>rw [ec] at e;exact .inr ⟨_,k,_,e,(h k ec).1,(h k ec).2⟩
theorem TmP.three {ws:List Str} (h:TmP ws) (h2:decide (((ws.length:Nat):Int)=(2:Int))=false):∃s k n,ws=[s,Wd.num k,n]∧0<k∧k<10 ^ 12:=by
 rcases h.cases with ⟨s,n,e⟩|h
 ·rw [e] at h2;exact absurd h2 (by simp)
 ·exact h
theorem TmP.i0 {ws:List Str} (h:TmP ws):InB ws.length (0:Int):=by rcases h.cases with ⟨s,n,e⟩|⟨s,k,n,e,_⟩<;>rw [e]<;>unfold InB<;>simp
theorem TmP.i1 {ws:List Str} (h:TmP ws):InB ws.length (1:Int):=by rcases h.cases with ⟨s,n,e⟩|⟨s,k,n,e,_⟩<;>rw [e]<;>unfold InB<;>simp
theorem TmP.i2 {ws:List Str} (h:TmP ws) (h2:decide (((ws.length:Nat):Int)=(2:Int))=false):InB ws.length (2:Int):=by
 obtain ⟨s,k,n,e,_⟩:=h.three h2
 rw [e];
 unfold InB;
 simp
theorem TmP.wd {ws:List Str} (h:TmP ws) (h3:decide (((ws.length:Nat):Int)=(3:Int))=true):Wd.Wrd (ixD ws (1:Int)):=by
 rcases h.cases with ⟨s,n,e⟩|⟨s,k,n,e,h0,h1⟩
 ·rw [e] at h3;exact absurd h3 (by simp)
 ·rw [e];exact Wd.num_wrd h1 h0
theorem TmP.tr {ws:List Str} (h:TmP ws) (h2:decide (((ws.length:Nat):Int)=(2:Int))=false):((decide (((ws.length:Nat):Int)=(3:Int))) && (zcq (ixD ws (1:Int))))=true:=by
 obtain ⟨s,k,n,e,h0,h1⟩:=h.three h2
 rw [e]
 show (true && zcq (Wd.num k))=true
 rw [ztn h0 h1];
 rfl
theorem TmP.it {ws:List Str} (h:TmP ws) (h2:decide (((ws.length:Nat):Int)=(2:Int))=false):(intText? (ixD ws (1:Int))).isSome=true∧(ixD ws (1:Int)).length≤640:=by
 obtain ⟨s,k,n,e,h0,h1⟩:=h.three h2
 rw [e]
 show (intText? (Wd.num k)).isSome=true∧(Wd.num k).length≤640
 rw [Wd.num_reads h1 h0]
 exact ⟨rfl,Nat.le_trans (Wd.num_len h1) (by decide)⟩
theorem zux {ws:List Str} {s j:Int} (e:s=(bif (decide ((ixD ws (0:Int))=("-" :Str))) then (-(1:Int)) else (1:Int))):zfy s j:=by
 refine .inl ?_
 rw [e]
 cases decide ((ixD ws (0:Int))=("-" :Str))<;>decide
noncomputable def zc5 (P0:(List Str)):(List Str) :=
 P0
def zdS (P0:(List Str)):Prop:=Wd.NsP P0
def zgY (K:W.Frag) (A:Adr):Sp:=Spv (ι:=(List Str)) (λx=>[dL (List.map dS x)]) (λx=>zdS x) (λx=> ⇑[dL (List.map dS (zc5 x))])
theorem zki:FnScope ["words"] ["words"] (zag zff):=⟨rfl,rfl,rfl,by decide+kernel,rfl,by decide+kernel,by decide+kernel⟩
theorem zkt (F:Fun K "names_of" "names_of" zff f fd) (T:Txt K mg A) :FnOk P w K mg base (CXE P w) 1 f fd ["words"] (zgY K A):=by
 refine F.okV zki (λ_=>rfl) (λcdv Ar outer s H E P0 hr hp=> ?_)
 have hu:=hr.units
 replace hp:zdS P0:=hp
 unfold zdS at hp
 refine ⟨_,(zaa (zbp (PW.pt (zos (zaz zdO (zaS (zaO (K:=K) rfl) rfl T.len PySem.boot_len ↑[pv 0]) zaj (zaR _)) (zlP (zgQ (zaS (zmD (K:=K) rfl rfl) rfl T.any PyProof.Rows.boot_any ↑[(zcM rfl (.of (osc:=(zag zff)) (N:=["words"]) (own:=["word"]) (fvn:=[]) (fv:=[]) rfl rfl (by decide+kernel)) (zbz (K:=K) rfl (pv 0)) (λ_ _ _ _ _=>⟨(zaQ (i:=0) (show (["word"]:List Str).Nodup by decide+kernel) rfl (Or.inl rfl) (Or.inr rfl)),zcK,(zex (zfu (K:=K) rfl) (pv 0) (zd3 (v:= .ref A.t_MARKS) rfl T.t_MARKS rfl) rfl)⟩))]))))) (zaa zaB zad) zad) (zaa (zaP (pv 0)) zad)),.inl ?_⟩
 show L2.Run _ ([⇑[dL (List.map dS P0)]]:L2.Ctx) _ ((λ(r:(List Str))=>Oc.rt false (dL (List.map dS r))) (zc5 P0))
 unfold zc5
 exact (zaA (EvT.conv (zlg (b:=(decide (((P0.length:Nat):Int)=(0:Int)))) (zap (zhY (x:=((P0.length:Nat):Int)) (y:=(0:Int)) (zbs (f:=dS) (xs:=P0) (Ev.weak (K:=K) (zab (i:=0) rfl))) zaL)) (λhb=>(zfz (zqu (xs:=(List.map (λ(x4:Str)=>(decide (x4∈[("+" :Str),("-" :Str),("=" :Str)]))) P0)) (Ev.weak (K:=K) (EvO.ev (EvO.conv (zdQ (g:=(λ(x4:Str)=>dB (decide (x4∈[("+" :Str),("-" :Str),("=" :Str)])))) (zcQ (m:=false) dS (xs:=P0) (Ev.weak (K:=K) (zab (i:=0) rfl))) ↥(hp.len) ⟨by decide,by decide⟩ (λi5 x4 hx6=>have qhx6:=List.mem_of_getElem? hx6;(zqK (x:=x4) (Ev.any (m:=false) (zab (i:=0) rfl)) T.tk_MARKS))) (by first|(rw [List.map_map];rfl)|(simp only [cond_true,cond_false];rw [List.map_map];rfl))))))))) ↥(hp.no)) (zak (zan (zaK (zab (i:=0) rfl)))))
noncomputable def zbO (P0:(List Str)):(Int×Str) :=
 (Let (bif (decide ((ixD P0 (0:Int))=("-" :Str))) then (-(1:Int)) else (1:Int)) (λ(sign8:Int)=>(bif (decide (((P0.length:Nat):Int)=(2:Int))) then (sign8,(ixD P0 (1:Int))) else ((sign8*(zqX (ixD P0 (1:Int)))),(ixD P0 (2:Int))))))
def zel (P0:(List Str)):Prop:=TmP P0
def zhU (K:W.Frag) (A:Adr):Sp:=Spv (ι:=(List Str)) (λx=>[dL (List.map dS x)]) (λx=>zel x) (λx=> ↥[dT [dI ((zbO x).1),dS ((zbO x).2)]])
theorem zh1:FnScope ["words","sign"] ["words"] (zag zgS):=⟨rfl,rfl,rfl,by decide+kernel,rfl,by decide+kernel,by decide+kernel⟩
theorem zlZ (F:Fun K "term_of" "term_of" zgS f fd) (T:Txt K mg A) (ybc:Callee P w K mg base (CXE P w) 2 "is_count" ["word"] (zhi K A)):FnOk P w K mg base (CXE P w) 3 f fd ["words"] (zhU K A):=by
 refine F.okV zh1 (λ_=>rfl) (λcdv Ar outer s H E P0 hr hp=> ?_)
 have hu:=hr.units
 replace hp:zel P0:=hp
 unfold zel at hp
 refine ⟨_,(zaa (zax (i:=1) zh1.nd rfl (Or.inl rfl) (zgE (zaz zdO (zbx (zaJ (K:=K) rfl) (pv 0) zaj (λ_ _=>rfl)) zaT (zaR _)) (zom zk6 zaj) zaj)) (zaa (zbp (zaz zdO (zaS (zaO (K:=K) rfl) rfl T.len PySem.boot_len ↑[pv 0]) zaj (zaR _)) (zaa (zaP (zgq ↑[pv 1,(zbx (zaJ (K:=K) rfl) (pv 0) zaj (λ_ _=>rfl))])) zad) zad) (zaa (zbp (PW.pt (zpI (zaz zdO (zaS (zaO (K:=K) rfl) rfl T.len PySem.boot_len ↑[pv 0]) zaj (zaR _)) (znQ (zgQ (zaN ybc (hr.mono (by decide)) rfl zaF ↑[(zbx (zaJ (K:=K) rfl) (pv 0) zaj (λ_ _=>rfl))]))))) (zaa (zaP (zgq ↑[(zaE zeQ (pv 1) (zb6 zjj rfl T.int (by decide+kernel) ↑[(zbx (zaJ (K:=K) rfl) (pv 0) zaj (λ_ _=>rfl))])),(zbx (zaJ (K:=K) rfl) (pv 0) zaj (λ_ _=>rfl))])) zad) zad) (zaa zaB zad)))),.inl ?_⟩
 show L2.Run _ ([⇑[dL (List.map dS P0)],.no]:L2.Ctx) _ ((λ(r:(Int×Str))=>Oc.rt true (dT [dI r.1,dS r.2])) (zbO P0))
 unfold zbO
 exact (zaC (m:=true) (x:=(bif (decide ((ixD P0 (0:Int))=("-" :Str))) then (-(1:Int)) else (1:Int))) dI (λ(r:(Int×Str))=>Oc.rt true (dT [dI r.1,dS r.2])) (zo8 dI (b:=(decide ((ixD P0 (0:Int))=("-" :Str)))) (x:=(-(1:Int))) (y:=(1:Int)) (zap (zdp (x:=(ixD P0 (0:Int))) (y:=("-" :Str)) (Ev.any (m:=false) (zb5 (f:=dS) (xs:=P0) (Ev.weak (K:=K) (zab (i:=0) rfl)) zaL ↥(hp.i0))) zaL)) (λhb=>(zo4 (x:=(1:Int)) zaL)) (λhb=>zaL)) (λsign8 hsign8=>(zb9 (b:=(decide (((P0.length:Nat):Int)=(2:Int)))) (λ(r:(Int×Str))=>Oc.rt true (dT [dI r.1,dS r.2])) (zap (zhY (x:=((P0.length:Nat):Int)) (y:=(2:Int)) (zbs (f:=dS) (xs:=P0) (Ev.weak (K:=K) (zab (i:=0) rfl))) zaL)) (λh9=>(zaH (zan (zaK (zgs (zac (Ev.any (m:=true) (zab (i:=1) rfl)) (zac (Ev.any (m:=false) (zb5 (f:=dS) (xs:=P0) (Ev.weak (K:=K) (zab (i:=0) rfl)) zaL ↥(hp.i1))) zae)) (by show 2≤sizeLine;decide)))))) (λh9=>(zak (zcD (EvT.conv (znW (b:=(decide (((P0.length:Nat):Int)=(3:Int)))) (zap (zhY (x:=((P0.length:Nat):Int)) (y:=(3:Int)) (zbs (f:=dS) (xs:=P0) (Ev.weak (K:=K) (zab (i:=0) rfl))) zaL)) (λhb=>(zfz (Ev.any (m:=true) (zao (x:=(ixD P0 (1:Int))) (zac (Ev.any (m:=false) (zb5 (f:=dS) (xs:=P0) (Ev.weak (K:=K) (zab (i:=0) rfl)) zaL ↥(hp.i1))) zae) rfl (by show zd1 (ixD P0 (1:Int));exact hp.wd (by assumption)) rfl))))) ↥(hp.tr (by assumption))) (zaH (zan (zaK (zgs (zac (zbb (x:=sign8) (y:=(zqX (ixD P0 (1:Int)))) (Ev.any (m:=true) (zab (i:=1) rfl)) (zqs (x:=(ixD P0 (1:Int))) (Ev.any (m:=false) (zb5 (f:=dS) (xs:=P0) (Ev.weak (K:=K) (zab (i:=0) rfl)) zaL ↥(hp.i1))) ↥(hp.it (by assumption))) ↥(zux (by assumption))) (zac (Ev.any (m:=false) (zb5 (f:=dS) (xs:=P0) (Ev.weak (K:=K) (zab (i:=0) rfl)) zaL ↥(hp.i2 (by assumption)))) zae)) (by show 2≤sizeLine;decide)))))))))))
theorem zut {t:Wd.Tm} (h:∀k,t.ct=some k->0<k∧k<10 ^ 12):zbO t.ws=((bif decide (t.sg=("-" :Str)) then-1 else 1)*((t.ct.getD 1:Nat):Int),t.nm):=by
 unfold zbO
 cases ec:t.ct with
  |none=>
   have e:t.ws=[t.sg,t.nm]:=by unfold Wd.Tm.ws;rw [ec]
   rw [e]
   show ((bif decide (t.sg=("-" :Str)) then (-(1:Int)) else (1:Int)),t.nm)=_
   simp
  |some k=>
   have e:t.ws=[t.sg,Wd.num k,t.nm]:=by unfold Wd.Tm.ws;rw [ec]
   rw [e]
   show ((bif decide (t.sg=("-" :Str)) then (-(1:Int)) else (1:Int))*zqX (Wd.num k),t.nm)=_
   unfold zqX
   rw [Wd.num_reads (h k ec).2 (h k ec).1]
   rfl
def SdP (ws:List Str):Prop:=("=" :Str)∉ws∧ws.length≤1000∧(ws≠[("nothing" :Str)]->∀t∈(Wd.sgn ws).foldl Wd.stepT [],TmP t)
theorem zt8 {ws sg:List Str} {t0 r:List (List Str)} {x:List Str} (hp:SdP ws) (h:decide (ws=[("nothing" :Str)])=false) (hS:sg=Wd.sgn ws) (hT:t0=[]) (hx:x∈r) (hr:r=List.foldl (λ(s15:(List (List Str))) (x16:Str)=>(Let (bif (decide (x16∈[("+" :Str),("-" :Str)])) then (s15++[[x16]]) else (zeD s15 (-(1:Int)) ((ixD s15 (-(1:Int)))++[x16]))) (λ(v21:(List (List Str)))=>v21))) t0 sg):TmP x:=by
 subst hT hr hS
 exact hp.2.2 (of_decide_eq_false h) x hx
theorem zrh {ns:List Str} (h:Wd.NmsP ns):(!((List.map (λ(x26:Str)=>(zck x26)) ns).all id))=false:=by
 have:((List.map (λ(x26:Str)=>(zck x26)) ns).all id)=true:=by
  rw [List.all_eq_true]
  intro b hb
  obtain ⟨w,hw,rfl⟩:=List.mem_map.mp hb
  exact zum (h.1 w hw)
 rw [this];
 rfl
def BoP (ns:List Str) (sd:List (Int×Str)):Prop:=ns.length≤8∧∀p∈sd,p.2∈ns
theorem zoO {n:Nat}:(zd9 ((n:Nat):Int) [(0:Int)]).length=n:=by unfold zd9;simp
theorem zpG {ns:List Str} {sd:List (Int×Str)} (h:BoP ns sd):(-(2 ^ 63)≤((ns.length:Nat):Int)∧((ns.length:Nat):Int)<2 ^ 63)∧[(0:Int)].length*(((ns.length:Nat):Int)).toNat≤sizeLine:=by
 have:=h.1
 exact ⟨⟨by omega,by omega⟩,zau (by simp;omega)⟩
theorem zuv {ns:List Str} {sd:List (Int×Str)} {p:Int×Str} (h:BoP ns sd) (hp:p∈sd):(!decide (p.2∈ns))=false:=by rw [decide_eq_true (h.2 p hp)];rfl
theorem zr9 {ns:List Str} {sd:List (Int×Str)} {p:Int×Str} {s:Ji} (h:BoP ns sd) (hs:s.length=ns.length) (hp:p∈sd):InB s.length (((ns.idxOf p.2:Nat):Int)):=by
 have:=List.idxOf_lt_length_of_mem (h.2 p hp)
 unfold InB;
 omega
noncomputable def zay (P0:(List Str)):(List (Int×Str)) :=
 (bif (decide (P0=[("nothing" :Str)])) then [] else (Let (bif (decide ((zcu P0 none (some (1:Int)))=[("-" :Str)])) then P0 else ([("+" :Str)]++P0)) (λ(v13:(List Str))=>(Let ([]:List (List Str)) (λ(v14:(List (List Str)))=>(Let (List.foldl (λ(s15:(List (List Str))) (x16:Str)=>(Let (bif (decide (x16∈[("+" :Str),("-" :Str)])) then (s15++[[x16]]) else (zeD s15 (-(1:Int)) ((ixD s15 (-(1:Int)))++[x16]))) (λ(v21:(List (List Str)))=>v21))) v14 v13) (λ(r22:(List (List Str)))=>(List.map (λ(x23:(List Str))=>(zbO x23)) r22))))))))
def zdH (P0:(List Str)):Prop:=SdP P0
def zh4 (K:W.Frag) (A:Adr):Sp:=Spv (ι:=(List Str)) (λx=>[dL (List.map dS x)]) (λx=>zdH x) (λx=> ↥[dL (List.map (λ(p:(Int×Str))=>dT [dI p.1,dS p.2]) (zay x))])
theorem ze4:FnScope ["words","signed","terms","word"] ["words"] (zag zfL):=⟨rfl,rfl,rfl,by decide+kernel,rfl,by decide+kernel,by decide+kernel⟩
theorem zl6 (F:Fun K "side_of" "side_of" zfL f fd) (T:Txt K mg A) (ybp:Callee P w K mg base (CXE P w) 3 "term_of" ["words"] (zhU K A)):FnOk P w K mg base (CXE P w) 4 f fd ["words"] (zh4 K A):=by
 refine F.okV ze4 (λ_=>rfl) (λcdv Ar outer s H E P0 hr hp=> ?_)
 have hu:=hr.units
 replace hp:zdH P0:=hp
 unfold zdH at hp
 obtain ⟨ya0,ybn⟩:=T.g_NOTHING
 refine ⟨_,(zaa (zbp (zaz (zfu (K:=K) rfl) zaT (pv 0) rfl) (zaa zaB zad) zad) (zaa (zbp (zaz (zj4 (K:=K) rfl hu) (pv 0) (zbu ↑[(zd3 (v:= .str "nothing") rfl ybn ⟨_,rfl⟩)]) (zaR _)) (zaa (zaP (zbu zcI)) zad) zad) (zaa (zax (i:=1) ze4.nd rfl (Or.inl rfl) (zgE (zaz (zj4 (K:=K) rfl hu) (zc9 (zcv (K:=K) rfl) (pv 0) zd2 (zd5 zaj)) (zbu ↑[zaT]) (zaR _)) (pv 0) (zaE zeP (zbu ↑[zaT]) (pv 0)))) (zaa (zax (i:=2) ze4.nd rfl (Or.inl rfl) (zbu zcI)) (zaa (zdo PassesOwn.never rfl (zbz (K:=K) rfl (pv 1)) (zaQ (i:=3) ze4.nd rfl (Or.inl rfl) (Or.inl rfl)) (zaa (zbp (zaz (zfu (K:=K) rfl) (pv 3) (zgq ↑[zaT,zaT]) rfl) (zaa (zbJ (zby (K:=K) rfl (pv 2) ↑[zbu ↑[pv 3]])) zad) (zaa (zbJ (zby (K:=K) rfl (zbx (zaJ (K:=K) rfl) (pv 2) (zom zk6 zaj) (λ_ _=>rfl)) ↑[pv 3])) zad)) zad)) (zaa (zaP (zcM rfl (.of (osc:=(zag zfL)) (N:=["words","signed","terms","word"]) (own:=["term"]) (fvn:=[]) (fv:=[]) rfl rfl (by decide+kernel)) (zbz (K:=K) rfl (pv 2)) (λ_ _ _ _ _=>⟨(zaQ (i:=0) (show (["term"]:List Str).Nodup by decide+kernel) rfl (Or.inl rfl) (Or.inr rfl)),zcK,(zaN ybp (hr.mono (by decide)) rfl zaF ↑[pv 0])⟩))) zad)))))),.inl ?_⟩
 show L2.Run _ ([⇑[dL (List.map dS P0)],.no,.no,.no]:L2.Ctx) _ ((λ(r:(List (Int×Str)))=>Oc.rt true (dL (List.map (λ(p:(Int×Str))=>dT [dI p.1,dS p.2]) r))) (zay P0))
 unfold zay
 exact (zaA (EvT.conv (zap (zn7 (x:=("=" :Str)) (xs:=P0) zaL (Ev.weak (K:=K) (zab (i:=0) rfl)))) ↥(decide_eq_false hp.1)) (zak (zb9 (b:=(decide (P0=[("nothing" :Str)]))) (λ(r:(List (Int×Str)))=>Oc.rt true (dL (List.map (λ(p:(Int×Str))=>dT [dI p.1,dS p.2]) r))) (zap (zmI (n:=0) (neg:=false) (xs:=P0) (ys:=[("nothing" :Str)]) EqD.str (Ev.weak (K:=K) (zab (i:=0) rfl)) (Ev.weak (K:=K) (EvO.ev (zcH (zac zaL zae) (by show 1≤sizeLine;decide)))))) (λh12=>(zaH (zan (zaK (EvO.ev (zbM (m:=true) zae)))))) (λh12=>(zak (zaC (m:=false) (x:=(bif (decide ((zcu P0 none (some (1:Int)))=[("-" :Str)])) then P0 else ([("+" :Str)]++P0))) (λ(xs:(List Str))=>dL (List.map dS xs)) (λ(r:(List (Int×Str)))=>Oc.rt true (dL (List.map (λ(p:(Int×Str))=>dT [dI p.1,dS p.2]) r))) (zo8 (λ(xs:(List Str))=>dL (List.map dS xs)) (b:=(decide ((zcu P0 none (some (1:Int)))=[("-" :Str)]))) (x:=P0) (y:=([("+" :Str)]++P0)) (zap (zmI (n:=0) (neg:=false) (xs:=(zcu P0 none (some (1:Int)))) (ys:=[("-" :Str)]) EqD.str (Ev.weak (K:=K) (EvO.ev (EvO.anyS (m:=false) (zd7 (f:=dS) (xs:=P0) (Ev.weak (K:=K) (zab (i:=0) rfl)) zda (zc8 zaL))))) (Ev.weak (K:=K) (EvO.ev (zcH (zac zaL zae) (by show 1≤sizeLine;decide)))))) (λhb=>(zab (i:=0) rfl)) (λhb=>(EvO.ev (EvO.anyS (m:=false) (zdB (f:=dS) (xs:=[("+" :Str)]) (ys:=P0) (EvO.ev (zcH (zac zaL zae) (by show 1≤sizeLine;decide))) (zab (i:=0) rfl) (by have z:=hp.2.1;apply zau;simp;omega)))))) (λv13 hv13=>have hS:=hv13;(zo7 (x:=[]) dRS (λ(r:(List (Int×Str)))=>Oc.rt true (dL (List.map (λ(p:(Int×Str))=>dT [dI p.1,dS p.2]) r))) (zlC (znf zae)) (λv14 hv14=>have hT:=hv14;(zcy (s0:=v14) (λ(s15:(List (List Str)))=>([⇑[dL (List.map dS P0)],⇑[dL (List.map dS v13)],.tl (dRS s15),.no]:L2.Ctx)) (λ(r:(List (Int×Str)))=>Oc.rt true (dL (List.map (λ(p:(Int×Str))=>dT [dI p.1,dS p.2]) r))) (λ(s15:(List (List Str))) (x16:Str)=>(Let (bif (decide (x16∈[("+" :Str),("-" :Str)])) then (s15++[[x16]]) else (zeD s15 (-(1:Int)) ((ixD s15 (-(1:Int)))++[x16]))) (λ(v21:(List (List Str)))=>v21))) (λ(i:Nat) (s15:(List (List Str)))=>Wd.RwI i s15) (zcQ (m:=false) dS (xs:=v13) (Ev.weak (K:=K) (zab (i:=1) rfl))) (.eq (.eq (.eq (.eq .nil)))) (by rw [hT];exact Wd.RwI.start) (λi17 x16 s15 hx18 hI19=>have v18:=List.mem_of_getElem? hx18;⟨(by rw [hS] at*;exact Wd.RwI.step (by assumption) (by assumption)),(zdq (b:=(decide (x16∈[("+" :Str),("-" :Str)]))) (λbb=>([⇑[dL (List.map dS P0)],⇑[dL (List.map dS v13)],.tl (dRS (bif bb then (s15++[[x16]]) else (zeD s15 (-(1:Int)) ((ixD s15 (-(1:Int)))++[x16])))),⇑[dS x16]]:L2.Ctx)) (zap (zmU (x:=x16) (xs:=[("+" :Str),("-" :Str)]) (Ev.any (m:=false) (zab (i:=3) rfl)) (zgs (zac zaL (zac zaL zae)) (by show 2≤sizeLine;decide)))) (λh20=>(zko (i:=2) (nss:=s15) (ns:=[x16]) rfl rfl (zcH (zac (Ev.any (m:=false) (zab (i:=3) rfl)) zae) (by show 1≤sizeLine;decide)) (by rw [hS] at*;exact Wd.RwI.lt (by assumption) (by assumption) hp.2.1) (zaD (.eq (.eq (.eq (.eq .nil))))))) (λh20=>(zm0 (m:=false) (nss:=s15) (k:=(-(1:Int))) (v:=x16) rfl rfl (zo4 (x:=(1:Int)) zaL) (by rw [hS] at*;exact Wd.RwI.ix (by assumption) (by assumption) (by assumption)) (Ev.any (m:=false) (zab (i:=3) rfl)) (by rw [hS] at*;exact Wd.RwI.lt2 (by assumption) (by assumption) hp.2.1 (by assumption)) (zaD (.eq (.eq (.eq (.eq .nil))))))) (zek (x:=(bif (decide (x16∈[("+" :Str),("-" :Str)])) then (s15++[[x16]]) else (zeD s15 (-(1:Int)) ((ixD s15 (-(1:Int)))++[x16])))) (λv21=>([⇑[dL (List.map dS P0)],⇑[dL (List.map dS v13)],.tl (dRS v21),⇑[dS x16]]:L2.Ctx)) (λz=>Oc.nx ((λ(s15:(List (List Str)))=>([⇑[dL (List.map dS P0)],⇑[dL (List.map dS v13)],.tl (dRS s15),.no]:L2.Ctx)) z)) (λv21 hv21=>(zaD (.eq (.eq (.eq (.no .nil))))))))⟩) (λr22 hr22 hI=>(zmg rfl (zan (zaK (EvO.ev (EvO.conv (zdQ (g:=(λ(x23:(List Str))=>dT [dI ((zbO x23).1),dS ((zbO x23).2)])) (zcQ (m:=true) (λ(xs:(List Str))=>dL (List.map dS xs)) (xs:=r22) (Ev.weak (K:=K) (zsC (zab (i:=2) rfl)))) (by rw [hS] at*;exact Wd.RwI.len (by assumption) hp.2.1) ⟨by decide,by decide⟩ (λi24 x23 hx25=>have v25:=List.mem_of_getElem? hx25;(zao (x:=x23) (zac (Ev.old (zab (i:=0) rfl)) zae) rfl (by show zel x23;exact zt8 hp (by assumption) hS hT (by assumption) (by assumption)) rfl))) (by first|(rw [List.map_map];rfl)|(simp only [cond_true,cond_false];rw [List.map_map];rfl))))))))))))))))))
theorem zuy {ws:List Str} (h:ws≠[("nothing" :Str)]):zay ws=List.map (λ(x:List Str)=>zbO x) ((Wd.sgn ws).foldl Wd.stepT []):=by
 unfold zay
 rw [decide_eq_false h];
 rfl
def SsP (ws:List Str):Prop:=∃u v,ws=u++("=" :Str)::v∧SdP u∧SdP v
theorem zpT {u v:List Str}:("=" :Str)∈u++("=" :Str)::v:=by simp
theorem zub {u v:List Str}:(!decide (("=" :Str)∈u++("=" :Str)::v))=false:=by rw [decide_eq_true zpT];rfl
theorem zsW {u v:List Str} (h:SdP u):(((u++("=" :Str)::v).idxOf ("=" :Str):Nat):Int)=((u.length:Nat):Int):=by rw [List.idxOf_append,if_neg h.1];simp
theorem zu5 {u v:List Str}:zcu (u++("=" :Str)::v) none (some ((u.length:Nat):Int))=u:=by
 unfold zcu
 rw [HT.sIx_nat,HT.sIx_none,Nat.min_eq_left (by simp)]
 simp
theorem zuR {u v:List Str}:zcu (u++("=" :Str)::v) (some (((u.length:Nat):Int)+(1:Int))) none=v:=by
 unfold zcu
 rw [show ((u.length:Nat):Int)+(1:Int)=((u.length+1:Nat):Int) by omega,HT.sIx_nat,HT.sIx_none,Nat.min_eq_left (by simp)]
 rw [List.drop_append,List.drop_eq_nil_of_le (by omega)]
 simp
 exact List.take_of_length_le (by omega)
noncomputable def zcs (P0:(List Str)):(List (List (Int×Str))) :=
 (Let (((P0).idxOf ("=" :Str):Nat):Int) (λ(v27:Int)=>[(zay (zcu P0 none (some v27))),(zay (zcu P0 (some (v27+(1:Int))) none))]))
def zdR (P0:(List Str)):Prop:=SsP P0
def zhC (K:W.Frag) (A:Adr):Sp:=Spv (ι:=(List Str)) (λx=>[dL (List.map dS x)]) (λx=>zdR x) (λx=> ↥[dL (List.map (λ(xs:(List (Int×Str)))=>dL (List.map (λ(p:(Int×Str))=>dT [dI p.1,dS p.2]) xs)) (zcs x))])
theorem zhF:FnScope ["words","place"] ["words"] (zag zf4):=⟨rfl,rfl,rfl,by decide+kernel,rfl,by decide+kernel,by decide+kernel⟩
theorem zjS (F:Fun K "sides_of" "sides_of" zf4 f fd) (T:Txt K mg A) (ya1:Callee P w K mg base (CXE P w) 4 "side_of" ["words"] (zh4 K A)):FnOk P w K mg base (CXE P w) 5 f fd ["words"] (zhC K A):=by
 refine F.okV zhF (λ_=>rfl) (λcdv Ar outer s H E P0 hr hp=> ?_)
 have hu:=hr.units
 replace hp:zdR P0:=hp
 unfold zdR at hp
 obtain ⟨u,v,he,hu,hv⟩:=hp
 refine ⟨_,(zaa (zbp (zaz (zkT (K:=K) rfl) zaT (pv 0) rfl) (zaa zaB zad) zad) (zaa (zax (i:=1) zhF.nd rfl (Or.inl rfl) (zlL (K:=K) rfl (pv 0) ↑[zaT])) (zaa (zaP (zbu ↑[(zaN ya1 (hr.mono (by decide)) rfl zaF ↑[(zc9 (zcv (K:=K) rfl) (pv 0) zd2 (zd5 (pv 1)))]),(zaN ya1 (hr.mono (by decide)) rfl zaF ↑[(zc9 (zcv (K:=K) rfl) (pv 0) (zd5 (zaE zdn (pv 1) zaj)) zd2)])])) zad))),.inl ?_⟩
 show L2.Run _ ([⇑[dL (List.map dS P0)],.no]:L2.Ctx) _ ((λ(r:(List (List (Int×Str))))=>Oc.rt true (dL (List.map (λ(xs:(List (Int×Str)))=>dL (List.map (λ(p:(Int×Str))=>dT [dI p.1,dS p.2]) xs)) r))) (zcs P0))
 unfold zcs
 exact (zaA (EvT.conv (zap (znB (x:=("=" :Str)) (xs:=P0) zaL (Ev.weak (K:=K) (zab (i:=0) rfl)))) (by rw [he];exact zub)) (zak (zaC (m:=true) (x:=(((P0).idxOf ("=" :Str):Nat):Int)) dI (λ(r:(List (List (Int×Str))))=>Oc.rt true (dL (List.map (λ(xs:(List (Int×Str)))=>dL (List.map (λ(p:(Int×Str))=>dT [dI p.1,dS p.2]) xs)) r))) (zk9 (K:=K) (xs:=P0) (x:=("=" :Str)) (Ev.weak (K:=K) (zab (i:=0) rfl)) zaL (by rw [he];exact zpT)) (λv27 hv27=>have hP:=Eq.trans hv27 (he ▸ zsW hu);(zan (zaK (EvO.ev (zcH (zac (zao (x:=(zcu P0 none (some v27))) (zac (EvO.ev (EvO.anyS (m:=false) (zd7 (f:=dS) (xs:=P0) (Ev.weak (K:=K) (zab (i:=0) rfl)) zda (zc8 (Ev.any (m:=true) (zab (i:=1) rfl)))))) zae) rfl (by show zdH (zcu P0 none (some v27));rw [hP,he,zu5];exact hu) rfl) (zac (zao (x:=(zcu P0 (some (v27+(1:Int))) none)) (zac (EvO.ev (EvO.anyS (m:=false) (zd7 (f:=dS) (xs:=P0) (Ev.weak (K:=K) (zab (i:=0) rfl)) (zc8 (zaY (x:=v27) (y:=(1:Int)) (Ev.any (m:=true) (zab (i:=1) rfl)) zaL)) zda))) zae) rfl (by show zdH (zcu P0 (some (v27+(1:Int))) none);rw [hP,he,zuR];exact hv) rfl) zae)) (by show 2≤sizeLine;decide)))))))))
theorem zsY {u v:List Str} (h:SdP u):zcs (u++("=" :Str)::v)=[zay u,zay v]:=by
 unfold zcs
 rw [zsW h]
 show [zay (zcu _ none (some ((u.length:Nat):Int))),zay (zcu _ (some (((u.length:Nat):Int)+(1:Int))) none)]=_
 rw [zu5,zuR]
noncomputable def zdT (P0:(List Str)):Unit:=()
def zbL (P0:(List Str)):Prop:=Wd.NmsP P0
def zdN (K:W.Frag) (A:Adr):Sp:=Spv (ι:=(List Str)) (λx=>[dL (List.map dS x)]) (λx=>zbL x) (λx=> ↥[dN])
theorem zfw:FnScope ["names"] ["names"] (zag zcf):=⟨rfl,rfl,rfl,by decide+kernel,rfl,by decide+kernel,by decide+kernel⟩
theorem zfq (F:Fun K "refuse_bad_names" "refuse_bad_names" zcf f fd) (T:Txt K mg A) (ybq:Callee P w K mg base (CXE P w) 2 "is_name" ["word"] (zh7 K A)):FnOk P w K mg base (CXE P w) 3 f fd ["names"] (zdN K A):=by
 refine F.okV zfw (λ_=>rfl) (λcdv Ar outer s H E P0 hr hp=> ?_)
 have hu:=hr.units
 replace hp:zbL P0:=hp
 unfold zbL at hp
 obtain ⟨yaE,yaT⟩:=T.g_MOST_WARES
 refine ⟨_,(zaa (zbp (zlw (zgQ (zaS (zic (K:=K) rfl rfl) rfl T.all PyProof.Rows.boot_all ↑[(zcM rfl (.of (osc:=(zag zcf)) (N:=["names"]) (own:=["name"]) (fvn:=[]) (fv:=[]) rfl rfl (by decide+kernel)) (zbz (K:=K) rfl (pv 0)) (λ_ _ _ _ _=>⟨(zaQ (i:=0) (show (["name"]:List Str).Nodup by decide+kernel) rfl (Or.inl rfl) (Or.inr rfl)),zcK,(zaN ybq (hr.mono (by decide)) rfl zaF ↑[pv 0])⟩))]))) (zaa zaB zad) zad) (zaa (zbp (zaz zht (zmE (K:=K) rfl rfl rfl T.len rfl T.set (pv 0)) (zaS (zaO (K:=K) rfl) rfl T.len PySem.boot_len ↑[pv 0]) (zaR _)) (zaa zaB zad) zad) (zaa (zbp (zaz zo3 (zaS (zaO (K:=K) rfl) rfl T.len PySem.boot_len ↑[pv 0]) (zd3 (v:= .int 8) rfl yaT ⟨_,rfl⟩) (zaR _)) (zaa zaB zad) zad) zad))),.inr ⟨_,([⇑[dL (List.map dS P0)]]:L2.Ctx),rfl,?_⟩⟩
 show L2.Run _ ([⇑[dL (List.map dS P0)]]:L2.Ctx) _ _
 exact (zaA (EvT.conv (ziz (zfz (zpJ (xs:=(List.map (λ(x28:Str)=>(zck x28)) P0)) (Ev.weak (K:=K) (EvO.ev (EvO.conv (zdQ (g:=(λ(x28:Str)=>dB (zck x28))) (zcQ (m:=false) dS (xs:=P0) (Ev.weak (K:=K) (zab (i:=0) rfl))) ↥(hp.len) ⟨by decide,by decide⟩ (λi29 x28 hx30=>have v30:=List.mem_of_getElem? hx30;(Ev.any (m:=true) (zao (x:=x28) (zac (Ev.any (m:=false) (zab (i:=0) rfl)) zae) rfl (by show zeu x28;exact (hp.1 _ (by assumption)).wrd) rfl)))) (by first|(rw [List.map_map];rfl)|(simp only [cond_true,cond_false];rw [List.map_map];rfl)))))))) ↥(zrh hp)) (zak (zaA (EvT.conv (zap (zgm (x:=(((zgU P0).length:Nat):Int)) (y:=((P0.length:Nat):Int)) (zn3 (K:=K) (xs:=P0) (Ev.weak (K:=K) (zab (i:=0) rfl)) (by have z:=hp.2.2;omega)) (zbs (f:=dS) (xs:=P0) (Ev.weak (K:=K) (zab (i:=0) rfl))))) (by rw [Wd.setL_nodup hp.2.1];simp)) (zak (zaA (EvT.conv (zap (zaY (x:=((P0.length:Nat):Int)) (y:=8) (zbs (f:=dS) (xs:=P0) (Ev.weak (K:=K) (zab (i:=0) rfl))) zaL)) (by have z:=hp.2.2;exact decide_eq_false (by omega))) (zak (zaD (Wk.refl _))))))))
noncomputable def zaq (P0:(List Str)) (P1:(List (Int×Str))):Ji :=
 (Let (zd9 ((P0.length:Nat):Int) [(0:Int)]) (λ(v34:Ji)=>(Let (List.foldl (λ(s35:Ji) (x36:(Int×Str))=>(Let (((P0).idxOf x36.2:Nat):Int) (λ(v41:Int)=>(Let (zeD s35 v41 ((ixD s35 v41)+x36.1)) (λ(v42:Ji)=>v42))))) v34 P1) (λ(r43:Ji)=>r43))))
def zcU (P0:(List Str)) (P1:(List (Int×Str))):Prop:=BoP P0 P1
def zeS (K:W.Frag) (A:Adr):Sp:=Spv (ι:=(List Str)×(List (Int×Str))) (λx=>[dL (List.map dS x.1),dL (List.map (λ(p:(Int×Str))=>dT [dI p.1,dS p.2]) x.2)]) (λx=>zcU x.1 x.2) (λx=> ↥[dL (List.map dI (zaq x.1 x.2))])
theorem zdi:FnScope ["names","side","basket","many","name","place"] ["names","side"] (zag zfr):=⟨rfl,rfl,rfl,by decide+kernel,rfl,by decide+kernel,by decide+kernel⟩
theorem zjp (F:Fun K "basket_of" "basket_of" zfr f fd) (T:Txt K mg A) :FnOk P w K mg base (CXE P w) 1 f fd ["names","side"] (zeS K A):=by
 refine F.okV zdi (λ_=>rfl) (λcdv Ar outer s H E x hr hp=> ?_)
 obtain ⟨P0,P1⟩:=x
 have hu:=hr.units
 replace hp:zcU P0 P1:=hp
 unfold zcU at hp
 refine ⟨_,(zaa (zax (i:=2) zdi.nd rfl (Or.inl rfl) (zaE znZ (zbu ↑[zaj]) (zaS (zaO (K:=K) rfl) rfl T.len PySem.boot_len ↑[pv 0]))) (zaa (zdo PassesOwn.never rfl (zbz (K:=K) rfl (pv 1)) (zc7 (K:=K) (n:=2) rfl rfl (zbj (zaQ (i:=3) zdi.nd rfl (Or.inl rfl) (Or.inl rfl)) (zbj (zaQ (i:=4) zdi.nd rfl (Or.inl rfl) (Or.inl rfl)) zd6))) (zaa (zbp (zaz (zkT (K:=K) rfl) (pv 4) (pv 0) rfl) (zaa zaB zad) zad) (zaa (zax (i:=5) zdi.nd rfl (Or.inl rfl) (zlL (K:=K) rfl (pv 0) ↑[pv 4])) (zaa (zpM (zaE zdn (zbx (zaJ (K:=K) rfl) (pv 2) (pv 5) (λ_ _=>rfl)) (pv 3)) (zpA (pv 2) (pv 5) zkQ)) zad)))) (zaa (zaP (pv 2)) zad))),.inl ?_⟩
 show L2.Run _ ([⇑[dL (List.map dS P0)],⇑[dL (List.map (λ(p:(Int×Str))=>dT [dI p.1,dS p.2]) P1)],.no,.no,.no,.no]:L2.Ctx) _ ((λ(r:Ji)=>Oc.rt true (dL (List.map dI r))) (zaq P0 P1))
 unfold zaq
 exact (zkJ (m:=true) (x:=(zd9 ((P0.length:Nat):Int) [(0:Int)])) (λz=>List.map dI z) (λ(r:Ji)=>Oc.rt true (dL (List.map dI r))) (zj7 (f:=dI) (xs:=[(0:Int)]) (n:=((P0.length:Nat):Int)) (EvO.ev (zcH (zac zaL zae) (by show 1≤sizeLine;decide))) (zbs (f:=dS) (xs:=P0) (Ev.weak (K:=K) (zab (i:=0) rfl))) ↥((zpG hp).1) ↥((zpG hp).2)) (λv34 hv34=>have hB:=hv34;(zcy (s0:=v34) (λ(s35:Ji)=>([⇑[dL (List.map dS P0)],⇑[dL (List.map (λ(p:(Int×Str))=>dT [dI p.1,dS p.2]) P1)],.ow true (List.map dI s35),.no,.no,.no]:L2.Ctx)) (λ(r:Ji)=>Oc.rt true (dL (List.map dI r))) (λ(s35:Ji) (x36:(Int×Str))=>(Let (((P0).idxOf x36.2:Nat):Int) (λ(v41:Int)=>(Let (zeD s35 v41 ((ixD s35 v41)+x36.1)) (λ(v42:Ji)=>v42))))) (λ(i:Nat) (s35:Ji)=>s35.length=P0.length) (zop (m:=false) (λp=>dI p.1) (λp=>dS p.2) (xs:=P1) (Ev.weak (K:=K) (zab (i:=1) rfl))) (.eq (.eq (.eq (.eq (.eq (.eq .nil)))))) (by rw [hB];exact zoO) (λi37 x36 s35 hx38 hI39=>have v38:=List.mem_of_getElem? hx38;⟨(by show (zeD _ _ _).length=_;rw [ziE];assumption),(zaA (EvT.conv (zap (znB (x:=x36.2) (xs:=P0) (Ev.any (m:=false) (zab (i:=4) rfl)) (Ev.weak (K:=K) (zab (i:=0) rfl)))) ↥(zuv hp (by assumption))) (zak (zaC (m:=true) (x:=(((P0).idxOf x36.2:Nat):Int)) dI (λz=>Oc.nx ((λ(s35:Ji)=>([⇑[dL (List.map dS P0)],⇑[dL (List.map (λ(p:(Int×Str))=>dT [dI p.1,dS p.2]) P1)],.ow true (List.map dI s35),.no,.no,.no]:L2.Ctx)) z)) (zk9 (K:=K) (xs:=P0) (x:=x36.2) (Ev.weak (K:=K) (zab (i:=0) rfl)) (Ev.any (m:=false) (zab (i:=4) rfl)) ↥(hp.2 _ (by assumption))) (λv41 hv41=>have hP:=hv41;(zhO (f:=dI) (xs:=s35) (x:=((ixD s35 v41)+x36.1)) (j:=v41) (λz=>Oc.nx ((λ(s35:Ji)=>([⇑[dL (List.map dS P0)],⇑[dL (List.map (λ(p:(Int×Str))=>dT [dI p.1,dS p.2]) P1)],.ow true (List.map dI s35),.no,.no,.no]:L2.Ctx)) z)) rfl (zaY (x:=(ixD s35 v41)) (y:=x36.1) (Ev.any (m:=true) (zfI (f:=dI) (xs:=s35) rfl (Ev.any (m:=true) (zab (i:=5) rfl)) (by rw [hP];exact zr9 hp (by assumption) (by assumption)))) (Ev.any (m:=false) (zab (i:=3) rfl))) (Ev.any (m:=true) (zab (i:=5) rfl)) (by rw [hP];exact zr9 hp (by assumption) (by assumption)) (λv42 hv42=>(zaD (.eq (.eq (.eq (.no (.no (.no .nil)))))))))))))⟩) (λr43 hr43 hI=>(zcX (i:=2) rfl (zan (zaK (zab (i:=2) rfl))))))))
def NwQ (w:Str) (xs:Ji):Prop:=w.length≤12∧xs.length≤100∧∀x∈xs,x.natAbs<2 ^ 1900
theorem zuh {x:Int} (h:x.natAbs<2^1900):x.natAbs.log2<1920:=by
 by_cases z:x.natAbs=0
 ·rw [z];decide
 ·exact (Nat.log2_lt z).mpr (Nat.lt_of_lt_of_le h (Nat.pow_le_pow_right (by decide) (by decide)))
theorem NwQ.bit {w:Str} {xs:Ji} {x:Int} (h:NwQ w xs) (hx:x∈xs):x.natAbs.log2<1920:=zuh (h.2.2 x hx)
theorem zst {ws:List Str} (hl:ws.length≤200) (hw:∀w∈ws,w.length≤2000):JoinOk (" " :Str) ws=true:=by
 unfold JoinOk
 have e:((" " :Str)).length=1:=by decide+kernel
 rw [StrLaws.joinFits hw (by rw [e];have:ws.length*2000≤200*2000:=Nat.mul_le_mul_right _ hl;omega)]
 rfl
theorem NwQ.join {w:Str} {xs:Ji} (h:NwQ w xs):JoinOk (" " :Str) ([w]++(List.map (λ(x42:Int)=>((toString x42:String):Str)) xs))=true:=by
 refine zst (by have:=h.2.1;simp;omega) λy hy=> ?_
 rcases List.mem_append.mp hy with z|z
 ·
  have:=h.1
  rw [List.mem_singleton.mp z];
  omega
 ·
  obtain ⟨x,hx,rfl⟩:=List.mem_map.mp z
  exact Nat.le_trans (PyProof.Rows.int_text_len_1921 (h.bit hx)) (by decide)
noncomputable def zaG (P0:Str) (P1:Ji):Str :=
 (Txt.join (" " :Str) ([P0]++(List.map (λ(x44:Int)=>((toString x44:String):Str)) P1)))
def zbd (P0:Str) (P1:Ji):Prop:=NwQ P0 P1
def zcc (K:W.Frag) (A:Adr):Sp:=Spv (ι:=Str×Ji) (λx=>[dS x.1,dL (List.map dI x.2)]) (λx=>zbd x.1 x.2) (λx=> ↥[dS (zaG x.1 x.2)])
theorem zfO:FnScope ["word","numbers"] ["word","numbers"] (zag zcr):=⟨rfl,rfl,rfl,by decide+kernel,rfl,by decide+kernel,by decide+kernel⟩
theorem zfM (F:Fun K "numbers_written" "numbers_written" zcr f fd) (T:Txt K mg A) :FnOk P w K mg base (CXE P w) 1 f fd ["word","numbers"] (zcc K A):=by
 refine F.okV zfO (λ_=>rfl) (λcdv Ar outer s H E x hr hp=> ?_)
 obtain ⟨P0,P1⟩:=x
 have hu:=hr.units
 replace hp:zbd P0 P1:=hp
 unfold zbd at hp
 refine ⟨_,(zaa (zaP (zkD (K:=K) rfl zaT ↑[(zaE zeP (zbu ↑[pv 0]) (zcM rfl (.of (osc:=(zag zcr)) (N:=["word","numbers"]) (own:=["number"]) (fvn:=[]) (fv:=[]) rfl rfl (by decide+kernel)) (zbz (K:=K) rfl (pv 1)) (λ_ _ _ _ _=>⟨(zaQ (i:=0) (show (["number"]:List Str).Nodup by decide+kernel) rfl (Or.inl rfl) (Or.inr rfl)),zcK,(zb6 zcJ rfl T.str (by decide+kernel) ↑[pv 0])⟩)))])) zad),.inl ?_⟩
 show L2.Run _ ([⇑[dS P0],⇑[dL (List.map dI P1)]]:L2.Ctx) _ ((λ(r:Str)=>Oc.rt true (dS r)) (zaG P0 P1))
 unfold zaG
 exact (zan (zaK (zj6 (K:=K) (x:=(" " :Str)) (ys:=([P0]++(List.map (λ(x44:Int)=>((toString x44:String):Str)) P1))) zaL (Ev.weak (K:=K) (EvO.ev (zdB (f:=dS) (xs:=[P0]) (ys:=(List.map (λ(x44:Int)=>((toString x44:String):Str)) P1)) (EvO.ev (zcH (zac (Ev.any (m:=false) (zab (i:=0) rfl)) zae) (by show 1≤sizeLine;decide))) (EvO.ev (EvO.conv (zdQ (g:=(λ(x44:Int)=>dS ((toString x44:String):Str))) (zcQ (m:=false) dI (xs:=P1) (Ev.weak (K:=K) (zab (i:=1) rfl))) (by have z:=hp.2.1;apply zau;omega) ⟨by decide,by decide⟩ (λi45 x44 hx46=>have v46:=List.mem_of_getElem? hx46;(zge (i:=x44) (Ev.any (m:=false) (zab (i:=0) rfl)) ↥(hp.bit (by assumption))))) (by first|(rw [List.map_map];rfl)|(simp only [cond_true,cond_false];rw [List.map_map];rfl)))) (by have z:=hp.2.1;apply zau;simp;omega)))) ↥(hp.join))))
def RlW (x:Str):Prop:=∃ws,Wd.LnP x (("wares" :Str)::ws)∧Wd.NsP ws
def RlQ (x:Str):Prop:=∃o ws,Wd.LnP x (o::ws)∧(o=("swap" :Str)∨o=("ask" :Str))∧SsP ws
noncomputable def za1 (P0:Str):(Str×(List Str)) :=
 (Let (Txt.split P0 (" " :Str)) (λ(v47:(List Str))=>(Let (ixD v47 (0:Int)) (λ(v49:Str)=>(v49,(zc5 (zcu v47 (some (1:Int)) none)))))))
def zbX (P0:Str):Prop:=RlW P0
def zdW (K:W.Frag) (A:Adr):Sp:=Spv (ι:=Str) (λx=>[dS x]) (λx=>zbX x) (λx=> ⇑[dT [dS ((za1 x).1),dL (List.map dS ((za1 x).2))]])
theorem zcP:FnScope ["line","words","order"] ["line"] (zag zea):=⟨rfl,rfl,rfl,by decide+kernel,rfl,by decide+kernel,by decide+kernel⟩
theorem zfU (F:Fun K "read_line" "read_line" zea f fd) (T:Txt K mg A) (ybd:Callee P w K mg base (CXE P w) 1 "names_of" ["words"] (zgY K A)):FnOk P w K mg base (CXE P w) 2 f fd ["line"] (zdW K A):=by
 refine F.okV zcP (λ_=>rfl) (λcdv Ar outer s H E P0 hr hp=> ?_)
 have hu:=hr.units
 replace hp:zbX P0:=hp
 unfold zbX at hp
 obtain ⟨ws,hL,hN⟩:=hp
 refine ⟨_,(zaa (zax (i:=1) zcP.nd rfl (Or.inl rfl) (zkX (K:=K) rfl (pv 0) ↑[zaT])) (zaa (zbp (zaz (zfu (K:=K) rfl) zaT (pv 1) rfl) (zaa zaB zad) zad) (zaa (zax (i:=2) zcP.nd rfl (Or.inl rfl) (zbx (zaJ (K:=K) rfl) (pv 1) zaj (λ_ _=>rfl))) (zaa (zbp (zaz zdO (pv 2) zaT (zaR _)) (zaa (zaP (zgq ↑[pv 2,(zaN ybd (hr.mono (by decide)) rfl zaF ↑[(zc9 (zcv (K:=K) rfl) (pv 1) (zd5 zaj) zd2)])])) zad) zad) (zaa zaB (zaa zaB (zaa zaB (zaa zaB zad)))))))),.inl ?_⟩
 show L2.Run _ ([⇑[dS P0],.no,.no]:L2.Ctx) _ ((λ(r:(Str×(List Str)))=>Oc.rt false (dT [dS r.1,dL (List.map dS r.2)])) (za1 P0))
 unfold za1
 exact (zaC (m:=true) (x:=(Txt.split P0 (" " :Str))) (λ(xs:(List Str))=>dL (List.map dS xs)) (λ(r:(Str×(List Str)))=>Oc.rt false (dT [dS r.1,dL (List.map dS r.2)])) (EvO.ev (EvO.anyS (m:=true) (zkU (x:=P0) (y:=(" " :Str)) (Ev.any (m:=false) (zab (i:=0) rfl)) zaL rfl ↥(hL.sl) ↥(hL.s1) ↥(hL.s2)))) (λv47 hv47=>have hW:=Eq.trans hv47 hL.split;(zaA (EvT.conv (zap (zn7 (x:=("" :Str)) (xs:=v47) zaL (Ev.old (Ev.weak (K:=K) (zab (i:=1) rfl))))) ↥(hL.no hW)) (zak (zaC (m:=true) (x:=(ixD v47 (0:Int))) dS (λ(r:(Str×(List Str)))=>Oc.rt false (dT [dS r.1,dL (List.map dS r.2)])) (Ev.any (m:=true) (zb5 (f:=dS) (xs:=v47) (Ev.weak (K:=K) (zab (i:=1) rfl)) zaL (by rw [hW];exact Wd.ix_hd))) (λv49 hv49=>have hO:=hv49;(zcD (EvT.conv (zap (zdp (x:=v49) (y:=("wares" :Str)) (Ev.any (m:=true) (zab (i:=2) rfl)) zaL)) (by rw [hO,hW,Wd.ix0];decide+kernel)) (zaH (zan (zaK (zgs (zac (Ev.any (m:=true) (zab (i:=2) rfl)) (zac (zao (x:=(zcu v47 (some (1:Int)) none)) (zac (EvO.ev (EvO.anyS (m:=true) (zd7 (f:=dS) (xs:=v47) (Ev.weak (K:=K) (zab (i:=1) rfl)) (zc8 zaL) zda))) zae) rfl (by show zdS (zcu v47 (some (1:Int)) none);rw [hW,Wd.cut_tl];exact hN) rfl) zae)) (by show 2≤sizeLine;decide))))))))))))
noncomputable def zaM (P0:Str):(Str×(List (List (Int×Str)))) :=
 (Let (Txt.split P0 (" " :Str)) (λ(v51:(List Str))=>(Let (ixD v51 (0:Int)) (λ(v53:Str)=>(v53,(zcs (zcu v51 (some (1:Int)) none)))))))
def zbw (P0:Str):Prop:=RlQ P0
def zcW (K:W.Frag) (A:Adr):Sp:=Spv (ι:=Str) (λx=>[dS x]) (λx=>zbw x) (λx=> ↥[dT [dS ((zaM x).1),dL (List.map (λ(xs:(List (Int×Str)))=>dL (List.map (λ(p:(Int×Str))=>dT [dI p.1,dS p.2]) xs)) ((zaM x).2))]])
theorem zcR:FnScope ["line","words","order"] ["line"] (zag zed):=⟨rfl,rfl,rfl,by decide+kernel,rfl,by decide+kernel,by decide+kernel⟩
theorem zfW (F:Fun K "read_line" "read_line" zed f fd) (T:Txt K mg A) (ybe:Callee P w K mg base (CXE P w) 5 "sides_of" ["words"] (zhC K A)):FnOk P w K mg base (CXE P w) 6 f fd ["line"] (zcW K A):=by
 refine F.okV zcR (λ_=>rfl) (λcdv Ar outer s H E P0 hr hp=> ?_)
 have hu:=hr.units
 replace hp:zbw P0:=hp
 unfold zbw at hp
 obtain ⟨o,ws,hL,ho,hN⟩:=hp
 refine ⟨_,(zaa (zax (i:=1) zcR.nd rfl (Or.inl rfl) (zkX (K:=K) rfl (pv 0) ↑[zaT])) (zaa (zbp (zaz (zfu (K:=K) rfl) zaT (pv 1) rfl) (zaa zaB zad) zad) (zaa (zax (i:=2) zcR.nd rfl (Or.inl rfl) (zbx (zaJ (K:=K) rfl) (pv 1) zaj (λ_ _=>rfl))) (zaa (zbp (zaz zdO (pv 2) zaT (zaR _)) (zaa zaB zad) zad) (zaa (zbp (zaz zdO (pv 2) zaT (zaR _)) (zaa zaB zad) zad) (zaa (zbp (zaz (zfu (K:=K) rfl) (pv 2) (zgq ↑[zaT,zaT]) rfl) (zaa (zaP (zgq ↑[pv 2,(zaN ybe (hr.mono (by decide)) rfl zaF ↑[(zc9 (zcv (K:=K) rfl) (pv 1) (zd5 zaj) zd2)])])) zad) zad) (zaa zaB (zaa zaB zad)))))))),.inl ?_⟩
 show L2.Run _ ([⇑[dS P0],.no,.no]:L2.Ctx) _ ((λ(r:(Str×(List (List (Int×Str)))))=>Oc.rt true (dT [dS r.1,dL (List.map (λ(xs:(List (Int×Str)))=>dL (List.map (λ(p:(Int×Str))=>dT [dI p.1,dS p.2]) xs)) r.2)])) (zaM P0))
 unfold zaM
 exact (zaC (m:=true) (x:=(Txt.split P0 (" " :Str))) (λ(xs:(List Str))=>dL (List.map dS xs)) (λ(r:(Str×(List (List (Int×Str)))))=>Oc.rt true (dT [dS r.1,dL (List.map (λ(xs:(List (Int×Str)))=>dL (List.map (λ(p:(Int×Str))=>dT [dI p.1,dS p.2]) xs)) r.2)])) (EvO.ev (EvO.anyS (m:=true) (zkU (x:=P0) (y:=(" " :Str)) (Ev.any (m:=false) (zab (i:=0) rfl)) zaL rfl ↥(hL.sl) ↥(hL.s1) ↥(hL.s2)))) (λv51 hv51=>have hW:=Eq.trans hv51 hL.split;(zaA (EvT.conv (zap (zn7 (x:=("" :Str)) (xs:=v51) zaL (Ev.old (Ev.weak (K:=K) (zab (i:=1) rfl))))) ↥(hL.no hW)) (zak (zaC (m:=true) (x:=(ixD v51 (0:Int))) dS (λ(r:(Str×(List (List (Int×Str)))))=>Oc.rt true (dT [dS r.1,dL (List.map (λ(xs:(List (Int×Str)))=>dL (List.map (λ(p:(Int×Str))=>dT [dI p.1,dS p.2]) xs)) r.2)])) (Ev.any (m:=true) (zb5 (f:=dS) (xs:=v51) (Ev.weak (K:=K) (zab (i:=1) rfl)) zaL (by rw [hW];exact Wd.ix_hd))) (λv53 hv53=>have hO:=hv53;(zaA (EvT.conv (zap (zdp (x:=v53) (y:=("wares" :Str)) (Ev.any (m:=true) (zab (i:=2) rfl)) zaL)) (by rw [hO,hW,Wd.ix0];rcases ho with rfl|rfl<;>decide+kernel)) (zak (zaA (EvT.conv (zap (zdp (x:=v53) (y:=("drop" :Str)) (Ev.any (m:=true) (zab (i:=2) rfl)) zaL)) (by rw [hO,hW,Wd.ix0];rcases ho with rfl|rfl<;>decide+kernel)) (zak (zcD (EvT.conv (zap (zmU (x:=v53) (xs:=[("swap" :Str),("ask" :Str)]) (Ev.any (m:=true) (zab (i:=2) rfl)) (zgs (zac zaL (zac zaL zae)) (by show 2≤sizeLine;decide)))) (by rw [hO,hW,Wd.ix0];rcases ho with rfl|rfl<;>decide+kernel)) (zaH (zan (zaK (zgs (zac (Ev.any (m:=true) (zab (i:=2) rfl)) (zac (zao (x:=(zcu v51 (some (1:Int)) none)) (zac (EvO.ev (EvO.anyS (m:=true) (zd7 (f:=dS) (xs:=v51) (Ev.weak (K:=K) (zab (i:=1) rfl)) (zc8 zaL) zda))) zae) rfl (by show zdR (zcu v51 (some (1:Int)) none);rw [hW,Wd.cut_tl];exact hN) rfl) zae)) (by show 2≤sizeLine;decide))))))))))))))))
theorem zp2 {x:Str} {ws:List Str} (h:Wd.LnP x (("wares" :Str)::ws)):za1 x=(("wares" :Str),ws):=by
 unfold za1
 rw [h.split]
 show (ixD (("wares" :Str)::ws) (0:Int),zc5 (zcu (("wares" :Str)::ws) (some (1:Int)) none))=_
 rw [Wd.cut_tl,Wd.ix0];
 rfl
theorem zlJ {x o:Str} {u v:List Str} (h:Wd.LnP x (o::(u++("=" :Str)::v))) (hu:SdP u):zaM x=(o,[zay u,zay v]):=by
 unfold zaM
 rw [h.split]
 show (ixD (o::(u++("=" :Str)::v)) (0:Int),zcs (zcu (o::(u++("=" :Str)::v)) (some (1:Int)) none))=_
 rw [Wd.cut_tl,Wd.ix0,zsY hu]
def BgP (ns:List Str):Prop:=Wd.NmsP ns∧ns≠[]
theorem BgP.pos {ns:List Str} (h:BgP ns):1≤ns.length∧ns.length≤8:=⟨List.length_pos_iff.mpr h.2,h.1.2.2⟩
theorem zpL {w:Str} {x:Int} (hw:w.length≤12) (h0:0≤x) (h:x<1000):NwQ w [x]:=⟨hw,by simp,λy hy=>by
 rw [List.mem_singleton.mp hy]
 exact Nat.lt_of_lt_of_le (show x.natAbs<1024 by omega) (by rw [show 1024=2 ^ 10 from rfl];exact Nat.pow_le_pow_right (by decide) (by decide))⟩
theorem zua {ns:List Str} (h:BgP ns):NwQ ("wares" :Str) [((ns.length:Nat):Int)]:=by
 have:=h.pos
 exact zpL (by decide+kernel) (by omega) (by omega)
def TwP (x:Str):Prop:=∃ws,Wd.LnP x (("wares" :Str)::ws)∧Wd.NsP ws∧BgP ws
noncomputable def zeK (P0:Ji) (P1:Ji):Unit:=()
def zbP (P0:Ji) (P1:Ji):Prop:=P0.length=P1.length
def zdl (K:W.Frag) (A:Adr):Sp:=Spv (ι:=Ji×Ji) (λx=>[dQ K (List.map dI x.1),dQ K (List.map dI x.2)]) (λx=>zbP x.1 x.2) (λx=> ↥[dN])
theorem zgx:FnScope ["one","other"] ["one","other"] (zag zdG):=⟨rfl,rfl,rfl,by decide+kernel,rfl,by decide+kernel,by decide+kernel⟩
theorem zgt (F:Fun K "refuse_unlike" "refuse_unlike" zdG f fd) (T:Txt K mg A) :FnOk P w K mg base (CXE P w) 1 f fd ["one","other"] (zdl K A):=by
 refine F.okV zgx (λ_=>rfl) (λcdv Ar outer s H E x hr hp=> ?_)
 obtain ⟨P0,P1⟩:=x
 have hu:=hr.units
 replace hp:zbP P0 P1:=hp
 unfold zbP at hp
 refine ⟨_,(zaa (zbp (zaz zht (zaS (zaO (K:=K) rfl) rfl T.len PySem.boot_len ↑[pv 0]) (zaS (zaO (K:=K) rfl) rfl T.len PySem.boot_len ↑[pv 1]) (zaR _)) (zaa zaB zad) zad) zad),.inr ⟨_,([⇑[dQ K (List.map dI P0)],⇑[dQ K (List.map dI P1)]]:L2.Ctx),rfl,?_⟩⟩
 show L2.Run _ ([⇑[dQ K (List.map dI P0)],⇑[dQ K (List.map dI P1)]]:L2.Ctx) _ _
 exact (zaA (EvT.conv (zap (zgm (x:=((P0.length:Nat):Int)) (y:=((P1.length:Nat):Int)) (zbs (f:=dI) (xs:=P0) (zab (i:=0) rfl)) (zbs (f:=dI) (xs:=P1) (zab (i:=1) rfl)))) (by ((try simp only [decide_eq_true_eq,decide_eq_false_iff_not,Bool.not_eq_true',Bool.not_eq_false',Bool.and_eq_true,Bool.or_eq_false_iff,Bool.or_eq_true,Bool.and_eq_false_iff,Bool.cond_eq_ite] at*)<;>omega))) (zak (zaD (Wk.refl _))))
noncomputable def zfj (P0:Ji) (P1:Ji):Ji :=
 (List.map (λ(x58:(Int×Int))=>(x58.1+x58.2)) (List.zip P0 P1))
def zfF (P0:Ji) (P1:Ji):Prop:=P0.length=P1.length∧P0.length≤1000
def znG (K:W.Frag) (A:Adr):Sp:=Spv (ι:=Ji×Ji) (λx=>[dQ K (List.map dI x.1),dQ K (List.map dI x.2)]) (λx=>zfF x.1 x.2) (λx=> .ow true (List.map dI (zfj x.1 x.2)))
theorem zq5:FnScope ["one","other"] ["one","other"] (zag zlr):=⟨rfl,rfl,rfl,by decide+kernel,rfl,by decide+kernel,by decide+kernel⟩
theorem zrw (F:Fun K "plus" "plus" zlr f fd) (T:Txt K mg A) (yaj:Callee P w K mg base (CXE P w) 1 "refuse_unlike" ["one","other"] (zdl K A)):FnOk P w K mg base (CXE P w) 2 f fd ["one","other"] (znG K A):=by
 refine F.okV zq5 (λ_=>rfl) (λcdv Ar outer s H E x hr hp=> ?_)
 obtain ⟨P0,P1⟩:=x
 have hu:=hr.units
 replace hp:zfF P0 P1:=hp
 unfold zfF at hp
 refine ⟨_,(zaa (zbJ (zaN yaj (hr.mono (by decide)) rfl zaF ↑[pv 0,pv 1])) (zaa (zaP (zcM rfl (.of (osc:=(zag zlr)) (N:=["one","other"]) (own:=["a","b"]) (fvn:=[]) (fv:=[]) rfl rfl (by decide+kernel)) (zgC (K:=K) rfl rfl T.zip ↑[pv 0,pv 1]) (λ_ _ _ _ _=>⟨(zc7 (K:=K) (n:=2) rfl rfl (zbj (zaQ (i:=0) (show (["a","b"]:List Str).Nodup by decide+kernel) rfl (Or.inl rfl) (Or.inr rfl)) (zbj (zaQ (i:=1) (show (["a","b"]:List Str).Nodup by decide+kernel) rfl (Or.inl rfl) (Or.inr rfl)) zd6))),zcK,(zaE zdn (pv 0) (pv 1))⟩))) zad)),.inl ?_⟩
 show L2.Run _ ([⇑[dQ K (List.map dI P0)],⇑[dQ K (List.map dI P1)]]:L2.Ctx) _ ((λr=>Oc.rl true (List.map dI r)) (zfj P0 P1))
 unfold zfj
 exact (zeZ (m:=true) (Ev.any (m:=true) (zao (x:=(P0,P1)) (zac (zab (i:=0) rfl) (zac (zab (i:=1) rfl) zae)) rfl (by show zbP P0 P1;exact hp.1) rfl)) (zdv (zgD (EvO.conv (zdQ (g:=(λ(x58:(Int×Int))=>dI (x58.1+x58.2))) (zkL (m:=false) dI dI (xs:=P0) (ys:=P1) (zab (i:=0) rfl) (zab (i:=1) rfl)) ↥(zau (by rw [List.length_zip];omega)) ⟨by decide,by decide⟩ (λi59 x58 hx60=>have v60:=zgf hx60;(zaY (x:=x58.1) (y:=x58.2) (Ev.any (m:=false) (zab (i:=0) rfl)) (Ev.any (m:=false) (zab (i:=1) rfl))))) (by first|(rw [List.map_map];rfl)|(simp only [cond_true,cond_false];rw [List.map_map];rfl))))))
noncomputable def za5 (P0:Ji) (P1:Ji):Ji :=
 (List.map (λ(x61:(Int×Int))=>(x61.1-x61.2)) (List.zip P0 P1))
def zcz (P0:Ji) (P1:Ji):Prop:=P0.length=P1.length∧P0.length≤1000
def zhs (K:W.Frag) (A:Adr):Sp:=Spv (ι:=Ji×Ji) (λx=>[dQ K (List.map dI x.1),dQ K (List.map dI x.2)]) (λx=>zcz x.1 x.2) (λx=> .ow true (List.map dI (za5 x.1 x.2)))
theorem zrK:FnScope ["one","other"] ["one","other"] (zag zll):=⟨rfl,rfl,rfl,by decide+kernel,rfl,by decide+kernel,by decide+kernel⟩
theorem zqP (F:Fun K "less" "less" zll f fd) (T:Txt K mg A) (yaj:Callee P w K mg base (CXE P w) 1 "refuse_unlike" ["one","other"] (zdl K A)):FnOk P w K mg base (CXE P w) 2 f fd ["one","other"] (zhs K A):=by
 refine F.okV zrK (λ_=>rfl) (λcdv Ar outer s H E x hr hp=> ?_)
 obtain ⟨P0,P1⟩:=x
 have hu:=hr.units
 replace hp:zcz P0 P1:=hp
 unfold zcz at hp
 refine ⟨_,(zaa (zbJ (zaN yaj (hr.mono (by decide)) rfl zaF ↑[pv 0,pv 1])) (zaa (zaP (zcM rfl (.of (osc:=(zag zll)) (N:=["one","other"]) (own:=["a","b"]) (fvn:=[]) (fv:=[]) rfl rfl (by decide+kernel)) (zgC (K:=K) rfl rfl T.zip ↑[pv 0,pv 1]) (λ_ _ _ _ _=>⟨(zc7 (K:=K) (n:=2) rfl rfl (zbj (zaQ (i:=0) (show (["a","b"]:List Str).Nodup by decide+kernel) rfl (Or.inl rfl) (Or.inr rfl)) (zbj (zaQ (i:=1) (show (["a","b"]:List Str).Nodup by decide+kernel) rfl (Or.inl rfl) (Or.inr rfl)) zd6))),zcK,(zaE zeB (pv 0) (pv 1))⟩))) zad)),.inl ?_⟩
 show L2.Run _ ([⇑[dQ K (List.map dI P0)],⇑[dQ K (List.map dI P1)]]:L2.Ctx) _ ((λr=>Oc.rl true (List.map dI r)) (za5 P0 P1))
 unfold za5
 exact (zeZ (m:=true) (Ev.any (m:=true) (zao (x:=(P0,P1)) (zac (zab (i:=0) rfl) (zac (zab (i:=1) rfl) zae)) rfl (by show zbP P0 P1;exact hp.1) rfl)) (zdv (zgD (EvO.conv (zdQ (g:=(λ(x61:(Int×Int))=>dI (x61.1-x61.2))) (zkL (m:=false) dI dI (xs:=P0) (ys:=P1) (zab (i:=0) rfl) (zab (i:=1) rfl)) ↥(zau (by rw [List.length_zip];omega)) ⟨by decide,by decide⟩ (λi62 x61 hx63=>have v63:=zgf hx63;(zaY (x:=x61.1) (y:=x61.2) (Ev.any (m:=false) (zab (i:=0) rfl)) (Ev.any (m:=false) (zab (i:=1) rfl))))) (by first|(rw [List.map_map];rfl)|(simp only [cond_true,cond_false];rw [List.map_map];rfl))))))
noncomputable def zar (P0:Ji) (P1:Int):Ji :=
 (List.map (λ(x64:Int)=>(x64*P1)) P0)
def zcg (P0:Ji) (P1:Int):Prop:=P0.length≤1000∧∀x∈P0,zfy x P1
def zfS (K:W.Frag) (A:Adr):Sp:=Spv (ι:=Ji×Int) (λx=>[dQ K (List.map dI x.1),dI x.2]) (λx=>zcg x.1 x.2) (λx=> .ow true (List.map dI (zar x.1 x.2)))
theorem zoV:FnScope ["some","many"] ["some","many"] (zag zi5):=⟨rfl,rfl,rfl,by decide+kernel,rfl,by decide+kernel,by decide+kernel⟩
theorem zou (F:Fun K "times" "times" zi5 f fd) (T:Txt K mg A) :FnOk P w K mg base (CXE P w) 1 f fd ["some","many"] (zfS K A):=by
 refine F.okV zoV (λ_=>rfl) (λcdv Ar outer s H E x hr hp=> ?_)
 obtain ⟨P0,P1⟩:=x
 have hu:=hr.units
 replace hp:zcg P0 P1:=hp
 unfold zcg at hp
 refine ⟨_,(zaa (zaP (zcM rfl (.of (osc:=(zag zi5)) (N:=["some","many"]) (own:=["number"]) (fvn:=["many"]) (fv:=[1]) rfl rfl (by decide+kernel)) (zbz (K:=K) rfl (pv 0)) (λ_ _ _ _ _=>⟨(zaQ (i:=0) (show (["number","many"]:List Str).Nodup by decide+kernel) rfl (Or.inl rfl) (Or.inr rfl)),zcK,(zaE zeQ (pv 0) (pv 1))⟩))) zad),.inl ?_⟩
 show L2.Run _ ([⇑[dQ K (List.map dI P0)],⇑[dI P1]]:L2.Ctx) _ ((λr=>Oc.rl true (List.map dI r)) (zar P0 P1))
 unfold zar
 exact (zdv (zgD (EvO.conv (zdQ (g:=(λ(x64:Int)=>dI (x64*P1))) (zcQ (m:=false) dI (xs:=P0) (zab (i:=0) rfl)) ↥(zau (by omega)) ⟨by decide,by decide⟩ (λi65 x64 hx66=>have v66:=List.mem_of_getElem? hx66;(zbb (x:=x64) (y:=P1) (Ev.any (m:=false) (zab (i:=0) rfl)) (Ev.any (m:=false) (zab (i:=1) rfl)) ↥(hp.2 _ (List.mem_of_getElem? (by assumption)))))) (by first|(rw [List.map_map];rfl)|(simp only [cond_true,cond_false];rw [List.map_map];rfl)))))
theorem zpc {α:Type} {xs:List α} {i:Nat} {p:Int×α} (h:(zb8 xs)[i]? =some p):p.2∈xs:=List.mem_of_getElem? (zcw h).2.2
noncomputable def zam (P0:Ji):Int :=
 (zmi (zcm (λ(s67:Unit) (x68:(Int×Int))=>(((bif (!decide (x68.2=(0:Int))) then (Sum.inr x68.1) else (Sum.inl ()))):(Unit)⊕Int)) () (zb8 P0)) (λ(r73:Unit)=>((P0.length:Nat):Int)) (λb=>b))
def zbn (P0:Ji):Prop:=True
def zdw (K:W.Frag) (A:Adr):Sp:=Spv (ι:=Ji) (λx=>[dQ K (List.map dI x)]) (λx=>zbn x) (λx=> ↥[dI (zam x)])
theorem zf3:FnScope ["row","place","number"] ["row"] (zag zhz):=⟨rfl,rfl,rfl,by decide+kernel,rfl,by decide+kernel,by decide+kernel⟩
theorem zlS (F:Fun K "head_of" "head_of" zhz f fd) (T:Txt K mg A) :FnOk P w K mg base (CXE P w) 1 f fd ["row"] (zdw K A):=by
 refine F.okV zf3 (λ_=>rfl) (λcdv Ar outer s H E P0 hr hp=> ?_)
 have hu:=hr.units
 replace hp:zbn P0:=hp
 unfold zbn at hp
 refine ⟨_,(zaa (zdo PassesOwn.never rfl (zhJ rfl rfl T.enumerate ↑[pv 0]) (zc7 (K:=K) (n:=2) rfl rfl (zbj (zaQ (i:=1) zf3.nd rfl (Or.inl rfl) (Or.inl rfl)) (zbj (zaQ (i:=2) zf3.nd rfl (Or.inl rfl) (Or.inl rfl)) zd6))) (zaa (zbp (zaz zht (pv 2) zaj (zaR _)) (zaa (zaP (pv 1)) zad) zad) zad)) (zaa (zaP (zaS (zaO (K:=K) rfl) rfl T.len PySem.boot_len ↑[pv 0])) zad)),.inl ?_⟩
 show L2.Run _ ([⇑[dQ K (List.map dI P0)],.no,.no]:L2.Ctx) _ ((λ(r:Int)=>Oc.rt true (dI r)) (zam P0))
 unfold zam
 exact (ziD (s0:=()) (λ(s67:Unit)=>([⇑[dQ K (List.map dI P0)],.no,.no]:L2.Ctx)) (λ(r:Int)=>Oc.rt true (dI r)) (λb=>b) (λ(s67:Unit) (x68:(Int×Int))=>(((bif (!decide (x68.2=(0:Int))) then (Sum.inr x68.1) else (Sum.inl ()))):(Unit)⊕Int)) (λ_ _=>True) (λb=> .inl ⟨_,_,rfl⟩) (zja (m:=false) dI (xs:=P0) (zab (i:=0) rfl)) (.eq (.eq (.eq .nil))) trivial (λi69 x68 s67 hx70 hI71=>have v70:=zcw hx70;⟨(λ_ _=>trivial),(zb9 (b:=(!decide (x68.2=(0:Int)))) (zhL (λ(s67:Unit)=>([⇑[dQ K (List.map dI P0)],.no,.no]:L2.Ctx)) (λ(r:Int)=>Oc.rt true (dI r))) (zap (zgm (x:=x68.2) (y:=(0:Int)) (Ev.any (m:=false) (zab (i:=2) rfl)) zaL)) (λh72=>(zaH (zan (zaK (Ev.any (m:=false) (zab (i:=1) rfl)))))) (λh72=>(zak (zaD (.eq (.no (.no .nil)))))))⟩) (λr73 hr73 hI=>(zan (zaK (zbs (f:=dI) (xs:=P0) (zab (i:=0) rfl))))))
theorem zcL (r:Ji):zam r=(Lat.hd r:Int):=Lat.zur r
noncomputable def zcN (P0:Int) (P1:Int):(T3 Int Int Int) :=
 (Let (whl (λ(s74:Int×Int×Int×Int)=>(!decide (s74.2.1=(0:Int)))) (λ(s74:Int×Int×Int×Int)=>(Let (s74.1/s74.2.1) (λ(v77:Int)=>(Let (s74.1-(v77*s74.2.1)) (λ(v78:Int)=>(Let s74.2.1 (λ(v79:Int)=>(Let (s74.2.2.1-(v77*s74.2.2.2)) (λ(v80:Int)=>(Let s74.2.2.2 (λ(v81:Int)=>(v79,v78,v81,v80)))))))))))) (P1.toNat) (P0,P1,(1:Int),(0:Int))) (λ(r82:Int×Int×Int×Int)=>(T3.mk r82.1 r82.2.2.1 ((r82.1-(r82.2.2.1*P0))/P1))))
def zfa (P0:Int) (P1:Int):Prop:=Lat.zkc P0 P1
def zjb (K:W.Frag) (A:Adr):Sp:=Spv (ι:=Int×Int) (λx=>[dI x.1,dI x.2]) (λx=>zfa x.1 x.2) (λx=> ↥[dT [dI ((zcN x.1 x.2).a),dI ((zcN x.1 x.2).b),dI ((zcN x.1 x.2).c)]])
theorem zb7:FnScope ["one","other","great","small","taken","later","part","left"] ["one","other"] (zag ziy):=⟨rfl,rfl,rfl,by decide+kernel,rfl,by decide+kernel,by decide+kernel⟩
theorem zmY (F:Fun K "common" "common" ziy f fd) (T:Txt K mg A) :FnOk P w K mg base (CXE P w) 1 f fd ["one","other"] (zjb K A):=by
 refine F.okV zb7 (λ_=>rfl) (λcdv Ar outer s H E x hr hp=> ?_)
 obtain ⟨P0,P1⟩:=x
 have hu:=hr.units
 replace hp:zfa P0 P1:=hp
 unfold zfa at hp
 refine ⟨_,(zaa (zax (i:=2) zb7.nd rfl (Or.inl rfl) (pv 0)) (zaa (zax (i:=3) zb7.nd rfl (Or.inl rfl) (pv 1)) (zaa (zax (i:=4) zb7.nd rfl (Or.inl rfl) zaj) (zaa (zax (i:=5) zb7.nd rfl (Or.inl rfl) zaj) (zaa (zpd PassesOwn.never (zaz zht (pv 3) zaj (zaR _)) (zaa (zax (i:=6) zb7.nd rfl (Or.inl rfl) (zaE zcB (pv 2) (pv 3))) (zaa (zax (i:=7) zb7.nd rfl (Or.inl rfl) (zaE zeB (pv 2) (zaE zeQ (pv 6) (pv 3)))) (zaa (zax (i:=2) zb7.nd rfl (Or.inl rfl) (pv 3)) (zaa (zax (i:=3) zb7.nd rfl (Or.inl rfl) (pv 7)) (zaa (zax (i:=7) zb7.nd rfl (Or.inl rfl) (zaE zeB (pv 4) (zaE zeQ (pv 6) (pv 5)))) (zaa (zax (i:=4) zb7.nd rfl (Or.inl rfl) (pv 5)) (zaa (zax (i:=5) zb7.nd rfl (Or.inl rfl) (pv 7)) zad)))))))) (zaa (zaP (zgq ↑[pv 2,pv 4,zaE zcB (zaE zeB (pv 2) (zaE zeQ (pv 4) (pv 0))) (pv 1)])) zad)))))),.inl ?_⟩
 show L2.Run _ ([⇑[dI P0],⇑[dI P1],.no,.no,.no,.no,.no,.no]:L2.Ctx) _ ((λ(r:(T3 Int Int Int))=>Oc.rt true (dT [dI r.a,dI r.b,dI r.c])) (zcN P0 P1))
 unfold zcN
 exact (zcE (m:=true) (Ev.any (m:=false) (zab (i:=0) rfl)) (zcE (m:=true) (Ev.any (m:=false) (zab (i:=1) rfl)) (zcE (m:=true) zaL (zcE (m:=true) zaL (zmO (s0:=(P0,P1,(1:Int),(0:Int))) (λ(s74:Int×Int×Int×Int)=>([⇑[dI P0],⇑[dI P1],↥[dI s74.1],↥[dI s74.2.1],↥[dI s74.2.2.1],↥[dI s74.2.2.2],.no,.no]:L2.Ctx)) (λ(r:(T3 Int Int Int))=>Oc.rt true (dT [dI r.a,dI r.b,dI r.c])) (λ(s74:Int×Int×Int×Int)=>(!decide (s74.2.1=(0:Int)))) (λ(s74:Int×Int×Int×Int)=>(Let (s74.1/s74.2.1) (λ(v77:Int)=>(Let (s74.1-(v77*s74.2.1)) (λ(v78:Int)=>(Let s74.2.1 (λ(v79:Int)=>(Let (s74.2.2.1-(v77*s74.2.2.2)) (λ(v80:Int)=>(Let s74.2.2.2 (λ(v81:Int)=>(v79,v78,v81,v80)))))))))))) (λ(s74:Int×Int×Int×Int)=>Lat.GI P0 P1 s74) (λ(s74:Int×Int×Int×Int)=>(s74.2.1).toNat) (P1.toNat) (.eq (.eq (.eq (.eq (.eq (.eq (.eq (.eq .nil)))))))) ↥(Lat.GI.start hp.1 hp.2.1) ↥(Nat.le_refl _) (λs74 hI75=>⟨(zap (zgm (x:=s74.2.1) (y:=(0:Int)) (Ev.any (m:=true) (zab (i:=3) rfl)) zaL)),λhc76=>⟨↥(Lat.GI.step (by assumption) (by assumption)),(zaC (m:=true) (x:=(s74.1/s74.2.1)) dI (λz=>Oc.nx ((λ(s74:Int×Int×Int×Int)=>([⇑[dI P0],⇑[dI P1],↥[dI s74.1],↥[dI s74.2.1],↥[dI s74.2.2.1],↥[dI s74.2.2.2],.no,.no]:L2.Ctx)) z)) (zbb (x:=s74.1) (y:=s74.2.1) (Ev.any (m:=true) (zab (i:=2) rfl)) (Ev.any (m:=true) (zab (i:=3) rfl)) ↥(Lat.GI.div (by assumption) hp (by assumption))) (λv77 hv77=>(zaC (m:=true) (x:=(s74.1-(v77*s74.2.1))) dI (λz=>Oc.nx ((λ(s74:Int×Int×Int×Int)=>([⇑[dI P0],⇑[dI P1],↥[dI s74.1],↥[dI s74.2.1],↥[dI s74.2.2.1],↥[dI s74.2.2.2],.no,.no]:L2.Ctx)) z)) (zaY (x:=s74.1) (y:=(v77*s74.2.1)) (Ev.any (m:=true) (zab (i:=2) rfl)) (zbb (x:=v77) (y:=s74.2.1) (Ev.any (m:=true) (zab (i:=6) rfl)) (Ev.any (m:=true) (zab (i:=3) rfl)) ↥(Lat.GI.mul1 (by assumption) hp (by assumption) (by assumption)))) (λv78 hv78=>(zaC (m:=true) (x:=s74.2.1) dI (λz=>Oc.nx ((λ(s74:Int×Int×Int×Int)=>([⇑[dI P0],⇑[dI P1],↥[dI s74.1],↥[dI s74.2.1],↥[dI s74.2.2.1],↥[dI s74.2.2.2],.no,.no]:L2.Ctx)) z)) (Ev.any (m:=true) (zab (i:=3) rfl)) (λv79 hv79=>(zcE (m:=true) (Ev.any (m:=true) (zab (i:=7) rfl)) (zaC (m:=true) (x:=(s74.2.2.1-(v77*s74.2.2.2))) dI (λz=>Oc.nx ((λ(s74:Int×Int×Int×Int)=>([⇑[dI P0],⇑[dI P1],↥[dI s74.1],↥[dI s74.2.1],↥[dI s74.2.2.1],↥[dI s74.2.2.2],.no,.no]:L2.Ctx)) z)) (zaY (x:=s74.2.2.1) (y:=(v77*s74.2.2.2)) (Ev.any (m:=true) (zab (i:=4) rfl)) (zbb (x:=v77) (y:=s74.2.2.2) (Ev.any (m:=true) (zab (i:=6) rfl)) (Ev.any (m:=true) (zab (i:=5) rfl)) ↥(Lat.GI.mul2 (by assumption) hp (by assumption) (by assumption)))) (λv80 hv80=>(zaC (m:=true) (x:=s74.2.2.2) dI (λz=>Oc.nx ((λ(s74:Int×Int×Int×Int)=>([⇑[dI P0],⇑[dI P1],↥[dI s74.1],↥[dI s74.2.1],↥[dI s74.2.2.1],↥[dI s74.2.2.2],.no,.no]:L2.Ctx)) z)) (Ev.any (m:=true) (zab (i:=5) rfl)) (λv81 hv81=>(zcE (m:=true) (Ev.any (m:=true) (zab (i:=7) rfl)) (zaD (.eq (.eq (.eq (.eq (.eq (.eq (.no (.no .nil)))))))))))))))))))))⟩⟩) (λr82 hr82 hI hc=>(zan (zaK (zgs (zac (Ev.any (m:=true) (zab (i:=2) rfl)) (zac (Ev.any (m:=true) (zab (i:=4) rfl)) (zac (zbb (x:=(r82.1-(r82.2.2.1*P0))) (y:=P1) (zaY (x:=r82.1) (y:=(r82.2.2.1*P0)) (Ev.any (m:=true) (zab (i:=2) rfl)) (zbb (x:=r82.2.2.1) (y:=P0) (Ev.any (m:=true) (zab (i:=4) rfl)) (Ev.any (m:=false) (zab (i:=0) rfl)) ↥(Lat.GI.mul3 (by assumption) hp))) (Ev.any (m:=false) (zab (i:=1) rfl)) ↥(Lat.zkc.div hp)) zae))) (by show 3≤sizeLine;decide))))))))))
theorem znX (a b:Int):zcN a b=Lat.cmn a b:=rfl
noncomputable def zbA (P0:Ji):Ji :=
 (bif (decide ((ixD P0 (zam P0))<(0:Int))) then (zar P0 (-(1:Int))) else P0)
def zcF (P0:Ji):Prop:=P0.length≤1000∧Lat.hd P0<P0.length
def zhV (K:W.Frag) (A:Adr):Sp:=Spv (ι:=Ji) (λx=>[dL (List.map dI x)]) (λx=>zcF x) (λx=> ⇑[dL (List.map dI (zbA x))])
theorem zl2:FnScope ["row"] ["row"] (zag zgM):=⟨rfl,rfl,rfl,by decide+kernel,rfl,by decide+kernel,by decide+kernel⟩
theorem zmh (F:Fun K "upright" "upright" zgM f fd) (T:Txt K mg A) (yaa:Callee P w K mg base (CXE P w) 1 "head_of" ["row"] (zdw K A)) (yah:Callee P w K mg base (CXE P w) 1 "times" ["some","many"] (zfS K A)):FnOk P w K mg base (CXE P w) 2 f fd ["row"] (zhV K A):=by
 refine F.okV zl2 (λ_=>rfl) (λcdv Ar outer s H E P0 hr hp=> ?_)
 have hu:=hr.units
 replace hp:zcF P0:=hp
 unfold zcF at hp
 refine ⟨_,(zaa (zaP (zgE (zaz zjT (zbx (zaJ (K:=K) rfl) (pv 0) (zaN yaa (hr.mono (by decide)) rfl zaF ↑[pv 0]) (λ_ _=>rfl)) zaj (zaR _)) (zaN yah (hr.mono (by decide)) rfl zaF ↑[pv 0,zom zk6 zaj]) (pv 0))) zad),.inl ?_⟩
 show L2.Run _ ([⇑[dL (List.map dI P0)]]:L2.Ctx) _ ((λ(r:Ji)=>Oc.rt false (dL (List.map dI r))) (zbA P0))
 unfold zbA
 exact (zan (zaK (zo8 lI (b:=(decide ((ixD P0 (zam P0))<(0:Int)))) (x:=(zar P0 (-(1:Int)))) (y:=P0) (zap (zaY (x:=(ixD P0 (zam P0))) (y:=(0:Int)) (Ev.any (m:=false) (zb5 (f:=dI) (xs:=P0) (Ev.weak (K:=K) (zab (i:=0) rfl)) (Ev.any (m:=true) (zao (x:=P0) (zac (Ev.weak (K:=K) (zab (i:=0) rfl)) zae) rfl (by show zbn P0;exact trivial) rfl)) (by have:=hp.2;rw [zcL];unfold InB;omega))) zaL)) (λhb=>(EvO.ev (EvO.anyI (m:=true) (zce (x:=(P0,(-(1:Int)))) (zac (Ev.weak (K:=K) (zab (i:=0) rfl)) (zac (zo4 (x:=(1:Int)) zaL) zae)) rfl (by show zcg P0 (-(1:Int));exact ⟨hp.1,λ_ _=> .inr (.inl ⟨by decide,by decide⟩)⟩) rfl)))) (λhb=>(zab (i:=0) rfl)))))
theorem zh0 (l:Ji):zbA l=Lat.upr l:=by unfold zbA;rw [zcL,Lat.zc3];rfl
theorem zlE (s x:Ji):Let (zam x) (λ(h:Int)=>Let ((ixD s h)/(ixD x h)) (λ(q:Int)=>Let (bif (!decide (q=(0:Int))) then (za5 s (zar x q)) else s) (λ(y:Ji)=>y)))=Lat.zkC s x:=by
 unfold Let
 dsimp only
 rw [zcL,Lat.zc3,Lat.zc3];
 rfl
section
variable {n s a b i:Nat} {l t:Ji} {h q:Int} {steps:Jq}
theorem zt7 (T:Lat.Sd n s t) (e:h=(Lat.hd t:Int)) (hl:l.length=n∧Lat.Bit b l):InB l.length h:=Lat.zlz T e hl.1
theorem znR (T:Lat.Sd n s t) (e:h=(Lat.hd t:Int)):InB t.length h:=Lat.zlz T e T.len
theorem zsh (p1:n≤1000) (p6:a+steps.length*(s+1)+s≤50000000) (hx:steps[i]? =some t) (T:∀t∈steps,Lat.Sd n s t) (hl:l.length=n∧Lat.Bit (a+i*(s+1)) l) (e:h=(Lat.hd t:Int)) (eq:q=ixD l h/ixD t h):zcg t q:=by
 have T1:=T t (List.mem_of_getElem? hx)
 exact ⟨by rw [T1.len];exact p1,Lat.zqk T1 e hl.2 eq (Lat.zrr p6 (List.getElem?_eq_some_iff.mp hx).1)⟩
theorem zrp (p1:n≤1000) (T:Lat.Sd n s t) (hl:l.length=n∧Lat.Bit b l):zcz l (zar t q):=⟨by rw [hl.1,show (zar t q).length=t.length from Lat.zaZ,T.len],by omega⟩
theorem zt6 {sh:T3 Int Int Int} (e:h=(Lat.hd t:Int)) (T:Lat.Sd n s t) (h0:0<Lat.vec l (Lat.hd t)) (h1:Lat.vec l (Lat.hd t)<Lat.vec t (Lat.hd t)) (hs:sh=zcN (ixD t h) (ixD l h)):0<sh.a∧sh.a.natAbs≤2 ^ 8981∧sh.b.natAbs≤2 ^ 8980∧sh.c.natAbs≤2 ^ 17962:=by
 subst hs
 exact Lat.zpY (Lat.zoc T e h0 h1)
theorem zqw {x y:Int} (p1:n≤1000) (h1:t.length=n) (h2:l.length=n):zfF (zar t x) (zar l y):=⟨by rw [show (zar t x).length=t.length from Lat.zaZ,show (zar l y).length=l.length from Lat.zaZ,h1,h2],by rw [show (zar t x).length=t.length from Lat.zaZ,h1];exact p1⟩
theorem zpa {x y:Int} (p1:n≤1000) (h1:t.length=n) (h2:l.length=n):zcz (zar l x) (zar t y):=⟨by rw [show (zar t y).length=t.length from Lat.zaZ,show (zar l x).length=l.length from Lat.zaZ,h1,h2],by rw [show (zar l x).length=l.length from Lat.zaZ,h2];exact p1⟩
theorem zrV (e:h=(Lat.hd t:Int)) (T:Lat.Sd n s t):(ixD t h).natAbs≤2 ^ 8980:=by subst e;rw [Lat.zc3];exact T.top
theorem zqz (e:h=(Lat.hd t:Int)) (T:Lat.Sd n s t) (h0:0<Lat.vec l (Lat.hd t)) (h1:Lat.vec l (Lat.hd t)<Lat.vec t (Lat.hd t)):(ixD l h).natAbs≤2 ^ 8980:=by subst e;rw [Lat.zc3];have:=T.top;omega
end
noncomputable def m_lowered (P0:Ji) (P1:Jq):Ji :=
 (Let (List.foldl (λ(s83:Ji) (x84:Ji)=>(Let (zam x84) (λ(hv88:Int)=>(Let ((ixD s83 hv88)/(ixD x84 hv88)) (λ(v89:Int)=>(Let (bif (!decide (v89=(0:Int))) then (za5 s83 (zar x84 v89)) else s83) (λ(v91:Ji)=>v91))))))) P0 P1) (λ(r92:Ji)=>r92))
def zb1 (P0:Ji) (P1:Jq):Prop:=Lat.LowP P0 P1
def zeg (K:W.Frag) (A:Adr):Sp:=Spv (ι:=Ji×Jq) (λx=>[dQ K (List.map dI x.1),dQ K (List.map lI x.2)]) (λx=>zb1 x.1 x.2) (λx=> ↥[dL (List.map dI (m_lowered x.1 x.2))])
theorem zdx:FnScope ["row","steps","left","step","head","many"] ["row","steps"] (zag zhr):=⟨rfl,rfl,rfl,by decide+kernel,rfl,by decide+kernel,by decide+kernel⟩
theorem zl7 (F:Fun K "lowered" "lowered" zhr f fd) (T:Txt K mg A) (yaa:Callee P w K mg base (CXE P w) 1 "head_of" ["row"] (zdw K A)) (yat:Callee P w K mg base (CXE P w) 2 "less" ["one","other"] (zhs K A)) (yah:Callee P w K mg base (CXE P w) 1 "times" ["some","many"] (zfS K A)):FnOk P w K mg base (CXE P w) 3 f fd ["row","steps"] (zeg K A):=by
 refine F.okV zdx (λ_=>rfl) (λcdv Ar outer s H E x hr hp=> ?_)
 obtain ⟨P0,P1⟩:=x
 have hu:=hr.units
 replace hp:zb1 P0 P1:=hp
 unfold zb1 at hp
 obtain ⟨N0,A0,S0,p1,p2,p3,p4,p5,p6⟩:=hp
 refine ⟨_,(zaa (zax (i:=2) zdx.nd rfl (Or.inl rfl) (zb6 (zdy (K:=K) rfl) rfl T.list PyProof.Rows.boot_list ↑[pv 0])) (zaa (zdo PassesOwn.never rfl (zbz (K:=K) rfl (pv 1)) (zaQ (i:=3) zdx.nd rfl (Or.inl rfl) (Or.inl rfl)) (zaa (zax (i:=4) zdx.nd rfl (Or.inl rfl) (zaN yaa (hr.mono (by decide)) rfl zaF ↑[pv 3])) (zaa (zax (i:=5) zdx.nd rfl (Or.inl rfl) (zaE zcB (zbx (zaJ (K:=K) rfl) (pv 2) (pv 4) (λ_ _=>rfl)) (zbx (zaJ (K:=K) rfl) (pv 3) (pv 4) (λ_ _=>rfl)))) (zaa (zbp (zaz zht (pv 5) zaj (zaR _)) (zaa (zax (i:=2) zdx.nd rfl (Or.inl rfl) (zaN yat (hr.mono (by decide)) rfl zaF ↑[pv 2,zaN yah (hr.mono (by decide)) rfl zaF ↑[pv 3,pv 5]])) zad) zad) zad)))) (zaa (zaP (pv 2)) zad))),.inl ?_⟩
 show L2.Run _ ([⇑[dQ K (List.map dI P0)],⇑[dQ K (List.map lI P1)],.no,.no,.no,.no]:L2.Ctx) _ ((λ(r:Ji)=>Oc.rt true (dL (List.map dI r))) (m_lowered P0 P1))
 unfold m_lowered
 exact (zcE (m:=true) (EvO.ev (EvO.anyI (m:=false) (zhA (zab (i:=0) rfl)))) (zcy (s0:=P0) (λ(s83:Ji)=>([⇑[dQ K (List.map dI P0)],⇑[dQ K (List.map lI P1)],↥[dL (List.map dI s83)],.no,.no,.no]:L2.Ctx)) (λ(r:Ji)=>Oc.rt true (dL (List.map dI r))) (λ(s83:Ji) (x84:Ji)=>(Let (zam x84) (λ(hv88:Int)=>(Let ((ixD s83 hv88)/(ixD x84 hv88)) (λ(v89:Int)=>(Let (bif (!decide (v89=(0:Int))) then (za5 s83 (zar x84 v89)) else s83) (λ(v91:Ji)=>v91))))))) (λ(i:Nat) (s83:Ji)=>s83.length=N0∧Lat.Bit (A0+i*(S0+1)) s83) (zcQ (m:=false) lI (xs:=P1) (zab (i:=1) rfl)) (.eq (.eq (.eq (.eq (.eq (.eq .nil)))))) ↥(⟨p2,by simpa using p4⟩) (λi85 x84 s83 hx86 hI87=>have v86:=List.mem_of_getElem? hx86;⟨↥(Lat.zql (p5 _ (by assumption)) (by assumption) (zlE _ _)),(zaC (m:=true) (x:=(zam x84)) dI (λz=>Oc.nx ((λ(s83:Ji)=>([⇑[dQ K (List.map dI P0)],⇑[dQ K (List.map lI P1)],↥[dL (List.map dI s83)],.no,.no,.no]:L2.Ctx)) z)) (Ev.any (m:=true) (zao (x:=x84) (zac (Ev.weak (K:=K) (zab (i:=3) rfl)) zae) rfl (by show zbn x84;exact trivial) rfl)) (λhv88 hhead88=>have hH:=(hhead88).trans (zcL _);(zaC (m:=true) (x:=((ixD s83 hv88)/(ixD x84 hv88))) dI (λz=>Oc.nx ((λ(s83:Ji)=>([⇑[dQ K (List.map dI P0)],⇑[dQ K (List.map lI P1)],↥[dL (List.map dI s83)],.no,.no,.no]:L2.Ctx)) z)) (zbb (x:=(ixD s83 hv88)) (y:=(ixD x84 hv88)) (Ev.any (m:=true) (zb5 (f:=dI) (xs:=s83) (Ev.weak (K:=K) (zab (i:=2) rfl)) (Ev.any (m:=true) (zab (i:=4) rfl)) ↥(zt7 (p5 _ (by assumption)) hH (by assumption)))) (Ev.any (m:=false) (zb5 (f:=dI) (xs:=x84) (Ev.weak (K:=K) (zab (i:=3) rfl)) (Ev.any (m:=true) (zab (i:=4) rfl)) ↥(znR (p5 _ (by assumption)) hH))) ↥(Lat.zp9 (p5 _ (by assumption)) hH)) (λv89 hv89=>(zdq (b:=(!decide (v89=(0:Int)))) (λbb=>([⇑[dQ K (List.map dI P0)],⇑[dQ K (List.map lI P1)],↥[dL (List.map dI (bif bb then (za5 s83 (zar x84 v89)) else s83))],⇑[dL (List.map dI x84)],↥[dI hv88],↥[dI v89]]:L2.Ctx)) (zap (zgm (x:=v89) (y:=(0:Int)) (Ev.any (m:=true) (zab (i:=5) rfl)) zaL)) (λh90=>(zcE (m:=true) (EvO.ev (EvO.anyI (m:=true) (zce (x:=(s83,(zar x84 v89))) (zac (Ev.old (Ev.weak (K:=K) (zab (i:=2) rfl))) (zac (Ev.weak (K:=K) (EvO.ev (EvO.anyI (m:=true) (zce (x:=(x84,v89)) (zac (Ev.weak (K:=K) (zab (i:=3) rfl)) (zac (Ev.any (m:=true) (zab (i:=5) rfl)) zae)) rfl (by show zcg x84 v89;exact zsh p1 p6 (by assumption) p5 (by assumption) hH (by assumption)) rfl)))) zae)) rfl (by show zcz s83 (zar x84 v89);exact zrp p1 (p5 _ (by assumption)) (by assumption)) rfl))) (zaD (.eq (.eq (.eq (.eq (.eq (.eq .nil))))))))) (λh90=>(zaD (.eq (.eq (.eq (.eq (.eq (.eq .nil)))))))) (zek (x:=(bif (!decide (v89=(0:Int))) then (za5 s83 (zar x84 v89)) else s83)) (λv91=>([⇑[dQ K (List.map dI P0)],⇑[dQ K (List.map lI P1)],↥[dL (List.map dI v91)],⇑[dL (List.map dI x84)],↥[dI hv88],↥[dI v89]]:L2.Ctx)) (λz=>Oc.nx ((λ(s83:Ji)=>([⇑[dQ K (List.map dI P0)],⇑[dQ K (List.map lI P1)],↥[dL (List.map dI s83)],.no,.no,.no]:L2.Ctx)) z)) (λv91 hv91=>(zaD (.eq (.eq (.eq (.no (.no (.no .nil))))))))))))))⟩) (λr92 hr92 hI=>(zan (zaK (zab (i:=2) rfl))))))
theorem zc4 (l:Ji) (ss:Jq):m_lowered l ss=Lat.low l ss:=by
 unfold m_lowered
 show List.foldl _ l ss=List.foldl Lat.zkC l ss
 congr 1
 funext s x
 exact zlE s x
noncomputable def zbm (P0:Ji) (P1:Ji):(Ji×Ji) :=
 (Let (zam P0) (λ(hv93:Int)=>(Let (zcN (ixD P0 hv93) (ixD P1 hv93)) (λ(v94:(T3 Int Int Int))=>(Let (zfj (zar P0 v94.b) (zar P1 v94.c)) (λ(v95:Ji)=>(Let (za5 (zar P1 ((ixD P0 hv93)/v94.a)) (zar P0 ((ixD P1 hv93)/v94.a))) (λ(v96:Ji)=>(v95,v96)))))))))
def zfd (P0:Ji) (P1:Ji):Prop:=Lat.MrgP P0 P1
def zjm (K:W.Frag) (A:Adr):Sp:=Spv (ι:=Ji×Ji) (λx=>[dQ K (List.map dI x.1),dQ K (List.map dI x.2)]) (λx=>zfd x.1 x.2) (λx=> ↥[dT [dL (List.map dI ((zbm x.1 x.2).1)),dL (List.map dI ((zbm x.1 x.2).2))]])
theorem zeL:FnScope ["step","row","head","shared","first","second"] ["step","row"] (zag ziA):=⟨rfl,rfl,rfl,by decide+kernel,rfl,by decide+kernel,by decide+kernel⟩
theorem znb (F:Fun K "merged" "merged" ziA f fd) (T:Txt K mg A) (ybI:Callee P w K mg base (CXE P w) 1 "common" ["one","other"] (zjb K A)) (yaa:Callee P w K mg base (CXE P w) 1 "head_of" ["row"] (zdw K A)) (yat:Callee P w K mg base (CXE P w) 2 "less" ["one","other"] (zhs K A)) (ycx:Callee P w K mg base (CXE P w) 2 "plus" ["one","other"] (znG K A)) (yah:Callee P w K mg base (CXE P w) 1 "times" ["some","many"] (zfS K A)):FnOk P w K mg base (CXE P w) 3 f fd ["step","row"] (zjm K A):=by
 refine F.okV zeL (λ_=>rfl) (λcdv Ar outer s H E x hr hp=> ?_)
 obtain ⟨P0,P1⟩:=x
 have hu:=hr.units
 replace hp:zfd P0 P1:=hp
 unfold zfd at hp
 obtain ⟨N0,A0,S0,p1,p2,p3,p4,p5,p6,p7⟩:=hp
 refine ⟨_,(zaa (zax (i:=2) zeL.nd rfl (Or.inl rfl) (zaN yaa (hr.mono (by decide)) rfl zaF ↑[pv 0])) (zaa (zax (i:=3) zeL.nd rfl (Or.inl rfl) (zaN ybI (hr.mono (by decide)) rfl zaF ↑[(zbx (zaJ (K:=K) rfl) (pv 0) (pv 2) (λ_ _=>rfl)),(zbx (zaJ (K:=K) rfl) (pv 1) (pv 2) (λ_ _=>rfl))])) (zaa (zax (i:=4) zeL.nd rfl (Or.inl rfl) (zaN ycx (hr.mono (by decide)) rfl zaF ↑[(zaN yah (hr.mono (by decide)) rfl zaF ↑[pv 0,(zbx (zcA (K:=K) rfl) (pv 3) zaj (λ_ _=>rfl))]),(zaN yah (hr.mono (by decide)) rfl zaF ↑[pv 1,(zbx (zcA (K:=K) rfl) (pv 3) zaj (λ_ _=>rfl))])])) (zaa (zax (i:=5) zeL.nd rfl (Or.inl rfl) (zaN yat (hr.mono (by decide)) rfl zaF ↑[(zaN yah (hr.mono (by decide)) rfl zaF ↑[pv 1,(zaE zcB (zbx (zaJ (K:=K) rfl) (pv 0) (pv 2) (λ_ _=>rfl)) (zbx (zcA (K:=K) rfl) (pv 3) zaj (λ_ _=>rfl)))]),(zaN yah (hr.mono (by decide)) rfl zaF ↑[pv 0,(zaE zcB (zbx (zaJ (K:=K) rfl) (pv 1) (pv 2) (λ_ _=>rfl)) (zbx (zcA (K:=K) rfl) (pv 3) zaj (λ_ _=>rfl)))])])) (zaa (zaP (zgq ↑[pv 4,pv 5])) zad))))),.inl ?_⟩
 show L2.Run _ ([⇑[dQ K (List.map dI P0)],⇑[dQ K (List.map dI P1)],.no,.no,.no,.no]:L2.Ctx) _ ((λ(r:(Ji×Ji))=>Oc.rt true (dT [dL (List.map dI r.1),dL (List.map dI r.2)])) (zbm P0 P1))
 unfold zbm
 exact (zaC (m:=true) (x:=(zam P0)) dI (λ(r:(Ji×Ji))=>Oc.rt true (dT [dL (List.map dI r.1),dL (List.map dI r.2)])) (Ev.any (m:=true) (zao (x:=P0) (zac (zab (i:=0) rfl) zae) rfl (by show zbn P0;exact trivial) rfl)) (λhv93 hhead93=>have hH:=(hhead93).trans (zcL _);(zaC (m:=true) (x:=(zcN (ixD P0 hv93) (ixD P1 hv93))) (λ(p:(T3 Int Int Int))=>dT [dI p.a,dI p.b,dI p.c]) (λ(r:(Ji×Ji))=>Oc.rt true (dT [dL (List.map dI r.1),dL (List.map dI r.2)])) (zao (x:=((ixD P0 hv93),(ixD P1 hv93))) (zac (Ev.any (m:=false) (zb5 (f:=dI) (xs:=P0) (zab (i:=0) rfl) (Ev.any (m:=true) (zab (i:=2) rfl)) ↥(znR p2 hH))) (zac (Ev.any (m:=false) (zb5 (f:=dI) (xs:=P1) (zab (i:=1) rfl) (Ev.any (m:=true) (zab (i:=2) rfl)) ↥(Lat.zlz p2 hH p3))) zae)) rfl (by show zfa (ixD P0 hv93) (ixD P1 hv93);exact Lat.zoc p2 hH p5 p6) rfl) (λv94 hv94=>have hC:=zt6 hH p2 p5 p6 hv94;(zaC (m:=true) (x:=(zfj (zar P0 v94.b) (zar P1 v94.c))) lI (λ(r:(Ji×Ji))=>Oc.rt true (dT [dL (List.map dI r.1),dL (List.map dI r.2)])) (EvO.ev (EvO.anyI (m:=true) (zce (x:=((zar P0 v94.b),(zar P1 v94.c))) (zac (Ev.weak (K:=K) (EvO.ev (EvO.anyI (m:=true) (zce (x:=(P0,v94.b)) (zac (zab (i:=0) rfl) (zac (Ev.any (m:=true) (zeA (zab (i:=3) rfl) zaL rfl)) zae)) rfl (by show zcg P0 v94.b;exact ⟨by rw [p2.len];exact p1,Lat.ziY p2.bit hC.2.2.1 (by omega) (by decide)⟩) rfl)))) (zac (Ev.weak (K:=K) (EvO.ev (EvO.anyI (m:=true) (zce (x:=(P1,v94.c)) (zac (zab (i:=1) rfl) (zac (Ev.any (m:=true) (zeA (zab (i:=3) rfl) zaL rfl)) zae)) rfl (by show zcg P1 v94.c;exact ⟨by rw [p3];exact p1,Lat.ziY p4 hC.2.2.2 (by omega) (by decide)⟩) rfl)))) zae)) rfl (by show zfF (zar P0 v94.b) (zar P1 v94.c);exact zqw p1 p2.len p3) rfl))) (λv95 hv95=>(zaC (m:=true) (x:=(za5 (zar P1 ((ixD P0 hv93)/v94.a)) (zar P0 ((ixD P1 hv93)/v94.a)))) lI (λ(r:(Ji×Ji))=>Oc.rt true (dT [dL (List.map dI r.1),dL (List.map dI r.2)])) (EvO.ev (EvO.anyI (m:=true) (zce (x:=((zar P1 ((ixD P0 hv93)/v94.a)),(zar P0 ((ixD P1 hv93)/v94.a)))) (zac (Ev.weak (K:=K) (EvO.ev (EvO.anyI (m:=true) (zce (x:=(P1,((ixD P0 hv93)/v94.a))) (zac (zab (i:=1) rfl) (zac (zbb (x:=(ixD P0 hv93)) (y:=v94.a) (Ev.any (m:=false) (zb5 (f:=dI) (xs:=P0) (zab (i:=0) rfl) (Ev.any (m:=true) (zab (i:=2) rfl)) ↥(znR p2 hH))) (Ev.any (m:=true) (zeA (zab (i:=3) rfl) zaL rfl)) ↥(Lat.zhD.of hC.1 hC.2.1 (by decide))) zae)) rfl (by show zcg P1 ((ixD P0 hv93)/v94.a);exact ⟨by rw [p3];exact p1,Lat.ziY p4 (Lat.zgc hC.1 (zrV hH p2)) (by omega) (by decide)⟩) rfl)))) (zac (Ev.weak (K:=K) (EvO.ev (EvO.anyI (m:=true) (zce (x:=(P0,((ixD P1 hv93)/v94.a))) (zac (zab (i:=0) rfl) (zac (zbb (x:=(ixD P1 hv93)) (y:=v94.a) (Ev.any (m:=false) (zb5 (f:=dI) (xs:=P1) (zab (i:=1) rfl) (Ev.any (m:=true) (zab (i:=2) rfl)) ↥(Lat.zlz p2 hH p3))) (Ev.any (m:=true) (zeA (zab (i:=3) rfl) zaL rfl)) ↥(Lat.zhD.of hC.1 hC.2.1 (by decide))) zae)) rfl (by show zcg P0 ((ixD P1 hv93)/v94.a);exact ⟨by rw [p2.len];exact p1,Lat.ziY p2.bit (Lat.zgc hC.1 (zqz hH p2 p5 p6)) (by omega) (by decide)⟩) rfl)))) zae)) rfl (by show zcz (zar P1 ((ixD P0 hv93)/v94.a)) (zar P0 ((ixD P1 hv93)/v94.a));exact zpa p1 p2.len p3) rfl))) (λv96 hv96=>(zan (zaK (zgs (zac (zab (i:=4) rfl) (zac (zab (i:=5) rfl) zae)) (by show 2≤sizeLine;decide))))))))))))
theorem zgV (s l:Ji):zbm s l=Lat.mrg s l:=by
 unfold zbm Let
 dsimp only
 rw [zcL,Lat.zc3,Lat.zc3,znX];
 rfl
section
variable {n s a i:Nat} {l row:Ji} {steps:Jq} {st:Lat.TS2} {x:Int×Ji}
theorem ztj (p1:n≤1000) (p2:Lat.Ech n 0 steps) (p3:∀t∈steps,Lat.Sd n s t) (p4:row.length=n) (p5:Lat.Bit a row) (p6:steps.length≤100) (p7:a+(steps.length+2)*((steps.length+1)*(s+9000))+s≤40000000):Lat.LowP row steps:=by
 refine ⟨n,a,s,p1,p4,by omega,p5,p3,?_⟩
 have e2:steps.length*(s+1)≤(steps.length+1)*(s+9000):=Nat.mul_le_mul (by omega) (by omega)
 rw [Nat.add_mul steps.length 2] at p7
 omega
theorem zpS (p1:n≤1000) (I:Lat.TI steps n a s i st) (T:Lat.Sd n s x.2) (h:decide (zam st.2<zam x.2)=true):zcF st.2:=by
 rw [zcL,zcL] at h
 simp only [decide_eq_true_eq] at h
 have:=T.hd;
 have:=I.len
 exact ⟨by omega,by omega⟩
theorem zp3 (p1:n≤1000) (I:Lat.TI steps n a s i st) (h:decide (zam st.2<((st.2.length:Nat):Int))=true):zcF st.2:=by
 rw [zcL] at h
 simp only [decide_eq_true_eq] at h
 have:=I.len
 exact ⟨by omega,by omega⟩
theorem zs1 (h:decide (zam st.2=zam x.2)=true):Lat.hd st.2=Lat.hd x.2:=by
 rw [zcL,zcL] at h
 simp only [decide_eq_true_eq] at h
 omega
theorem ztA (I:Lat.TI steps n a s i st) (hx:i<steps.length∧x.1=(i:Int)∧steps[i]? =some x.2) (p6:steps.length≤100):st.1.length<PySem.sizeLine:=Nat.lt_of_le_of_lt (show _≤1000 by have:=I.g;omega) (by decide)
theorem ztz (I:Lat.TI steps n a s (zb8 steps).length st) (p6:steps.length≤100):st.1.length<PySem.sizeLine:=Nat.lt_of_le_of_lt (show _≤1000 by have:=I.g;rw [zdM] at this;omega) (by decide)
theorem zqn {y:Ji} (I:Lat.TI steps n a s i st) (hx:i<steps.length∧x.1=(i:Int)∧steps[i]? =some x.2) (p6:steps.length≤100):st.1.length+[y].length≤PySem.sizeLine:=by
 apply zau
 have:=I.g
 simp;
 omega
theorem zrG {lo hi:Option Int}:(zcu steps lo hi).length≤steps.length:=by unfold zcu;rw [List.length_take,List.length_drop];omega
theorem zqM {y:Ji} {lo hi:Option Int} (I:Lat.TI steps n a s i st) (hx:i<steps.length∧x.1=(i:Int)∧steps[i]? =some x.2) (p6:steps.length≤100):(st.1++[y]).length+(zcu steps lo hi).length≤PySem.sizeLine:=by
 apply zau
 have:=I.g
 have:=zrG (steps:=steps) (lo:=lo) (hi:=hi)
 simp;
 omega
end
noncomputable def m_taken_in (P0:Jq) (P1:Ji):Jq :=
 (Let (m_lowered P1 P0) (λ(v97:Ji)=>(zmi (zcm (λ(s107:Jq×Ji) (x108:(Int×Ji))=>(((bif (decide ((zam s107.2)<(zam x108.2))) then (Sum.inr ((s107.1++[(zbA s107.2)])++(zcu P0 (some x108.1) none))) else (Let (bif (decide ((zam s107.2)=(zam x108.2))) then (s107.1++[(zbm x108.2 s107.2).1]) else (s107.1++[x108.2])) (λ(v114:Jq)=>(Let (bif (decide ((zam s107.2)=(zam x108.2))) then (m_lowered ((zbm x108.2 s107.2).2) (zcu P0 (some (x108.1+(1:Int))) none)) else s107.2) (λ(v115:Ji)=>(Sum.inl (v114,v115)))))))):(Jq×Ji)⊕Jq)) ([],v97) (zb8 P0)) (λ(r116:Jq×Ji)=>(Let (bif (decide ((zam r116.2)<((r116.2.length:Nat):Int))) then (r116.1++[(zbA r116.2)]) else r116.1) (λ(v118:Jq)=>v118))) (λb=>b))))
def zdY (P0:Jq) (P1:Ji):Prop:=Lat.TinP P0 P1
def zg6 (K:W.Frag) (A:Adr):Sp:=Spv (ι:=Jq×Ji) (λx=>[dQ K (List.map lI x.1),dQ K (List.map dI x.2)]) (λx=>zdY x.1 x.2) (λx=> ⇑[dL (List.map lI (m_taken_in x.1 x.2))])
theorem zcC:FnScope ["steps","row","loose","grown","place","step","pair"] ["steps","row"] (zag zf6):=⟨rfl,rfl,rfl,by decide+kernel,rfl,by decide+kernel,by decide+kernel⟩
theorem zj1 (F:Fun K "taken_in" "taken_in" zf6 f fd) (T:Txt K mg A) (yaa:Callee P w K mg base (CXE P w) 1 "head_of" ["row"] (zdw K A)) (yaf:Callee P w K mg base (CXE P w) 3 "lowered" ["row","steps"] (zeg K A)) (ybJ:Callee P w K mg base (CXE P w) 3 "merged" ["step","row"] (zjm K A)) (ya2:Callee P w K mg base (CXE P w) 2 "upright" ["row"] (zhV K A)):FnOk P w K mg base (CXE P w) 4 f fd ["steps","row"] (zg6 K A):=by
 refine F.okV zcC (λ_=>rfl) (λcdv Ar outer s H E x hr hp=> ?_)
 obtain ⟨P0,P1⟩:=x
 have hu:=hr.units
 replace hp:zdY P0 P1:=hp
 unfold zdY at hp
 obtain ⟨N0,A0,S0,p1,p2,p3,p4,p5,p6,p7⟩:=hp
 refine ⟨_,(zaa (zax (i:=2) zcC.nd rfl (Or.inl rfl) (zaN yaf (hr.mono (by decide)) rfl zaF ↑[pv 1,pv 0])) (zaa (zax (i:=3) zcC.nd rfl (Or.inl rfl) (zbu zcI)) (zaa (zdo PassesOwn.never rfl (zhJ rfl rfl T.enumerate ↑[pv 0]) (zc7 (K:=K) (n:=2) rfl rfl (zbj (zaQ (i:=4) zcC.nd rfl (Or.inl rfl) (Or.inl rfl)) (zbj (zaQ (i:=5) zcC.nd rfl (Or.inl rfl) (Or.inl rfl)) zd6))) (zaa (zbp (zaz zjT (zaN yaa (hr.mono (by decide)) rfl zaF ↑[pv 2]) (zaN yaa (hr.mono (by decide)) rfl zaF ↑[pv 5]) (zaR _)) (zaa (zaP (zaE zeP (zaE zeP (pv 3) (zbu ↑[zaN ya2 (hr.mono (by decide)) rfl zaF ↑[pv 2]])) (zc9 (zcv (K:=K) rfl) (pv 0) (zd5 (pv 4)) zd2))) zad) zad) (zaa (zbp (zaz zdO (zaN yaa (hr.mono (by decide)) rfl zaF ↑[pv 2]) (zaN yaa (hr.mono (by decide)) rfl zaF ↑[pv 5]) (zaR _)) (zaa (zax (i:=6) zcC.nd rfl (Or.inl rfl) (zaN ybJ (hr.mono (by decide)) rfl zaF ↑[pv 5,pv 2])) (zaa (zbJ (zby (K:=K) rfl (pv 3) ↑[(zbx (zcA (K:=K) rfl) (pv 6) zaj (λ_ _=>rfl))])) (zaa (zax (i:=2) zcC.nd rfl (Or.inl rfl) (zaN yaf (hr.mono (by decide)) rfl zaF ↑[(zbx (zcA (K:=K) rfl) (pv 6) zaj (λ_ _=>rfl)),(zc9 (zcv (K:=K) rfl) (pv 0) (zd5 (zaE zdn (pv 4) zaj)) zd2)])) zad))) (zaa (zbJ (zby (K:=K) rfl (pv 3) ↑[pv 5])) zad)) zad))) (zaa (zbp (zaz zjT (zaN yaa (hr.mono (by decide)) rfl zaF ↑[pv 2]) (zaS (zaO (K:=K) rfl) rfl T.len PySem.boot_len ↑[pv 2]) (zaR _)) (zaa (zbJ (zby (K:=K) rfl (pv 3) ↑[zaN ya2 (hr.mono (by decide)) rfl zaF ↑[pv 2]])) zad) zad) (zaa (zaP (pv 3)) zad))))),.inl ?_⟩
 show L2.Run _ ([⇑[dQ K (List.map lI P0)],⇑[dQ K (List.map dI P1)],.no,.no,.no,.no,.no]:L2.Ctx) _ ((λ(r:Jq)=>Oc.rt false (dL (List.map lI r))) (m_taken_in P0 P1))
 unfold m_taken_in
 exact (zaC (m:=true) (x:=(m_lowered P1 P0)) lI (λ(r:Jq)=>Oc.rt false (dL (List.map lI r))) (zao (x:=(P1,P0)) (zac (zab (i:=1) rfl) (zac (zab (i:=0) rfl) zae)) rfl (by show zb1 P1 P0;exact ztj p1 p2 p3 p4 p5 p6 p7) rfl) (λv97 hv97=>have hL:=(hv97).trans (zc4 _ _);(zdr (m:=true) (ds:=List.map lI []) (zbM (m:=true) zae) (ziD (s0:=([],v97)) (λ(s107:Jq×Ji)=>([⇑[dQ K (List.map lI P0)],⇑[dQ K (List.map dI P1)],↥[dL (List.map dI s107.2)],.ow false (List.map lI s107.1),.no,.no,.no]:L2.Ctx)) (λ(r:Jq)=>Oc.rt false (dL (List.map lI r))) (λb=>b) (λ(s107:Jq×Ji) (x108:(Int×Ji))=>(((bif (decide ((zam s107.2)<(zam x108.2))) then (Sum.inr ((s107.1++[(zbA s107.2)])++(zcu P0 (some x108.1) none))) else (Let (bif (decide ((zam s107.2)=(zam x108.2))) then (s107.1++[(zbm x108.2 s107.2).1]) else (s107.1++[x108.2])) (λ(v114:Jq)=>(Let (bif (decide ((zam s107.2)=(zam x108.2))) then (m_lowered ((zbm x108.2 s107.2).2) (zcu P0 (some (x108.1+(1:Int))) none)) else s107.2) (λ(v115:Ji)=>(Sum.inl (v114,v115)))))))):(Jq×Ji)⊕Jq)) (λ(i:Nat) (s107:Jq×Ji)=>Lat.TI P0 N0 A0 S0 i s107) (λb=> .inl ⟨_,_,rfl⟩) (zja (m:=false) lI (xs:=P0) (zab (i:=0) rfl)) (.eq (.eq (.eq (.oldL (.eq (.eq (.eq .nil))))))) (by rw [hL];exact Lat.TI.start p2 p3 p4 p5) (λi109 x108 s107 hx110 hI111=>have v110:=zcw hx110;⟨(by intro z hz;simp only [zcL,zh0,zgV,zc4] at hz;exact Lat.TI.step (by assumption) p2 p3 (by assumption) hz),(zb9 (b:=(decide ((zam s107.2)<(zam x108.2)))) (zhL (λ(s107:Jq×Ji)=>([⇑[dQ K (List.map lI P0)],⇑[dQ K (List.map dI P1)],↥[dL (List.map dI s107.2)],.ow false (List.map lI s107.1),.no,.no,.no]:L2.Ctx)) (λ(r:Jq)=>Oc.rt false (dL (List.map lI r)))) (zap (zaY (x:=(zam s107.2)) (y:=(zam x108.2)) (Ev.any (m:=true) (zao (x:=s107.2) (zac (Ev.old (Ev.weak (K:=K) (zab (i:=2) rfl))) zae) rfl (by show zbn s107.2;exact trivial) rfl)) (Ev.any (m:=true) (zao (x:=x108.2) (zac (Ev.weak (K:=K) (zab (i:=5) rfl)) zae) rfl (by show zbn x108.2;exact trivial) rfl)))) (λh112=>(zaH (zcX (i:=3) rfl (zan (zaK (EvO.ev (zdB (f:=lI) (xs:=(s107.1++[(zbA s107.2)])) (ys:=(zcu P0 (some x108.1) none)) (EvO.ev (zdB (f:=lI) (xs:=s107.1) (ys:=[(zbA s107.2)]) (zab (i:=3) rfl) (EvO.ev (zcH (zac (zao (x:=s107.2) (zac (Ev.old (zab (i:=2) rfl)) zae) rfl (by show zcF s107.2;first|exact zpS p1 (by assumption) (p3 _ (Lat.TI.mem (by assumption)).1) (by assumption)|exact zp3 p1 (by assumption) (by assumption)) rfl) zae) (by show 1≤sizeLine;decide))) ↥(zqn (by assumption) (by assumption) p6))) (EvO.ev (zd7 (f:=lI) (xs:=P0) (zab (i:=0) rfl) (zc8 (Ev.any (m:=false) (zab (i:=4) rfl))) zda)) ↥(zqM (by assumption) (by assumption) p6)))))))) (λh112=>(zak (zdq (b:=(decide ((zam s107.2)=(zam x108.2)))) (λbb=>([⇑[dQ K (List.map lI P0)],⇑[dQ K (List.map dI P1)],↥[dL (List.map dI (bif bb then (m_lowered ((zbm x108.2 s107.2).2) (zcu P0 (some (x108.1+(1:Int))) none)) else s107.2))],.ow false (List.map lI (bif bb then (s107.1++[(zbm x108.2 s107.2).1]) else (s107.1++[x108.2]))),⇑[dI x108.1],⇑[dL (List.map dI x108.2)],.no]:L2.Ctx)) (zap (zhY (x:=(zam s107.2)) (y:=(zam x108.2)) (Ev.any (m:=true) (zao (x:=s107.2) (zac (Ev.old (Ev.weak (K:=K) (zab (i:=2) rfl))) zae) rfl (by show zbn s107.2;exact trivial) rfl)) (Ev.any (m:=true) (zao (x:=x108.2) (zac (Ev.weak (K:=K) (zab (i:=5) rfl)) zae) rfl (by show zbn x108.2;exact trivial) rfl)))) (λh113=>(zcE (m:=true) (zao (x:=(x108.2,s107.2)) (zac (Ev.weak (K:=K) (zab (i:=5) rfl)) (zac (Ev.old (Ev.weak (K:=K) (zab (i:=2) rfl))) zae)) rfl (by show zfd x108.2 s107.2;exact Lat.TI.mrg (by assumption) p1 p3 (by assumption) (zs1 (by assumption)) p7) rfl) (zb2 (f:=lI) (xs:=s107.1) (x:=(zbm x108.2 s107.2).1) rfl (Ev.old (zeA (zab (i:=6) rfl) zaL rfl)) ↥(ztA (by assumption) (by assumption) p6) (zcE (m:=true) (zao (x:=((zbm x108.2 s107.2).2,(zcu P0 (some (x108.1+(1:Int))) none))) (zac (Ev.old (Ev.weak (K:=K) (zeA (zab (i:=6) rfl) zaL rfl))) (zac (Ev.weak (K:=K) (EvO.ev (zd7 (f:=lI) (xs:=P0) (zab (i:=0) rfl) (zc8 (zaY (x:=x108.1) (y:=(1:Int)) (Ev.any (m:=false) (zab (i:=4) rfl)) zaL)) zda))) zae)) rfl (by show zb1 ((zbm x108.2 s107.2).2) (zcu P0 (some (x108.1+(1:Int))) none);unfold zb1;rw [zgV];exact Lat.TI.low (by assumption) p1 p6 p3 (by assumption) (zs1 (by assumption)) p7) rfl) (zaD (.eq (.eq (.eq (.eq (.eq (.eq (.no .nil)))))))))))) (λh113=>(zb2 (f:=lI) (xs:=s107.1) (x:=x108.2) rfl (zab (i:=5) rfl) ↥(ztA (by assumption) (by assumption) p6) (zaD (.eq (.eq (.eq (.eq (.eq (.eq (.eq .nil)))))))))) (zek (x:=(bif (decide ((zam s107.2)=(zam x108.2))) then (s107.1++[(zbm x108.2 s107.2).1]) else (s107.1++[x108.2]))) (λv114=>([⇑[dQ K (List.map lI P0)],⇑[dQ K (List.map dI P1)],↥[dL (List.map dI (bif (decide ((zam s107.2)=(zam x108.2))) then (m_lowered ((zbm x108.2 s107.2).2) (zcu P0 (some (x108.1+(1:Int))) none)) else s107.2))],.ow false (List.map lI v114),⇑[dI x108.1],⇑[dL (List.map dI x108.2)],.no]:L2.Ctx)) (zhL (λ(s107:Jq×Ji)=>([⇑[dQ K (List.map lI P0)],⇑[dQ K (List.map dI P1)],↥[dL (List.map dI s107.2)],.ow false (List.map lI s107.1),.no,.no,.no]:L2.Ctx)) (λ(r:Jq)=>Oc.rt false (dL (List.map lI r)))) (λv114 hv114=>(zek (x:=(bif (decide ((zam s107.2)=(zam x108.2))) then (m_lowered ((zbm x108.2 s107.2).2) (zcu P0 (some (x108.1+(1:Int))) none)) else s107.2)) (λv115=>([⇑[dQ K (List.map lI P0)],⇑[dQ K (List.map dI P1)],↥[dL (List.map dI v115)],.ow false (List.map lI v114),⇑[dI x108.1],⇑[dL (List.map dI x108.2)],.no]:L2.Ctx)) (zhL (λ(s107:Jq×Ji)=>([⇑[dQ K (List.map lI P0)],⇑[dQ K (List.map dI P1)],↥[dL (List.map dI s107.2)],.ow false (List.map lI s107.1),.no,.no,.no]:L2.Ctx)) (λ(r:Jq)=>Oc.rt false (dL (List.map lI r)))) (λv115 hv115=>(zaD (.eq (.eq (.eq (.eq (.no (.no (.eq .nil))))))))))))))))⟩) (λr116 hr116 hI=>(zdq (b:=(decide ((zam r116.2)<((r116.2.length:Nat):Int)))) (λbb=>([⇑[dQ K (List.map lI P0)],⇑[dQ K (List.map dI P1)],↥[dL (List.map dI r116.2)],.ow false (List.map lI (bif bb then (r116.1++[(zbA r116.2)]) else r116.1)),.no,.no,.no]:L2.Ctx)) (zap (zaY (x:=(zam r116.2)) (y:=((r116.2.length:Nat):Int)) (Ev.any (m:=true) (zao (x:=r116.2) (zac (Ev.old (Ev.weak (K:=K) (zab (i:=2) rfl))) zae) rfl (by show zbn r116.2;exact trivial) rfl)) (zbs (f:=dI) (xs:=r116.2) (Ev.old (Ev.weak (K:=K) (zab (i:=2) rfl)))))) (λh117=>(zb2 (f:=lI) (xs:=r116.1) (x:=(zbA r116.2)) rfl (zao (x:=r116.2) (zac (Ev.old (zab (i:=2) rfl)) zae) rfl (by show zcF r116.2;first|exact zpS p1 (by assumption) (p3 _ (Lat.TI.mem (by assumption)).1) (by assumption)|exact zp3 p1 (by assumption) (by assumption)) rfl) ↥(ztz (by assumption) p6) (zaD (.eq (.eq (.eq (.eq (.eq (.eq (.eq .nil)))))))))) (λh117=>(zaD (.eq (.eq (.eq (.eq (.eq (.eq (.eq .nil))))))))) (zek (x:=(bif (decide ((zam r116.2)<((r116.2.length:Nat):Int))) then (r116.1++[(zbA r116.2)]) else r116.1)) (λv118=>([⇑[dQ K (List.map lI P0)],⇑[dQ K (List.map dI P1)],↥[dL (List.map dI r116.2)],.ow false (List.map lI v118),.no,.no,.no]:L2.Ctx)) (λ(r:Jq)=>Oc.rt false (dL (List.map lI r))) (λv118 hv118=>(zcX (i:=3) rfl (zan (zaK (zab (i:=3) rfl))))))))))))
theorem ziU (ss:Jq) (l:Ji):m_taken_in ss l=Lat.tin Lat.MG ss (Lat.low l ss):=by
 unfold m_taken_in
 simp only [zcL,zh0,zgV,zc4]
 exact Lat.zvh ss _
theorem zqO (x:Ji) (fl:Jq):Let ([(m_lowered x fl)]++fl) (λ(y:Jq)=>y)=[Lat.low x fl]++fl:=by unfold Let;rw [zc4]
theorem zsS {steps fl:Jq} {i:Nat} {x y:Ji} (h:Lat.zse steps) (hx:steps.reverse[i]? =some x) (e:fl=Lat.stl (steps.drop (steps.length-i))):[y].length+fl.length≤PySem.sizeLine:=by
 obtain ⟨j,h1,_⟩:=Lat.zkk hx
 have:=Lat.zsI h (by omega) e
 apply zau
 simp;
 omega
noncomputable def zch (P0:Jq):Jq :=
 (Let (List.foldl (λ(s119:Jq) (x120:Ji)=>(Let ([(m_lowered x120 s119)]++s119) (λ(v124:Jq)=>v124))) [] (List.reverse P0)) (λ(r125:Jq)=>r125))
def zdz (P0:Jq):Prop:=Lat.zse P0
def zii (K:W.Frag) (A:Adr):Sp:=Spv (ι:=Jq) (λx=>[dQ K (List.map lI x)]) (λx=>zdz x) (λx=> ↥[dL (List.map lI (zch x))])
theorem zfb:FnScope ["steps","flat","step"] ["steps"] (zag zhg):=⟨rfl,rfl,rfl,by decide+kernel,rfl,by decide+kernel,by decide+kernel⟩
theorem zlW (F:Fun K "settled" "settled" zhg f fd) (T:Txt K mg A) (yaf:Callee P w K mg base (CXE P w) 3 "lowered" ["row","steps"] (zeg K A)):FnOk P w K mg base (CXE P w) 4 f fd ["steps"] (zii K A):=by
 refine F.okV zfb (λ_=>rfl) (λcdv Ar outer s H E P0 hr hp=> ?_)
 have hu:=hr.units
 replace hp:zdz P0:=hp
 unfold zdz at hp
 refine ⟨_,(zaa (zax (i:=1) zfb.nd rfl (Or.inl rfl) (zbu zcI)) (zaa (zdo PassesOwn.never rfl (zrW rfl rfl T.reversed ↑[pv 0]) (zaQ (i:=2) zfb.nd rfl (Or.inl rfl) (Or.inl rfl)) (zaa (zax (i:=1) zfb.nd rfl (Or.inl rfl) (zaE zeP (zbu ↑[zaN yaf (hr.mono (by decide)) rfl zaF ↑[pv 2,pv 1]]) (pv 1))) zad)) (zaa (zaP (pv 1)) zad))),.inl ?_⟩
 show L2.Run _ ([⇑[dQ K (List.map lI P0)],.no,.no]:L2.Ctx) _ ((λ(r:Jq)=>Oc.rt true (dL (List.map lI r))) (zch P0))
 unfold zch
 exact (zcE (m:=true) (EvO.ev (zbM (m:=true) zae)) (zcy (s0:=[]) (λ(s119:Jq)=>([⇑[dQ K (List.map lI P0)],↥[dL (List.map lI s119)],.no]:L2.Ctx)) (λ(r:Jq)=>Oc.rt true (dL (List.map lI r))) (λ(s119:Jq) (x120:Ji)=>(Let ([(m_lowered x120 s119)]++s119) (λ(v124:Jq)=>v124))) (λ(i:Nat) (s119:Jq)=>s119=Lat.stl (P0.drop (P0.length-i))) (ztw (m:=false) lI (xs:=P0) (zab (i:=0) rfl)) (.eq (.eq (.eq .nil))) (by simp [Lat.stl]) (λi121 x120 s119 hx122 hI123=>have v122:=List.mem_of_getElem? hx122;⟨↥(Lat.zqT (by assumption) (by assumption) (zqO _ _)),(zaC (m:=true) (x:=([(m_lowered x120 s119)]++s119)) (λ(xs:Jq)=>dL (List.map lI xs)) (λz=>Oc.nx ((λ(s119:Jq)=>([⇑[dQ K (List.map lI P0)],↥[dL (List.map lI s119)],.no]:L2.Ctx)) z)) (EvO.ev (zdB (f:=lI) (xs:=[(m_lowered x120 s119)]) (ys:=s119) (EvO.ev (zcH (zac (zao (x:=(x120,s119)) (zac (Ev.weak (K:=K) (zab (i:=2) rfl)) (zac (Ev.old (Ev.weak (K:=K) (zab (i:=1) rfl))) zae)) rfl (by show zb1 x120 s119;exact Lat.zq0 hp (by assumption) (by assumption)) rfl) zae) (by show 1≤sizeLine;decide))) (zab (i:=1) rfl) ↥(zsS hp (by assumption) (by assumption)))) (λv124 hv124=>(zaD (.eq (.eq (.no .nil))))))⟩) (λr125 hr125 hI=>(zan (zaK (zab (i:=1) rfl))))))
theorem zhS (ss:Jq):zch ss=Lat.stl ss:=by
 unfold zch
 simp only [zc4]
 exact Lat.zuY ss
theorem zqq {rows ss:Jq} {r:Ji} {i:Nat} (hr:rows[i]?=some r) (e:ss=Lat.clm Lat.MG (rows.take i)):Let (zch (m_taken_in ss r)) (λ(y:Jq)=>y)=Lat.clm Lat.MG (rows.take (i+1)):=by
 unfold Let
 rw [zhS,ziU,Lat.ziT hr,e]
noncomputable def zdf (P0:Jq):Jq :=
 (Let (List.foldl (λ(s126:Jq) (x127:Ji)=>(Let (zch (m_taken_in s126 x127)) (λ(v131:Jq)=>v131))) [] P0) (λ(r132:Jq)=>r132))
def zeq (P0:Jq):Prop:=Lat.zuS P0
def zh5 (K:W.Frag) (A:Adr):Sp:=Spv (ι:=Jq) (λx=>[dQ K (List.map lI x)]) (λx=>zeq x) (λx=> ↥[dL (List.map lI (zdf x))])
theorem ze1:FnScope ["rows","steps","row"] ["rows"] (zag zg7):=⟨rfl,rfl,rfl,by decide+kernel,rfl,by decide+kernel,by decide+kernel⟩
theorem zlY (F:Fun K "climbed" "climbed" zg7 f fd) (T:Txt K mg A) (ybr:Callee P w K mg base (CXE P w) 4 "settled" ["steps"] (zii K A)) (ybf:Callee P w K mg base (CXE P w) 4 "taken_in" ["steps","row"] (zg6 K A)):FnOk P w K mg base (CXE P w) 5 f fd ["rows"] (zh5 K A):=by
 refine F.okV ze1 (λ_=>rfl) (λcdv Ar outer s H E P0 hr hp=> ?_)
 have hu:=hr.units
 replace hp:zeq P0:=hp
 unfold zeq at hp
 obtain ⟨N0,B0,R0,p1,p2,p3⟩:=hp
 refine ⟨_,(zaa (zax (i:=1) ze1.nd rfl (Or.inl rfl) (zbu zcI)) (zaa (zdo PassesOwn.never rfl (zbz (K:=K) rfl (pv 0)) (zaQ (i:=2) ze1.nd rfl (Or.inl rfl) (Or.inl rfl)) (zaa (zax (i:=1) ze1.nd rfl (Or.inl rfl) (zaN ybr (hr.mono (by decide)) rfl zaF ↑[zaN ybf (hr.mono (by decide)) rfl zaF ↑[pv 1,pv 2]])) zad)) (zaa (zaP (pv 1)) zad))),.inl ?_⟩
 show L2.Run _ ([⇑[dQ K (List.map lI P0)],.no,.no]:L2.Ctx) _ ((λ(r:Jq)=>Oc.rt true (dL (List.map lI r))) (zdf P0))
 unfold zdf
 exact (zcE (m:=true) (EvO.ev (zbM (m:=true) zae)) (zcy (s0:=[]) (λ(s126:Jq)=>([⇑[dQ K (List.map lI P0)],↥[dL (List.map lI s126)],.no]:L2.Ctx)) (λ(r:Jq)=>Oc.rt true (dL (List.map lI r))) (λ(s126:Jq) (x127:Ji)=>(Let (zch (m_taken_in s126 x127)) (λ(v131:Jq)=>v131))) (λ(i:Nat) (s126:Jq)=>s126=Lat.clm Lat.MG (P0.take i)) (zcQ (m:=false) lI (xs:=P0) (zab (i:=0) rfl)) (.eq (.eq (.eq .nil))) (by rfl) (λi128 x127 s126 hx129 hI130=>have v129:=List.mem_of_getElem? hx129;⟨↥(zqq (by assumption) (by assumption)),(zaC (m:=true) (x:=(zch (m_taken_in s126 x127))) (λ(xs:Jq)=>dL (List.map lI xs)) (λz=>Oc.nx ((λ(s126:Jq)=>([⇑[dQ K (List.map lI P0)],↥[dL (List.map lI s126)],.no]:L2.Ctx)) z)) (zao (x:=(m_taken_in s126 x127)) (zac (Ev.weak (K:=K) (zao (x:=(s126,x127)) (zac (Ev.old (Ev.weak (K:=K) (zab (i:=1) rfl))) (zac (Ev.weak (K:=K) (zab (i:=2) rfl)) zae)) rfl (by show zdY s126 x127;exact (Lat.zmu p1 p2 p3 (by assumption) (by assumption)).2.1) rfl)) zae) rfl (by show zdz (m_taken_in s126 x127);unfold zdz;rw [ziU];exact (Lat.zmu p1 p2 p3 (by assumption) (by assumption)).2.2) rfl) (λv131 hv131=>(zaD (.eq (.eq (.no .nil))))))⟩) (λr132 hr132 hI=>(zan (zaK (zab (i:=1) rfl))))))
theorem zmj (rows:Jq):zdf rows=Lat.clm Lat.MG rows:=by
 unfold zdf Lat.clm
 simp only [zhS,ziU]
 rfl
def TrP (rows:Jq):Prop:=∃n b R,Lat.Fit (n+rows.length) b R∧rows.length≤R∧∀r∈rows,r.length=n∧Lat.Bit b r
theorem zsD {s:Jq} {i:Nat} {y:Ji} (h:s.length≤i):(s++[y]).length≤i+1:=by simp;omega
theorem zt4 {rows:Jq} {i:Nat} {p:Int×Ji} {c:Ji} (q:i<rows.length∧p.1=(i:Int)∧rows[i]? =some p.2) (e:c=zd9 ((rows.length:Nat):Int) [(0:Int)]):InB c.length p.1:=by rw [e,Lat.zeJ];unfold InB;omega
theorem ztR {n b R i:Nat} {rows:Jq} {p:Int×Ji} {c c0:Ji} {y:Int} (p1:Lat.Fit (n+rows.length) b R) (p2:rows.length≤R) (p3:∀r∈rows,r.length=n∧Lat.Bit b r) (q:i<rows.length∧p.1=(i:Int)∧rows[i]? =some p.2) (e0:c0=zd9 ((rows.length:Nat):Int) [(0:Int)]) (e:c=zeD c0 p.1 y):p.2.length+c.length≤PySem.sizeLine:=by
 have h1:=(p3 _ (List.mem_of_getElem? q.2.2)).1
 have h2:=p1.1
 rw [e,ziE,e0,Lat.zeJ,h1]
 exact zau (by omega)
theorem ztT {n b R i:Nat} {rows s:Jq} {p:Int×Ji} (p1:Lat.Fit (n+rows.length) b R) (p2:rows.length≤R) (h:s.length≤i) (q:i<rows.length∧p.1=(i:Int)∧rows[i]? =some p.2):s.length<PySem.sizeLine:=Nat.lt_of_le_of_lt (show _≤1000 by have:=p1.2.1;omega) (by decide)
theorem zs9 {rows:Jq}:List.foldl (λ(s:Jq) (x:Int×Ji)=>Let (zeD (zd9 ((rows.length:Nat):Int) [(0:Int)]) x.1 (1:Int)) (λ(c:Ji)=>s++[x.2++c])) [] (zb8 rows)=Lat.mark rows:=by
 show List.foldl (λ(s:Jq) (x:Int×Ji)=>s++[x.2++Lat.zif rows.length x.1]) [] (zb8 rows)=_
 rw [Lat.zkP]
 rfl
theorem ztk {n b R:Nat} {rows ms:Jq} (p1:Lat.Fit (n+rows.length) b R) (p2:rows.length≤R) (p3:∀r∈rows,r.length=n∧Lat.Bit b r) (e:ms=List.foldl (λ(s:Jq) (x:Int×Ji)=>Let (zeD (zd9 ((rows.length:Nat):Int) [(0:Int)]) x.1 (1:Int)) (λ(c:Ji)=>s++[x.2++c])) [] (zb8 rows)):Lat.zuS ms:=by
 rw [e,zs9]
 exact ⟨_,b,R,p1,by rw [Lat.ze5];exact p2,Lat.zhb p3⟩
noncomputable def zdX (P0:Jq):Jq :=
 (Let (List.foldl (λ(s133:Jq) (x134:(Int×Ji))=>(Let (zd9 ((P0.length:Nat):Int) [(0:Int)]) (λ(v138:Ji)=>(Let (zeD v138 x134.1 (1:Int)) (λ(v139:Ji)=>(s133++[(x134.2++v139)])))))) [] (zb8 P0)) (λ(r140:Jq)=>r140))
def ze8 (P0:Jq):Prop:=TrP P0
def zje (K:W.Frag) (A:Adr):Sp:=Spv (ι:=Jq) (λx=>[dQ K (List.map lI x)]) (λx=>ze8 x) (λx=> ↥[dL (List.map lI (zdX x))])
theorem zeM:FnScope ["rows","longer","place","row","counts"] ["rows"] (zag zit):=⟨rfl,rfl,rfl,by decide+kernel,rfl,by decide+kernel,by decide+kernel⟩
theorem znC (F:Fun K "marked" "marked" zit f fd) (T:Txt K mg A) :FnOk P w K mg base (CXE P w) 1 f fd ["rows"] (zje K A):=by
 refine F.okV zeM (λ_=>rfl) (λcdv Ar outer s H E P0 hr hp=> ?_)
 have hu:=hr.units
 replace hp:ze8 P0:=hp
 unfold ze8 at hp
 obtain ⟨N0,B0,R0,p1,p2,p3⟩:=hp
 refine ⟨_,(zaa (zax (i:=1) zeM.nd rfl (Or.inl rfl) (zbu zcI)) (zaa (zdo PassesOwn.never rfl (zhJ rfl rfl T.enumerate ↑[pv 0]) (zc7 (K:=K) (n:=2) rfl rfl (zbj (zaQ (i:=2) zeM.nd rfl (Or.inl rfl) (Or.inl rfl)) (zbj (zaQ (i:=3) zeM.nd rfl (Or.inl rfl) (Or.inl rfl)) zd6))) (zaa (zax (i:=4) zeM.nd rfl (Or.inl rfl) (zaE znZ (zbu ↑[zaj]) (zaS (zaO (K:=K) rfl) rfl T.len PySem.boot_len ↑[pv 0]))) (zaa (zpM zaj (zpA (pv 4) (pv 2) zkQ)) (zaa (zbJ (zby (K:=K) rfl (pv 1) ↑[zaE zeP (pv 3) (pv 4)])) zad)))) (zaa (zaP (pv 1)) zad))),.inl ?_⟩
 show L2.Run _ ([⇑[dQ K (List.map lI P0)],.no,.no,.no,.no]:L2.Ctx) _ ((λ(r:Jq)=>Oc.rt true (dL (List.map lI r))) (zdX P0))
 unfold zdX
 exact (zdr (m:=true) (ds:=List.map lI []) (zbM (m:=true) zae) (zcy (s0:=[]) (λ(s133:Jq)=>([⇑[dQ K (List.map lI P0)],.ow true (List.map lI s133),.no,.no,.no]:L2.Ctx)) (λ(r:Jq)=>Oc.rt true (dL (List.map lI r))) (λ(s133:Jq) (x134:(Int×Ji))=>(Let (zd9 ((P0.length:Nat):Int) [(0:Int)]) (λ(v138:Ji)=>(Let (zeD v138 x134.1 (1:Int)) (λ(v139:Ji)=>(s133++[(x134.2++v139)])))))) (λ(i:Nat) (s133:Jq)=>s133.length≤i) (zja (m:=false) lI (xs:=P0) (zab (i:=0) rfl)) (.eq (.eq (.eq (.eq (.eq .nil))))) ↥(Nat.le_refl 0) (λi135 x134 s133 hx136 hI137=>have v136:=zcw hx136;⟨↥(zsD (by assumption)),(zkJ (m:=true) (x:=(zd9 ((P0.length:Nat):Int) [(0:Int)])) (λz=>List.map dI z) (λz=>Oc.nx ((λ(s133:Jq)=>([⇑[dQ K (List.map lI P0)],.ow true (List.map lI s133),.no,.no,.no]:L2.Ctx)) z)) (zj7 (f:=dI) (xs:=[(0:Int)]) (n:=((P0.length:Nat):Int)) (EvO.ev (zcH (zac zaL zae) (by show 1≤sizeLine;decide))) (zbs (f:=lI) (xs:=P0) (zab (i:=0) rfl)) (by have z:=p1.2.1;constructor<;>omega) (by show 1*_≤PySem.sizeLine;apply zau;have z:=p1.2.1;omega)) (λv138 hv138=>(zhO (f:=dI) (xs:=v138) (x:=(1:Int)) (j:=x134.1) (λz=>Oc.nx ((λ(s133:Jq)=>([⇑[dQ K (List.map lI P0)],.ow true (List.map lI s133),.no,.no,.no]:L2.Ctx)) z)) rfl zaL (Ev.any (m:=false) (zab (i:=2) rfl)) ↥(zt4 (by assumption) (by assumption)) (λv139 hv139=>(zcX (i:=4) rfl (zb2 (f:=lI) (xs:=s133) (x:=(x134.2++v139)) rfl (EvO.ev (EvO.anyI (m:=false) (zdB (f:=dI) (xs:=x134.2) (ys:=v139) (zab (i:=3) rfl) (Ev.old (zab (i:=4) rfl)) ↥(ztR p1 p2 p3 (by assumption) (by assumption) (by assumption))))) ↥(ztT p1 p2 (by assumption) (by assumption)) (zaD (.eq (.eq (.no (.no (.no .nil))))))))))))⟩) (λr140 hr140 hI=>(zcX (i:=1) rfl (zan (zaK (zab (i:=1) rfl)))))))
noncomputable def zbk (P0:Jq):Jq :=
 (zdf (zdX P0))
def zeb (P0:Jq):Prop:=TrP P0
def zgN (K:W.Frag) (A:Adr):Sp:=Spv (ι:=Jq) (λx=>[dQ K (List.map lI x)]) (λx=>zeb x) (λx=> ↥[dL (List.map lI (zbk x))])
theorem znm:FnScope ["rows"] ["rows"] (zag ziC):=⟨rfl,rfl,rfl,by decide+kernel,rfl,by decide+kernel,by decide+kernel⟩
theorem zm9 (F:Fun K "traced" "traced" ziC f fd) (T:Txt K mg A) (ybs:Callee P w K mg base (CXE P w) 5 "climbed" ["rows"] (zh5 K A)) (ybK:Callee P w K mg base (CXE P w) 1 "marked" ["rows"] (zje K A)):FnOk P w K mg base (CXE P w) 6 f fd ["rows"] (zgN K A):=by
 refine F.okV znm (λ_=>rfl) (λcdv Ar outer s H E P0 hr hp=> ?_)
 have hu:=hr.units
 replace hp:zeb P0:=hp
 unfold zeb at hp
 obtain ⟨N0,B0,R0,p1,p2,p3⟩:=hp
 refine ⟨_,(zaa (zaP (zaN ybs (hr.mono (by decide)) rfl zaF ↑[zaN ybK (hr.mono (by decide)) rfl zaF ↑[pv 0]])) zad),.inl ?_⟩
 show L2.Run _ ([⇑[dQ K (List.map lI P0)]]:L2.Ctx) _ ((λ(r:Jq)=>Oc.rt true (dL (List.map lI r))) (zbk P0))
 unfold zbk
 exact (zan (zaK (zao (x:=(zdX P0)) (zac (Ev.old (Ev.weak (K:=K) (zao (x:=P0) (zac (zab (i:=0) rfl) zae) rfl (by show ze8 P0;exact ⟨N0,B0,R0,p1,p2,p3⟩) rfl))) zae) rfl (by show zeq (zdX P0);exact ztk p1 p2 p3 rfl) rfl)))
theorem zeT (rows:Jq):zbk rows=Lat.clm Lat.MG (Lat.mark rows):=by
 unfold zbk
 rw [zmj]
 exact congrArg _ zs9
theorem zqg {rows:Jq} (h:TrP rows):(zbk rows).length≤31:=by
 obtain ⟨n,b,R,p1,p2,p3⟩:=h
 rw [zeT]
 have:=(Lat.zjD p1 (rows:=Lat.mark rows) (by rw [Lat.ze5];exact p2) (Lat.zhb p3)).2.1
 have:=p1.2.1
 omega
def zue (ss:Jq) (x:Ji) (m:Int):Prop:=0≤m∧m≤24∧x.length≤24∧Lat.LowP (zar x (-(1:Int))++zd9 m [(0:Int)]) ss
theorem zqE {ss:Jq} {x:Ji} {m:Int} (h:zue ss x m):(zar x (-(1:Int))).length+(zd9 m [(0:Int)]).length≤PySem.sizeLine:=by
 obtain ⟨h1,h2,h3,h4⟩:=h
 obtain ⟨k,rfl⟩:∃k:Nat,m=(k:Int):=⟨m.toNat,by omega⟩
 exact zau (by rw [Lat.zeJ,show (zar x (-(1:Int))).length=x.length from Lat.zaZ];omega)
noncomputable def zeF (P0:Jq) (P1:Int):Jq :=
 (List.map (λ(x141:Ji)=>(zcu x141 (some P1) none)) (List.filter (λ(x141:Ji)=>(decide (P1≤(zam x141)))) P0))
def zfR (P0:Jq) (P1:Int):Prop:=P0.length≤1000
def zlx (K:W.Frag) (A:Adr):Sp:=Spv (ι:=Jq×Int) (λx=>[dQ K (List.map lI x.1),dI x.2]) (λx=>zfR x.1 x.2) (λx=> ↥[dL (List.map lI (zeF x.1 x.2))])
theorem zo9:FnScope ["steps","many"] ["steps","many"] (zag ziN):=⟨rfl,rfl,rfl,by decide+kernel,rfl,by decide+kernel,by decide+kernel⟩
theorem zoE (F:Fun K "tails" "tails" ziN f fd) (T:Txt K mg A) (yaa:Callee P w K mg base (CXE P w) 1 "head_of" ["row"] (zdw K A)):FnOk P w K mg base (CXE P w) 2 f fd ["steps","many"] (zlx K A):=by
 refine F.okV zo9 (λ_=>rfl) (λcdv Ar outer s H E x hr hp=> ?_)
 obtain ⟨P0,P1⟩:=x
 have hu:=hr.units
 replace hp:zfR P0 P1:=hp
 unfold zfR at hp
 refine ⟨_,(zaa (zaP (zcM rfl (.of (osc:=(zag ziN)) (N:=["steps","many"]) (own:=["step"]) (fvn:=["many"]) (fv:=[1]) rfl rfl (by decide+kernel)) (zbz (K:=K) rfl (pv 0)) (λ_ _ _ _ _=>⟨(zaQ (i:=0) (show (["step","many"]:List Str).Nodup by decide+kernel) rfl (Or.inl rfl) (Or.inr rfl)),(zqx (zaz zt0 (zaN yaa (hr.mono (by decide)) rfl zaF ↑[pv 0]) (pv 1) (zaR _))),(zc9 (zcv (K:=K) rfl) (pv 0) (zd5 (pv 1)) zd2)⟩))) zad),.inl ?_⟩
 show L2.Run _ ([⇑[dQ K (List.map lI P0)],⇑[dI P1]]:L2.Ctx) _ ((λ(r:Jq)=>Oc.rt true (dL (List.map lI r))) (zeF P0 P1))
 unfold zeF
 exact (zan (zaK (EvO.ev (EvO.conv (zof (c:=λ(x141:Ji)=>(decide (P1≤(zam x141)))) (g:=(λ(x141:Ji)=>dL (List.map dI (zcu x141 (some P1) none)))) (zcQ (m:=false) lI (xs:=P0) (zab (i:=0) rfl)) ↥(zau (by omega)) ⟨by decide,by decide⟩ (λi142 x141 hx143=>have v143:=List.mem_of_getElem? hx143;(zap (zaY (x:=(zam x141)) (y:=P1) (Ev.any (m:=true) (zao (x:=x141) (zac (Ev.weak (K:=K) (zab (i:=0) rfl)) zae) rfl (by show zbn x141;exact trivial) rfl)) (Ev.any (m:=false) (zab (i:=1) rfl))))) (λi142 x141 hx143 hc=>have v143:=List.mem_of_getElem? hx143;(EvO.ev (EvO.anyI (m:=false) (zd7 (f:=dI) (xs:=x141) (Ev.weak (K:=K) (zab (i:=0) rfl)) (zc8 (Ev.any (m:=false) (zab (i:=1) rfl))) zda))))) (by first|(rw [List.map_map];rfl)|(simp only [cond_true,cond_false];rw [List.map_map];rfl))))))
theorem zoI {l:Ji} {n:Nat}:zcu l none (some (n:Int))=l.take n:=by
 unfold zcu
 rw [HT.sIx_nat,HT.sIx_none]
 show (l.drop 0).take (min n l.length-0)=_
 rw [List.drop_zero,Nat.sub_zero]
 by_cases h:n≤l.length
 ·rw [Nat.min_eq_left h]
 ·rw [Nat.min_eq_right (by omega),List.take_of_length_le (by omega),List.take_of_length_le (by omega)]
theorem zps {ss:Jq} {n:Nat}:zeF ss (n:Int)=Lat.zfg n ss:=by
 unfold zeF Lat.zfg
 simp only [zcL,Lat.ze6]
 have e:(λ(x:Ji)=>decide ((n:Int)≤(Lat.hd x:Int)))=λ(x:Ji)=>decide (n≤Lat.hd x):=funext λx=>by simp
 rw [e]
noncomputable def zdK (P0:Jq) (P1:Ji) (P2:Int):(Option Ji) :=
 (Let (m_lowered ((zar P1 (-(1:Int)))++(zd9 P2 [(0:Int)])) P0) (λ(v144:Ji)=>(bif ((zcu v144 none (some ((P1.length:Nat):Int))).any (· !=0)) then none else (some (zcu v144 (some ((P1.length:Nat):Int)) none)))))
def zen (P0:Jq) (P1:Ji) (P2:Int):Prop:=zue P0 P1 P2
def zhW (K:W.Frag) (A:Adr):Sp:=Spv (ι:=Jq×Ji×Int) (λx=>[dQ K (List.map lI x.1),dQ K (List.map dI x.2.1),dI x.2.2]) (λx=>zen x.1 x.2.1 x.2.2) (λx=> ↥[dOpt lI (zdK x.1 x.2.1 x.2.2)])
theorem zh3:FnScope ["steps","basket","many","left"] ["steps","basket","many"] (zag zhw):=⟨rfl,rfl,rfl,by decide+kernel,rfl,by decide+kernel,by decide+kernel⟩
theorem zmm (F:Fun K "counted" "counted" zhw f fd) (T:Txt K mg A) (yaf:Callee P w K mg base (CXE P w) 3 "lowered" ["row","steps"] (zeg K A)) (yah:Callee P w K mg base (CXE P w) 1 "times" ["some","many"] (zfS K A)):FnOk P w K mg base (CXE P w) 4 f fd ["steps","basket","many"] (zhW K A):=by
 refine F.okV zh3 (λ_=>rfl) (λcdv Ar outer s H E x hr hp=> ?_)
 obtain ⟨P0,P1,P2⟩:=x
 have hu:=hr.units
 replace hp:zen P0 P1 P2:=hp
 unfold zen at hp
 refine ⟨_,(zaa (zax (i:=3) zh3.nd rfl (Or.inl rfl) (zaN yaf (hr.mono (by decide)) rfl zaF ↑[zaE zeP (zaN yah (hr.mono (by decide)) rfl zaF ↑[pv 1,zom zk6 zaj]) (zaE znZ (zbu ↑[zaj]) (pv 2)),pv 0])) (zaa (zbp (zgQ (zaS (zm4 (K:=K) rfl rfl) rfl T.any PyProof.Rows.boot_any ↑[(zc9 (zcv (K:=K) rfl) (pv 3) zd2 (zd5 (zaS (zaO (K:=K) rfl) rfl T.len PySem.boot_len ↑[pv 1])))])) (zaa (zaP zgl) zad) zad) (zaa (zaP (zc9 (zcv (K:=K) rfl) (pv 3) (zd5 (zaS (zaO (K:=K) rfl) rfl T.len PySem.boot_len ↑[pv 1])) zd2)) zad))),.inl ?_⟩
 show L2.Run _ ([⇑[dQ K (List.map lI P0)],⇑[dQ K (List.map dI P1)],⇑[dI P2],.no]:L2.Ctx) _ ((λ(r:(Option Ji))=>Oc.rt true (dOpt lI r)) (zdK P0 P1 P2))
 unfold zdK
 exact (zaC (m:=true) (x:=(m_lowered ((zar P1 (-(1:Int)))++(zd9 P2 [(0:Int)])) P0)) lI (λ(r:(Option Ji))=>Oc.rt true (dOpt lI r)) (zao (x:=(((zar P1 (-(1:Int)))++(zd9 P2 [(0:Int)])),P0)) (zac (Ev.weak (K:=K) (EvO.ev (zdB (f:=dI) (xs:=(zar P1 (-(1:Int)))) (ys:=(zd9 P2 [(0:Int)])) (EvO.ev (EvO.anyI (m:=true) (zce (x:=(P1,(-(1:Int)))) (zac (zab (i:=1) rfl) (zac (zo4 (x:=(1:Int)) zaL) zae)) rfl (by show zcg P1 (-(1:Int));exact ⟨by have z:=hp.2.2.1;omega,λ_ _=> .inr (.inl ⟨by decide,by decide⟩)⟩) rfl))) (EvO.ev (zj7 (f:=dI) (xs:=[(0:Int)]) (n:=P2) (EvO.ev (zcH (zac zaL zae) (by show 1≤sizeLine;decide))) (Ev.any (m:=false) (zab (i:=2) rfl)) (by have z:=hp.1;have z2:=hp.2.1;constructor<;>omega) (by show 1*_≤PySem.sizeLine;apply zau;have z:=hp.1;have z2:=hp.2.1;omega))) ↥(zqE hp)))) (zac (zab (i:=0) rfl) zae)) rfl (by show zb1 ((zar P1 (-(1:Int)))++(zd9 P2 [(0:Int)])) P0;exact hp.2.2.2) rfl) (λv144 hv144=>(zb9 (b:=((zcu v144 none (some ((P1.length:Nat):Int))).any (· !=0))) (λ(r:(Option Ji))=>Oc.rt true (dOpt lI r)) (zfz (zrS (xs:=(zcu v144 none (some ((P1.length:Nat):Int)))) (Ev.weak (K:=K) (EvO.ev (EvO.anyI (m:=true) (zd7 (f:=dI) (xs:=v144) (Ev.weak (K:=K) (zab (i:=3) rfl)) zda (zc8 (zbs (f:=dI) (xs:=P1) (zab (i:=1) rfl))))))))) (λh145=>(zaH (zan (zaK zaL)))) (λh145=>(zak (zan (zaK (EvO.ev (EvO.anyI (m:=true) (zd7 (f:=dI) (xs:=v144) (Ev.weak (K:=K) (zab (i:=3) rfl)) (zc8 (zbs (f:=dI) (xs:=P1) (zab (i:=1) rfl))) zda))))))))))
noncomputable def zlA (P0:Int) (P1:Jq):BookD:=⟨P0,(List.map (λ(x146:Ji)=>x146) P1)⟩
def zbN (P0:Int) (P1:Jq):Prop:=P1.length≤1000
def zez (K:W.Frag) (A:Adr):Sp:=zr2 (ι:=Int×Jq) A.Book (λx=>[dI x.1,dQ K (List.map lI x.2)]) (λx=>zbN x.1 x.2) true (λx=>[("many",dI ((zlA x.1 x.2).many)),("swaps",dL (List.map lI ((zlA x.1 x.2).swaps)))])
theorem zgy:FnScope ["self","many","swaps"] ["self","many","swaps"] (zag zcV):=⟨rfl,rfl,rfl,by decide+kernel,rfl,by decide+kernel,by decide+kernel⟩
theorem zgu (F:Fun K "__init__" "Book.__init__" zcV f fd) (T:Txt K mg A) :FnOk P w K mg base (CXE P w) 1 f fd ["self","many","swaps"] (zez K A):=by
 refine F.okI zgy (λ_=>rfl) (λcdv Ar outer s H E x hr hp=> ?_)
 obtain ⟨P0,P1⟩:=x
 have hu:=hr.units
 replace hp:zbN P0 P1:=hp
 unfold zbN at hp
 refine ⟨_,(zaa (zg2 (pv 0) (pv 1) rfl) (zaa (zg2 (pv 0) (zcM rfl (.of (osc:=(zag zcV)) (N:=["self","many","swaps"]) (own:=["swap"]) (fvn:=[]) (fv:=[]) rfl rfl (by decide+kernel)) (zbz (K:=K) rfl (pv 2)) (λ_ _ _ _ _=>⟨(zaQ (i:=0) (show (["swap"]:List Str).Nodup by decide+kernel) rfl (Or.inl rfl) (Or.inr rfl)),zcK,(zb6 (zdy (K:=K) rfl) rfl T.list PyProof.Rows.boot_list ↑[pv 0])⟩)) rfl) zad)),λp dx=>⟨([.ob true A.Book p dx [("many",dI P0),("swaps",dL (List.map lI (List.map (λ(x146:Ji)=>x146) P1)))],⇑[dI P0],⇑[dQ K (List.map lI P1)]]:L2.Ctx),?_,rfl⟩⟩
 show L2.Run _ ([.ob true A.Book p dx [],⇑[dI P0],⇑[dQ K (List.map lI P1)]]:L2.Ctx) _ _
 exact (zgG (i:=0) rfl (Ev.any (m:=false) (zab (i:=1) rfl)) T.Book_cl T.Book_many [] rfl (by decide+kernel) (by decide) (zgG (i:=0) rfl (EvO.ev (EvO.conv (zdQ (g:=(λ(x146:Ji)=>dL (List.map dI x146))) (zcQ (m:=false) lI (xs:=P1) (zab (i:=2) rfl)) ↥(zau (by omega)) ⟨by decide,by decide⟩ (λi147 x146 hx148=>have v148:=List.mem_of_getElem? hx148;(EvO.ev (EvO.anyI (m:=false) (zhA (Ev.weak (K:=K) (zab (i:=0) rfl))))))) (by first|(rw [List.map_map];rfl)|(simp only [cond_true,cond_false];rw [List.map_map];rfl)))) T.Book_cl T.Book_swaps ["many"] rfl (by decide+kernel) (by decide) (zaD (Wk.refl _))))
noncomputable def zaU (P0:Int) (P1:Jq):BookD :=
 (Let (List.foldl (λ(s151:Unit) (x152:(Int×Ji))=>()) () (zb8 P1)) (λ(r157:Unit)=>(zlA P0 P1)))
def zbK (P0:Int) (P1:Jq):Prop:=1≤P0∧P0≤8∧P1.length≤12∧∀s∈P1,(s.length:Int)=P0
def ze9 (K:W.Frag) (A:Adr):Sp:=Spv (ι:=Int×Jq) (λx=>[dI x.1,dQ K (List.map lI x.2)]) (λx=>zbK x.1 x.2) (λx=> ↥[zaV A.Book (zaU x.1 x.2)])
theorem zgd:FnScope ["many","swaps","place","swap"] ["many","swaps"] (zag zg0):=⟨rfl,rfl,rfl,by decide+kernel,rfl,by decide+kernel,by decide+kernel⟩
theorem zlQ (F:Fun K "book_of" "book_of" zg0 f fd) (T:Txt K mg A)  {yc9:Addr} {ycL:FuncData} (ycy:Mk K A.Book yc9) (yaF:FnOk P w K mg base (CXE P w) 1 yc9 ycL ["self","many","swaps"] (zez K A)) (yaG:zfP K ycL ["self","many","swaps"] []):FnOk P w K mg base (CXE P w) 3 f fd ["many","swaps"] (ze9 K A):=by
 refine F.okV zgd (λ_=>rfl) (λcdv Ar outer s H E x hr hp=> ?_)
 obtain ⟨P0,P1⟩:=x
 have hu:=hr.units
 replace hp:zbK P0 P1:=hp
 unfold zbK at hp
 obtain ⟨yaU,ycz⟩:=T.g_MOST_SWAPS
 obtain ⟨yaE,yaT⟩:=T.g_MOST_WARES
 refine ⟨_,(zaa (zbp (PW.pt (zos (zaz zjT (pv 0) zaj (zaR _)) (zlP (zaz zo3 (pv 0) (zd3 (v:= .int 8) rfl yaT ⟨_,rfl⟩) (zaR _))))) (zaa zaB zad) zad) (zaa (zbp (zaz zo3 (zaS (zaO (K:=K) rfl) rfl T.len PySem.boot_len ↑[pv 1]) (zd3 (v:= .int 12) rfl ycz ⟨_,rfl⟩) (zaR _)) (zaa zaB zad) zad) (zaa (zdo PassesOwn.never rfl (zhJ rfl rfl T.enumerate ↑[pv 1]) (zc7 (K:=K) (n:=2) rfl rfl (zbj (zaQ (i:=2) zgd.nd rfl (Or.inl rfl) (Or.inl rfl)) (zbj (zaQ (i:=3) zgd.nd rfl (Or.inl rfl) (Or.inl rfl)) zd6))) (zaa (zbp (zaz zht (zaS (zaO (K:=K) rfl) rfl T.len PySem.boot_len ↑[pv 3]) (pv 0) (zaR _)) (zaa zaB zad) zad) zad)) (zaa (zaP (zqe ycy yaF (hr.mono (by decide)) rfl T.Book yaG .nil zaF ↑[pv 0,pv 1])) zad)))),.inl ?_⟩
 show L2.Run _ ([⇑[dI P0],⇑[dQ K (List.map lI P1)],.no,.no]:L2.Ctx) _ ((λ(r:BookD)=>Oc.rt true (zaV A.Book r)) (zaU P0 P1))
 unfold zaU
 exact (zaA (EvT.conv (zlg (b:=(decide (P0<(1:Int)))) (zap (zaY (x:=P0) (y:=(1:Int)) (Ev.any (m:=false) (zab (i:=0) rfl)) zaL)) (λhb=>(zap (zaY (x:=P0) (y:=8) (Ev.any (m:=false) (zab (i:=0) rfl)) zaL)))) (by simp only [Bool.or_eq_false_iff,decide_eq_false_iff_not];omega)) (zak (zaA (EvT.conv (zap (zaY (x:=((P1.length:Nat):Int)) (y:=12) (zbs (f:=lI) (xs:=P1) (zab (i:=1) rfl)) zaL)) (by ((try simp only [decide_eq_true_eq,decide_eq_false_iff_not,Bool.not_eq_true',Bool.not_eq_false',Bool.and_eq_true,Bool.or_eq_false_iff,Bool.or_eq_true,Bool.and_eq_false_iff,Bool.cond_eq_ite] at*)<;>omega))) (zak (zcy (s0:=()) (λ(s151:Unit)=>([⇑[dI P0],⇑[dQ K (List.map lI P1)],.no,.no]:L2.Ctx)) (λ(r:BookD)=>Oc.rt true (zaV A.Book r)) (λ(s151:Unit) (x152:(Int×Ji))=>()) (λ_ _=>True) (zja (m:=false) lI (xs:=P1) (zab (i:=1) rfl)) (.eq (.eq (.eq (.eq .nil)))) trivial (λi153 x152 s151 hx154 hI155=>have v154:=zcw hx154;⟨trivial,(zaA (EvT.conv (zap (zgm (x:=((x152.2.length:Nat):Int)) (y:=P0) (zbs (f:=dI) (xs:=x152.2) (Ev.weak (K:=K) (zab (i:=3) rfl))) (Ev.any (m:=false) (zab (i:=0) rfl)))) (by have:=hp.2.2.2 _ (zpc (by assumption));simp only [Bool.not_eq_false',decide_eq_true_eq];exact this)) (zak (zaD (.eq (.eq (.no (.no .nil)))))))⟩) (λr157 hr157 hI=>(zan (zaK (zqm (i:=(P0,P1)) (zac (Ev.any (m:=false) (zab (i:=0) rfl)) (zac (zab (i:=1) rfl) zae)) rfl (by show zbN P0 P1;unfold zbN;omega))))))))))
theorem zlO {w:Int} {sw:Jq}:zaU w sw=⟨w,sw⟩:=by
 unfold zaU zlA Let
 simp
theorem zq7 {ns:List Str} (h:BgP ns):zbK ((ns.length:Nat):Int) []:=by
 have:=h.pos
 unfold zbK
 refine ⟨by omega,by omega,?_,?_⟩<;>simp
def XsP (n:Nat) (x:Ji):Prop:=x.length=n∧∀y∈x,y.natAbs<10 ^ 12
noncomputable def zdI (P0:BookD) (P1:Ji):Unit:=()
def zbh (P0:BookD) (P1:Ji):Prop:=(P1.length:Int)=P0.many
def zdm (K:W.Frag) (A:Adr):Sp:=Spv (ι:=BookD×Ji) (λx=>[zaV A.Book x.1,dQ K (List.map dI x.2)]) (λx=>zbh x.1 x.2) (λx=> ↥[dN])
theorem zfh:FnScope ["book","basket"] ["book","basket"] (zag zcG):=⟨rfl,rfl,rfl,by decide+kernel,rfl,by decide+kernel,by decide+kernel⟩
theorem zfi (F:Fun K "refuse_bad_basket" "refuse_bad_basket" zcG f fd) (T:Txt K mg A) :FnOk P w K mg base (CXE P w) 1 f fd ["book","basket"] (zdm K A):=by
 refine F.okV zfh (λ_=>rfl) (λcdv Ar outer s H E x hr hp=> ?_)
 obtain ⟨P0,P1⟩:=x
 have hu:=hr.units
 replace hp:zbh P0 P1:=hp
 unfold zbh at hp
 refine ⟨_,(zaa (zbp (zaz zht (zaS (zaO (K:=K) rfl) rfl T.len PySem.boot_len ↑[pv 1]) (zbF (K:=K) rfl (pv 0) rfl) (zaR _)) (zaa zaB zad) zad) zad),.inr ⟨_,([⇑[zaV A.Book P0],⇑[dQ K (List.map dI P1)]]:L2.Ctx),rfl,?_⟩⟩
 show L2.Run _ ([⇑[zaV A.Book P0],⇑[dQ K (List.map dI P1)]]:L2.Ctx) _ _
 exact (zaA (EvT.conv (zap (zgm (x:=((P1.length:Nat):Int)) (y:=P0.many) (zbs (f:=dI) (xs:=P1) (zab (i:=1) rfl)) (Ev.any (m:=false) (zdg (zab (i:=0) rfl) T.Book_cl T.Book_many rfl)))) (by ((try simp only [decide_eq_true_eq,decide_eq_false_iff_not,Bool.not_eq_true',Bool.not_eq_false',Bool.and_eq_true,Bool.or_eq_false_iff,Bool.or_eq_true,Bool.and_eq_false_iff,Bool.cond_eq_ite] at*)<;>omega))) (zak (zaD (Wk.refl _))))
noncomputable def zef (P0:BookD) (P1:Ji):Unit:=()
def zbW (P0:BookD) (P1:Ji):Prop:=P1.length=P0.swaps.length
def zdZ (K:W.Frag) (A:Adr):Sp:=Spv (ι:=BookD×Ji) (λx=>[zaV A.Book x.1,dQ K (List.map dI x.2)]) (λx=>zbW x.1 x.2) (λx=> ↥[dN])
theorem zfK:FnScope ["book","road"] ["book","road"] (zag zc1):=⟨rfl,rfl,rfl,by decide+kernel,rfl,by decide+kernel,by decide+kernel⟩
theorem zfN (F:Fun K "refuse_bad_road" "refuse_bad_road" zc1 f fd) (T:Txt K mg A) :FnOk P w K mg base (CXE P w) 1 f fd ["book","road"] (zdZ K A):=by
 refine F.okV zfK (λ_=>rfl) (λcdv Ar outer s H E x hr hp=> ?_)
 obtain ⟨P0,P1⟩:=x
 have hu:=hr.units
 replace hp:zbW P0 P1:=hp
 unfold zbW at hp
 refine ⟨_,(zaa (zbp (zaz zht (zaS (zaO (K:=K) rfl) rfl T.len PySem.boot_len ↑[pv 1]) (zaS (zaO (K:=K) rfl) rfl T.len PySem.boot_len ↑[(zbF (K:=K) rfl (pv 0) rfl)]) (zaR _)) (zaa zaB zad) zad) zad),.inr ⟨_,([⇑[zaV A.Book P0],⇑[dQ K (List.map dI P1)]]:L2.Ctx),rfl,?_⟩⟩
 show L2.Run _ ([⇑[zaV A.Book P0],⇑[dQ K (List.map dI P1)]]:L2.Ctx) _ _
 exact (zaA (EvT.conv (zap (zgm (x:=((P1.length:Nat):Int)) (y:=((P0.swaps.length:Nat):Int)) (zbs (f:=dI) (xs:=P1) (zab (i:=1) rfl)) (zbs (f:=lI) (xs:=P0.swaps) (Ev.weak (K:=K) (zdg (zab (i:=0) rfl) T.Book_cl T.Book_swaps rfl))))) (by ((try simp only [decide_eq_true_eq,decide_eq_false_iff_not,Bool.not_eq_true',Bool.not_eq_false',Bool.and_eq_true,Bool.or_eq_false_iff,Bool.or_eq_true,Bool.and_eq_false_iff,Bool.cond_eq_ite] at*)<;>omega))) (zak (zaD (Wk.refl _))))
def zrE (b:BookD) (x:Ji):Prop:=∃n a:Nat,b.many=(n:Int)∧x.length=n∧Lat.Bit a x∧a≤1000000∧n+b.swaps.length≤24∧b.swaps.length≤13∧∀r∈b.swaps,r.length=n∧Lat.Bit 200 r
theorem ztf {b:BookD} {x:Ji} (h:zrE b x):TrP b.swaps:=by
 obtain ⟨n,a,h1,h2,h3,h4,h5,h6,h7⟩:=h
 exact ⟨n,200,13,Lat.zfQ h5,h6,h7⟩
theorem zqf {b:BookD} {x:Ji} {n a:Nat} (h2:x.length=n) (h3:Lat.Bit a x):(zar x (-(1:Int))++zd9 ((b.swaps.length:Nat):Int) [(0:Int)]).length=n+b.swaps.length∧Lat.Bit a (zar x (-(1:Int))++zd9 ((b.swaps.length:Nat):Int) [(0:Int)]):=by
 refine ⟨by rw [List.length_append,Lat.zeJ,show (zar x (-(1:Int))).length=x.length from Lat.zaZ,h2],λy hy=> ?_⟩
 rcases List.mem_append.mp hy with hy|hy
 ·
  obtain ⟨z,hz,rfl⟩:=List.mem_map.mp hy
  have:=h3 z hz
  omega
 ·
  obtain ⟨j,_,rfl⟩:=Lat.zi7 hy
  rw [Lat.zik];
  exact Nat.zero_le _
theorem zp5 {b:BookD} {x:Ji} (h:zrE b x):∃n:Nat,b.many=(n:Int)∧(∀t∈zbk b.swaps,Lat.Sd (n+b.swaps.length) (Lat.sB 200 13) t)∧(zbk b.swaps).length≤13∧n+b.swaps.length≤24∧x.length=n:=by
 obtain ⟨n,a,h1,h2,h3,h4,h5,h6,h7⟩:=h
 obtain ⟨S,s2,s3⟩:=Lat.zjD (Lat.zfQ h5) (rows:=Lat.mark b.swaps) (by rw [Lat.ze5];omega) (Lat.zhb h7)
 rw [zeT]
 exact ⟨n,h1,s3,by omega,h5,h2⟩
theorem zqo {b:BookD} {x:Ji} (h:zrE b x):Lat.LowP (zar x (-(1:Int))++zd9 ((b.swaps.length:Nat):Int) [(0:Int)]) (zbk b.swaps):=by
 obtain ⟨n',e1,e2,e3,e4,e5⟩:=zp5 h
 obtain ⟨n,a,h1,h2,h3,h4,h5,h6,h7⟩:=h
 have hn:n'=n:=by omega
 subst hn
 have hv:=zqf (b:=b) h2 h3
 refine ⟨n'+b.swaps.length,a,Lat.sB 200 13,by omega,hv.1,by omega,hv.2,e2,?_⟩
 rw [show Lat.sB 200 13=40670 from rfl]
 have:=Nat.mul_le_mul_right (40670+1) e3
 omega
theorem zri {b:BookD} {x:Ji} (h:zrE b x):zue (zbk b.swaps) x ((b.swaps.length:Nat):Int):=by
 have h':=zqo h
 obtain ⟨n,a,h1,h2,h3,h4,h5,h6,h7⟩:=h
 exact ⟨by omega,by omega,by omega,h'⟩
def BkP (b:BookD):Prop:=∃n:Nat,b.many=(n:Int)∧n≤8∧b.swaps.length≤12∧∀r∈b.swaps,r.length=n∧Lat.Bit 200 r
theorem zr3 {b:BookD} (h:BkP b):TrP b.swaps:=by
 obtain ⟨n,h1,h2,h3,h4⟩:=h
 exact ⟨n,200,13,Lat.zfQ (by omega),by omega,h4⟩
theorem zup {b:BookD} (h:BkP b):(zbk b.swaps).length≤1000:=by have:=zqg (zr3 h);omega
def PlP (b:BookD) (r:Ji):Prop:=BkP b∧r.length=b.swaps.length∧∃a,a≤1500000∧Lat.Bit a r
def PrP (b:BookD) (x y:Ji):Prop:=(x.length:Int)=b.many∧(y.length:Int)=b.many∧zcz y x∧BkP b∧∃a,a≤400000∧Lat.Bit a (za5 y x)
theorem zi8 {x y:Ji} (h:x.length=y.length):(za5 y x).length=x.length:=by rw [show za5 y x=Lat.sub y x from rfl,Lat.zg9 h.symm,h]
theorem znh {b:BookD} {x y:Ji} (h:PrP b x y):zrE b (za5 y x):=by
 obtain ⟨h1,h2,h3,⟨n,k1,k2,k3,k4⟩,a,ha,hb⟩:=h
 exact ⟨n,a,k1,by rw [zi8 (by omega)];omega,hb,by omega,by omega,by omega,k4⟩
noncomputable def zbT (P0:BookD) (P1:Ji):(Option Ji) :=
 (zdK (zbk P0.swaps) P1 ((P0.swaps.length:Nat):Int))
def ze7 (P0:BookD) (P1:Ji):Prop:=zrE P0 P1
def zjc (K:W.Frag) (A:Adr):Sp:=Spv (ι:=BookD×Ji) (λx=>[zaV A.Book x.1,dQ K (List.map dI x.2)]) (λx=>ze7 x.1 x.2) (λx=> ↥[dOpt lI (zbT x.1 x.2)])
theorem zmH:FnScope ["book","basket"] ["book","basket"] (zag ziH):=⟨rfl,rfl,rfl,by decide+kernel,rfl,by decide+kernel,by decide+kernel⟩
theorem znn (F:Fun K "way_to" "way_to" ziH f fd) (T:Txt K mg A) (ybt:Callee P w K mg base (CXE P w) 4 "counted" ["steps","basket","many"] (zhW K A)) (yaJ:Callee P w K mg base (CXE P w) 6 "traced" ["rows"] (zgN K A)):FnOk P w K mg base (CXE P w) 7 f fd ["book","basket"] (zjc K A):=by
 refine F.okV zmH (λ_=>rfl) (λcdv Ar outer s H E x hr hp=> ?_)
 obtain ⟨P0,P1⟩:=x
 have hu:=hr.units
 replace hp:ze7 P0 P1:=hp
 unfold ze7 at hp
 refine ⟨_,(zaa (zaP (zaN ybt (hr.mono (by decide)) rfl zaF ↑[(zaN yaJ (hr.mono (by decide)) rfl zaF ↑[(zbF (K:=K) rfl (pv 0) rfl)]),pv 1,(zaS (zaO (K:=K) rfl) rfl T.len PySem.boot_len ↑[(zbF (K:=K) rfl (pv 0) rfl)])])) zad),.inl ?_⟩
 show L2.Run _ ([⇑[zaV A.Book P0],⇑[dQ K (List.map dI P1)]]:L2.Ctx) _ ((λ(r:(Option Ji))=>Oc.rt true (dOpt lI r)) (zbT P0 P1))
 unfold zbT
 exact (zan (zaK (zao (x:=((zbk P0.swaps),P1,((P0.swaps.length:Nat):Int))) (zac (Ev.old (Ev.weak (K:=K) (zao (x:=P0.swaps) (zac (Ev.weak (K:=K) (zdg (zab (i:=0) rfl) T.Book_cl T.Book_swaps rfl)) zae) rfl (by show zeb P0.swaps;exact ztf hp) rfl))) (zac (zab (i:=1) rfl) (zac (zbs (f:=lI) (xs:=P0.swaps) (Ev.weak (K:=K) (zdg (zab (i:=0) rfl) T.Book_cl T.Book_swaps rfl))) zae))) rfl (by show zen (zbk P0.swaps) P1 ((P0.swaps.length:Nat):Int);exact zri hp) rfl)))
theorem zmx {b:BookD} {x:Ji} {n:Nat} (hn:b.many=(n:Int)) (hx:x.length=n) (hr:∀r∈b.swaps,r.length=n) :
  (zbT b x=none->¬Lat.SpL b.swaps (Lat.vec x))∧∀r,zbT b x=some r->r.length=b.swaps.length∧r=(Lat.low (zar x (-(1:Int))++zd9 ((b.swaps.length:Nat):Int) [(0:Int)]) (zbk b.swaps)).drop n∧∀j,j<n->Lat.comb r (b.swaps.map Lat.vec) j=Lat.vec x j:=by
   have T:=Lat.zjq hr
   have hv:=(zqf (b:=b) (a:=0+(List.map Int.natAbs x).sum) hx (λy hy=>by
    have:y.natAbs≤(List.map Int.natAbs x).sum:=by
     have:∀(l:Ji),y∈l->y.natAbs≤(List.map Int.natAbs l).sum:=by
      intro l
      induction l with
       |nil=>intro h;simp at h
       |cons a l ih=>
        intro h
        rw [List.map_cons,List.sum_cons]
        rcases List.mem_cons.mp h with rfl|h
        ·omega
        ·have:=ih h;omega
     exact this x hy
    exact Nat.le_trans this (Nat.le_of_lt (by rw [Nat.zero_add];exact Nat.lt_two_pow_self)))).1
   have e:zbT b x=bif (zcu (Lat.low (zar x (-(1:Int))++zd9 ((b.swaps.length:Nat):Int) [(0:Int)]) (Lat.clm Lat.MG (Lat.mark b.swaps))) none (some (n:Int))).any (· !=0) then none else some ((Lat.low (zar x (-(1:Int))++zd9 ((b.swaps.length:Nat):Int) [(0:Int)]) (Lat.clm Lat.MG (Lat.mark b.swaps))).drop n):=by
    unfold zbT zdK Let
    dsimp only
    rw [zc4,zeT,hx,Lat.ze6]
   rw [zeT]
   have vj:∀j,j<n->Lat.vec (zar x (-(1:Int))++zd9 ((b.swaps.length:Nat):Int) [(0:Int)]) j=(-1)*Lat.vec x j:=λj hj=>by rw [Lat.zhn,if_pos (by rw [show (zar x (-(1:Int))).length=x.length from Lat.zaZ,hx];exact hj),show zar x (-(1:Int))=Lat.mul x (-(1:Int)) from rfl,Lat.zd4];omega
   have vz:∀i,Lat.vec (zar x (-(1:Int))++zd9 ((b.swaps.length:Nat):Int) [(0:Int)]) (n+i)=0:=λi=>by rw [Lat.zhn,if_neg (by rw [show (zar x (-(1:Int))).length=x.length from Lat.zaZ,hx];omega),Lat.zik]
   generalize (zar x (-(1:Int))++zd9 ((b.swaps.length:Nat):Int) [(0:Int)])=v at*
   obtain ⟨a1,_⟩:=Lat.zcd T.st.ech hv
   have anyz:(zcu (Lat.low v (Lat.clm Lat.MG (Lat.mark b.swaps))) none (some (n:Int))).any (· !=0)=false↔∀j,j<n->Lat.vec (Lat.low v (Lat.clm Lat.MG (Lat.mark b.swaps))) j=0:=by
    rw [zoI,List.any_eq_false]
    constructor
    ·
     intro h j hj
     have hm:Lat.vec (Lat.low v (Lat.clm Lat.MG (Lat.mark b.swaps))) j∈(Lat.low v (Lat.clm Lat.MG (Lat.mark b.swaps))).take n:=by
      have hl:j<((Lat.low v (Lat.clm Lat.MG (Lat.mark b.swaps))).take n).length:=by rw [List.length_take,a1];omega
      have:=Lat.zkg hl
      rwa [Lat.zdd,if_pos hj] at this
     simpa using h _ hm
    ·
     intro h y hy
     obtain ⟨j,hj,rfl⟩:=Lat.zi7 hy
     rw [Lat.zdd]
     rw [List.length_take] at hj
     rw [if_pos (by omega),h j (by omega)]
     simp
   constructor
   ·
    intro h0 hsp
    have fr:=Lat.znl hr T hv ((Lat.Sp.smul (-1) hsp).conv λi=>by
     unfold Lat.rst
     by_cases hi:i<n
     ·rw [if_pos hi,vj i hi]
     ·rw [if_neg hi,Lat.zdE (by omega)];rfl)
    rw [e,anyz.mpr fr] at h0
    cases h0
   ·
    intro r h0
    rw [e] at h0
    cases q:(zcu (Lat.low v (Lat.clm Lat.MG (Lat.mark b.swaps))) none (some (n:Int))).any (· !=0) with
     |true=>rw [q] at h0;cases h0
     |false=>
      rw [q] at h0
      have h0:(Lat.low v (Lat.clm Lat.MG (Lat.mark b.swaps))).drop n=r:=Option.some.inj h0
      subst h0
      refine ⟨by rw [List.length_drop,a1];omega,rfl,λj hj=> ?_⟩
      rw [Lat.zoG T hv vz (anyz.mp q) j hj,vj j hj]
      omega
theorem zpq:∀ {sw:Jq} {way l:Ji} {j:Nat},(∀s∈sw,s.length=l.length)->(List.foldl (λ(s:Ji) (p:Ji×Int)=>zfj s (zar p.1 p.2)) l (List.zip sw way)).length=l.length∧Lat.vec (List.foldl (λ(s:Ji) (p:Ji×Int)=>zfj s (zar p.1 p.2)) l (List.zip sw way)) j=Lat.vec l j+Lat.comb way (sw.map Lat.vec) j
 | [],way,l,j,_=>by
  refine ⟨rfl,?_⟩
  show Lat.vec l j=Lat.vec l j+Lat.comb way [] j
  cases way<;>simp [Lat.comb]
 | s :: sw,[],l,j,_=>by
  refine ⟨rfl,?_⟩
  show Lat.vec l j=Lat.vec l j+Lat.comb [] _ j
  simp [Lat.comb]
 | s :: sw,w :: way,l,j,h=>by
  have hs:=h s List.mem_cons_self
  have hl:(Lat.mul s w).length=l.length:=by rw [Lat.zaZ,hs]
  have e1:(Lat.add l (Lat.mul s w)).length=l.length:=Lat.zmT hl.symm
  obtain ⟨k1,k2⟩:=zpq (sw:=sw) (way:=way) (l:=Lat.add l (Lat.mul s w)) (j:=j) λt ht=>by rw [e1,h t (List.mem_cons_of_mem _ ht)]
  refine ⟨k1.trans e1,?_⟩
  show Lat.vec (List.foldl (λ(s:Ji) (p:Ji×Int)=>zfj s (zar p.1 p.2)) (Lat.add l (Lat.mul s w)) (List.zip sw way)) j=_
  rw [k2,Lat.zkn hl.symm,Lat.zd4]
  simp only [List.map_cons,Lat.comb]
  rw [Int.mul_comm w]
  omega
noncomputable def za9 (P0:BookD):Jq :=
 (zeF (zbk P0.swaps) P0.many)
def ze2 (P0:BookD):Prop:=BkP P0
def zjy (K:W.Frag) (A:Adr):Sp:=Spv (ι:=BookD) (λx=>[zaV A.Book x]) (λx=>ze2 x) (λx=> ↥[dL (List.map lI (za9 x))])
theorem znv:FnScope ["book"] ["book"] (zag ziI):=⟨rfl,rfl,rfl,by decide+kernel,rfl,by decide+kernel,by decide+kernel⟩
theorem zn2 (F:Fun K "rounds" "rounds" ziI f fd) (T:Txt K mg A) (yb1:Callee P w K mg base (CXE P w) 2 "tails" ["steps","many"] (zlx K A)) (yaJ:Callee P w K mg base (CXE P w) 6 "traced" ["rows"] (zgN K A)):FnOk P w K mg base (CXE P w) 7 f fd ["book"] (zjy K A):=by
 refine F.okV znv (λ_=>rfl) (λcdv Ar outer s H E P0 hr hp=> ?_)
 have hu:=hr.units
 replace hp:ze2 P0:=hp
 unfold ze2 at hp
 refine ⟨_,(zaa (zaP (zaN yb1 (hr.mono (by decide)) rfl zaF ↑[(zaN yaJ (hr.mono (by decide)) rfl zaF ↑[(zbF (K:=K) rfl (pv 0) rfl)]),(zbF (K:=K) rfl (pv 0) rfl)])) zad),.inl ?_⟩
 show L2.Run _ ([⇑[zaV A.Book P0]]:L2.Ctx) _ ((λ(r:Jq)=>Oc.rt true (dL (List.map lI r))) (za9 P0))
 unfold za9
 exact (zan (zaK (zao (x:=((zbk P0.swaps),P0.many)) (zac (Ev.old (Ev.weak (K:=K) (zao (x:=P0.swaps) (zac (Ev.weak (K:=K) (zdg (zab (i:=0) rfl) T.Book_cl T.Book_swaps rfl)) zae) rfl (by show zeb P0.swaps;exact zr3 hp) rfl))) (zac (Ev.any (m:=false) (zdg (zab (i:=0) rfl) T.Book_cl T.Book_many rfl)) zae)) rfl (by show zfR (zbk P0.swaps) P0.many;exact zup hp) rfl)))
theorem zhf {b:BookD} {n:Nat} (hn:b.many=(n:Int)):za9 b=Lat.zfg n (Lat.clm Lat.MG (Lat.mark b.swaps)):=by
 unfold za9
 rw [zeT,hn,zps]
theorem zqt {b:BookD} (h:BkP b):(∀t∈za9 b,Lat.Sd b.swaps.length (Lat.sB 200 13) t)∧(za9 b).length≤13:=by
 obtain ⟨n,k1,k2,k3,k4⟩:=h
 obtain ⟨S,s2,s3⟩:=Lat.zjD (Lat.zfQ (n:=n+b.swaps.length) (by omega)) (rows:=Lat.mark b.swaps) (by rw [Lat.ze5];omega) (Lat.zhb k4)
 rw [zhf k1]
 refine ⟨λt ht=> ?_,?_⟩
 ·
  obtain ⟨s,hs,h1,rfl⟩:=Lat.zf2 ht
  exact (s3 s hs).drop h1
 ·
  unfold Lat.zfg
  rw [List.length_map]
  exact Nat.le_trans (List.length_filter_le _ _) (by omega)
theorem zsg {b:BookD} {r:Ji} (h:PlP b r):Lat.LowP r (za9 b):=by
 obtain ⟨h1,h2,a,ha,hb⟩:=h
 obtain ⟨s1,s2⟩:=zqt h1
 obtain ⟨n,k1,k2,k3,k4⟩:=h1
 refine ⟨b.swaps.length,a,Lat.sB 200 13,by omega,h2,by omega,hb,s1,?_⟩
 rw [show Lat.sB 200 13=40670 from rfl]
 have:=Nat.mul_le_mul_right (40670+1) s2
 omega
theorem zpl {b:BookD} {n:Nat} (hn:b.many=(n:Int)) (h:∀r∈b.swaps,r.length=n):Lat.Ech b.swaps.length 0 (za9 b)∧Lat.Red (za9 b)∧(∀t∈za9 b,Lat.Rel n b.swaps (Lat.vec t))∧∀r:Ji,r.length=b.swaps.length->Lat.Rel n b.swaps (Lat.vec r)->Lat.SpL (za9 b) (Lat.vec r):=by
 rw [zhf hn]
 exact Lat.zmz h (Lat.zjq h)
noncomputable def zbI (P0:BookD) (P1:Ji):Ji :=
 (m_lowered P1 (za9 P0))
def zfZ (P0:BookD) (P1:Ji):Prop:=PlP P0 P1
def zla (K:W.Frag) (A:Adr):Sp:=Spv (ι:=BookD×Ji) (λx=>[zaV A.Book x.1,dQ K (List.map dI x.2)]) (λx=>zfZ x.1 x.2) (λx=> ↥[dL (List.map dI (zbI x.1 x.2))])
theorem zpb:FnScope ["book","road"] ["book","road"] (zag zjY):=⟨rfl,rfl,rfl,by decide+kernel,rfl,by decide+kernel,by decide+kernel⟩
theorem zpt (F:Fun K "plain" "plain" zjY f fd) (T:Txt K mg A) (yaf:Callee P w K mg base (CXE P w) 3 "lowered" ["row","steps"] (zeg K A)) (yaA:Callee P w K mg base (CXE P w) 1 "refuse_bad_road" ["book","road"] (zdZ K A)) (ybL:Callee P w K mg base (CXE P w) 7 "rounds" ["book"] (zjy K A)):FnOk P w K mg base (CXE P w) 8 f fd ["book","road"] (zla K A):=by
 refine F.okV zpb (λ_=>rfl) (λcdv Ar outer s H E x hr hp=> ?_)
 obtain ⟨P0,P1⟩:=x
 have hu:=hr.units
 replace hp:zfZ P0 P1:=hp
 unfold zfZ at hp
 refine ⟨_,(zaa (zbJ (zaN yaA (hr.mono (by decide)) rfl zaF ↑[pv 0,pv 1])) (zaa (zaP (zaN yaf (hr.mono (by decide)) rfl zaF ↑[pv 1,zaN ybL (hr.mono (by decide)) rfl zaF ↑[pv 0]])) zad)),.inl ?_⟩
 show L2.Run _ ([⇑[zaV A.Book P0],⇑[dQ K (List.map dI P1)]]:L2.Ctx) _ ((λ(r:Ji)=>Oc.rt true (dL (List.map dI r))) (zbI P0 P1))
 unfold zbI
 exact (zeZ (m:=true) (Ev.any (m:=true) (zao (x:=(P0,P1)) (zac (zab (i:=0) rfl) (zac (zab (i:=1) rfl) zae)) rfl (by show zbW P0 P1;exact hp.2.1) rfl)) (zan (zaK (zao (x:=(P1,(za9 P0))) (zac (zab (i:=1) rfl) (zac (Ev.old (Ev.weak (K:=K) (zao (x:=P0) (zac (zab (i:=0) rfl) zae) rfl (by show ze2 P0;exact hp.1) rfl))) zae)) rfl (by show zb1 P1 (za9 P0);exact zsg hp) rfl))))
theorem zow {n:Nat} {ss:Jq} {lo:Nat} {a b:Ji} (e:Lat.Ech n lo ss) (ha:a.length=n) (hb:b.length=n) (h:Lat.SpL ss (λi=>Lat.vec a i-Lat.vec b i)):Lat.low a ss=Lat.low b ss:=by
 obtain ⟨a1,a2,a3,a4⟩:=Lat.zcd (l:=a) e ha
 obtain ⟨b1,b2,b3,b4⟩:=Lat.zcd (l:=b) e hb
 refine Lat.zho (by rw [a1,b1]) λi=> ?_
 have:=Lat.zju (u:=λi=>Lat.vec (Lat.low a ss) i-Lat.vec (Lat.low b ss) i) e ((Lat.Sp.lin 1 1 (Lat.Sp.lin 1 (-1) h a2) b2).conv λi=>by omega) (λt ht=>by
  have:=a3 t ht;
  have:=b3 t ht
  show-Lat.vec t (Lat.hd t)<Lat.vec (Lat.low a ss) (Lat.hd t)-Lat.vec (Lat.low b ss) (Lat.hd t)∧Lat.vec (Lat.low a ss) (Lat.hd t)-Lat.vec (Lat.low b ss) (Lat.hd t)<Lat.vec t (Lat.hd t)
  omega) i
 have this:Lat.vec (Lat.low a ss) i-Lat.vec (Lat.low b ss) i=0:=this
 omega
theorem zpk {b:BookD} {r:Ji}:zbI b r=Lat.low r (za9 b):=by
 unfold zbI
 rw [zc4]
theorem zpP {b:BookD} {r:Ji} {a:Nat} (h:BkP b) (hr:r.length=b.swaps.length) (hb:Lat.Bit a r):(zbI b r).length=b.swaps.length∧Lat.Bit (a+528723) (zbI b r):=by
 obtain ⟨s1,s2⟩:=zqt h
 obtain ⟨n,k1,k2,k3,k4⟩:=h
 have E:=(zpl k1 λr hr=>(k4 r hr).1).1
 rw [zpk]
 refine ⟨(Lat.zcd E hr).1,(Lat.zeX s1 hr hb).mono ?_⟩
 rw [show Lat.sB 200 13=40670 from rfl]
 have:=Nat.mul_le_mul_right (40670+1) s2
 omega
theorem zre {b:BookD} {x y:Ji} (h:BkP b) (hx:x.length=b.swaps.length) (hy:y.length=b.swaps.length) (hs:Lat.SpL (za9 b) (λi=>Lat.vec x i-Lat.vec y i)):zbI b x=zbI b y:=by
 obtain ⟨n,k1,k2,k3,k4⟩:=h
 have E:=(zpl k1 λr hr=>(k4 r hr).1).1
 rw [zpk,zpk]
 exact zow E hx hy hs
theorem zrk {b:BookD} {x r:Ji} {n a:Nat} (h:zrE b x) (hn:b.many=(n:Int)) (hx:x.length=n) (ha:Lat.Bit a x) (e:zbT b x=some r):r.length=b.swaps.length∧Lat.Bit (a+528723) r:=by
 obtain ⟨n',e1,e2,e3,e4,e5⟩:=zp5 h
 have hnn:n'=n:=by omega
 subst hnn
 obtain ⟨n0,a0,q1,q2,q3,q4,q5,q6,q7⟩:=h
 have h0:n0=n':=by omega
 obtain ⟨k1,k2,_⟩:=(zmx (x:=x) hn hx (λr hr=>by rw [(q7 r hr).1,h0])).2 r e
 refine ⟨k1,?_⟩
 have hv:=zqf (b:=b) hx ha
 rw [k2]
 have lb:=Lat.zeX e2 hv.1 hv.2
 rw [show Lat.sB 200 13=40670 from rfl] at lb
 have:=Nat.mul_le_mul_right (40670+1) e3
 exactλz hz=>(lb.mono (by omega)) z (List.mem_of_mem_drop hz)
theorem zr4 {b:BookD} {x y:Ji} {w:Option Ji} (h:PrP b x y) (hw:w=zbT b (za5 y x)) (hb:w.isNone=false):PlP b (gS w):=by
 have hW:=znh h
 obtain ⟨h1,h2,h3,hB,a,ha,hbit⟩:=h
 have hB':=hB
 obtain ⟨n,k1,k2,k3,k4⟩:=hB'
 cases w with
  |none=>cases hb
  |some r=>
   obtain ⟨w1,w2⟩:=zrk hW k1 (by rw [zi8 (by omega)];omega) hbit hw.symm
   exact ⟨hB,w1,_,by omega,w2⟩
theorem some_of {α:Type} {w:Option α} (h:w.isNone=false):w.isSome=true:=by cases w<;>first|rfl|cases h
noncomputable def zaI (P0:BookD) (P1:Ji) (P2:Ji):(Option Ji) :=
 (Let (zbT P0 (za5 P2 P1)) (λ(v160:(Option Ji))=>(bif v160.isNone then none else (some (zbI P0 (gS v160))))))
def zcx (P0:BookD) (P1:Ji) (P2:Ji):Prop:=PrP P0 P1 P2
def zer (K:W.Frag) (A:Adr):Sp:=Spv (ι:=BookD×Ji×Ji) (λx=>[zaV A.Book x.1,dQ K (List.map dI x.2.1),dQ K (List.map dI x.2.2)]) (λx=>zcx x.1 x.2.1 x.2.2) (λx=> ↥[dOpt lI (zaI x.1 x.2.1 x.2.2)])
theorem zf0:FnScope ["book","one","other","way"] ["book","one","other"] (zag zeU):=⟨rfl,rfl,rfl,by decide+kernel,rfl,by decide+kernel,by decide+kernel⟩
theorem ziv (F:Fun K "plain_road" "plain_road" zeU f fd) (T:Txt K mg A) (yat:Callee P w K mg base (CXE P w) 2 "less" ["one","other"] (zhs K A)) (yb2:Callee P w K mg base (CXE P w) 8 "plain" ["book","road"] (zla K A)) (yam:Callee P w K mg base (CXE P w) 1 "refuse_bad_basket" ["book","basket"] (zdm K A)) (ybM:Callee P w K mg base (CXE P w) 7 "way_to" ["book","basket"] (zjc K A)):FnOk P w K mg base (CXE P w) 9 f fd ["book","one","other"] (zer K A):=by
 refine F.okV zf0 (λ_=>rfl) (λcdv Ar outer s H E x hr hp=> ?_)
 obtain ⟨P0,P1,P2⟩:=x
 have hu:=hr.units
 replace hp:zcx P0 P1 P2:=hp
 unfold zcx at hp
 refine ⟨_,(zaa (zbJ (zaN yam (hr.mono (by decide)) rfl zaF ↑[pv 0,pv 1])) (zaa (zbJ (zaN yam (hr.mono (by decide)) rfl zaF ↑[pv 0,pv 2])) (zaa (zax (i:=3) zf0.nd rfl (Or.inl rfl) (zaN ybM (hr.mono (by decide)) rfl zaF ↑[pv 0,zaN yat (hr.mono (by decide)) rfl zaF ↑[pv 2,pv 1]])) (zaa (zaP (zgE (zaz znw (pv 3) zgl (zaR _)) zgl (zaN yb2 (hr.mono (by decide)) rfl zaF ↑[pv 0,pv 3]))) zad)))),.inl ?_⟩
 show L2.Run _ ([⇑[zaV A.Book P0],⇑[dQ K (List.map dI P1)],⇑[dQ K (List.map dI P2)],.no]:L2.Ctx) _ ((λ(r:(Option Ji))=>Oc.rt true (dOpt lI r)) (zaI P0 P1 P2))
 unfold zaI
 exact (zeZ (m:=true) (Ev.any (m:=true) (zao (x:=(P0,P1)) (zac (zab (i:=0) rfl) (zac (zab (i:=1) rfl) zae)) rfl (by show zbh P0 P1;exact hp.1) rfl)) (zeZ (m:=true) (Ev.any (m:=true) (zao (x:=(P0,P2)) (zac (zab (i:=0) rfl) (zac (zab (i:=2) rfl) zae)) rfl (by show zbh P0 P2;exact hp.2.1) rfl)) (zaC (m:=true) (x:=(zbT P0 (za5 P2 P1))) (dOpt lI) (λ(r:(Option Ji))=>Oc.rt true (dOpt lI r)) (zao (x:=(P0,(za5 P2 P1))) (zac (zab (i:=0) rfl) (zac (Ev.weak (K:=K) (EvO.ev (EvO.anyI (m:=true) (zce (x:=(P2,P1)) (zac (zab (i:=2) rfl) (zac (zab (i:=1) rfl) zae)) rfl (by show zcz P2 P1;exact hp.2.2.1) rfl)))) zae)) rfl (by show ze7 P0 (za5 P2 P1);exact znh hp) rfl) (λv160 hv160=>have hW:=hv160;(zan (zaK (zo8 (dOpt lI) (b:=v160.isNone) (x:=none) (y:=(some (zbI P0 (gS v160)))) (zap (zhj (x:=v160) (f:=lI) (Ev.old (zab (i:=3) rfl)) zaL NN.lst)) (λhb=>zaL) (λhb=>(zao (x:=(P0,(gS v160))) (zac (zab (i:=0) rfl) (zac (Ev.old (Ev.weak (K:=K) (ev_some (f:=lI) (x:=v160) (zab (i:=3) rfl) ↥(some_of hb)))) zae)) rfl (by show zfZ P0 (gS v160);exact zr4 hp hW hb) rfl)))))))))
def AkP (b:BookD) (x y:Ji):Prop:=PrP b x y∧(zaI b x y).isSome=true∧NwQ ("road" :Str) (gS (zaI b x y))
def PuP (d:DeskD) (x:Ji):Prop:=∃(n:Nat) (ss:Jq),d.book=some ⟨(n:Int),ss⟩∧1≤n∧n≤8∧ss.length≤11∧(∀r∈ss,r.length=n)∧x.length=n
def ApP (d:DeskD) (o:Str) (ss:Jq):Prop:=o=("swap" :Str)∧∃x y,ss=[x,y]∧zcz y x∧PuP d (za5 y x)
def TsP (d:DeskD) (l:Str):Prop:=∃u v,Wd.LnP l (("swap" :Str)::(u++("=" :Str)::v))∧SdP u∧SdP v∧BoP d.names (zay u)∧BoP d.names (zay v)∧ApP d ("swap" :Str) [zaq d.names (zay u),zaq d.names (zay v)]
def AqP (d:DeskD) (o:Str) (ss:Jq):Prop:=o=("ask" :Str)∧∃x y b,ss=[x,y]∧d.book=some b∧AkP b x y
def TaP (d:DeskD) (l:Str):Prop:=∃u v,Wd.LnP l (("ask" :Str)::(u++("=" :Str)::v))∧SdP u∧SdP v∧BoP d.names (zay u)∧BoP d.names (zay v)∧AqP d ("ask" :Str) [zaq d.names (zay u),zaq d.names (zay v)]
theorem PuP.some {d:DeskD} {x:Ji} (h:PuP d x):d.book.isSome=true:=by
 obtain ⟨n,ss,e,_⟩:=h
 rw [e];
 rfl
theorem PuP.book {d:DeskD} {x:Ji} (h:PuP d x):zbK (gS d.book).many ((gS d.book).swaps++[x]):=by
 obtain ⟨n,ss,e,h1,h2,h3,h4,h5⟩:=h
 rw [e]
 refine ⟨by show (1:Int)≤(n:Int);omega,by show (n:Int)≤8;omega,by show (ss++[x]).length≤12;simp;omega,λs hs=> ?_⟩
 show (s.length:Int)=(n:Int)
 rcases List.mem_append.mp (show s∈ss++[x] from hs) with z|z
 ·rw [h4 s z]
 ·rw [List.mem_singleton.mp z,h5]
theorem PuP.len {d:DeskD} {x:Ji} (h:PuP d x):((gS d.book).swaps++[x]).length≤12∧(gS d.book).swaps.length≤11:=by
 obtain ⟨n,ss,e,h1,h2,h3,h4,h5⟩:=h
 rw [e]
 exact ⟨by show (ss++[x]).length≤12;simp;omega,h3⟩
theorem PuP.nw {d:DeskD} {x:Ji} (h:PuP d x):NwQ ("swap" :Str) [((((gS (Option.some (zaU (gS d.book).many ((gS d.book).swaps++[x])))).swaps.length:Nat):Int)-(1:Int))]:=by
 obtain ⟨n,ss,e,h1,h2,h3,h4,h5⟩:=h
 rw [e,zlO]
 refine zpL (by decide+kernel) ?_ ?_
 ·
  show (0:Int)≤(((ss++[x]).length:Nat):Int)-1
  rw [List.length_append,List.length_singleton];
  omega
 ·
  show (((ss++[x]).length:Nat):Int)-1<1000
  rw [List.length_append,List.length_singleton];
  omega
theorem ApP.ix {d:DeskD} {o:Str} {ss:Jq} (h:ApP d o ss):InB ss.length (0:Int)∧InB ss.length (1:Int):=by
 obtain ⟨_,x,y,e,_⟩:=h
 rw [e];
 unfold InB;
 simp
theorem zs4 {x y:Ji}:ixD [x,y] (0:Int)=x:=Wd.ix0
theorem zr5 {x y:Ji}:ixD [x,y] (1:Int)=y:=rfl
theorem ApP.less {d:DeskD} {o:Str} {ss:Jq} (h:ApP d o ss):zcz (ixD ss (1:Int)) (ixD ss (0:Int))∧PuP d (za5 (ixD ss (1:Int)) (ixD ss (0:Int))):=by
 obtain ⟨_,x,y,e,h1,h2⟩:=h
 rw [e,zs4,zr5];
 exact ⟨h1,h2⟩
theorem TsP.rl {d:DeskD} {l:Str} (h:TsP d l):RlQ l:=by
 obtain ⟨u,v,L,hu,hv,_⟩:=h
 exact ⟨_,_,L,.inl rfl,u,v,rfl,hu,hv⟩
theorem TsP.told {d:DeskD} {l:Str} (h:TsP d l):∃p q,zaM l=(("swap" :Str),[p,q])∧BoP d.names p∧BoP d.names q∧ApP d ("swap" :Str) [zaq d.names p,zaq d.names q]:=by
 obtain ⟨u,v,L,hu,hv,a,b,c⟩:=h
 exact ⟨_,_,zlJ L hu,a,b,c⟩
theorem ApP.no {d:DeskD} {o:Str} {ss:Jq} (h:ApP d o ss):d.book.isNone=false:=by
 obtain ⟨_,x,y,e,_,n,ss',e2,_⟩:=h
 rw [e2];
 rfl
theorem zu4 {ns:List Str} {p q x:List (Int×Str)} (h1:BoP ns p) (h2:BoP ns q) (hx:x∈[p,q]):BoP ns x:=by
 rcases List.mem_cons.mp hx with z|z
 ·rw [z];exact h1
 ·rw [List.mem_singleton.mp z];exact h2
theorem AqP.ix {d:DeskD} {o:Str} {ss:Jq} (h:AqP d o ss):InB ss.length (0:Int)∧InB ss.length (1:Int):=by
 obtain ⟨_,x,y,b,e,_⟩:=h
 rw [e];
 unfold InB;
 simp
theorem AqP.some {d:DeskD} {o:Str} {ss:Jq} (h:AqP d o ss):d.book.isSome=true:=by
 obtain ⟨_,x,y,b,e,e2,_⟩:=h
 rw [e2];
 rfl
theorem AqP.no {d:DeskD} {o:Str} {ss:Jq} (h:AqP d o ss):d.book.isNone=false:=by
 obtain ⟨_,x,y,b,e,e2,_⟩:=h
 rw [e2];
 rfl
theorem AqP.ak {d:DeskD} {o:Str} {ss:Jq} (h:AqP d o ss):AkP (gS d.book) (ixD ss (0:Int)) (ixD ss (1:Int)):=by
 obtain ⟨_,x,y,b,e,e2,k⟩:=h
 rw [e,e2,zs4,zr5];
 exact k
theorem TaP.rl {d:DeskD} {l:Str} (h:TaP d l):RlQ l:=by
 obtain ⟨u,v,L,hu,hv,_⟩:=h
 exact ⟨_,_,L,.inr rfl,u,v,rfl,hu,hv⟩
theorem TaP.told {d:DeskD} {l:Str} (h:TaP d l):∃p q,zaM l=(("ask" :Str),[p,q])∧BoP d.names p∧BoP d.names q∧AqP d ("ask" :Str) [zaq d.names p,zaq d.names q]:=by
 obtain ⟨u,v,L,hu,hv,a,b,c⟩:=h
 exact ⟨_,_,zlJ L hu,a,b,c⟩
theorem zu1 {k R b c:Nat} (hk:k≤R) (hR:R≤7) (hbc:b≤c):Lat.bnd k (2 ^ b) (2 ^ c)≤2 ^ ((c+5)*(R+1)):=by
 refine Nat.le_trans (Lat.zi9 hk) ?_
 unfold Lat.bnd
 have h1:R+1≤2 ^ 3:=by omega
 have h2:2*((R+1)*2 ^ c)+1≤2 ^ (c+5):=by
  have e1:(R+1)*2 ^ c≤2 ^ 3*2 ^ c:=Nat.mul_le_mul_right _ h1
  have e2:2 ^ (c+5)=4*(2 ^ 3*2 ^ c):=by rw [Nat.pow_add];omega
  have e3:0<2 ^ c:=Nat.pow_pos (by decide)
  omega
 calc
  (R+1)*((2*((R+1)*2 ^ c)+1) ^ R*2 ^ b)≤2 ^ 3*((2 ^ (c+5)) ^ R*2 ^ b):=Nat.mul_le_mul h1 (Nat.mul_le_mul_right _ (Nat.pow_le_pow_left h2 _))
  _=2 ^ (3+((c+5)*R+b)):=by rw [←Nat.pow_mul,←Nat.pow_add,←Nat.pow_add]
  _≤2 ^ ((c+5)*(R+1)):=Nat.pow_le_pow_right (by decide) (by rw [Nat.mul_add];omega)
theorem zuz {n:Nat} {rows ss:Jq} (h:Lat.Stairs n rows ss) (hr:rows.length≤5) (hb:∀r∈rows,Lat.Bit 4 r):∀t∈ss,Lat.Bit 354 t:=by
 obtain ⟨hs,as,W,hl⟩:=Lat.ziX (B:=2 ^ 4) (E:=2 ^ 54) (R:=5) (zu1 (k:=5) (R:=5) (b:=4) (c:=4) (Nat.le_refl _) (by decide) (Nat.le_refl _)) rows.length rows rfl (by omega) hb
 refineλt ht=> ?_
 obtain ⟨a1,a2⟩:=h.wit W (Nat.pow_le_pow_right (by decide) (by decide)) t ht
 exact Lat.Bit.of λi=>Nat.le_trans (a2 i) (zu1 (R:=5) (b:=4) (c:=54) (Nat.le_trans hl hr) (by decide) (by decide))
def Sm (ss:Jq):Prop:=ss.length≤5∧∀r∈ss,r.length=2∧Lat.Bit 4 r
theorem Sm.bk {ss:Jq} (h:Sm ss):BkP ⟨(2:Int),ss⟩:=⟨2,rfl,by decide,by have:=h.1;show ss.length≤12;omega,λr hr=>⟨(h.2 r hr).1,(h.2 r hr).2.mono (by decide)⟩⟩
theorem Sm.rd {ss:Jq} (h:Sm ss):(∀t∈za9 ⟨(2:Int),ss⟩,Lat.Sd ss.length 354 t)∧(za9 ⟨(2:Int),ss⟩).length≤5:=by
 have R:=zqt h.bk
 have E:=(zpl (b:=⟨(2:Int),ss⟩) (n:=2) rfl λr hr=>(h.2 r hr).1).1
 refine ⟨λt ht=> ?_,?_⟩
 ·
  have s:=R.1 t ht
  refine ⟨s.len,s.hd,s.pos,s.top,λx hx=> ?_⟩
  rw [zhf (n:=2) rfl] at ht
  obtain ⟨u,hu,_,rfl⟩:=Lat.zf2 ht
  have M:=Lat.zhb (n:=2) (b:=4) h.2
  have S:=(Lat.zgg (rows:=Lat.mark ss) λr hr=>(M r hr).1).1
  exact zuz S (by rw [Lat.ze5];exact h.1) (λr hr=>(M r hr).2) u hu x (List.mem_of_mem_drop hx)
 ·
  have:=Lat.zkh E (Nat.zero_le _)
  have:=h.1
  have e:(⟨(2:Int),ss⟩:BookD).swaps.length=ss.length:=rfl
  omega
theorem Sm.pl {ss:Jq} {w:Ji} (h:Sm ss) (hw:w.length=ss.length) (hb:Lat.Bit 4 w):(zbI ⟨(2:Int),ss⟩ w).length=ss.length∧Lat.Bit 1780 (zbI ⟨(2:Int),ss⟩ w):=by
 refine ⟨(zpP h.bk hw hb).1,?_⟩
 rw [zpk]
 refine (Lat.zeX h.rd.1 hw hb).mono ?_
 have:=Nat.mul_le_mul_right (354+1) h.rd.2
 omega
noncomputable def zbD (l:Ji) (sw:Jq) (way:Ji):Ji:=List.foldl (λ(s:Ji) (x:Ji×Int)=>List.map (λ(z:Int×Int)=>(z.1+(x.2*z.2))) (List.zip s x.1)) l (List.zip sw way)
theorem zhc:∀ {sw:Jq} {way l:Ji} {j:Nat},(∀s∈sw,s.length=l.length)->(zbD l sw way).length=l.length∧Lat.vec (zbD l sw way) j=Lat.vec l j+Lat.comb way (sw.map Lat.vec) j
 | [],way,l,j,_=>by
  refine ⟨rfl,?_⟩
  show Lat.vec l j=Lat.vec l j+Lat.comb way [] j
  cases way<;>simp [Lat.comb]
 | s :: sw,[],l,j,_=>by
  refine ⟨rfl,?_⟩
  show Lat.vec l j=Lat.vec l j+Lat.comb [] _ j
  simp [Lat.comb]
 | s :: sw,w :: way,l,j,h=>by
  have hs:=h s List.mem_cons_self
  have e1:(List.map (λ(x:(Int×Int))=>(x.1+(w*x.2))) (List.zip l s)).length=l.length:=by rw [List.length_map,List.length_zip,hs];omega
  have e2:Lat.vec (List.map (λ(x:(Int×Int))=>(x.1+(w*x.2))) (List.zip l s)) j=Lat.vec l j+w*Lat.vec s j:=Lat.zkf hs.symm
  obtain ⟨k1,k2⟩:=zhc (sw:=sw) (way:=way) (l:=List.map (λ(x:(Int×Int))=>(x.1+(w*x.2))) (List.zip l s)) (j:=j) λt ht=>by rw [e1,h t (List.mem_cons_of_mem _ ht)]
  refine ⟨k1.trans e1,?_⟩
  show Lat.vec (zbD (List.map (λ(x:(Int×Int))=>(x.1+(w*x.2))) (List.zip l s)) sw way) j=_
  rw [k2,e2]
  simp only [List.map_cons,Lat.comb]
  omega
theorem zpW {b:BookD} {x z:Ji} {n:Nat} (hl:∀s∈b.swaps,s.length=n) (hz:z.length=n):(za5 (zbD z b.swaps x) z).length=n∧∀i,Lat.vec (za5 (zbD z b.swaps x) z) i=Lat.comb x (b.swaps.map Lat.vec) i:=by
 have L:=λj=>zhc (sw:=b.swaps) (way:=x) (l:=z) (j:=j) λs hs=>by rw [hl s hs,hz]
 have h0:=(L 0).1
 refine ⟨by rw [zi8 (by rw [h0]),hz],λi=> ?_⟩
 rw [show za5 (zbD z b.swaps x) z=Lat.sub (zbD z b.swaps x) z from rfl,Lat.zeN (by rw [h0]),(L i).2]
 omega
theorem zsy {b:BookD} {x z:Ji} (h:BkP b) (hz:(z.length:Int)=b.many):∃r,zbT b (za5 (zbD z b.swaps x) z)=some r:=by
 obtain ⟨n,k1,k2,k3,k4⟩:=h
 have V:=zpW (b:=b) (x:=x) (z:=z) (n:=n) (λs hs=>(k4 s hs).1) (by omega)
 cases q:zbT b (za5 (zbD z b.swaps x) z) with
  |some r=>exact ⟨r,rfl⟩
  |none=>
   refine absurd ?_ ((zmx k1 V.1 λr hr=>(k4 r hr).1).1 q)
   exact (Lat.zfx (A:=Lat.Rw b.swaps) (xs:=x) (as:=b.swaps.map Lat.vec) λa ha=>by
    obtain ⟨s,hs,rfl⟩:=List.mem_map.mp ha
    exact ⟨s,hs,rfl⟩).conv λi=>(V.2 i).symm
theorem zro {b:BookD} {n:Nat} {x y z:Ji} (hl:∀s∈b.swaps,s.length=n) (hz:z.length=n) (hx:x.length=b.swaps.length) (hy:y.length=b.swaps.length):zbD z b.swaps x=zbD z b.swaps y↔Lat.Rel n b.swaps (λi=>Lat.vec x i-Lat.vec y i):=by
 have L:=λw j=>zhc (sw:=b.swaps) (way:=w) (l:=z) (j:=j) λs hs=>by rw [hl s hs,hz]
 have key:∀j,Lat.comb (List.map (λi=>Lat.vec x i-Lat.vec y i) (List.range b.swaps.length)) (b.swaps.map Lat.vec) j=Lat.comb x (b.swaps.map Lat.vec) j-Lat.comb y (b.swaps.map Lat.vec) j:=λj=>by
  have:=Lat.zi6 (j:=j) (Lat.vec x) (Lat.vec y) (-1) (List.range b.swaps.length) (b.swaps.map Lat.vec)
  rw [Lat.zix hx,Lat.zix hy] at this
  rw [show (λi=>Lat.vec x i-Lat.vec y i)=λi=>Lat.vec x i+(-1)*Lat.vec y i from funext λi=>by omega,this]
  omega
 constructor
 ·
  intro e j hj
  rw [key]
  have e1:=(L x j).2
  have e2:=(L y j).2
  rw [e] at e1
  omega
 ·
  intro R
  refine Lat.zho (by rw [(L x 0).1,(L y 0).1]) λj=> ?_
  by_cases hj:j<n
  ·
   have:=R j hj
   rw [key] at this
   rw [(L x j).2,(L y j).2]
   omega
  ·rw [Lat.zdE (by rw [(L x 0).1];omega),Lat.zdE (by rw [(L y 0).1];omega)]
theorem zsJ {b:BookD} {n:Nat} (k1:b.many=(n:Int)) (hl:∀s∈b.swaps,s.length=n) {x y:Ji} (hx:x.length=b.swaps.length) (hy:y.length=b.swaps.length):Lat.Rel n b.swaps (λi=>Lat.vec x i-Lat.vec y i)↔Lat.SpL (za9 b) (λi=>Lat.vec x i-Lat.vec y i):=by
 obtain ⟨E,Rd,r1,r2⟩:=zpl k1 hl
 constructor
 ·
  intro R
  have hs:(Lat.sub x y).length=b.swaps.length:=by rw [Lat.zg9 (by rw [hx,hy]),hx]
  have e:Lat.vec (Lat.sub x y)=λi=>Lat.vec x i-Lat.vec y i:=funext λi=>Lat.zeN (by rw [hx,hy])
  have:=r2 _ hs (by rw [e];exact R)
  rwa [e] at this
 ·
  intro S
  exact Lat.Rel.sp (λa ⟨t,ht,e⟩=>e ▸ r1 t ht) S
theorem zp1 {b:BookD} {w z:Ji} (h:BkP b) (hw:w.length=b.swaps.length) (hz:(z.length:Int)=b.many):zaI b z (zbD z b.swaps w)=some (zbI b w):=by
 have hB:=h
 obtain ⟨n,k1,k2,k3,k4⟩:=hB
 have hl:∀s∈b.swaps,s.length=n:=λs hs=>(k4 s hs).1
 obtain ⟨r,hr⟩:=zsy (x:=w) h hz
 have V:=zpW (b:=b) (x:=w) (z:=z) (n:=n) hl (by omega)
 obtain ⟨w1,w2,w3⟩:=(zmx k1 V.1 hl).2 r hr
 have hN:(zd9 b.many [(0:Int)]).length=n:=by rw [k1,Lat.zeJ]
 unfold zaI
 rw [hr]
 show some (zbI b r)=some (zbI b w)
 congr 1
 refine zre h w1 hw ((zsJ k1 hl w1 hw).mp ?_)
 refine (zro hl hN w1 hw).mp ?_
 have L:=λu j=>zhc (sw:=b.swaps) (way:=u) (l:=zd9 b.many [(0:Int)]) (j:=j) λs hs=>by rw [hl s hs,hN]
 refine Lat.zho (by rw [(L r 0).1,(L w 0).1]) λj=> ?_
 by_cases hj:j<n
 ·rw [(L r j).2,(L w j).2,w3 j hj,V.2 j]
 ·rw [Lat.zdE (by rw [(L r 0).1];omega),Lat.zdE (by rw [(L w 0).1];omega)]
noncomputable def zfB (P0:BookD) (P1:Ji) (P2:Ji):Str :=
 (Let (zaI P0 P1 P2) (λ(v161:(Option Ji))=>(zaG ("road" :Str) (gS v161))))
def zfV (P0:BookD) (P1:Ji) (P2:Ji):Prop:=AkP P0 P1 P2
def zkG (K:W.Frag) (A:Adr):Sp:=Spv (ι:=BookD×Ji×Ji) (λx=>[zaV A.Book x.1,dL (List.map dI x.2.1),dL (List.map dI x.2.2)]) (λx=>zfV x.1 x.2.1 x.2.2) (λx=> ↥[dS (zfB x.1 x.2.1 x.2.2)])
theorem zlB:FnScope ["book","one","other","way","scale"] ["book","one","other"] (zag zjX):=⟨rfl,rfl,rfl,by decide+kernel,rfl,by decide+kernel,by decide+kernel⟩
theorem zoF (F:Fun K "asked" "asked" zjX f fd) (T:Txt K mg A) (yab:Callee P w K mg base (CXE P w) 1 "numbers_written" ["word","numbers"] (zcc K A)) (yar:Callee P w K mg base (CXE P w) 9 "plain_road" ["book","one","other"] (zer K A)):FnOk P w K mg base (CXE P w) 10 f fd ["book","one","other"] (zkG K A):=by
 refine F.okV zlB (λ_=>rfl) (λcdv Ar outer s H E x hr hp=> ?_)
 obtain ⟨P0,P1,P2⟩:=x
 have hu:=hr.units
 replace hp:zfV P0 P1 P2:=hp
 unfold zfV at hp
 refine ⟨_,(zaa (zax (i:=3) zlB.nd rfl (Or.inl rfl) (zaN yar (hr.mono (by decide)) rfl zaF ↑[pv 0,pv 1,pv 2])) (zaa (zbp (zaz znD (pv 3) zgl (zaR _)) (zaa (zaP (zaN yab (hr.mono (by decide)) rfl zaF ↑[zaT,pv 3])) zad) zad) (zaa zaB (zaa zaB (zaa zaB zad))))),.inl ?_⟩
 show L2.Run _ ([⇑[zaV A.Book P0],⇑[dL (List.map dI P1)],⇑[dL (List.map dI P2)],.no,.no]:L2.Ctx) _ ((λ(r:Str)=>Oc.rt true (dS r)) (zfB P0 P1 P2))
 unfold zfB
 exact (zaC (m:=true) (x:=(zaI P0 P1 P2)) (dOpt lI) (λ(r:Str)=>Oc.rt true (dS r)) (zao (x:=(P0,P1,P2)) (zac (zab (i:=0) rfl) (zac (Ev.weak (K:=K) (zab (i:=1) rfl)) (zac (Ev.weak (K:=K) (zab (i:=2) rfl)) zae))) rfl (by show zcx P0 P1 P2;exact hp.1) rfl) (λv161 hv161=>have hW:=hv161;(zcD (EvT.conv (zap (zgk (x:=v161) (f:=lI) (Ev.old (zab (i:=3) rfl)) zaL NN.lst)) (by rw [hW];exact hp.2.1)) (zaH (zan (zaK (Ev.any (m:=true) (zao (x:=(("road" :Str),(gS v161))) (zac zaL (zac (Ev.old (ev_some (f:=lI) (x:=v161) (zab (i:=3) rfl) (by rw [hW];exact hp.2.1))) zae)) rfl (by show zbd ("road" :Str) (gS v161);rw [hW];exact hp.2.2) rfl))))))))
noncomputable def zfk :DeskD:=⟨[],none⟩
def zbS :Prop:=True
def zey (K:W.Frag) (A:Adr):Sp:=zr2 (ι:=Unit) A.Desk (λx=>[]) (λx=>zbS) true (λx=>[("names",dL (List.map dS ((zfk).names))),("book",dOpt (zaV A.Book) ((zfk).book))])
theorem zgz:FnScope ["self"] ["self"] (zag zdJ):=⟨rfl,rfl,rfl,by decide+kernel,rfl,by decide+kernel,by decide+kernel⟩
theorem zgv (F:Fun K "__init__" "Desk.__init__" zdJ f fd) (T:Txt K mg A) :FnOk P w K mg base (CXE P w) 1 f fd ["self"] (zey K A):=by
 refine F.okI zgz (λ_=>rfl) (λcdv Ar outer s H E x hr hp=> ?_)
 have hu:=hr.units
 replace hp:zbS:=hp
 unfold zbS at hp
 refine ⟨_,(zaa (zg2 (pv 0) (zbu zcI) rfl) (zaa (zg2 (pv 0) zgl rfl) zad)),λp dx=>⟨([.ob true A.Desk p dx [("names",dL (List.map dS [])),("book",dOpt (zaV A.Book) none)]]:L2.Ctx),?_,rfl⟩⟩
 show L2.Run _ ([.ob true A.Desk p dx []]:L2.Ctx) _ _
 exact (zgG (i:=0) rfl (Ev.conv (e:=dL (List.map dS [])) (EvO.ev (zbM (m:=true) zae)) rfl) T.Desk_cl T.Desk_names [] rfl (by decide+kernel) (by decide) (zgG (i:=0) rfl zaL T.Desk_cl T.Desk_book ["names"] rfl (by decide+kernel) (by decide) (zaD (Wk.refl _))))
noncomputable def za3 (P0:DeskD) (P1:(List Str)):Str×DeskD :=
 ((zaG ("wares" :Str) [((P1.length:Nat):Int)]),(DeskD.mk (DeskD.mk P1 P0.book).names (some (zaU ((P1.length:Nat):Int) []))))
def zdc (P0:DeskD) (P1:(List Str)):Prop:=BgP P1
def zem (K:W.Frag) (A:Adr):Sp:=SpvO (ι:=DeskD×(List Str)) A.Desk (λx=>[("names",dL (List.map dS x.1.names)),("book",dOpt (zaV A.Book) x.1.book)]) (λx=>[dL (List.map dS x.2)]) (λx=>zdc x.1 x.2) (λx=>dS ((za3 x.1 x.2).1)) (λx=>[("names",dL (List.map dS (((za3 x.1 x.2).2).names))),("book",dOpt (zaV A.Book) (((za3 x.1 x.2).2).book))])
theorem ziQ:FnScope ["self","names"] ["self","names"] (zag zeI):=⟨rfl,rfl,rfl,by decide+kernel,rfl,by decide+kernel,by decide+kernel⟩
theorem ziG (F:Fun K "begin" "Desk.begin" zeI f fd) (T:Txt K mg A) (yao:Callee P w K mg base (CXE P w) 3 "book_of" ["many","swaps"] (ze9 K A)) (yab:Callee P w K mg base (CXE P w) 1 "numbers_written" ["word","numbers"] (zcc K A)) (yay:Callee P w K mg base (CXE P w) 3 "refuse_bad_names" ["names"] (zdN K A)):FnOk P w K mg base (CXE P w) 4 f fd ["self","names"] (zem K A):=by
 refine F.okO ziQ (λ_=>rfl) (λcdv Ar outer s H E x hr hp=> ?_)
 obtain ⟨P0,P1⟩:=x
 have hu:=hr.units
 replace hp:zdc P0 P1:=hp
 unfold zdc at hp
 refine ⟨_,(zaa (zbJ (zaN yay (hr.mono (by decide)) rfl zaF ↑[pv 1])) (zaa (zg2 (pv 0) (pv 1) rfl) (zaa (zg2 (pv 0) (zaN yao (hr.mono (by decide)) rfl zaF ↑[(zaS (zaO (K:=K) rfl) rfl T.len PySem.boot_len ↑[pv 1]),zbu zcI]) rfl) (zaa (zaP (zaN yab (hr.mono (by decide)) rfl zaF ↑[zaT,(zbu ↑[(zaS (zaO (K:=K) rfl) rfl T.len PySem.boot_len ↑[pv 1])])])) zad)))),λp dx=>⟨([.ob false A.Desk p dx [("names",dL (List.map dS (((za3 P0 P1).2).names))),("book",dOpt (zaV A.Book) (((za3 P0 P1).2).book))],.no]:L2.Ctx),?_,rfl⟩⟩
 show L2.Run _ ([.ob false A.Desk p dx [("names",dL (List.map dS P0.names)),("book",dOpt (zaV A.Book) P0.book)],⇑[dL (List.map dS P1)]]:L2.Ctx) _ ((λ(r:Str×DeskD)=>Oc.rw ([.ob false A.Desk p dx [("names",dL (List.map dS r.2.names)),("book",dOpt (zaV A.Book) r.2.book)],.no]:L2.Ctx) (dS r.1)) (za3 P0 P1))
 unfold za3
 exact (zeZ (m:=true) (Ev.any (m:=true) (zao (x:=P1) (zac (zab (i:=1) rfl) zae) rfl (by show zbL P1;exact hp.1) rfl)) (ziP (i:=0) rfl (zab (i:=1) rfl) T.Desk_cl T.Desk_names (by show 2<1000;decide) zhH (ziP (i:=0) rfl (Ev.old (zao (x:=(((P1.length:Nat):Int),[])) (zac (zbs (f:=dS) (xs:=P1) (Ev.weak (K:=K) (zab (i:=1) rfl))) (zac (Ev.old (Ev.weak (K:=K) (Ev.conv (e:=dL (List.map lI [])) (EvO.ev (zbM (m:=true) zae)) rfl))) zae)) rfl (by show zbK ((P1.length:Nat):Int) [];exact zq7 hp) rfl)) T.Desk_cl T.Desk_book (by show 2<1000;decide) (zjG (by decide+kernel) zhH) (zhZ (Ev.any (m:=true) (zao (x:=(("wares" :Str),[((P1.length:Nat):Int)])) (zac zaL (zac (EvO.ev (zcH (zac (zbs (f:=dS) (xs:=P1) (Ev.weak (K:=K) (zab (i:=1) rfl))) zae) (by show 1≤sizeLine;decide))) zae)) rfl (by show zbd ("wares" :Str) [((P1.length:Nat):Int)];exact zua hp) rfl)) (.eq (.no .nil))))))
noncomputable def zas (P0:DeskD) (P1:Str):Str×DeskD :=
 (Let (za1 P1) (λ(v163:(Str×(List Str)))=>(Let v163.1 (λ(v164:Str)=>(za3 P0 v163.2)))))
def za0 (P0:DeskD) (P1:Str):Prop:=TwP P1
def zb0 (K:W.Frag) (A:Adr):Sp:=SpvO (ι:=DeskD×Str) A.Desk (λx=>[("names",dL (List.map dS x.1.names)),("book",dOpt (zaV A.Book) x.1.book)]) (λx=>[dS x.2]) (λx=>za0 x.1 x.2) (λx=>dS ((zas x.1 x.2).1)) (λx=>[("names",dL (List.map dS (((zas x.1 x.2).2).names))),("book",dOpt (zaV A.Book) (((zas x.1 x.2).2).book))])
theorem zb4:FnScope ["self","line","told","order"] ["self","line"] (zag zc0):=⟨rfl,rfl,rfl,by decide+kernel,rfl,by decide+kernel,by decide+kernel⟩
theorem zeo (F:Fun K "tell" "Desk.tell" zc0 f fd) (T:Txt K mg A) (yaV:CalleeM P w K mg base (CXE P w) 4 A.Desk "begin" ["self","names"] (zem K A)) (yaB:Callee P w K mg base (CXE P w) 2 "read_line" ["line"] (zdW K A)):FnOk P w K mg base (CXE P w) 5 f fd ["self","line"] (zb0 K A):=by
 refine F.okO zb4 (λ_=>rfl) (λcdv Ar outer s H E x hr hp=> ?_)
 obtain ⟨P0,P1⟩:=x
 have hu:=hr.units
 replace hp:za0 P0 P1:=hp
 unfold za0 at hp
 obtain ⟨ws,hL,hN,hG⟩:=hp
 refine ⟨_,(zaa (zax (i:=2) zb4.nd rfl (Or.inl rfl) (zaN yaB (hr.mono (by decide)) rfl zaF ↑[pv 1])) (zaa (zax (i:=3) zb4.nd rfl (Or.inl rfl) (zbx (zcA (K:=K) rfl) (pv 2) zaj (λ_ _=>rfl))) (zaa (zbp (zaz zdO (pv 3) zaT (zaR _)) (zaa (zaP (zfl (pv 0) T.Desk_cl yaV (hr.mono (by decide)) zaF ↑[(zbx (zcA (K:=K) rfl) (pv 2) zaj (λ_ _=>rfl))])) zad) zad) (zaa zaB (zaa zaB (zaa zaB zad)))))),λp dx=>⟨([.ob false A.Desk p dx [("names",dL (List.map dS (((zas P0 P1).2).names))),("book",dOpt (zaV A.Book) (((zas P0 P1).2).book))],.no,.no,.no]:L2.Ctx),?_,rfl⟩⟩
 show L2.Run _ ([.ob false A.Desk p dx [("names",dL (List.map dS P0.names)),("book",dOpt (zaV A.Book) P0.book)],⇑[dS P1],.no,.no]:L2.Ctx) _ ((λ(r:Str×DeskD)=>Oc.rw ([.ob false A.Desk p dx [("names",dL (List.map dS r.2.names)),("book",dOpt (zaV A.Book) r.2.book)],.no,.no,.no]:L2.Ctx) (dS r.1)) (zas P0 P1))
 unfold zas
 exact (zaC (m:=false) (x:=(za1 P1)) (λ(p:(Str×(List Str)))=>dT [dS p.1,dL (List.map dS p.2)]) (λ(r:Str×DeskD)=>Oc.rw ([.ob false A.Desk p dx [("names",dL (List.map dS r.2.names)),("book",dOpt (zaV A.Book) r.2.book)],.no,.no,.no]:L2.Ctx) (dS r.1)) (zao (x:=P1) (zac (Ev.any (m:=false) (zab (i:=1) rfl)) zae) rfl (by show zbX P1;exact ⟨ws,hL,hN⟩) rfl) (λv163 hv163=>have hT:=Eq.trans hv163 (zp2 hL);(zaC (m:=true) (x:=v163.1) dS (λ(r:Str×DeskD)=>Oc.rw ([.ob false A.Desk p dx [("names",dL (List.map dS r.2.names)),("book",dOpt (zaV A.Book) r.2.book)],.no,.no,.no]:L2.Ctx) (dS r.1)) (Ev.any (m:=false) (zeA (zab (i:=2) rfl) zaL rfl)) (λv164 hv164=>have hO:=hv164;(zcD (EvT.conv (zap (zdp (x:=v164) (y:=("wares" :Str)) (Ev.any (m:=true) (zab (i:=3) rfl)) zaL)) (by rw [hO,hT];exact decide_eq_true rfl)) (zaH (zeO (zet (i:=0) (x:=(P0,v163.2)) (d:=dS ((za3 P0 v163.2).1)) (fs0:=[("names",dL (List.map dS (((za3 P0 v163.2).2).names))),("book",dOpt (zaV A.Book) (((za3 P0 v163.2).2).book))]) rfl (zac (zeA (zab (i:=2) rfl) zaL rfl) zae) rfl rfl (by show zdc P0 v163.2;rw [hT];exact hG) rfl rfl rfl) (.eq (.no (.no (.no .nil)))))))))))
noncomputable def zbv (P0:DeskD) (P1:Ji):Str×DeskD :=
 ((zaG ("swap" :Str) [(((((gS ((DeskD.mk P0.names (some (zaU ((gS P0.book).many) ((gS P0.book).swaps++[P1])))).book)).swaps).length:Nat):Int)-(1:Int))]),(DeskD.mk P0.names (some (zaU ((gS P0.book).many) ((gS P0.book).swaps++[P1])))))
def zd0 (P0:DeskD) (P1:Ji):Prop:=PuP P0 P1
def zfo (K:W.Frag) (A:Adr):Sp:=SpvO (ι:=DeskD×Ji) A.Desk (λx=>[("names",dL (List.map dS x.1.names)),("book",dOpt (zaV A.Book) x.1.book)]) (λx=>[dL (List.map dI x.2)]) (λx=>zd0 x.1 x.2) (λx=>dS ((zbv x.1 x.2).1)) (λx=>[("names",dL (List.map dS (((zbv x.1 x.2).2).names))),("book",dOpt (zaV A.Book) (((zbv x.1 x.2).2).book))])
theorem zkv:FnScope ["self","swap"] ["self","swap"] (zag zf7):=⟨rfl,rfl,rfl,by decide+kernel,rfl,by decide+kernel,by decide+kernel⟩
theorem zj0 (F:Fun K "put" "Desk.put" zf7 f fd) (T:Txt K mg A) (yao:Callee P w K mg base (CXE P w) 3 "book_of" ["many","swaps"] (ze9 K A)) (yab:Callee P w K mg base (CXE P w) 1 "numbers_written" ["word","numbers"] (zcc K A)):FnOk P w K mg base (CXE P w) 4 f fd ["self","swap"] (zfo K A):=by
 refine F.okO zkv (λ_=>rfl) (λcdv Ar outer s H E x hr hp=> ?_)
 obtain ⟨P0,P1⟩:=x
 have hu:=hr.units
 replace hp:zd0 P0 P1:=hp
 unfold zd0 at hp
 refine ⟨_,(zaa (zg2 (pv 0) (zaN yao (hr.mono (by decide)) rfl zaF ↑[(zbF (K:=K) rfl (zbF (K:=K) rfl (pv 0) rfl) rfl),(zaE zeP (zbF (K:=K) rfl (zbF (K:=K) rfl (pv 0) rfl) rfl) (zbu ↑[pv 1]))]) rfl) (zaa (zaP (zaN yab (hr.mono (by decide)) rfl zaF ↑[zaT,(zbu ↑[(zaE zeB (zaS (zaO (K:=K) rfl) rfl T.len PySem.boot_len ↑[(zbF (K:=K) rfl (zbF (K:=K) rfl (pv 0) rfl) rfl)]) zaj)])])) zad)),λp dx=>⟨([.ob false A.Desk p dx [("names",dL (List.map dS (((zbv P0 P1).2).names))),("book",dOpt (zaV A.Book) (((zbv P0 P1).2).book))],.no]:L2.Ctx),?_,rfl⟩⟩
 show L2.Run _ ([.ob false A.Desk p dx [("names",dL (List.map dS P0.names)),("book",dOpt (zaV A.Book) P0.book)],⇑[dL (List.map dI P1)]]:L2.Ctx) _ ((λ(r:Str×DeskD)=>Oc.rw ([.ob false A.Desk p dx [("names",dL (List.map dS r.2.names)),("book",dOpt (zaV A.Book) r.2.book)],.no]:L2.Ctx) (dS r.1)) (zbv P0 P1))
 unfold zbv
 exact (ziP (i:=0) rfl (Ev.old (EvN.ev (EvN.borrowB (i:=0) rfl rfl (zlC (zao (x:=((gS P0.book).many,((gS P0.book).swaps++[P1]))) (zac (Ev.any (m:=false) (zdg (ev_some (f:=(zaV A.Book)) (x:=P0.book) (zdg (zab (i:=0) rfl) T.Desk_cl T.Desk_book rfl) (by first|exact hp.some|rfl)) T.Book_cl T.Book_many rfl)) (zac (Ev.weak (K:=K) (EvO.ev (zdB (f:=lI) (xs:=(gS P0.book).swaps) (ys:=[P1]) (zdg (ev_some (f:=(zaV A.Book)) (x:=P0.book) (zdg (zab (i:=0) rfl) T.Desk_cl T.Desk_book rfl) (by first|exact hp.some|rfl)) T.Book_cl T.Book_swaps rfl) (EvO.ev (zcH (zac (zab (i:=1) rfl) zae) (by show 1≤sizeLine;decide))) (by have z:=hp.len.2;apply zau;simp only [List.length_singleton];omega)))) zae)) rfl (by show zbK ((gS P0.book).many) ((gS P0.book).swaps++[P1]);exact hp.book) rfl))))) T.Desk_cl T.Desk_book (by show 2<1000;decide) (zjG (by decide+kernel) zhH) (zhZ (Ev.old (EvN.ev (EvN.borrowB (i:=0) rfl rfl (zlC (Ev.any (m:=true) (zao (x:=(("swap" :Str),[(((((gS ((DeskD.mk P0.names (some (zaU ((gS P0.book).many) ((gS P0.book).swaps++[P1])))).book)).swaps).length:Nat):Int)-(1:Int))])) (zac zaL (zac (EvO.ev (zcH (zac (zaY (x:=((((gS ((DeskD.mk P0.names (some (zaU ((gS P0.book).many) ((gS P0.book).swaps++[P1])))).book)).swaps).length:Nat):Int)) (y:=(1:Int)) (zbs (f:=lI) (xs:=(gS ((DeskD.mk P0.names (some (zaU ((gS P0.book).many) ((gS P0.book).swaps++[P1])))).book)).swaps) (Ev.weak (K:=K) (zdg (ev_some (f:=(zaV A.Book)) (x:=((DeskD.mk P0.names (some (zaU ((gS P0.book).many) ((gS P0.book).swaps++[P1])))).book)) (zdg (zab (i:=0) rfl) T.Desk_cl T.Desk_book rfl) (by first|exact hp.some|rfl)) T.Book_cl T.Book_swaps rfl))) zaL) zae) (by show 1≤sizeLine;decide))) zae)) rfl (by show zbd ("swap" :Str) [(((((gS ((DeskD.mk P0.names (some (zaU ((gS P0.book).many) ((gS P0.book).swaps++[P1])))).book)).swaps).length:Nat):Int)-(1:Int))];exact hp.nw) rfl)))))) (.eq (.no .nil))))
noncomputable def zav (P0:DeskD) (P1:Str) (P2:Jq):Str×DeskD :=
 (zbv P0 (za5 (ixD P2 (1:Int)) (ixD P2 (0:Int))))
def zbg (P0:DeskD) (P1:Str) (P2:Jq):Prop:=ApP P0 P1 P2
def zbQ (K:W.Frag) (A:Adr):Sp:=SpvO (ι:=DeskD×Str×Jq) A.Desk (λx=>[("names",dL (List.map dS x.1.names)),("book",dOpt (zaV A.Book) x.1.book)]) (λx=>[dS x.2.1,dL (List.map lI x.2.2)]) (λx=>zbg x.1 x.2.1 x.2.2) (λx=>dS ((zav x.1 x.2.1 x.2.2).1)) (λx=>[("names",dL (List.map dS (((zav x.1 x.2.1 x.2.2).2).names))),("book",dOpt (zaV A.Book) (((zav x.1 x.2.1 x.2.2).2).book))])
theorem zd8:FnScope ["self","order","sides"] ["self","order","sides"] (zag zcO):=⟨rfl,rfl,rfl,by decide+kernel,rfl,by decide+kernel,by decide+kernel⟩
theorem zeh (F:Fun K "answer" "Desk.answer" zcO f fd) (T:Txt K mg A) (ybg:CalleeM P w K mg base (CXE P w) 4 A.Desk "put" ["self","swap"] (zfo K A)) (yat:Callee P w K mg base (CXE P w) 2 "less" ["one","other"] (zhs K A)):FnOk P w K mg base (CXE P w) 5 f fd ["self","order","sides"] (zbQ K A):=by
 refine F.okO zd8 (λ_=>rfl) (λcdv Ar outer s H E x hr hp=> ?_)
 obtain ⟨P0,P1,P2⟩:=x
 have hu:=hr.units
 replace hp:zbg P0 P1 P2:=hp
 unfold zbg at hp
 refine ⟨_,(zaa (zbp (zaz zdO (pv 1) zaT (zaR _)) (zaa (zaP (zfl (pv 0) T.Desk_cl ybg (hr.mono (by decide)) zaF ↑[(zaN yat (hr.mono (by decide)) rfl zaF ↑[(zbx (zaJ (K:=K) rfl) (pv 2) zaj (λ_ _=>rfl)),(zbx (zaJ (K:=K) rfl) (pv 2) zaj (λ_ _=>rfl))])])) zad) zad) (zaa zaB (zaa zaB (zaa zaB zad)))),λp dx=>⟨([.ob false A.Desk p dx [("names",dL (List.map dS (((zav P0 P1 P2).2).names))),("book",dOpt (zaV A.Book) (((zav P0 P1 P2).2).book))],.no,.no]:L2.Ctx),?_,rfl⟩⟩
 show L2.Run _ ([.ob false A.Desk p dx [("names",dL (List.map dS P0.names)),("book",dOpt (zaV A.Book) P0.book)],⇑[dS P1],⇑[dL (List.map lI P2)]]:L2.Ctx) _ ((λ(r:Str×DeskD)=>Oc.rw ([.ob false A.Desk p dx [("names",dL (List.map dS r.2.names)),("book",dOpt (zaV A.Book) r.2.book)],.no,.no]:L2.Ctx) (dS r.1)) (zav P0 P1 P2))
 unfold zav
 exact (zcD (EvT.conv (zap (zdp (x:=P1) (y:=("swap" :Str)) (Ev.any (m:=false) (zab (i:=1) rfl)) zaL)) (by rw [hp.1];decide+kernel)) (zaH (zeO (zet (i:=0) (x:=(P0,(za5 (ixD P2 (1:Int)) (ixD P2 (0:Int))))) (d:=dS ((zbv P0 (za5 (ixD P2 (1:Int)) (ixD P2 (0:Int)))).1)) (fs0:=[("names",dL (List.map dS (((zbv P0 (za5 (ixD P2 (1:Int)) (ixD P2 (0:Int)))).2).names))),("book",dOpt (zaV A.Book) (((zbv P0 (za5 (ixD P2 (1:Int)) (ixD P2 (0:Int)))).2).book))]) rfl (zac (EvO.ev (EvO.anyI (m:=true) (zce (x:=((ixD P2 (1:Int)),(ixD P2 (0:Int)))) (zac (Ev.weak (K:=K) (zb5 (f:=lI) (xs:=P2) (Ev.weak (K:=K) (zab (i:=2) rfl)) zaL ↥(hp.ix.2))) (zac (Ev.weak (K:=K) (zb5 (f:=lI) (xs:=P2) (Ev.weak (K:=K) (zab (i:=2) rfl)) zaL ↥(hp.ix.1))) zae)) rfl (by show zcz (ixD P2 (1:Int)) (ixD P2 (0:Int));exact hp.less.1) rfl))) zae) rfl rfl (by show zd0 P0 (za5 (ixD P2 (1:Int)) (ixD P2 (0:Int)));exact hp.less.2) rfl rfl rfl) (.eq (.no (.no .nil))))))
noncomputable def zal (P0:DeskD) (P1:Str):Str×DeskD :=
 (Let (zaM P1) (λ(v167:(Str×(List (List (Int×Str)))))=>(Let v167.1 (λ(v168:Str)=>(zav P0 v168 (List.map (λ(x172:(List (Int×Str)))=>(zaq P0.names x172)) v167.2))))))
def za6 (P0:DeskD) (P1:Str):Prop:=TsP P0 P1
def zcb (K:W.Frag) (A:Adr):Sp:=SpvO (ι:=DeskD×Str) A.Desk (λx=>[("names",dL (List.map dS x.1.names)),("book",dOpt (zaV A.Book) x.1.book)]) (λx=>[dS x.2]) (λx=>za6 x.1 x.2) (λx=>dS ((zal x.1 x.2).1)) (λx=>[("names",dL (List.map dS (((zal x.1 x.2).2).names))),("book",dOpt (zaV A.Book) (((zal x.1 x.2).2).book))])
theorem zca:FnScope ["self","line","told","order"] ["self","line"] (zag zcj):=⟨rfl,rfl,rfl,by decide+kernel,rfl,by decide+kernel,by decide+kernel⟩
theorem zeC (F:Fun K "tell" "Desk.tell" zcj f fd) (T:Txt K mg A) (yan:CalleeM P w K mg base (CXE P w) 5 A.Desk "answer" ["self","order","sides"] (zbQ K A)) (yav:Callee P w K mg base (CXE P w) 1 "basket_of" ["names","side"] (zeS K A)) (yag:Callee P w K mg base (CXE P w) 6 "read_line" ["line"] (zcW K A)):FnOk P w K mg base (CXE P w) 7 f fd ["self","line"] (zcb K A):=by
 refine F.okO zca (λ_=>rfl) (λcdv Ar outer s H E x hr hp=> ?_)
 obtain ⟨P0,P1⟩:=x
 have hu:=hr.units
 replace hp:za6 P0 P1:=hp
 unfold za6 at hp
 obtain ⟨pp,qq,hw,hb,hc,hx⟩:=hp.told
 refine ⟨_,(zaa (zax (i:=2) zca.nd rfl (Or.inl rfl) (zaN yag (hr.mono (by decide)) rfl zaF ↑[pv 1])) (zaa (zax (i:=3) zca.nd rfl (Or.inl rfl) (zbx (zcA (K:=K) rfl) (pv 2) zaj (λ_ _=>rfl))) (zaa (zbp (zaz zdO (pv 3) zaT (zaR _)) (zaa zaB zad) zad) (zaa (zbp (zaz znw (zbF (K:=K) rfl (pv 0) rfl) zgl (zaR _)) (zaa zaB zad) zad) (zaa (zbp (zaz zdO (pv 3) zaT (zaR _)) (zaa zaB zad) zad) (zaa (zaP (zfl (pv 0) T.Desk_cl yan (hr.mono (by decide)) zaF ↑[pv 3,(zcM rfl (.of (osc:=(zag zcj)) (N:=["self","line","told","order"]) (own:=["side"]) (fvn:=["self"]) (fv:=[0]) rfl rfl (by decide+kernel)) (zbz (K:=K) rfl (zbx (zcA (K:=K) rfl) (pv 2) zaj (λ_ _=>rfl))) (λ_ _ _ _ _=>⟨(zaQ (i:=0) (show (["side","self"]:List Str).Nodup by decide+kernel) rfl (Or.inl rfl) (Or.inr rfl)),zcK,(zaN yav (hr.mono (by decide)) rfl zaF ↑[(zbF (K:=K) rfl (pv 1) rfl),pv 0])⟩))])) zad)))))),λp dx=>⟨([.ob false A.Desk p dx [("names",dL (List.map dS (((zal P0 P1).2).names))),("book",dOpt (zaV A.Book) (((zal P0 P1).2).book))],.no,.no,.no]:L2.Ctx),?_,rfl⟩⟩
 show L2.Run _ ([.ob false A.Desk p dx [("names",dL (List.map dS P0.names)),("book",dOpt (zaV A.Book) P0.book)],⇑[dS P1],.no,.no]:L2.Ctx) _ ((λ(r:Str×DeskD)=>Oc.rw ([.ob false A.Desk p dx [("names",dL (List.map dS r.2.names)),("book",dOpt (zaV A.Book) r.2.book)],.no,.no,.no]:L2.Ctx) (dS r.1)) (zal P0 P1))
 unfold zal
 exact (zaC (m:=true) (x:=(zaM P1)) (λ(p:(Str×(List (List (Int×Str)))))=>dT [dS p.1,dL (List.map (λ(xs:(List (Int×Str)))=>dL (List.map (λ(p:(Int×Str))=>dT [dI p.1,dS p.2]) xs)) p.2)]) (λ(r:Str×DeskD)=>Oc.rw ([.ob false A.Desk p dx [("names",dL (List.map dS r.2.names)),("book",dOpt (zaV A.Book) r.2.book)],.no,.no,.no]:L2.Ctx) (dS r.1)) (zao (x:=P1) (zac (Ev.any (m:=false) (zab (i:=1) rfl)) zae) rfl (by show zbw P1;exact hp.rl) rfl) (λv167 hv167=>have hT:=Eq.trans hv167 hw;(zaC (m:=true) (x:=v167.1) dS (λ(r:Str×DeskD)=>Oc.rw ([.ob false A.Desk p dx [("names",dL (List.map dS r.2.names)),("book",dOpt (zaV A.Book) r.2.book)],.no,.no,.no]:L2.Ctx) (dS r.1)) (Ev.any (m:=true) (zeA (zab (i:=2) rfl) zaL rfl)) (λv168 hv168=>have hO:=hv168;(zaA (EvT.conv (zap (zdp (x:=v168) (y:=("wares" :Str)) (Ev.any (m:=true) (zab (i:=3) rfl)) zaL)) (by rw [hO,hT];show decide (("swap" :Str)=_)=false;decide+kernel)) (zak (zaA (EvT.conv (EvT.borrowB (i:=0) rfl rfl (zap (zhj (x:=P0.book) (f:=(zaV A.Book)) (zdg (zab (i:=0) rfl) T.Desk_cl T.Desk_book rfl) zaL NN.obj))) ↥(hx.no)) (zak (zaA (EvT.conv (zap (zdp (x:=v168) (y:=("drop" :Str)) (Ev.any (m:=true) (zab (i:=3) rfl)) zaL)) (by rw [hO,hT];show decide (("swap" :Str)=_)=false;decide+kernel)) (zak (zeO (zet (i:=0) (x:=(P0,v168,(List.map (λ(x172:(List (Int×Str)))=>(zaq P0.names x172)) v167.2))) (d:=dS ((zav P0 v168 (List.map (λ(x172:(List (Int×Str)))=>(zaq P0.names x172)) v167.2)).1)) (fs0:=[("names",dL (List.map dS (((zav P0 v168 (List.map (λ(x172:(List (Int×Str)))=>(zaq P0.names x172)) v167.2)).2).names))),("book",dOpt (zaV A.Book) (((zav P0 v168 (List.map (λ(x172:(List (Int×Str)))=>(zaq P0.names x172)) v167.2)).2).book))]) rfl (zac (Ev.any (m:=true) (zab (i:=3) rfl)) (zac (Ev.old (EvN.ev (EvN.borrowB (i:=0) rfl rfl (zlC (EvO.ev (EvO.conv (zdQ (g:=(λ(x172:(List (Int×Str)))=>dL (List.map dI (zaq P0.names x172)))) (zcQ (m:=false) (λ(xs:(List (Int×Str)))=>dL (List.map (λ(p:(Int×Str))=>dT [dI p.1,dS p.2]) xs)) (xs:=v167.2) (Ev.weak (K:=K) (zeA (zab (i:=2) rfl) zaL rfl))) (by rw [hT];show 2≤sizeLine;decide) ⟨by decide,by decide⟩ (λi173 x172 hx174=>have v174:=List.mem_of_getElem? hx174;(zao (x:=(P0.names,x172)) (zac (zdg (zab (i:=1) rfl) T.Desk_cl T.Desk_names rfl) (zac (zab (i:=0) rfl) zae)) rfl (by show zcU P0.names x172;rw [hT] at*;exact zu4 hb hc (by assumption)) rfl))) (by first|(rw [List.map_map];rfl)|(simp only [cond_true,cond_false];rw [List.map_map];rfl)))))))) zae)) rfl rfl (by show zbg P0 v168 (List.map (λ(x172:(List (Int×Str)))=>(zaq P0.names x172)) v167.2);rw [hO,hT];exact hx) rfl rfl rfl) (.eq (.no (.no (.no .nil)))))))))))))))
noncomputable def zbB (P0:DeskD) (P1:Str) (P2:Jq):Str :=
 (zfB (gS P0.book) (ixD P2 (0:Int)) (ixD P2 (1:Int)))
def zbl (P0:DeskD) (P1:Str) (P2:Jq):Prop:=AqP P0 P1 P2
def zb3 (K:W.Frag) (A:Adr):Sp:=Spv (ι:=DeskD×Str×Jq) (λx=>[zl3 A A.Desk x.1,dS x.2.1,dL (List.map lI x.2.2)]) (λx=>zbl x.1 x.2.1 x.2.2) (λx=> ↥[dS (zbB x.1 x.2.1 x.2.2)])
theorem zes:FnScope ["self","order","sides"] ["self","order","sides"] (zag zcZ):=⟨rfl,rfl,rfl,by decide+kernel,rfl,by decide+kernel,by decide+kernel⟩
theorem zej (F:Fun K "answer" "Desk.answer" zcZ f fd) (T:Txt K mg A) (yb3:Callee P w K mg base (CXE P w) 10 "asked" ["book","one","other"] (zkG K A)):FnOk P w K mg base (CXE P w) 11 f fd ["self","order","sides"] (zb3 K A):=by
 refine F.okV zes (λ_=>rfl) (λcdv Ar outer s H E x hr hp=> ?_)
 obtain ⟨P0,P1,P2⟩:=x
 have hu:=hr.units
 replace hp:zbl P0 P1 P2:=hp
 unfold zbl at hp
 refine ⟨_,(zaa (zbp (zaz zdO (pv 1) zaT (zaR _)) (zaa zaB zad) zad) (zaa (zbp (zaz zdO (pv 1) zaT (zaR _)) (zaa (zaP (zaN yb3 (hr.mono (by decide)) rfl zaF ↑[(zbF (K:=K) rfl (pv 0) rfl),(zbx (zaJ (K:=K) rfl) (pv 2) zaj (λ_ _=>rfl)),(zbx (zaJ (K:=K) rfl) (pv 2) zaj (λ_ _=>rfl))])) zad) zad) (zaa zaB (zaa zaB zad)))),.inl ?_⟩
 show L2.Run _ ([⇑[zl3 A A.Desk P0],⇑[dS P1],⇑[dL (List.map lI P2)]]:L2.Ctx) _ ((λ(r:Str)=>Oc.rt true (dS r)) (zbB P0 P1 P2))
 unfold zbB
 exact (zaA (EvT.conv (zap (zdp (x:=P1) (y:=("swap" :Str)) (Ev.any (m:=false) (zab (i:=1) rfl)) zaL)) (by rw [hp.1];decide+kernel)) (zak (zcD (EvT.conv (zap (zdp (x:=P1) (y:=("ask" :Str)) (Ev.any (m:=false) (zab (i:=1) rfl)) zaL)) (by rw [hp.1];decide+kernel)) (zaH (zan (zaK (Ev.any (m:=true) (zao (x:=((gS P0.book),(ixD P2 (0:Int)),(ixD P2 (1:Int)))) (zac (ev_some (f:=(zaV A.Book)) (x:=P0.book) (zdg (zab (i:=0) rfl) T.Desk_cl T.Desk_book rfl) ↥(hp.some)) (zac (zb5 (f:=lI) (xs:=P2) (Ev.weak (K:=K) (zab (i:=2) rfl)) zaL ↥(hp.ix.1)) (zac (zb5 (f:=lI) (xs:=P2) (Ev.weak (K:=K) (zab (i:=2) rfl)) zaL ↥(hp.ix.2)) zae))) rfl (by show zfV (gS P0.book) (ixD P2 (0:Int)) (ixD P2 (1:Int));exact hp.ak) rfl))))))))
noncomputable def zaw (P0:DeskD) (P1:Str):Str :=
 (Let (zaM P1) (λ(v177:(Str×(List (List (Int×Str)))))=>(Let v177.1 (λ(v178:Str)=>(zbB P0 v178 (List.map (λ(x182:(List (Int×Str)))=>(zaq P0.names x182)) v177.2))))))
def zba (P0:DeskD) (P1:Str):Prop:=TaP P0 P1
def zbG (K:W.Frag) (A:Adr):Sp:=Spv (ι:=DeskD×Str) (λx=>[zl3 A A.Desk x.1,dS x.2]) (λx=>zba x.1 x.2) (λx=> ↥[dS (zaw x.1 x.2)])
theorem zcl:FnScope ["self","line","told","order"] ["self","line"] (zag zct):=⟨rfl,rfl,rfl,by decide+kernel,rfl,by decide+kernel,by decide+kernel⟩
theorem zeH (F:Fun K "tell" "Desk.tell" zct f fd) (T:Txt K mg A) (yaq:CalleeM P w K mg base (CXE P w) 11 A.Desk "answer" ["self","order","sides"] (zb3 K A)) (yav:Callee P w K mg base (CXE P w) 1 "basket_of" ["names","side"] (zeS K A)) (yag:Callee P w K mg base (CXE P w) 6 "read_line" ["line"] (zcW K A)):FnOk P w K mg base (CXE P w) 12 f fd ["self","line"] (zbG K A):=by
 refine F.okV zcl (λ_=>rfl) (λcdv Ar outer s H E x hr hp=> ?_)
 obtain ⟨P0,P1⟩:=x
 have hu:=hr.units
 replace hp:zba P0 P1:=hp
 unfold zba at hp
 obtain ⟨pp,qq,hw,hb,hc,hx⟩:=hp.told
 refine ⟨_,(zaa (zax (i:=2) zcl.nd rfl (Or.inl rfl) (zaN yag (hr.mono (by decide)) rfl zaF ↑[pv 1])) (zaa (zax (i:=3) zcl.nd rfl (Or.inl rfl) (zbx (zcA (K:=K) rfl) (pv 2) zaj (λ_ _=>rfl))) (zaa (zbp (zaz zdO (pv 3) zaT (zaR _)) (zaa zaB zad) zad) (zaa (zbp (zaz znw (zbF (K:=K) rfl (pv 0) rfl) zgl (zaR _)) (zaa zaB zad) zad) (zaa (zbp (zaz zdO (pv 3) zaT (zaR _)) (zaa zaB zad) zad) (zaa (zaP (zfl (pv 0) T.Desk_cl yaq (hr.mono (by decide)) zaF ↑[pv 3,(zcM rfl (.of (osc:=(zag zct)) (N:=["self","line","told","order"]) (own:=["side"]) (fvn:=["self"]) (fv:=[0]) rfl rfl (by decide+kernel)) (zbz (K:=K) rfl (zbx (zcA (K:=K) rfl) (pv 2) zaj (λ_ _=>rfl))) (λ_ _ _ _ _=>⟨(zaQ (i:=0) (show (["side","self"]:List Str).Nodup by decide+kernel) rfl (Or.inl rfl) (Or.inr rfl)),zcK,(zaN yav (hr.mono (by decide)) rfl zaF ↑[(zbF (K:=K) rfl (pv 1) rfl),pv 0])⟩))])) zad)))))),.inl ?_⟩
 show L2.Run _ ([⇑[zl3 A A.Desk P0],⇑[dS P1],.no,.no]:L2.Ctx) _ ((λ(r:Str)=>Oc.rt true (dS r)) (zaw P0 P1))
 unfold zaw
 exact (zaC (m:=true) (x:=(zaM P1)) (λ(p:(Str×(List (List (Int×Str)))))=>dT [dS p.1,dL (List.map (λ(xs:(List (Int×Str)))=>dL (List.map (λ(p:(Int×Str))=>dT [dI p.1,dS p.2]) xs)) p.2)]) (λ(r:Str)=>Oc.rt true (dS r)) (zao (x:=P1) (zac (Ev.any (m:=false) (zab (i:=1) rfl)) zae) rfl (by show zbw P1;exact hp.rl) rfl) (λv177 hv177=>have hT:=Eq.trans hv177 hw;(zaC (m:=true) (x:=v177.1) dS (λ(r:Str)=>Oc.rt true (dS r)) (Ev.any (m:=true) (zeA (zab (i:=2) rfl) zaL rfl)) (λv178 hv178=>have hO:=hv178;(zaA (EvT.conv (zap (zdp (x:=v178) (y:=("wares" :Str)) (Ev.any (m:=true) (zab (i:=3) rfl)) zaL)) (by rw [hO,hT];show decide (("ask" :Str)=_)=false;decide+kernel)) (zak (zaA (EvT.conv (zap (zhj (x:=P0.book) (f:=(zaV A.Book)) (zdg (zab (i:=0) rfl) T.Desk_cl T.Desk_book rfl) zaL NN.obj)) ↥(hx.no)) (zak (zaA (EvT.conv (zap (zdp (x:=v178) (y:=("drop" :Str)) (Ev.any (m:=true) (zab (i:=3) rfl)) zaL)) (by rw [hO,hT];show decide (("ask" :Str)=_)=false;decide+kernel)) (zak (zan (zaK (Ev.any (m:=true) (zkl (x:=(P0,v178,(List.map (λ(x182:(List (Int×Str)))=>(zaq P0.names x182)) v177.2))) (zab (i:=0) rfl) (zac (Ev.any (m:=true) (zab (i:=3) rfl)) (zac (Ev.old (EvO.ev (EvO.conv (zdQ (g:=(λ(x182:(List (Int×Str)))=>dL (List.map dI (zaq P0.names x182)))) (zcQ (m:=true) (λ(xs:(List (Int×Str)))=>dL (List.map (λ(p:(Int×Str))=>dT [dI p.1,dS p.2]) xs)) (xs:=v177.2) (Ev.weak (K:=K) (zeA (zab (i:=2) rfl) zaL rfl))) (by rw [hT];show 2≤sizeLine;decide) ⟨by decide,by decide⟩ (λi183 x182 hx184=>have v184:=List.mem_of_getElem? hx184;(zao (x:=(P0.names,x182)) (zac (zdg (zab (i:=1) rfl) T.Desk_cl T.Desk_names rfl) (zac (Ev.old (zab (i:=0) rfl)) zae)) rfl (by show zcU P0.names x182;rw [hT] at*;exact zu4 hb hc (by assumption)) rfl))) (by first|(rw [List.map_map];rfl)|(simp only [cond_true,cond_false];rw [List.map_map];rfl))))) zae)) rfl (by show zbl P0 v178 (List.map (λ(x182:(List (Int×Str)))=>(zaq P0.names x182)) v177.2);rw [hO,hT];exact hx) rfl rfl))))))))))))))
noncomputable def zaf (P0:Ji) (P1:Int):Int :=
 (bif (decide (P1<((P0.length:Nat):Int))) then ((ixD P0 P1)%(2147483647:Int)) else (0:Int))
def zbi (P0:Ji) (P1:Int):Prop:=0≤P1
def zfv (K:W.Frag) (A:Adr):Sp:=Spv (ι:=Ji×Int) (λx=>[dQ K (List.map dI x.1),dI x.2]) (λx=>zbi x.1 x.2) (λx=> ↥[dI (zaf x.1 x.2)])
theorem zjR:FnScope ["_law_script","_law_k"] ["_law_script","_law_k"] (zag zf5):=⟨rfl,rfl,rfl,by decide+kernel,rfl,by decide+kernel,by decide+kernel⟩
theorem zkp (F:Fun K "_law_cell" "_law_cell" zf5 f fd) (T:Txt K mg A) :FnOk P w K mg base (CXE P w) 1 f fd ["_law_script","_law_k"] (zfv K A):=by
 refine F.okV zjR (λ_=>rfl) (λcdv Ar outer s H E x hr hp=> ?_)
 obtain ⟨P0,P1⟩:=x
 have hu:=hr.units
 replace hp:zbi P0 P1:=hp
 unfold zbi at hp
 refine ⟨_,(zaa (zbp (zaz zjT (pv 1) (zaS (zaO (K:=K) rfl) rfl T.len PySem.boot_len ↑[pv 0]) (zaR _)) (zaa (zaP (zaE zdh (zbx (zaJ (K:=K) rfl) (pv 0) (pv 1) (λ_ _=>rfl)) zaj)) zad) zad) (zaa (zaP zaj) zad)),.inl ?_⟩
 show L2.Run _ ([⇑[dQ K (List.map dI P0)],⇑[dI P1]]:L2.Ctx) _ ((λ(r:Int)=>Oc.rt true (dI r)) (zaf P0 P1))
 unfold zaf
 exact (zb9 (b:=(decide (P1<((P0.length:Nat):Int)))) (λ(r:Int)=>Oc.rt true (dI r)) (zap (zaY (x:=P1) (y:=((P0.length:Nat):Int)) (Ev.any (m:=false) (zab (i:=1) rfl)) (zbs (f:=dI) (xs:=P0) (zab (i:=0) rfl)))) (λh185=>(zaH (zan (zaK (zbb (x:=(ixD P0 P1)) (y:=(2147483647:Int)) (Ev.any (m:=false) (zb5 (f:=dI) (xs:=P0) (zab (i:=0) rfl) (Ev.any (m:=false) (zab (i:=1) rfl)) (by unfold InB;constructor<;>((try simp only [decide_eq_true_eq,decide_eq_false_iff_not,Bool.not_eq_true',Bool.not_eq_false',Bool.and_eq_true,Bool.or_eq_false_iff,Bool.or_eq_true,Bool.and_eq_false_iff,Bool.cond_eq_ite] at*)<;>omega)))) zaL (by decide)))))) (λh185=>(zak (zan (zaK zaL)))))
noncomputable def zah (P0:(List Str)) (P1:Ji):Str :=
 (Let (List.foldl (λ(s186:(List Str)) (x187:(Str×Int))=>(Let (bif (decide (x187.2<(0:Int))) then (s186++[("-" :Str),((toString ((0:Int)-x187.2):String):Str),x187.1]) else (bif (decide ((0:Int)<x187.2)) then (s186++[("+" :Str),((toString x187.2:String):Str),x187.1]) else s186)) (λ(v193:(List Str))=>v193))) [] (List.zip P0 P1)) (λ(r194:(List Str))=>(bif (decide (r194=[])) then ("nothing" :Str) else (Let (bif (decide ((ixD r194 (0:Int))=("+" :Str))) then (r194.tail) else r194) (λ(v197:(List Str))=>(Txt.join (" " :Str) v197))))))
def zci (P0:(List Str)) (P1:Ji):Prop:=Wd.BwP P0 P1
def zfs (K:W.Frag) (A:Adr):Sp:=Spv (ι:=(List Str)×Ji) (λx=>[dL (List.map dS x.1),dL (List.map dI x.2)]) (λx=>zci x.1 x.2) (λx=> ↥[dS (zah x.1 x.2)])
theorem zc2:FnScope ["_law_names","_law_basket","_law_words","_law_name","_law_number"] ["_law_names","_law_basket"] (zag zgb):=⟨rfl,rfl,rfl,by decide+kernel,rfl,by decide+kernel,by decide+kernel⟩
theorem zkx (F:Fun K "_law_side" "_law_side" zgb f fd) (T:Txt K mg A) :FnOk P w K mg base (CXE P w) 1 f fd ["_law_names","_law_basket"] (zfs K A):=by
 refine F.okV zc2 (λ_=>rfl) (λcdv Ar outer s H E x hr hp=> ?_)
 obtain ⟨P0,P1⟩:=x
 have hu:=hr.units
 replace hp:zci P0 P1:=hp
 unfold zci at hp
 refine ⟨_,(zaa (zax (i:=2) zc2.nd rfl (Or.inl rfl) (zbu zcI)) (zaa (zdo PassesOwn.never rfl (zgC (K:=K) rfl rfl T.zip ↑[pv 0,pv 1]) (zc7 (K:=K) (n:=2) rfl rfl (zbj (zaQ (i:=3) zc2.nd rfl (Or.inl rfl) (Or.inl rfl)) (zbj (zaQ (i:=4) zc2.nd rfl (Or.inl rfl) (Or.inl rfl)) zd6))) (zaa (zbp (zaz zjT (pv 4) zaj (zaR _)) (zaa (zax (i:=2) zc2.nd rfl (Or.inl rfl) (zaE zeP (pv 2) (zbu ↑[zaT,zb6 zcJ rfl T.str (by decide+kernel) ↑[zaE zeB zaj (pv 4)],pv 3]))) zad) (zaa (zbp (zaz zo3 (pv 4) zaj (zaR _)) (zaa (zax (i:=2) zc2.nd rfl (Or.inl rfl) (zaE zeP (pv 2) (zbu ↑[zaT,zb6 zcJ rfl T.str (by decide+kernel) ↑[pv 4],pv 3]))) zad) zad) zad)) zad)) (zaa (zbp (zaz (zj4 (K:=K) rfl hu) (pv 2) (zbu zcI) (zaR _)) (zaa (zaP zaT) zad) zad) (zaa (zbp (zaz zdO (zbx (zaJ (K:=K) rfl) (pv 2) zaj (λ_ _=>rfl)) zaT (zaR _)) (zaa (zbJ (zl8 (K:=K) rfl (pv 2) ↑[zaj])) zad) zad) (zaa (zaP (zkD (K:=K) rfl zaT ↑[pv 2])) zad))))),.inl ?_⟩
 show L2.Run _ ([⇑[dL (List.map dS P0)],⇑[dL (List.map dI P1)],.no,.no,.no]:L2.Ctx) _ ((λ(r:Str)=>Oc.rt true (dS r)) (zah P0 P1))
 unfold zah
 exact (zdr (m:=true) (ds:=List.map dS []) (zbM (m:=true) zae) (zcy (s0:=[]) (λ(s186:(List Str))=>([⇑[dL (List.map dS P0)],⇑[dL (List.map dI P1)],.ow true (List.map dS s186),.no,.no]:L2.Ctx)) (λ(r:Str)=>Oc.rt true (dS r)) (λ(s186:(List Str)) (x187:(Str×Int))=>(Let (bif (decide (x187.2<(0:Int))) then (s186++[("-" :Str),((toString ((0:Int)-x187.2):String):Str),x187.1]) else (bif (decide ((0:Int)<x187.2)) then (s186++[("+" :Str),((toString x187.2:String):Str),x187.1]) else s186)) (λ(v193:(List Str))=>v193))) (λ(i:Nat) (s186:(List Str))=>Wd.BwI i s186) (zkL (m:=false) dS dI (xs:=P0) (ys:=P1) (Ev.weak (K:=K) (zab (i:=0) rfl)) (Ev.weak (K:=K) (zab (i:=1) rfl))) (.eq (.eq (.eq (.eq (.eq .nil))))) ↥(Wd.BwI.start) (λi188 x187 s186 hx189 hI190=>have v189:=zgf hx189;⟨↥(Wd.BwI.stepL (by assumption) hp (by assumption)),(zdq (b:=(decide (x187.2<(0:Int)))) (λbb=>([⇑[dL (List.map dS P0)],⇑[dL (List.map dI P1)],.ow true (List.map dS (bif bb then (s186++[("-" :Str),((toString ((0:Int)-x187.2):String):Str),x187.1]) else (bif (decide ((0:Int)<x187.2)) then (s186++[("+" :Str),((toString x187.2:String):Str),x187.1]) else s186))),⇑[dS x187.1],⇑[dI x187.2]]:L2.Ctx)) (zap (zaY (x:=x187.2) (y:=(0:Int)) (Ev.any (m:=false) (zab (i:=4) rfl)) zaL)) (λh191=>(zcX (i:=2) rfl (zdr (m:=true) (EvO.anyS (m:=true) (zdB (f:=dS) (xs:=s186) (ys:=[("-" :Str),((toString ((0:Int)-x187.2):String):Str),x187.1]) (zab (i:=2) rfl) (EvO.ev (zcH (zac zaL (zac (zge (i:=((0:Int)-x187.2)) (zaY (x:=(0:Int)) (y:=x187.2) zaL (Ev.any (m:=false) (zab (i:=4) rfl))) (by have z:=(hp.mem (by assumption)).2;exact Wd.log_lt (by omega))) (zac (Ev.any (m:=false) (zab (i:=3) rfl)) zae))) (by show 3≤sizeLine;decide))) (by have z:=Wd.BwI.lt (by assumption) hp (by assumption);apply zau;simp;omega))) (zaD (.eq (.eq (.eq (.eq (.eq .nil))))))))) (λh191=>(zdq (b:=(decide ((0:Int)<x187.2))) (λbb=>([⇑[dL (List.map dS P0)],⇑[dL (List.map dI P1)],.ow true (List.map dS (bif bb then (s186++[("+" :Str),((toString x187.2:String):Str),x187.1]) else s186)),⇑[dS x187.1],⇑[dI x187.2]]:L2.Ctx)) (zap (zaY (x:=x187.2) (y:=(0:Int)) (Ev.any (m:=false) (zab (i:=4) rfl)) zaL)) (λh192=>(zcX (i:=2) rfl (zdr (m:=true) (EvO.anyS (m:=true) (zdB (f:=dS) (xs:=s186) (ys:=[("+" :Str),((toString x187.2:String):Str),x187.1]) (zab (i:=2) rfl) (EvO.ev (zcH (zac zaL (zac (zge (i:=x187.2) (Ev.any (m:=false) (zab (i:=4) rfl)) (by have z:=(hp.mem (by assumption)).2;exact Wd.log_lt (by omega))) (zac (Ev.any (m:=false) (zab (i:=3) rfl)) zae))) (by show 3≤sizeLine;decide))) (by have z:=Wd.BwI.lt (by assumption) hp (by assumption);apply zau;simp;omega))) (zaD (.eq (.eq (.eq (.eq (.eq .nil))))))))) (λh192=>(zaD (.eq (.eq (.eq (.eq (.eq .nil))))))) (zaD (.eq (.eq (.eq (.eq (.eq .nil)))))))) (zek (x:=(bif (decide (x187.2<(0:Int))) then (s186++[("-" :Str),((toString ((0:Int)-x187.2):String):Str),x187.1]) else (bif (decide ((0:Int)<x187.2)) then (s186++[("+" :Str),((toString x187.2:String):Str),x187.1]) else s186))) (λv193=>([⇑[dL (List.map dS P0)],⇑[dL (List.map dI P1)],.ow true (List.map dS v193),⇑[dS x187.1],⇑[dI x187.2]]:L2.Ctx)) (λz=>Oc.nx ((λ(s186:(List Str))=>([⇑[dL (List.map dS P0)],⇑[dL (List.map dI P1)],.ow true (List.map dS s186),.no,.no]:L2.Ctx)) z)) (λv193 hv193=>(zaD (.eq (.eq (.eq (.no (.no .nil)))))))))⟩) (λr194 hr194 hI=>(zb9 (b:=(decide (r194=[]))) (λ(r:Str)=>Oc.rt true (dS r)) (EvT.borrowO (i:=2) rfl (zap (zmI (n:=0) (neg:=false) (xs:=r194) (ys:=[]) EqD.str (Ev.old (Ev.weak (K:=K) (zab (i:=2) rfl))) (Ev.old (Ev.weak (K:=K) (EvO.ev (zbM (m:=true) zae))))))) (λh195=>(zaH (zan (zaK zaL)))) (λh195=>(zak (zdq (b:=(decide ((ixD r194 (0:Int))=("+" :Str)))) (λbb=>([⇑[dL (List.map dS P0)],⇑[dL (List.map dI P1)],.ow true (List.map dS (bif bb then (r194.tail) else r194)),.no,.no]:L2.Ctx)) (zap (zdp (x:=(ixD r194 (0:Int))) (y:=("+" :Str)) (Ev.any (m:=true) (zfI (f:=dS) (xs:=r194) rfl zaL ↥(Wd.ix_ne (of_decide_eq_false (by assumption))))) zaL)) (λh196=>(zo0 (K:=K) (f:=dS) (xs:=r194) rfl ↥(List.length_pos_iff.mpr (of_decide_eq_false (by assumption))) (zaD (.eq (.eq (.eq (.eq (.eq .nil)))))))) (λh196=>(zaD (.eq (.eq (.eq (.eq (.eq .nil))))))) (zek (x:=(bif (decide ((ixD r194 (0:Int))=("+" :Str))) then (r194.tail) else r194)) (λv197=>([⇑[dL (List.map dS P0)],⇑[dL (List.map dI P1)],.ow true (List.map dS v197),.no,.no]:L2.Ctx)) (λ(r:Str)=>Oc.rt true (dS r)) (λv197 hv197=>(zcX (i:=2) rfl (zan (zaK (zj6 (K:=K) (x:=(" " :Str)) (ys:=v197) zaL (Ev.old (Ev.weak (K:=K) (zab (i:=2) rfl))) ↥(Wd.BwI.joinL (by assumption) hp (by assumption)))))))))))))))
noncomputable def wds (ns:List Str) (xs:Ji):List Str:=(Wd.tmL ns xs).flatMap Wd.Tm.ws
theorem zjn (ns:List Str) (xs:Ji):wds ns xs=[]∨∃a b c r,wds ns xs=a::b::c::r:=by
 unfold wds
 cases e:Wd.tmL ns xs with
  |nil=>left;rfl
  |cons t ts=>
   right
   rw [List.flatMap_cons]
   have ht:t∈Wd.tmL ns xs:=by rw [e];exact List.mem_cons_self
   unfold Wd.tmL at ht
   obtain ⟨p,_,rfl⟩:=List.mem_map.mp ht
   exact ⟨_,_,_,_,rfl⟩
noncomputable def boF (ns:List Str) (s:Ji) (x:Int×Str):Ji:=zeD s ((ns.idxOf x.2:Nat):Int) (ixD s ((ns.idxOf x.2:Nat):Int)+x.1)
theorem zso {a z:Ji} {y:Int}:ixD (a++y::z) ((a.length:Nat):Int)=y:=by
 unfold ixD atI ixN
 rw [if_pos (by omega),if_pos (by simp;omega)]
 show ((a++y::z)[(((a.length:Nat):Int)).toNat]?).getD default=y
 rw [Int.toNat_natCast,List.getElem?_append_right (Nat.le_refl _)];
 simp
theorem zrm {a z:Ji} {y x:Int}:zeD (a++y::z) ((a.length:Nat):Int) x=a++x::z:=by
 unfold zeD ixN
 rw [if_pos (by omega),if_pos (by simp;omega)]
 show (a++y::z).set (((a.length:Nat):Int)).toNat x=a++x::z
 rw [Int.toNat_natCast,List.set_append_right _ _ (Nat.le_refl _)];
 simp
theorem zmG:∀(B A:List Str) (a b:Ji),A.length=a.length->B.length=b.length->(A++B).Nodup→(((List.zip B b).filter (λp=> !decide (p.2=0))).map (λp=>(p.2,p.1))).foldl (boF (A++B)) (a++List.replicate b.length 0)=a++b
 | [],A,a,b,_,h2,_=>by
  have:b=[]:=List.length_eq_zero_iff.mp h2.symm
  subst this;
  rfl
 | n :: B,A,a,[],_,h2,_=>by cases h2
 | n :: B,A,a,x :: b,h1,h2,hn=>by
  have nA:n∉A:=λz=>(List.nodup_append.mp hn).2.2 n z n List.mem_cons_self rfl
  have ih:=zmG B (A++[n]) (a++[x]) b (by simp [h1]) (by simpa using h2) (by simpa using hn)
  have e1:A++[n]++B=A++n::B:=by simp
  rw [e1] at ih
  rw [List.zip_cons_cons]
  by_cases z:x=0
  ·
   subst z
   rw [List.filter_cons_of_neg (by simp)]
   have e2:a++List.replicate ((0:Int)::b).length 0=a++[(0:Int)]++List.replicate b.length 0:=by rw [List.length_cons,List.replicate_succ];simp
   rw [e2,ih];
   simp
  ·
   rw [List.filter_cons_of_pos (by simp [z]),List.map_cons,List.foldl_cons]
   have e2:boF (A++n::B) (a++List.replicate (x::b).length 0) (x,n)=a++[x]++List.replicate b.length 0:=by
    unfold boF
    have:(A++n::B).idxOf n=A.length:=by rw [List.idxOf_append,if_neg nA];simp
    show zeD _ (((A++n::B).idxOf n:Nat):Int) (ixD _ (((A++n::B).idxOf n:Nat):Int)+x)=_
    rw [this,h1,List.length_cons,List.replicate_succ,zso,zrm]
    simp
   rw [e2,ih];
   simp
theorem zng {n:Nat}:zd9 ((n:Nat):Int) [(0:Int)]=List.replicate n 0:=by
 unfold zd9
 rw [Int.toNat_natCast]
 simp
theorem ztW {ns:List Str} {xs:Ji} (hn:ns.Nodup) (hl:xs.length=ns.length):zaq ns (((List.zip ns xs).filter (λp=> !decide (p.2=0))).map (λp=>(p.2,p.1)))=xs:=by
 have e:∀sd,zaq ns sd=sd.foldl (boF ns) (zd9 ((ns.length:Nat):Int) [(0:Int)]):=λ_=>rfl
 rw [e,zng]
 have:=zmG ns [] [] xs rfl hl.symm (by simpa using hn)
 rw [hl] at this
 simpa using this
theorem ztp:¬(("+" :Str)=("-" :Str)):=by decide+kernel
theorem zne {x:Str} (h:Wd.Nm x):x∉[("+" :Str),("-" :Str)]∧x≠("=" :Str):=by
 have k:∀y:Str,(∃c∈y.cps.toList,c<97)->x≠y:=λy ⟨c,hc,q⟩ e=>by have:=h.1 c (e ▸ hc);omega
 have e1:x≠("+" :Str):=k _ ⟨43,by decide+kernel,by decide⟩
 have e2:x≠("-" :Str):=k _ ⟨45,by decide+kernel,by decide⟩
 exact ⟨by simp [e1,e2],k _ ⟨61,by decide+kernel,by decide⟩⟩
theorem znp {ns:List Str} {xs:Ji} {t:Wd.Tm} (ht:t∈Wd.tmL ns xs):∃p,p∈List.zip ns xs∧p.2≠0∧t=Wd.tmOf p:=by
 unfold Wd.tmL at ht
 obtain ⟨p,hp,rfl⟩:=List.mem_map.mp ht
 obtain ⟨h1,h2⟩:=List.mem_filter.mp hp
 exact ⟨p,h1,by simpa using h2,rfl⟩
theorem zs5 {ns:List Str} {xs:Ji} (h:Wd.NmsP ns) (hx:XsP ns.length xs) {t:Wd.Tm} (ht:t∈Wd.tmL ns xs):t.Ok∧∀k,t.ct=some k->0<k∧k<10 ^ 12:=by
 obtain ⟨p,h1,h2,rfl⟩:=znp ht
 have m1:=h.1 p.1 (List.of_mem_zip (show (p.1,p.2)∈_ from h1)).1
 have m2:=hx.2 p.2 (List.of_mem_zip (show (p.1,p.2)∈_ from h1)).2
 refine ⟨⟨?_,(zne m1).1,λk _=>Wd.num_nsg k⟩,λk e=> ?_⟩
 ·
  show (bif decide (p.2<0) then ("-" :Str) else ("+" :Str))∈_
  cases decide (p.2<0)<;>simp
 ·
  have:p.2.natAbs=k:=Option.some.inj e
  omega
theorem zsu {p:Str×Int} (h2:p.2≠0) (h3:p.2.natAbs<10 ^ 12):zbO (Wd.tmOf p).ws=(p.2,p.1):=by
 rw [zut λk e=>by have:p.2.natAbs=k:=Option.some.inj e;omega]
 show ((bif decide ((bif decide (p.2<0) then ("-" :Str) else ("+" :Str))=("-" :Str)) then-1 else 1)*((p.2.natAbs:Nat):Int),p.1)=_
 by_cases z:p.2<0
 ·
  rw [decide_eq_true z]
  show ((bif decide (("-" :Str)=("-" :Str)) then (-1:Int) else 1)*((p.2.natAbs:Nat):Int),p.1)=_
  rw [decide_eq_true rfl]
  show ((-1:Int)*((p.2.natAbs:Nat):Int),p.1)=(p.2,p.1)
  congr 1;
  omega
 ·
  rw [decide_eq_false z]
  show ((bif decide (("+" :Str)=("-" :Str)) then (-1:Int) else 1)*((p.2.natAbs:Nat):Int),p.1)=_
  rw [decide_eq_false ztp]
  show ((1:Int)*((p.2.natAbs:Nat):Int),p.1)=(p.2,p.1)
  congr 1;
  omega
noncomputable def zgT (ns:List Str) (xs:Ji):List Str:=bif decide (wds ns xs=[]) then [("nothing" :Str)] else Wd.drp (wds ns xs)
theorem zqR {ns:List Str} {xs:Ji} (h0:wds ns xs≠[]):Wd.sgn (Wd.drp (wds ns xs))=wds ns xs∧Wd.drp (wds ns xs)≠[("nothing" :Str)]:=by
 have ⟨t,ts,e⟩:∃t ts,Wd.tmL ns xs=t::ts:=by
  cases e:Wd.tmL ns xs with
   |nil=>exact absurd (by unfold wds;rw [e];rfl) h0
   |cons t ts=>exact ⟨t,ts,rfl⟩
 obtain ⟨p,_,_,rfl⟩:=znp (ns:=ns) (xs:=xs) (t:=t) (by rw [e];exact List.mem_cons_self)
 have ew:wds ns xs=(bif decide (p.2<0) then ("-" :Str) else ("+" :Str))::Wd.num p.2.natAbs::p.1::ts.flatMap Wd.Tm.ws:=by unfold wds;rw [e];rfl
 have hn:Wd.num p.2.natAbs≠("-" :Str):=λz=>Wd.num_nsg p.2.natAbs (by rw [z];simp)
 rw [ew]
 cases decide (p.2<0) with
  |true=>
   have d:Wd.drp (("-" :Str)::Wd.num p.2.natAbs::p.1::ts.flatMap Wd.Tm.ws)=("-" :Str)::Wd.num p.2.natAbs::p.1::ts.flatMap Wd.Tm.ws:=by
    unfold Wd.drp
    rw [decide_eq_false (by intro q;exact ztp (Option.some.inj q).symm)];
    rfl
   show Wd.sgn (Wd.drp (("-" :Str)::_))=("-" :Str)::_∧Wd.drp (("-" :Str)::_)≠_
   rw [d]
   refine ⟨?_,by simp⟩
   unfold Wd.sgn
   rw [Wd.cut1]
   show (bif decide ([("-" :Str)]=[("-" :Str)]) then _ else _)=_
   rw [decide_eq_true rfl];
   rfl
  |false=>
   have d:Wd.drp (("+" :Str)::Wd.num p.2.natAbs::p.1::ts.flatMap Wd.Tm.ws)=Wd.num p.2.natAbs::p.1::ts.flatMap Wd.Tm.ws:=by
    unfold Wd.drp
    show (bif decide (some ("+" :Str)=some ("+" :Str)) then _ else _)=_
    rw [decide_eq_true rfl];
    rfl
   show Wd.sgn (Wd.drp (("+" :Str)::_))=("+" :Str)::_∧Wd.drp (("+" :Str)::_)≠_
   rw [d]
   refine ⟨?_,by simp⟩
   unfold Wd.sgn
   rw [Wd.cut1,decide_eq_false (by simp [hn])];
   rfl
theorem znM {ns:List Str} {xs:Ji} {w:Str} (hw:w∈wds ns xs):w=("+" :Str)∨w=("-" :Str)∨∃p∈List.zip ns xs,p.2≠0∧(w=p.1∨w=Wd.num p.2.natAbs):=by
 unfold wds at hw
 obtain ⟨t,ht,h⟩:=List.mem_flatMap.mp hw
 obtain ⟨p,h1,h2,rfl⟩:=znp ht
 have h:w=(bif decide (p.2<0) then ("-" :Str) else ("+" :Str))∨w=Wd.num p.2.natAbs∨w=p.1:=by
  have h:w∈[(bif decide (p.2<0) then ("-" :Str) else ("+" :Str)),Wd.num p.2.natAbs,p.1]:=h
  simpa using h
 rcases h with h|h|h
 ·
  cases z:decide (p.2<0) with
   |true=>rw [z] at h;exact .inr (.inl h)
   |false=>rw [z] at h;exact .inl h
 ·exact .inr (.inr ⟨p,h1,h2,.inr h⟩)
 ·exact .inr (.inr ⟨p,h1,h2,.inl h⟩)
theorem ziR {ws:List Str}:(Wd.drp ws).length≤ws.length∧∀w∈Wd.drp ws,w∈ws:=by
 unfold Wd.drp
 cases decide (ws.head? =some ("+" :Str)) with
  |true=>exact ⟨by show ws.tail.length≤_;simp,λw hw=>List.mem_of_mem_tail hw⟩
  |false=>exact ⟨Nat.le_refl _,λw hw=>hw⟩
theorem zod {ns:List Str} {xs:Ji} (h:ns.length≤8):(wds ns xs).length≤24:=by
 have k:∀ts:List Wd.Tm,(ts.flatMap Wd.Tm.ws).length≤3*ts.length:=λts=>by
  induction ts with
   |nil=>simp
   |cons t ts ih=>
    rw [List.flatMap_cons,List.length_append,List.length_cons]
    have:t.ws.length≤3:=by unfold Wd.Tm.ws;cases t.ct<;>simp
    omega
 have h1:=k (Wd.tmL ns xs)
 have h2:(Wd.tmL ns xs).length≤(List.zip ns xs).length:=by unfold Wd.tmL;rw [List.length_map];exact List.length_filter_le _ _
 rw [List.length_zip] at h2
 unfold wds
 omega
theorem zra (k:Nat):Wd.num k≠("=" :Str):=λz=>by
 have:=Wd.num_all k 61 (by show 61∈(Wd.num k).cps.toList;rw [z];decide+kernel)
 omega
theorem zsn {ns:List Str} {xs:Ji} (h:Wd.NmsP ns) (hx:XsP ns.length xs):SdP (zgT ns xs)∧zay (zgT ns xs)=((List.zip ns xs).filter (λp=> !decide (p.2=0))).map (λp=>(p.2,p.1)):=by
 unfold zgT
 by_cases z:wds ns xs=[]
 ·
  rw [decide_eq_true z]
  refine ⟨⟨by show ("=" :Str)∉[("nothing" :Str)];decide+kernel,by show 1≤1000;decide,λq=>absurd rfl q⟩,?_⟩
  have e:(List.zip ns xs).filter (λp=> !decide (p.2=0))=[]:=by
   cases e:(List.zip ns xs).filter (λp=> !decide (p.2=0)) with
    |nil=>rfl
    |cons p ps=>exact absurd z (by unfold wds Wd.tmL;rw [e];simp [Wd.Tm.ws,Wd.tmOf])
  rw [e]
  show zay [("nothing" :Str)]=[]
  unfold zay
  rw [decide_eq_true rfl];
  rfl
 ·
  rw [decide_eq_false z]
  obtain ⟨s1,s2⟩:=zqR z
  have f:(wds ns xs).foldl Wd.stepT []=(Wd.tmL ns xs).map Wd.Tm.ws:=by
   unfold wds
   rw [Wd.fold_tms λt ht=>(zs5 h hx ht).1];
   rfl
  refine ⟨⟨λq=> ?_,?_,λ_ t ht=> ?_⟩,?_⟩
  ·
   rcases znM (ziR.2 _ q) with e|e|⟨p,hp,_,e|e⟩
   ·exact absurd e (by decide+kernel)
   ·exact absurd e (by decide+kernel)
   ·exact (zne (h.1 p.1 (List.of_mem_zip (show (p.1,p.2)∈_ from hp)).1)).2 e.symm
   ·exact zra _ e.symm
  ·
   have:=ziR (ws:=wds ns xs)
   have:=zod (ns:=ns) (xs:=xs) h.2.2
   show (Wd.drp (wds ns xs)).length≤1000
   omega
  ·
   have ht:t∈(Wd.sgn (Wd.drp (wds ns xs))).foldl Wd.stepT []:=ht
   rw [s1,f] at ht
   obtain ⟨u,hu,rfl⟩:=List.mem_map.mp ht
   exact ⟨u,rfl,(zs5 h hx hu).2⟩
  ·
   show zay (Wd.drp (wds ns xs))=_
   rw [zuy s2,s1,f]
   unfold Wd.tmL
   rw [List.map_map,List.map_map]
   refine List.map_congr_left λp hp=> ?_
   obtain ⟨h1,h2⟩:=List.mem_filter.mp hp
   exact zsu (by simpa using h2) (hx.2 p.2 (List.of_mem_zip (show (p.1,p.2)∈_ from h1)).2)
theorem ztx {x:Str} (h:Wd.Nm x):Wd.Fr 32 x∧1≤x.length∧x.length≤12:=⟨λz=>by have:=h.1 32 z;omega,h.2.1,h.2.2.1⟩
theorem ztd {k:Nat} (h0:0<k) (h:k<10^12):Wd.Fr 32 (Wd.num k)∧1≤(Wd.num k).length∧(Wd.num k).length≤12:=⟨λz=>by have:=Wd.num_all k 32 z;omega,(Wd.num_wrd h h0).2.1,(Wd.num_wrd h h0).2.2⟩
theorem znu:(Wd.Fr 32 ("+" :Str)∧1≤(("+" :Str)).length∧(("+" :Str)).length≤12)∧(Wd.Fr 32 ("-" :Str)∧1≤(("-" :Str)).length∧(("-" :Str)).length≤12)∧(Wd.Fr 32 ("nothing" :Str)∧1≤(("nothing" :Str)).length∧(("nothing" :Str)).length≤12)∧(Wd.Fr 32 ("home" :Str)∧1≤(("home" :Str)).length∧(("home" :Str)).length≤12)∧(Wd.Fr 32 ("turn" :Str)∧1≤(("turn" :Str)).length∧(("turn" :Str)).length≤12)∧(Wd.Fr 32 ("wares" :Str)∧1≤(("wares" :Str)).length∧(("wares" :Str)).length≤12):=by unfold Wd.Fr;decide+kernel
theorem zk7 {ns:List Str} {xs:Ji} (h:Wd.NmsP ns) (hx:XsP ns.length xs) {w:Str} (hw:w∈zgT ns xs):Wd.Fr 32 w∧1≤w.length∧w.length≤12:=by
 unfold zgT at hw
 by_cases z:wds ns xs=[]
 ·
  rw [decide_eq_true z] at hw
  have:w=("nothing" :Str):=List.mem_singleton.mp hw
  rw [this];
  exact znu.2.2.1
 ·
  rw [decide_eq_false z] at hw
  rcases znM (ziR.2 _ hw) with e|e|⟨p,hp,h0,e|e⟩
  ·rw [e];exact znu.1
  ·rw [e];exact znu.2.1
  ·rw [e];exact ztx (h.1 p.1 (List.of_mem_zip (show (p.1,p.2)∈_ from hp)).1)
  ·rw [e];exact ztd (by omega) (hx.2 p.2 (List.of_mem_zip (show (p.1,p.2)∈_ from hp)).2)
theorem zly {ns:List Str} {xs:Ji} (h:ns.length≤8):zgT ns xs≠[]∧(zgT ns xs).length≤24:=by
 unfold zgT
 rcases zjn ns xs with q|⟨a,b,c,r,q⟩
 ·
  rw [decide_eq_true q]
  exact ⟨by show [("nothing" :Str)]≠[];simp,by show 1≤24;decide⟩
 ·
  rw [decide_eq_false (show¬wds ns xs=[] by rw [q];simp)]
  refine ⟨?_,Nat.le_trans ziR.1 (zod h)⟩
  show Wd.drp (wds ns xs)≠[]
  rw [q]
  unfold Wd.drp
  cases decide ((a::b::c::r).head? =some ("+" :Str)) with
   |true=>show b::c::r≠[];simp
   |false=>show a::b::c::r≠[];simp
theorem zdC {k:Str} {ws:List Str} (h:ws≠[]):Txt.join (" " :Str) (k::ws)=k++(" " :Str)++Txt.join (" " :Str) ws:=by
 show Builtin.Str.glued (" " :Str) (k::ws)=k++(" " :Str)++Builtin.Str.glued (" " :Str) ws
 rw [StrLaws.glued_eq_join,StrLaws.glued_eq_join]
 cases ws with
  |nil=>exact absurd rfl h
  |cons w r=>rfl
theorem zqI {k x:Str} {ws:List Str} (h:ws≠[]) (hl:ws.length≤100) (hk:Wd.Fr 32 k∧1≤k.length∧k.length≤12) (hw:∀w∈ws,Wd.Fr 32 w∧1≤w.length∧w.length≤12) (e:x=k++(" " :Str)++Txt.join (" " :Str) ws):Wd.LnP x (k::ws):=by
 have e2:x=Txt.join (" " :Str) (k::ws):=by rw [zdC h];exact e
 have hw':∀w∈k::ws,Wd.Fr 32 w∧1≤w.length∧w.length≤12:=λw q=>by
  rcases List.mem_cons.mp q with rfl|q
  ·exact hk
  ·exact hw w q
 refine ⟨e2,by simp,λw q=>⟨(hw' w q).1,(hw' w q).2.1⟩,?_⟩
 rw [e2]
 exact Nat.le_trans (Wd.join_len (n:=101) (B:=12) (by simp;omega) λw q=>(hw' w q).2.2) (by decide)
theorem zsp:(("home " :Str)=("home" :Str)++(" " :Str))∧(("turn " :Str)=("turn" :Str)++(" " :Str))∧(("wares " :Str)=("wares" :Str)++(" " :Str)):=by decide+kernel
theorem zrl {ns:List Str} {d:DeskD} (h:Wd.NmsP ns) (h0:ns≠[]):TwP (("wares " :Str)++Txt.join (" " :Str) ns)∧zas d (("wares " :Str)++Txt.join (" " :Str) ns)=((("wares " :Str)++((toString ((ns.length:Nat):Int):String):Str)),⟨ns,some ⟨((ns.length:Nat):Int),[]⟩⟩):=by
 have L:Wd.LnP (("wares " :Str)++Txt.join (" " :Str) ns) (("wares" :Str)::ns):=zqI h0 (by have:=h.2.2;omega) znu.2.2.2.2.2 (λw hw=>ztx (h.1 w hw)) (by rw [zsp.2.2])
 have N:Wd.NsP ns:=⟨h0,h.2.2,λw hw=>by
  obtain ⟨a,b⟩:=zne (h.1 w hw)
  simp at a ⊢
  exact ⟨a.1,a.2,b⟩⟩
 refine ⟨⟨ns,L,N,h,h0⟩,?_⟩
 unfold zas
 rw [zp2 L]
 show za3 d ns=_
 unfold za3
 have nw:∀k:Int,zaG ("wares" :Str) [k]=("wares " :Str)++((toString k:String):Str):=λk=>by
  show Txt.join (" " :Str) [("wares" :Str),((toString k:String):Str)]=_
  rw [zdC (by simp),zsp.2.2]
  show _=("wares" :Str)++(" " :Str)++((toString k:String):Str)
  congr 1
 rw [zlO,nw]
theorem zkI {s:List Str} {y:Str} {i:Nat} (h:s.length≤i):(s++[y]).length≤i+1:=by simp;omega
theorem zq1 {d:Int}:InB (("abcdefghijklmnopqrstuvwxyz" :Str)).length (d%(26:Int)):=by
 have e:(("abcdefghijklmnopqrstuvwxyz" :Str)).length=26:=by decide+kernel
 rw [e];
 unfold InB;
 omega
theorem zt3 {s L:Str} {d:Int} {i:Nat} (h:s.length≤i):(s++ixS L d).length≤i+1:=by
 rw [Wd.app_len]
 have:(ixS L d).length=1:=rfl
 omega
theorem zhe {n:Nat}:(zcY 0 n).length=n:=by simp [zcY]
theorem zuu {z d:Int} {r:Str} (hZ:z=(1:Int)+(d%(12:Int))) (h:r.length≤(zcY 0 z.toNat).length):r.length≤12:=by rw [zhe] at h;omega
theorem zaZ {L:Str} {f n:Int} (h:0≤n):(Txt.mul (ixS L f) n).length=n.toNat:=by rw [Wd.cs_len,Wd.cs_mul rfl h,List.length_replicate]
theorem zuk {s L:Str} {b:Bool} {x:Int} {i:Nat} (h:s.length≤12) (hx:i<(10:Int).toNat∧x=0+(i:Int)):(bif b then (Txt.mul (ixS L x) ((1:Int)+x)) else s).length≤12:=by
 have:i<10:=hx.1
 cases b with
  |true=>
   show (Txt.mul (ixS L x) ((1:Int)+x)).length≤12
   rw [zaZ (by omega)];
   omega
  |false=>exact h
theorem zud {z d e:Int} {s L:Str} {i:Nat} {x:Int} (hZ:z=(1:Int)+(d%(12:Int))) (h:s.length≤i) (hx:i<z.toNat∧x=0+(i:Int)):s.length+(ixS L e).length≤sizeLine:=by
 have:(ixS L e).length=1:=rfl
 exact zau (by omega)
theorem zsc {x:Int} {i:Nat} (hx:i<(10:Int).toNat∧x=0+(i:Int)):InB (("abcdefghijklmnopqrstuvwxyz" :Str)).length x:=by
 have:i<10:=hx.1
 have e:(("abcdefghijklmnopqrstuvwxyz" :Str)).length=26:=by decide+kernel
 rw [e];
 unfold InB;
 omega
theorem zpm {L:Str} {f n:Int} (h:0≤n) (h9:n≤100):MulOk (ixS L f) n:=Wd.mul_ok (c:=_) rfl h h9
theorem zsa {L:Str} {x:Int} {i:Nat} (hx:i<(10:Int).toNat∧x=0+(i:Int)):MulOk (ixS L x) ((1:Int)+x):=by
 have:i<10:=hx.1
 exact zpm (by omega) (by omega)
theorem zrA {n x:Int} {s:List Str} {i:Nat} (hp:0≤n∧n≤8) (h:s.length≤i) (hx:i<n.toNat∧x=0+(i:Int)):s.length<sizeLine :=
 Nat.lt_of_le_of_lt (show _≤10000 by omega) (by decide)
theorem zhB {x:Str}:Txt.join (" " :Str) [x]=x:=by
 show Builtin.Str.glued (" " :Str) [x]=x
 rw [StrLaws.glued_eq_join];
 rfl
theorem zi3 (a b c:Str):a++b++c=a++(b++c):=Wd.cs_ext (by simp only [Wd.cs_app,List.append_assoc])
theorem zkZ {ys:List Str} (hy:ys≠[]):∀ {xs:List Str},xs≠[]->Txt.join (" " :Str) (xs++ys)=Txt.join (" " :Str) xs++(" " :Str)++Txt.join (" " :Str) ys
 | [],h=>absurd rfl h
 | [x],_=>by
  show Txt.join (" " :Str) (x::ys)=_
  rw [zdC hy,zhB]
 | x :: z :: r,_=>by
  have ih:=zkZ hy (xs:=z::r) (by simp)
  show Txt.join (" " :Str) (x::(z::r++ys))=_
  rw [zdC (by simp),ih,zdC (k:=x) (ws:=z::r) (by simp)]
  simp only [zi3]
theorem zeY (ns:List Str) (xs:Ji):zah ns xs=Txt.join (" " :Str) (zgT ns xs):=by
 have e:zah ns xs=Let ((List.zip ns xs).foldl Wd.lsF []) (λ(r:List Str)=>(bif (decide (r=[])) then ("nothing" :Str) else (Let (bif (decide ((ixD r (0:Int))=("+" :Str))) then (r.tail) else r) (λ(w:List Str)=>Txt.join (" " :Str) w)))):=rfl
 rw [e,Wd.ls_fold,List.nil_append]
 show (bif (decide (wds ns xs=[])) then ("nothing" :Str) else (Txt.join (" " :Str) (bif (decide ((ixD (wds ns xs) (0:Int))=("+" :Str))) then ((wds ns xs).tail) else wds ns xs)))=_
 unfold zgT
 rcases zjn ns xs with q|⟨a,b,c,r,q⟩
 ·
  rw [q]
  show ("nothing" :Str)=Txt.join (" " :Str) [("nothing" :Str)]
  exact zhB.symm
 ·
  rw [q]
  unfold Wd.drp
  rw [Wd.ix0,decide_eq_false (show¬a::b::c::r=[] by simp)]
  have:decide ((a::b::c::r).head? =some ("+" :Str))=decide (a=("+" :Str)):=by
   by_cases z:a=("+" :Str)
   ·rw [decide_eq_true z,z];simp
   ·rw [decide_eq_false z];exact decide_eq_false (by simp [z])
  rw [this];
  rfl
theorem zim {ns:List Str} {xs:Ji} (h:Wd.NmsP ns) (hx:XsP ns.length xs):(zah ns xs).length≤1000:=by
 rw [zeY]
 exact Nat.le_trans (Wd.join_len (n:=24) (B:=12) (zly h.2.2).2 λw hw=>(zk7 h hx hw).2.2) (by decide)
theorem zpr:(Wd.Fr 32 ("swap" :Str)∧1≤(("swap" :Str)).length∧(("swap" :Str)).length≤12)∧(Wd.Fr 32 ("ask" :Str)∧1≤(("ask" :Str)).length∧(("ask" :Str)).length≤12)∧(Wd.Fr 32 ("=" :Str)∧1≤(("=" :Str)).length∧(("=" :Str)).length≤12):=by unfold Wd.Fr;decide+kernel
theorem zqy {ns:List Str} {xs:Ji} {l:Str} (h:Wd.NmsP ns) (hx:XsP ns.length xs) (e:l=("swap nothing = " :Str)++zah ns xs):Wd.LnP l (("swap" :Str)::([("nothing" :Str)]++("=" :Str)::zgT ns xs)):=by
 obtain ⟨d1,d2⟩:=zly (ns:=ns) (xs:=xs) h.2.2
 refine zqI (by simp) (by simp;omega) zpr.1 (λw hw=> ?_) ?_
 ·
  rcases List.mem_append.mp hw with q|q
  ·rw [List.mem_singleton.mp q];exact znu.2.2.1
  ·
   rcases List.mem_cons.mp q with q|q
   ·rw [q];exact zpr.2.2
   ·exact zk7 h hx q
 ·
  show l=("swap" :Str)++(" " :Str)++Txt.join (" " :Str) (("nothing" :Str)::("=" :Str)::zgT ns xs)
  rw [zdC (k:=("nothing" :Str)) (by simp),zdC (k:=("=" :Str)) d1,e,zeY]
  have:("swap nothing = " :Str)=("swap" :Str)++(" " :Str)++(("nothing" :Str)++(" " :Str)++(("=" :Str)++(" " :Str))):=by decide+kernel
  rw [this];
  simp only [zi3]
theorem zs8 {ns:List Str} {xs ys:Ji} {l:Str} (h:Wd.NmsP ns) (hx:XsP ns.length xs) (hy:XsP ns.length ys) (e:l=((("ask " :Str)++zah ns xs)++(" = " :Str))++zah ns ys):Wd.LnP l (("ask" :Str)::(zgT ns xs++("=" :Str)::zgT ns ys)):=by
 obtain ⟨d1,d2⟩:=zly (ns:=ns) (xs:=xs) h.2.2
 obtain ⟨d3,d4⟩:=zly (ns:=ns) (xs:=ys) h.2.2
 refine zqI (by simp) (by simp;omega) zpr.2.1 (λw hw=> ?_) ?_
 ·
  rcases List.mem_append.mp hw with q|q
  ·exact zk7 h hx q
  ·
   rcases List.mem_cons.mp q with q|q
   ·rw [q];exact zpr.2.2
   ·exact zk7 h hy q
 ·
  rw [zkZ (by simp) d1,zdC (k:=("=" :Str)) d3,e,zeY,zeY]
  have e1:("ask " :Str)=("ask" :Str)++(" " :Str):=by decide+kernel
  have e2:(" = " :Str)=(" " :Str)++(("=" :Str)++(" " :Str)):=by decide+kernel
  rw [e1,e2];
  simp only [zi3]
theorem ztY:SdP [("nothing" :Str)]∧zay [("nothing" :Str)]=[]:=by
 refine ⟨⟨by decide+kernel,by simp,λq=>absurd rfl q⟩,?_⟩
 unfold zay
 rw [decide_eq_true rfl];
 rfl
theorem zr8 {ns:List Str}:zaq ns []=List.replicate ns.length 0:=by
 show zd9 ((ns.length:Nat):Int) [(0:Int)]=_
 exact zng
theorem zmK {ns:List Str} {xs:Ji} (h:Wd.NmsP ns) (hx:XsP ns.length xs):SdP (zgT ns xs)∧BoP ns (zay (zgT ns xs))∧zaq ns (zay (zgT ns xs))=xs:=by
 obtain ⟨s1,s2⟩:=zsn h hx
 refine ⟨s1,⟨h.2.2,λp hp=> ?_⟩,by rw [s2];exact ztW h.2.1 hx.1⟩
 rw [s2] at hp
 obtain ⟨q,hq,rfl⟩:=List.mem_map.mp hp
 exact (List.of_mem_zip (show (q.1,q.2)∈_ from (List.mem_filter.mp hq).1)).1
theorem zsU {n:Nat} {x:Ji} (h:x.length=n):za5 x (List.replicate n 0)=x:=by
 rw [show za5 x (List.replicate n 0)=Lat.sub x (List.replicate n 0) from rfl]
 refine Lat.zho (by rw [Lat.zg9 (by simp [h])]) λi=> ?_
 rw [Lat.zeN (by simp [h])]
 have:Lat.vec (List.replicate n (0:Int)) i=0:=by
  show (List.replicate n (0:Int)).getD i 0=0
  rw [List.getD_eq_getElem?_getD,List.getElem?_replicate]
  split<;>rfl
 omega
def Dq (d:DeskD) (ns:List Str) (ss:Jq):Prop:=d.names=ns∧d.book=some ⟨((ns.length:Nat):Int),ss⟩∧ss.length≤12∧∀r∈ss,r.length=ns.length
theorem ztV {d:DeskD} {ns:List Str} {ss:Jq} {x:Ji} {l:Str} (h:Wd.NmsP ns∧ns≠[]) (hd:Dq d ns ss) (hl:ss.length≤11) (hx:XsP ns.length x) (e:l=("swap nothing = " :Str)++zah ns x) :
  TsP d l∧zal d l=(("swap " :Str)++((toString ((ss.length:Nat):Int):String):Str),⟨ns,some ⟨((ns.length:Nat):Int),ss++[x]⟩⟩):=by
   obtain ⟨h1,h2,h3,h4⟩:=hd
   have L:=zqy h.1 hx e
   obtain ⟨s1,s2⟩:=ztY
   obtain ⟨b1,b2,b3⟩:=zmK h.1 hx
   have n1:1≤ns.length:=List.length_pos_iff.mpr h.2
   have n8:=h.1.2.2
   have le:za5 (zaq d.names (zay (zgT ns x))) (zaq d.names (zay [("nothing" :Str)]))=x:=by rw [h1,b3,s2,zr8];exact zsU hx.1
   refine ⟨⟨_,_,L,s1,b1,by rw [h1,s2];exact ⟨n8,λ_ z=>by cases z⟩,by rw [h1];exact b2,rfl,_,_,rfl,?_,?_⟩,?_⟩
   ·
    rw [h1,b3,s2,zr8]
    exact ⟨by rw [hx.1];simp,by rw [hx.1];omega⟩
   ·
    rw [le]
    exact ⟨ns.length,ss,h2,n1,n8,hl,h4,hx.1⟩
   ·
    unfold zal
    rw [zlJ L s1]
    show zbv d (za5 (zaq d.names (zay (zgT ns x))) (zaq d.names (zay [("nothing" :Str)])))=_
    rw [le]
    unfold zbv
    rw [h2,zlO,h1]
    show (zaG ("swap" :Str) [(((ss++[x]).length:Nat):Int)-(1:Int)],_)=_
    have nl:(((ss++[x]).length:Nat):Int)-(1:Int)=((ss.length:Nat):Int):=by rw [List.length_append,List.length_singleton];omega
    rw [nl]
    have nw:zaG ("swap" :Str) [((ss.length:Nat):Int)]=("swap " :Str)++((toString ((ss.length:Nat):Int):String):Str):=by
     show Txt.join (" " :Str) [("swap" :Str),((toString ((ss.length:Nat):Int):String):Str)]=_
     rw [zdC (by simp),zhB]
     have:("swap " :Str)=("swap" :Str)++(" " :Str):=by decide+kernel
     rw [this]
    rw [nw];
    rfl
theorem zsx {d:DeskD} {ns:List Str} {x y:Ji} {l:Str} {b:BookD} (h:Wd.NmsP ns) (h1:d.names=ns) (h2:d.book=some b) (hx:XsP ns.length x) (hy:XsP ns.length y) (hA:AkP b x y) (e:l=((("ask " :Str)++zah ns x)++(" = " :Str))++zah ns y) :
  TaP d l∧zaw d l=zaG ("road" :Str) (gS (zaI b x y)):=by
   have L:=zs8 h hx hy e
   obtain ⟨a1,a2,a3⟩:=zmK h hx
   obtain ⟨b1,b2,b3⟩:=zmK h hy
   refine ⟨⟨_,_,L,a1,b1,by rw [h1];exact a2,by rw [h1];exact b2,rfl,_,_,b,rfl,h2,?_⟩,?_⟩
   ·rw [h1,a3,b3];exact hA
   ·
    unfold zaw
    rw [zlJ L a1]
    show zfB (gS d.book) (zaq d.names (zay (zgT ns x))) (zaq d.names (zay (zgT ns y)))=_
    rw [h1,a3,b3,h2];
    rfl
noncomputable def zbf (P0:Int) (P1:Int):(List Str) :=
 (Let ("abcdefghijklmnopqrstuvwxyz" :Str) (λ(v198:Str)=>(Let (List.foldl (λ(s199:Int×(List Str)) (x200:Int)=>(Let ("" :Str) (λ(v204:Str)=>(Let ((1:Int)+(s199.1%(12:Int))) (λ(v205:Int)=>(Let (s199.1/(12:Int)) (λ(v206:Int)=>(Let (List.foldl (λ(s207:Str×Int) (x208:Int)=>(Let (s207.1++(ixS v198 (s207.2%(26:Int)))) (λ(v212:Str)=>(Let (s207.2/(26:Int)) (λ(v213:Int)=>(v212,v213)))))) (v204,v206) (zcY 0 v205.toNat)) (λ(r214:Str×Int)=>(Let (List.foldl (λ(s215:Str) (x216:Int)=>(Let (bif ((decide (s215∈s199.2))||(decide (s215=("nothing" :Str)))) then (Txt.mul (ixS v198 x216) ((1:Int)+x216)) else s215) (λ(v221:Str)=>v221))) r214.1 (zcY 0 (10:Int).toNat)) (λ(r222:Str)=>(r214.2,(s199.2++[r222]))))))))))))) (P0,[]) (zcY 0 P1.toNat)) (λ(r223:Int×(List Str))=>r223.2))))
def zcS (P0:Int) (P1:Int):Prop:=0≤P1∧P1≤8
def zfm (K:W.Frag) (A:Adr):Sp:=Spv (ι:=Int×Int) (λx=>[dI x.1,dI x.2]) (λx=>zcS x.1 x.2) (λx=> .ow true (List.map dS (zbf x.1 x.2)))
theorem zaW:FnScope ["_law_digits","_law_many","_law_letters","_law_names","_law_k","_law_word","_law_size","_law_place","_law_extra"] ["_law_digits","_law_many"] (zag zev):=⟨rfl,rfl,rfl,by decide+kernel,rfl,by decide+kernel,by decide+kernel⟩
theorem zhN (F:Fun K "_law_spelled" "_law_spelled" zev f fd) (T:Txt K mg A) :FnOk P w K mg base (CXE P w) 1 f fd ["_law_digits","_law_many"] (zfm K A):=by
 refine F.okV zaW (λ_=>rfl) (λcdv Ar outer s H E x hr hp=> ?_)
 obtain ⟨P0,P1⟩:=x
 have hu:=hr.units
 replace hp:zcS P0 P1:=hp
 unfold zcS at hp
 refine ⟨_,(zaa (zax (i:=2) zaW.nd rfl (Or.inl rfl) zaT) (zaa (zax (i:=3) zaW.nd rfl (Or.inl rfl) (zbu zcI)) (zaa (zdo PassesOwn.never rfl (zeW rfl T.range ↑[pv 1]) (zaQ (i:=4) zaW.nd rfl (Or.inl rfl) (Or.inl rfl)) (zaa (zax (i:=5) zaW.nd rfl (Or.inl rfl) zaT) (zaa (zax (i:=6) zaW.nd rfl (Or.inl rfl) (zaE zdn zaj (zaE zdh (pv 0) zaj))) (zaa (zax (i:=0) zaW.nd rfl (Or.inl rfl) (zaE zcB (pv 0) zaj)) (zaa (zdo PassesOwn.never rfl (zeW rfl T.range ↑[pv 6]) (zaQ (i:=7) zaW.nd rfl (Or.inl rfl) (Or.inl rfl)) (zaa (zax (i:=5) zaW.nd rfl (Or.inl rfl) (zaE zaX (pv 5) (zbx zjt (pv 2) (zaE zdh (pv 0) zaj) (λ_ _=>rfl)))) (zaa (zax (i:=0) zaW.nd rfl (Or.inl rfl) (zaE zcB (pv 0) zaj)) zad))) (zaa (zdo PassesOwn.never rfl (zeW rfl T.range ↑[zaj]) (zaQ (i:=8) zaW.nd rfl (Or.inl rfl) (Or.inl rfl)) (zaa (zbp (PW.pt (zos (zaz (zfu (K:=K) rfl) (pv 5) (pv 3) rfl) (zlP (zaz zdO (pv 5) zaT (zaR _))))) (zaa (zax (i:=5) zaW.nd rfl (Or.inl rfl) (zaE zfc (zbx zjt (pv 2) (pv 8) (λ_ _=>rfl)) (zaE zdn zaj (pv 8)))) zad) zad) zad)) (zaa (zbJ (zby (K:=K) rfl (pv 3) ↑[pv 5])) zad))))))) (zaa (zaP (pv 3)) zad)))),.inl ?_⟩
 show L2.Run _ ([⇑[dI P0],⇑[dI P1],.no,.no,.no,.no,.no,.no,.no]:L2.Ctx) _ ((λr=>Oc.rl true (List.map dS r)) (zbf P0 P1))
 unfold zbf
 exact (zaC (m:=true) (x:=("abcdefghijklmnopqrstuvwxyz" :Str)) dS (λr=>Oc.rl true (List.map dS r)) zaL (λv198 hv198=>have hL:=hv198;(zdr (m:=true) (ds:=List.map dS []) (zbM (m:=true) zae) (zcy (s0:=(P0,[])) (λ(s199:Int×(List Str))=>([⇑[dI s199.1],⇑[dI P1],↥[dS v198],.ow true (List.map dS s199.2),.no,.no,.no,.no,.no]:L2.Ctx)) (λr=>Oc.rl true (List.map dS r)) (λ(s199:Int×(List Str)) (x200:Int)=>(Let ("" :Str) (λ(v204:Str)=>(Let ((1:Int)+(s199.1%(12:Int))) (λ(v205:Int)=>(Let (s199.1/(12:Int)) (λ(v206:Int)=>(Let (List.foldl (λ(s207:Str×Int) (x208:Int)=>(Let (s207.1++(ixS v198 (s207.2%(26:Int)))) (λ(v212:Str)=>(Let (s207.2/(26:Int)) (λ(v213:Int)=>(v212,v213)))))) (v204,v206) (zcY 0 v205.toNat)) (λ(r214:Str×Int)=>(Let (List.foldl (λ(s215:Str) (x216:Int)=>(Let (bif ((decide (s215∈s199.2))||(decide (s215=("nothing" :Str)))) then (Txt.mul (ixS v198 x216) ((1:Int)+x216)) else s215) (λ(v221:Str)=>v221))) r214.1 (zcY 0 (10:Int).toNat)) (λ(r222:Str)=>(r214.2,(s199.2++[r222]))))))))))))) (λ(i:Nat) (s199:Int×(List Str))=>s199.2.length≤i) (zgZ (m:=true) (n:=P1) (Ev.any (m:=false) (zab (i:=1) rfl)) (by first|(refine ⟨?_,?_⟩<;>omega)|decide)) (.eq (.eq (.eq (.eq (.eq (.eq (.eq (.eq (.eq .nil))))))))) ↥(Nat.le_refl 0) (λi201 x200 s199 hx202 hI203=>have v202:=zbe hx202;⟨↥(zkI (by assumption)),(zaC (m:=true) (x:=("" :Str)) dS (λz=>Oc.nx ((λ(s199:Int×(List Str))=>([⇑[dI s199.1],⇑[dI P1],↥[dS v198],.ow true (List.map dS s199.2),.no,.no,.no,.no,.no]:L2.Ctx)) z)) zaL (λv204 hv204=>have hW:=hv204;(zaC (m:=true) (x:=((1:Int)+(s199.1%(12:Int)))) dI (λz=>Oc.nx ((λ(s199:Int×(List Str))=>([⇑[dI s199.1],⇑[dI P1],↥[dS v198],.ow true (List.map dS s199.2),.no,.no,.no,.no,.no]:L2.Ctx)) z)) (zaY (x:=(1:Int)) (y:=(s199.1%(12:Int))) zaL (zbb (x:=s199.1) (y:=(12:Int)) (Ev.any (m:=false) (zab (i:=0) rfl)) zaL (by decide))) (λv205 hv205=>have hZ:=hv205;(zaC (m:=true) (x:=(s199.1/(12:Int))) dI (λz=>Oc.nx ((λ(s199:Int×(List Str))=>([⇑[dI s199.1],⇑[dI P1],↥[dS v198],.ow true (List.map dS s199.2),.no,.no,.no,.no,.no]:L2.Ctx)) z)) (zbb (x:=s199.1) (y:=(12:Int)) (Ev.any (m:=false) (zab (i:=0) rfl)) zaL ↥(⟨by decide,by decide⟩)) (λv206 hv206=>(zcy (s0:=(v204,v206)) (λ(s207:Str×Int)=>([↥[dI s207.2],⇑[dI P1],↥[dS v198],.ow true (List.map dS s199.2),↥[dI x200],↥[dS s207.1],↥[dI v205],.no,.no]:L2.Ctx)) (λz=>Oc.nx ((λ(s199:Int×(List Str))=>([⇑[dI s199.1],⇑[dI P1],↥[dS v198],.ow true (List.map dS s199.2),.no,.no,.no,.no,.no]:L2.Ctx)) z)) (λ(s207:Str×Int) (x208:Int)=>(Let (s207.1++(ixS v198 (s207.2%(26:Int)))) (λ(v212:Str)=>(Let (s207.2/(26:Int)) (λ(v213:Int)=>(v212,v213)))))) (λ(i:Nat) (s207:Str×Int)=>s207.1.length≤i) (zgZ (m:=true) (n:=v205) (Ev.any (m:=true) (zab (i:=6) rfl)) (by first|(refine ⟨?_,?_⟩<;>omega)|decide)) (.eq (.eq (.eq (.eq (.eq (.eq (.eq (.eq (.eq .nil))))))))) (by rw [hW];show (("" :Str)).length≤0;decide+kernel) (λi209 x208 s207 hx210 hI211=>have v210:=zbe hx210;⟨↥(zt3 (by assumption)),(zaC (m:=true) (x:=(s207.1++(ixS v198 (s207.2%(26:Int))))) dS (λz=>Oc.nx ((λ(s207:Str×Int)=>([↥[dI s207.2],⇑[dI P1],↥[dS v198],.ow true (List.map dS s199.2),↥[dI x200],↥[dS s207.1],↥[dI v205],.no,.no]:L2.Ctx)) z)) (zbV (x:=s207.1) (y:=(ixS v198 (s207.2%(26:Int)))) (Ev.any (m:=true) (zab (i:=5) rfl)) (zjB (x:=v198) (i:=(s207.2%(26:Int))) (Ev.any (m:=true) (zab (i:=2) rfl)) (zbb (x:=s207.2) (y:=(26:Int)) (Ev.any (m:=true) (zab (i:=0) rfl)) zaL (by decide)) (by rw [hL];decide+kernel) (by rw [hL];exact zq1)) ↥(zud hZ (by assumption) (zbe (by assumption)))) (λv212 hv212=>have hW:=hv212;(zaC (m:=true) (x:=(s207.2/(26:Int))) dI (λz=>Oc.nx ((λ(s207:Str×Int)=>([↥[dI s207.2],⇑[dI P1],↥[dS v198],.ow true (List.map dS s199.2),↥[dI x200],↥[dS s207.1],↥[dI v205],.no,.no]:L2.Ctx)) z)) (zbb (x:=s207.2) (y:=(26:Int)) (Ev.any (m:=true) (zab (i:=0) rfl)) zaL ↥(⟨by decide,by decide⟩)) (λv213 hv213=>(zaD (.eq (.eq (.eq (.eq (.eq (.eq (.eq (.no (.eq .nil))))))))))))))⟩) (λr214 hr214 hI=>(zcy (s0:=r214.1) (λ(s215:Str)=>([↥[dI r214.2],⇑[dI P1],↥[dS v198],.ow true (List.map dS s199.2),↥[dI x200],↥[dS s215],↥[dI v205],.no,.no]:L2.Ctx)) (λz=>Oc.nx ((λ(s199:Int×(List Str))=>([⇑[dI s199.1],⇑[dI P1],↥[dS v198],.ow true (List.map dS s199.2),.no,.no,.no,.no,.no]:L2.Ctx)) z)) (λ(s215:Str) (x216:Int)=>(Let (bif ((decide (s215∈s199.2))||(decide (s215=("nothing" :Str)))) then (Txt.mul (ixS v198 x216) ((1:Int)+x216)) else s215) (λ(v221:Str)=>v221))) (λ(i:Nat) (s215:Str)=>s215.length≤12) (zgZ (m:=true) (n:=(10:Int)) zaL (by first|(refine ⟨?_,?_⟩<;>omega)|decide)) (.eq (.eq (.eq (.eq (.eq (.eq (.eq (.eq (.eq .nil))))))))) ↥(zuu hZ (by assumption)) (λi217 x216 s215 hx218 hI219=>have v218:=zbe hx218;⟨↥(zuk (by assumption) (zbe (by assumption))),(zdq (b:=((decide (s215∈s199.2))||(decide (s215=("nothing" :Str))))) (λbb=>([↥[dI r214.2],⇑[dI P1],↥[dS v198],.ow true (List.map dS s199.2),↥[dI x200],↥[dS (bif bb then (Txt.mul (ixS v198 x216) ((1:Int)+x216)) else s215)],↥[dI v205],.no,↥[dI x216]]:L2.Ctx)) (zlg (b:=(decide (s215∈s199.2))) (zap (zns (i:=3) (x:=s215) (xs:=s199.2) rfl (Ev.any (m:=true) (zab (i:=5) rfl)))) (λhb=>(zap (zdp (x:=s215) (y:=("nothing" :Str)) (Ev.any (m:=true) (zab (i:=5) rfl)) zaL)))) (λh220=>(zcE (m:=true) (ziO (x:=(ixS v198 x216)) (i:=((1:Int)+x216)) (zjB (x:=v198) (i:=x216) (Ev.any (m:=true) (zab (i:=2) rfl)) (Ev.any (m:=true) (zab (i:=8) rfl)) (by rw [hL];decide+kernel) (by rw [hL];exact zsc (zbe (by assumption)))) (zaY (x:=(1:Int)) (y:=x216) zaL (Ev.any (m:=true) (zab (i:=8) rfl))) ↥(zsa (zbe (by assumption)))) (zaD (.eq (.eq (.eq (.eq (.eq (.eq (.eq (.eq (.eq .nil)))))))))))) (λh220=>(zaD (.eq (.eq (.eq (.eq (.eq (.eq (.eq (.eq (.eq .nil))))))))))) (zek (x:=(bif ((decide (s215∈s199.2))||(decide (s215=("nothing" :Str)))) then (Txt.mul (ixS v198 x216) ((1:Int)+x216)) else s215)) (λv221=>([↥[dI r214.2],⇑[dI P1],↥[dS v198],.ow true (List.map dS s199.2),↥[dI x200],↥[dS v221],↥[dI v205],.no,↥[dI x216]]:L2.Ctx)) (λz=>Oc.nx ((λ(s215:Str)=>([↥[dI r214.2],⇑[dI P1],↥[dS v198],.ow true (List.map dS s199.2),↥[dI x200],↥[dS s215],↥[dI v205],.no,.no]:L2.Ctx)) z)) (λv221 hv221=>(zaD (.eq (.eq (.eq (.eq (.eq (.eq (.eq (.eq (.no .nil)))))))))))))⟩) (λr222 hr222 hI=>(zb2 (f:=dS) (xs:=s199.2) (x:=r222) rfl (Ev.any (m:=true) (zab (i:=5) rfl)) ↥(zrA hp (by assumption) (zbe (by assumption))) (zaD (.old (.eq (.eq (.eq (.no (.no (.no (.eq (.eq .nil)))))))))))))))))))))⟩) (λr223 hr223 hI=>(zdv (zh8 (i:=3) rfl)))))))
noncomputable def spG (s:Str×Int) (_:Int):Str×Int:=(s.1++ixS Wd.abc (s.2%26),s.2/26)
noncomputable def spF (s:Int×List Str) (_:Int):Int×List Str :=
 Let ((zcY 0 (1+s.1%12).toNat).foldl spG (("" :Str),s.1/12)) λr=>(r.2,s.2++[(zcY 0 10).foldl (Wd.chg (λt=>decide (t∈s.2)||decide (t=("nothing" :Str))) Wd.wk) r.1])
theorem zl4 {d n:Int}:zbf d n=((zcY 0 n.toNat).foldl spF (d,[])).2:=rfl
theorem zsK {d:Int} {n:Nat}:Wd.Lt ((zcY 0 n).foldl spG (("" :Str),d)).1∧((zcY 0 n).foldl spG (("" :Str),d)).1.length=n:=by
 have:=zec (f:=spG) (I:=λi s=>Wd.Lt s.1∧s.1.length=i) (xs:=zcY 0 n) (s:=(("" :Str),d)) (n:=0) ⟨(λc hc=>by
  have:Wd.cs ("" :Str)=[]:=by decide+kernel
  rw [this] at hc;
  cases hc),by show (("" :Str)).length=0;decide+kernel⟩ λi x s e q=>by
  refine ⟨q.1.app (Wd.Lt.of (x:=s.1) (by omega) (by omega)),?_⟩
  show (s.1++ixS Wd.abc (s.2%26)).length=_
  rw [Wd.app_len,q.2];
  rfl
 rw [zhe,Nat.zero_add] at this
 exact this
theorem zme {d n:Int} (h:0≤n∧n≤8):Wd.NmsP (zbf d n)∧(zbf d n).length=n.toNat:=by
 rw [zl4]
 have:=zec (f:=spF) (I:=λi s=>Wd.NmsP s.2∧s.2.length=i) (xs:=zcY 0 n.toNat) (s:=(d,[])) (n:=0) ⟨Wd.NmsP.nil,rfl⟩ λi x s e q=>by
  have hi:=(zbe e).1
  rw [Nat.zero_add] at q ⊢
  obtain ⟨g1,g2⟩:=zsK (d:=s.1/12) (n:=(1+s.1%12).toNat)
  obtain ⟨n1,n2⟩:=Wd.spell_new (ns:=s.2) (w:=((zcY 0 (1+s.1%12).toNat).foldl spG (("" :Str),s.1/12)).1) (by omega) g1 (by omega) (by omega)
  refine ⟨q.1.snoc n1 n2 (by omega),?_⟩
  show (s.2++[_]).length=_
  simp;
  omega
 rw [zhe,Nat.zero_add] at this
 exact this
theorem zqJ {a:Int} {n:Nat} (h0:0≤a) (h:decide (a<((n:Nat):Int))=true):InB n a:=by
 have:=of_decide_eq_true h
 unfold InB;
 omega
theorem zp0 {a:Int} {n:Nat} {b:Bool} (h0:0≤a) (h:(decide (a<((n:Nat):Int)) && b)=true):InB n a:=zqJ h0 (Bool.and_eq_true_iff.mp h).1
theorem zs2 {z p c e:Int} (hZ:z=(1:Int)+(c%(12:Int))) (hP:p=e%z):(0≤p∧p<z)∧1≤z∧z≤12:=by
 have h1:0<z:=by omega
 have:=Int.emod_nonneg e (show z≠0 by omega)
 have:=Int.emod_lt_of_pos e h1
 omega
theorem zpj {s:List Str} {a c:Str} {b:Bool} {i:Nat} (h:s.length≤i):(bif b then (s++[a]) else (s++[c])).length≤i+1:=by cases b<;>exact zkI h
theorem zuw {L g:Str} {f d p z:Int} (h:(0≤p∧p<z)∧1≤z∧z≤12) (hg:g=ixS L d):(Txt.mul (ixS L f) p).length+g.length≤sizeLine:=by
 rw [zaZ h.1.1,hg]
 have:(ixS L d).length=1:=rfl
 exact zau (by omega)
theorem zuf {L g:Str} {f d p z:Int} (h:(0≤p∧p<z)∧1≤z∧z≤12) (hg:g=ixS L d):((Txt.mul (ixS L f) p)++g).length+(Txt.mul (ixS L f) ((z-p)-(1:Int))).length≤sizeLine:=by
 rw [Wd.app_len,zaZ h.1.1,zaZ (by omega),hg]
 have:(ixS L d).length=1:=rfl
 exact zau (by omega)
theorem zui {L g:Str} {f d e:Int} (hg:g=ixS L d):g.length+(Txt.mul (ixS L f) (e%(12:Int))).length≤sizeLine:=by
 rw [zaZ (by omega),hg]
 have:(ixS L d).length=1:=rfl
 exact zau (by omega)
noncomputable def zbo (P0:Ji) (P1:Int) (P2:Int):(List Str) :=
 (Let ("abcdefghijklmnopqrstuvwxyz" :Str) (λ(v224:Str)=>(Let (zaf P0 P1) (λ(v225:Int)=>(bif ((decide (P1<((P0.length:Nat):Int))) && (decide ((((((ixD P0 P1).natAbs:Nat):Int)/(2147483647:Int))%(2:Int))=(1:Int)))) then (zbf ((((ixD P0 P1).natAbs:Nat):Int)/(4294967294:Int)) P2) else (Let ((1:Int)+(v225%(12:Int))) (λ(v227:Int)=>(Let ((v225/(12:Int))%(26:Int)) (λ(v228:Int)=>(Let ((v225/(312:Int))%v227) (λ(v229:Int)=>(Let (ixS v224 v228) (λ(v230:Str)=>(Let (List.foldl (λ(s231:(List Str)) (x232:Int)=>(Let (ixS v224 (((v228+x232)+(1:Int))%(26:Int))) (λ(v236:Str)=>(Let (bif (decide (((v225/(3744:Int))%(2:Int))=(0:Int))) then (s231++[(((Txt.mul v230 v229)++v236)++(Txt.mul v230 ((v227-v229)-(1:Int))))]) else (s231++[(v236++(Txt.mul v230 ((v227+x232)%(12:Int))))])) (λ(v238:(List Str))=>v238))))) [] (zcY 0 P2.toNat)) (λ(r239:(List Str))=>r239)))))))))))))))
def zdu (P0:Ji) (P1:Int) (P2:Int):Prop:=0≤P1∧0≤P2∧P2≤8
def zgr (K:W.Frag) (A:Adr):Sp:=Spv (ι:=Ji×Int×Int) (λx=>[dQ K (List.map dI x.1),dI x.2.1,dI x.2.2]) (λx=>zdu x.1 x.2.1 x.2.2) (λx=> .ow true (List.map dS (zbo x.1 x.2.1 x.2.2)))
theorem zbt:FnScope ["_law_script","_law_at","_law_many","_law_letters","_law_cell_here","_law_size","_law_first","_law_place","_law_base","_law_names","_law_k","_law_sign"] ["_law_script","_law_at","_law_many"] (zag zfn):=⟨rfl,rfl,rfl,by decide+kernel,rfl,by decide+kernel,by decide+kernel⟩
theorem zjM (F:Fun K "_law_named" "_law_named" zfn f fd) (T:Txt K mg A) (yae:Callee P w K mg base (CXE P w) 1 "_law_cell" ["_law_script","_law_k"] (zfv K A)) (yaP:Callee P w K mg base (CXE P w) 1 "_law_spelled" ["_law_digits","_law_many"] (zfm K A)):FnOk P w K mg base (CXE P w) 2 f fd ["_law_script","_law_at","_law_many"] (zgr K A):=by
 refine F.okV zbt (λ_=>rfl) (λcdv Ar outer s H E x hr hp=> ?_)
 obtain ⟨P0,P1,P2⟩:=x
 have hu:=hr.units
 replace hp:zdu P0 P1 P2:=hp
 unfold zdu at hp
 refine ⟨_,(zaa (zax (i:=3) zbt.nd rfl (Or.inl rfl) zaT) (zaa (zax (i:=4) zbt.nd rfl (Or.inl rfl) (zaN yae (hr.mono (by decide)) rfl zaF ↑[pv 0,pv 1])) (zaa (zbp (PW.pt (zpI (zaz zjT (pv 1) (zaS (zaO (K:=K) rfl) rfl T.len PySem.boot_len ↑[pv 0]) (zaR _)) (znQ (zaz zdO (zaE zdh (zaE zcB (zaS zlf rfl T.abs (by decide+kernel) ↑[(zbx (zaJ (K:=K) rfl) (pv 0) (pv 1) (λ_ _=>rfl))]) zaj) zaj) zaj (zaR _))))) (zaa (zaP (zaN yaP (hr.mono (by decide)) rfl zaF ↑[(zaE zcB (zaS zlf rfl T.abs (by decide+kernel) ↑[(zbx (zaJ (K:=K) rfl) (pv 0) (pv 1) (λ_ _=>rfl))]) zaj),pv 2])) zad) zad) (zaa (zax (i:=5) zbt.nd rfl (Or.inl rfl) (zaE zdn zaj (zaE zdh (pv 4) zaj))) (zaa (zax (i:=6) zbt.nd rfl (Or.inl rfl) (zaE zdh (zaE zcB (pv 4) zaj) zaj)) (zaa (zax (i:=7) zbt.nd rfl (Or.inl rfl) (zaE zdh (zaE zcB (pv 4) zaj) (pv 5))) (zaa (zax (i:=8) zbt.nd rfl (Or.inl rfl) (zbx zjt (pv 3) (pv 6) (λ_ _=>rfl))) (zaa (zax (i:=9) zbt.nd rfl (Or.inl rfl) (zbu zcI)) (zaa (zdo PassesOwn.never rfl (zeW rfl T.range ↑[pv 2]) (zaQ (i:=10) zbt.nd rfl (Or.inl rfl) (Or.inl rfl)) (zaa (zax (i:=11) zbt.nd rfl (Or.inl rfl) (zbx zjt (pv 3) (zaE zdh (zaE zdn (zaE zdn (pv 6) (pv 10)) zaj) zaj) (λ_ _=>rfl))) (zaa (zbp (zaz zdO (zaE zdh (zaE zcB (pv 4) zaj) zaj) zaj (zaR _)) (zaa (zbJ (zby (K:=K) rfl (pv 9) ↑[zaE zaX (zaE zaX (zaE zfc (pv 8) (pv 7)) (pv 11)) (zaE zfc (pv 8) (zaE zeB (zaE zeB (pv 5) (pv 7)) zaj))])) zad) (zaa (zbJ (zby (K:=K) rfl (pv 9) ↑[zaE zaX (pv 11) (zaE zfc (pv 8) (zaE zdh (zaE zdn (pv 5) (pv 10)) zaj))])) zad)) zad))) (zaa (zaP (pv 9)) zad)))))))))),.inl ?_⟩
 show L2.Run _ ([⇑[dQ K (List.map dI P0)],⇑[dI P1],⇑[dI P2],.no,.no,.no,.no,.no,.no,.no,.no,.no]:L2.Ctx) _ ((λr=>Oc.rl true (List.map dS r)) (zbo P0 P1 P2))
 unfold zbo
 exact (zaC (m:=true) (x:=("abcdefghijklmnopqrstuvwxyz" :Str)) dS (λr=>Oc.rl true (List.map dS r)) zaL (λv224 hv224=>have hL:=hv224;(zaC (m:=true) (x:=(zaf P0 P1)) dI (λr=>Oc.rl true (List.map dS r)) (Ev.any (m:=true) (zao (x:=(P0,P1)) (zac (zab (i:=0) rfl) (zac (Ev.any (m:=false) (zab (i:=1) rfl)) zae)) rfl (by show zbi P0 P1;exact hp.1) rfl)) (λv225 hv225=>(zb9 (b:=((decide (P1<((P0.length:Nat):Int))) && (decide ((((((ixD P0 P1).natAbs:Nat):Int)/(2147483647:Int))%(2:Int))=(1:Int))))) (λr=>Oc.rl true (List.map dS r)) (znW (b:=(decide (P1<((P0.length:Nat):Int)))) (zap (zaY (x:=P1) (y:=((P0.length:Nat):Int)) (Ev.any (m:=false) (zab (i:=1) rfl)) (zbs (f:=dI) (xs:=P0) (zab (i:=0) rfl)))) (λhb=>(zap (zhY (x:=(((((ixD P0 P1).natAbs:Nat):Int)/(2147483647:Int))%(2:Int))) (y:=(1:Int)) (zbb (x:=((((ixD P0 P1).natAbs:Nat):Int)/(2147483647:Int))) (y:=(2:Int)) (zbb (x:=(((ixD P0 P1).natAbs:Nat):Int)) (y:=(2147483647:Int)) (zpQ (Ev.any (m:=false) (zb5 (f:=dI) (xs:=P0) (zab (i:=0) rfl) (Ev.any (m:=false) (zab (i:=1) rfl)) (by first|exact zqJ hp.1 (by assumption)|exact zp0 hp.1 (by assumption))))) zaL ↥(⟨by decide,by decide⟩)) zaL (by decide)) zaL)))) (λh226=>(zaH (zdv (zgD (EvO.anyS (m:=true) (zce (x:=(((((ixD P0 P1).natAbs:Nat):Int)/(4294967294:Int)),P2)) (zac (zbb (x:=(((ixD P0 P1).natAbs:Nat):Int)) (y:=(4294967294:Int)) (zpQ (Ev.any (m:=false) (zb5 (f:=dI) (xs:=P0) (zab (i:=0) rfl) (Ev.any (m:=false) (zab (i:=1) rfl)) (by first|exact zqJ hp.1 (by assumption)|exact zp0 hp.1 (by assumption))))) zaL ↥(⟨by decide,by decide⟩)) (zac (Ev.any (m:=false) (zab (i:=2) rfl)) zae)) rfl (by show zcS ((((ixD P0 P1).natAbs:Nat):Int)/(4294967294:Int)) P2;exact hp.2) rfl)))))) (λh226=>(zak (zaC (m:=true) (x:=((1:Int)+(v225%(12:Int)))) dI (λr=>Oc.rl true (List.map dS r)) (zaY (x:=(1:Int)) (y:=(v225%(12:Int))) zaL (zbb (x:=v225) (y:=(12:Int)) (Ev.any (m:=true) (zab (i:=4) rfl)) zaL (by decide))) (λv227 hv227=>have hZ:=hv227;(zaC (m:=true) (x:=((v225/(12:Int))%(26:Int))) dI (λr=>Oc.rl true (List.map dS r)) (zbb (x:=(v225/(12:Int))) (y:=(26:Int)) (zbb (x:=v225) (y:=(12:Int)) (Ev.any (m:=true) (zab (i:=4) rfl)) zaL ↥(⟨by decide,by decide⟩)) zaL (by decide)) (λv228 hv228=>have hF:=hv228;(zaC (m:=true) (x:=((v225/(312:Int))%v227)) dI (λr=>Oc.rl true (List.map dS r)) (zbb (x:=(v225/(312:Int))) (y:=v227) (zbb (x:=v225) (y:=(312:Int)) (Ev.any (m:=true) (zab (i:=4) rfl)) zaL ↥(⟨by decide,by decide⟩)) (Ev.any (m:=true) (zab (i:=5) rfl)) (by first|decide|(show (0:Int)<_;((try simp only [decide_eq_true_eq,decide_eq_false_iff_not,Bool.not_eq_true',Bool.not_eq_false',Bool.and_eq_true,Bool.or_eq_false_iff,Bool.or_eq_true,Bool.and_eq_false_iff,Bool.cond_eq_ite] at*)<;>omega)))) (λv229 hv229=>have hP:=zs2 hZ hv229;(zaC (m:=true) (x:=(ixS v224 v228)) dS (λr=>Oc.rl true (List.map dS r)) (zjB (x:=v224) (i:=v228) (Ev.any (m:=true) (zab (i:=3) rfl)) (Ev.any (m:=true) (zab (i:=6) rfl)) (by rw [hL];decide+kernel) (by rw [hL,hF];exact zq1)) (λv230 hv230=>have hB:=hv230;(zdr (m:=true) (ds:=List.map dS []) (zbM (m:=true) zae) (zcy (s0:=[]) (λ(s231:(List Str))=>([⇑[dQ K (List.map dI P0)],⇑[dI P1],⇑[dI P2],↥[dS v224],↥[dI v225],↥[dI v227],↥[dI v228],↥[dI v229],↥[dS v230],.ow true (List.map dS s231),.no,.no]:L2.Ctx)) (λr=>Oc.rl true (List.map dS r)) (λ(s231:(List Str)) (x232:Int)=>(Let (ixS v224 (((v228+x232)+(1:Int))%(26:Int))) (λ(v236:Str)=>(Let (bif (decide (((v225/(3744:Int))%(2:Int))=(0:Int))) then (s231++[(((Txt.mul v230 v229)++v236)++(Txt.mul v230 ((v227-v229)-(1:Int))))]) else (s231++[(v236++(Txt.mul v230 ((v227+x232)%(12:Int))))])) (λ(v238:(List Str))=>v238))))) (λ(i:Nat) (s231:(List Str))=>s231.length≤i) (zgZ (m:=true) (n:=P2) (Ev.any (m:=false) (zab (i:=2) rfl)) (by have z:=hp.2;refine ⟨?_,?_⟩<;>omega)) (.eq (.eq (.eq (.eq (.eq (.eq (.eq (.eq (.eq (.eq (.eq (.eq .nil)))))))))))) ↥(Nat.le_refl 0) (λi233 x232 s231 hx234 hI235=>have v234:=zbe hx234;⟨↥(zpj (by assumption)),(zaC (m:=true) (x:=(ixS v224 (((v228+x232)+(1:Int))%(26:Int)))) dS (λz=>Oc.nx ((λ(s231:(List Str))=>([⇑[dQ K (List.map dI P0)],⇑[dI P1],⇑[dI P2],↥[dS v224],↥[dI v225],↥[dI v227],↥[dI v228],↥[dI v229],↥[dS v230],.ow true (List.map dS s231),.no,.no]:L2.Ctx)) z)) (zjB (x:=v224) (i:=(((v228+x232)+(1:Int))%(26:Int))) (Ev.any (m:=true) (zab (i:=3) rfl)) (zbb (x:=((v228+x232)+(1:Int))) (y:=(26:Int)) (zaY (x:=(v228+x232)) (y:=(1:Int)) (zaY (x:=v228) (y:=x232) (Ev.any (m:=true) (zab (i:=6) rfl)) (Ev.any (m:=true) (zab (i:=10) rfl))) zaL) zaL (by decide)) (by rw [hL];decide+kernel) (by rw [hL];exact zq1)) (λv236 hv236=>have hG:=hv236;(zdq (b:=(decide (((v225/(3744:Int))%(2:Int))=(0:Int)))) (λbb=>([⇑[dQ K (List.map dI P0)],⇑[dI P1],⇑[dI P2],↥[dS v224],↥[dI v225],↥[dI v227],↥[dI v228],↥[dI v229],↥[dS v230],.ow true (List.map dS (bif bb then (s231++[(((Txt.mul v230 v229)++v236)++(Txt.mul v230 ((v227-v229)-(1:Int))))]) else (s231++[(v236++(Txt.mul v230 ((v227+x232)%(12:Int))))]))),↥[dI x232],↥[dS v236]]:L2.Ctx)) (zap (zhY (x:=((v225/(3744:Int))%(2:Int))) (y:=(0:Int)) (zbb (x:=(v225/(3744:Int))) (y:=(2:Int)) (zbb (x:=v225) (y:=(3744:Int)) (Ev.any (m:=true) (zab (i:=4) rfl)) zaL ↥(⟨by decide,by decide⟩)) zaL (by decide)) zaL)) (λh237=>(zb2 (f:=dS) (xs:=s231) (x:=(((Txt.mul v230 v229)++v236)++(Txt.mul v230 ((v227-v229)-(1:Int))))) rfl (zbV (x:=((Txt.mul v230 v229)++v236)) (y:=(Txt.mul v230 ((v227-v229)-(1:Int)))) (zbV (x:=(Txt.mul v230 v229)) (y:=v236) (ziO (x:=v230) (i:=v229) (Ev.any (m:=true) (zab (i:=8) rfl)) (Ev.any (m:=true) (zab (i:=7) rfl)) (by rw [hB];exact zpm hP.1.1 (by omega))) (Ev.any (m:=true) (zab (i:=11) rfl)) (by rw [hB];exact zuw hP hG)) (ziO (x:=v230) (i:=((v227-v229)-(1:Int))) (Ev.any (m:=true) (zab (i:=8) rfl)) (zaY (x:=(v227-v229)) (y:=(1:Int)) (zaY (x:=v227) (y:=v229) (Ev.any (m:=true) (zab (i:=5) rfl)) (Ev.any (m:=true) (zab (i:=7) rfl))) zaL) (by rw [hB];exact zpm (by omega) (by omega))) (by rw [hB];exact zuf hP hG)) ↥(zrA hp.2 (by assumption) (zbe (by assumption))) (zaD (.eq (.eq (.eq (.eq (.eq (.eq (.eq (.eq (.eq (.eq (.eq (.eq .nil))))))))))))))) (λh237=>(zb2 (f:=dS) (xs:=s231) (x:=(v236++(Txt.mul v230 ((v227+x232)%(12:Int))))) rfl (zbV (x:=v236) (y:=(Txt.mul v230 ((v227+x232)%(12:Int)))) (Ev.any (m:=true) (zab (i:=11) rfl)) (ziO (x:=v230) (i:=((v227+x232)%(12:Int))) (Ev.any (m:=true) (zab (i:=8) rfl)) (zbb (x:=(v227+x232)) (y:=(12:Int)) (zaY (x:=v227) (y:=x232) (Ev.any (m:=true) (zab (i:=5) rfl)) (Ev.any (m:=true) (zab (i:=10) rfl))) zaL (by decide)) (by rw [hB];exact zpm (by omega) (by omega))) (by rw [hB];exact zui hG)) ↥(zrA hp.2 (by assumption) (zbe (by assumption))) (zaD (.eq (.eq (.eq (.eq (.eq (.eq (.eq (.eq (.eq (.eq (.eq (.eq .nil))))))))))))))) (zek (x:=(bif (decide (((v225/(3744:Int))%(2:Int))=(0:Int))) then (s231++[(((Txt.mul v230 v229)++v236)++(Txt.mul v230 ((v227-v229)-(1:Int))))]) else (s231++[(v236++(Txt.mul v230 ((v227+x232)%(12:Int))))]))) (λv238=>([⇑[dQ K (List.map dI P0)],⇑[dI P1],⇑[dI P2],↥[dS v224],↥[dI v225],↥[dI v227],↥[dI v228],↥[dI v229],↥[dS v230],.ow true (List.map dS v238),↥[dI x232],↥[dS v236]]:L2.Ctx)) (λz=>Oc.nx ((λ(s231:(List Str))=>([⇑[dQ K (List.map dI P0)],⇑[dI P1],⇑[dI P2],↥[dS v224],↥[dI v225],↥[dI v227],↥[dI v228],↥[dI v229],↥[dS v230],.ow true (List.map dS s231),.no,.no]:L2.Ctx)) z)) (λv238 hv238=>(zaD (.eq (.eq (.eq (.eq (.eq (.eq (.eq (.eq (.eq (.eq (.no (.no .nil))))))))))))))))))⟩) (λr239 hr239 hI=>(zdv (zh8 (i:=9) rfl))))))))))))))))))))
theorem zo5 {sc:Ji} {a n c z f p:Int} (hc:c=zaf sc a) (hz:z=1+c%12) (hf:f=c/12%26) (hp:p=c/312%z) :
  zbo sc a n=(bif ((decide (a<((sc.length:Nat):Int))) && (decide ((((((ixD sc a).natAbs:Nat):Int)/(2147483647:Int))%(2:Int))=(1:Int)))) then (zbf ((((ixD sc a).natAbs:Nat):Int)/(4294967294:Int)) n) else (bif decide (c/3744%2=0) then (zcY 0 n.toNat).map (Wd.nA f p z) else (zcY 0 n.toNat).map (Wd.nB f z))):=by
   subst hp hf hz hc
   unfold zbo
   show (bif _ then _ else _)=(bif _ then _ else _)
   congr 1
   show List.foldl _ [] _=_
   cases q:decide (zaf sc a/3744%2=0) with
    |true=>
     show _=List.map _ _
     have:=Wd.fold_map (g:=Wd.nA (zaf sc a/12%26) (zaf sc a/312%(1+zaf sc a%12)) (1+zaf sc a%12)) (zcY 0 n.toNat) []
     rw [List.nil_append] at this
     rw [←this];
     rfl
    |false=>
     show _=List.map _ _
     have:=Wd.fold_map (g:=Wd.nB (zaf sc a/12%26) (1+zaf sc a%12)) (zcY 0 n.toNat) []
     rw [List.nil_append] at this
     rw [←this];
     rfl
theorem zoT {sc:Ji} {a n:Int} (h:0≤n∧n≤8):Wd.NmsP (zbo sc a n)∧(zbo sc a n).length=n.toNat:=by
 rw [zo5 rfl rfl rfl rfl]
 cases ((decide (a<((sc.length:Nat):Int))) && (decide ((((((ixD sc a).natAbs:Nat):Int)/(2147483647:Int))%(2:Int))=(1:Int)))) with
  |true=>exact zme h
  |false=>
   have hf:0≤zaf sc a/12%26∧zaf sc a/12%26<26:=by omega
   have hp:=zs2 (z:=1+zaf sc a%12) (p:=zaf sc a/312%(1+zaf sc a%12)) rfl rfl
   cases decide (zaf sc a/3744%2=0) with
    |true=>exact ⟨Wd.nms_map (by omega) (λk _ _=>Wd.nA_nm hf hp.1 hp.2.2) (λk l hk hl e=>Wd.nA_inj hf hp.1 hk hl e),by show (List.map _ _).length=_;simp [zcY]⟩
    |false=>exact ⟨Wd.nms_map (by omega) (λk _ _=>Wd.nB_nm hf) (λk l hk hl e=>Wd.nB_inj hf hk hl e),by show (List.map _ _).length=_;simp [zcY]⟩
def GdP (d:DeskD) (ns:List Str) (ss:Jq) (x y:Ji):Prop:=(Wd.NmsP ns∧ns.length=2)∧(d.names=ns∧d.book=some ⟨(2:Int),ss⟩)∧Sm ss∧XsP 2 x∧XsP 2 y∧∃w:Ji,w.length=ss.length∧Lat.Bit 4 w∧∀j,Lat.vec y j=Lat.vec x j+Lat.comb w (ss.map Lat.vec) j
theorem GdP.led {d:DeskD} {ns:List Str} {ss:Jq} {x y:Ji} (h:GdP d ns ss x y):∃w:Ji,w.length=ss.length∧Lat.Bit 4 w∧zaI ⟨(2:Int),ss⟩ x y=some (zbI ⟨(2:Int),ss⟩ w):=by
 obtain ⟨_,_,hs,hx,hy,w,w1,w2,w3⟩:=h
 refine ⟨w,w1,w2,?_⟩
 have V:=λj=>zhc (sw:=ss) (way:=w) (l:=x) (j:=j) λs hs'=>by rw [(hs.2 s hs').1,hx.1]
 have e:y=zbD x ss w:=Lat.zho (by rw [(V 0).1,hx.1,hy.1]) λj=>by rw [w3 j,(V j).2]
 rw [e]
 exact zp1 (b:=⟨(2:Int),ss⟩) hs.bk w1 (by show (x.length:Int)=2;rw [hx.1];rfl)
theorem zpH {n:Nat} {x:Ji} (h:XsP n x) (i:Nat):(Lat.vec x i).natAbs≤10 ^ 12:=by
 by_cases hi:i<x.length
 ·
  have e:Lat.vec x i=x[i]:=by
   show x.getD i 0=_
   rw [List.getD_eq_getElem?_getD,List.getElem?_eq_getElem hi];
   rfl
  rw [e]
  exact Nat.le_of_lt (h.2 _ (List.getElem_mem _))
 ·rw [Lat.zdE (by omega)];decide
theorem ztU {ss:Jq} {x y:Ji} (hs:Sm ss) (hx:XsP 2 x) (hy:XsP 2 y):PrP ⟨(2:Int),ss⟩ x y:=by
 refine ⟨by show (x.length:Int)=2;rw [hx.1];rfl,by show (y.length:Int)=2;rw [hy.1];rfl,⟨by rw [hx.1,hy.1],by rw [hy.1];decide⟩,hs.bk,60,by decide,Lat.Bit.of λi=> ?_⟩
 rw [show za5 y x=Lat.sub y x from rfl,Lat.zeN (by rw [hx.1,hy.1])]
 have:=zpH hx i
 have:=zpH hy i
 omega
theorem GdP.ak {d:DeskD} {ns:List Str} {ss:Jq} {x y:Ji} (h:GdP d ns ss x y):AkP ⟨(2:Int),ss⟩ x y:=by
 obtain ⟨w,w1,w2,e⟩:=h.led
 obtain ⟨_,_,hs,hx,hy,_⟩:=h
 refine ⟨ztU hs hx hy,by rw [e];rfl,?_⟩
 rw [e]
 show NwQ ("road" :Str) (zbI ⟨(2:Int),ss⟩ w)
 obtain ⟨p1,p2⟩:=hs.pl w1 w2
 refine ⟨by decide+kernel,by rw [p1];have:=hs.1;omega,λz hz=>Nat.lt_of_le_of_lt (p2 z hz) (Nat.pow_lt_pow_right (by decide) (by decide))⟩
theorem zsA {ss:Jq} (h:Sm ss):ss.length≤sizeLine:=zau (by have:=h.1;omega)
theorem zq9 {ss:Jq} (h:Sm ss):zbK (2:Int) (List.map (λ(x:Ji)=>x) ss):=by
 rw [List.map_id']
 exact ⟨by decide,by decide,by have:=h.1;omega,λs hs=>by rw [(h.2 s hs).1];rfl⟩
theorem zny {ss:Jq}:zaU (2:Int) (List.map (λ(x:Ji)=>x) ss)=⟨(2:Int),ss⟩:=by rw [List.map_id',zlO]
theorem zsz {d:DeskD} {ns:List Str} {ss:Jq} {x y:Ji} (h:GdP d ns ss x y):Wd.BwP ns x∧Wd.BwP ns y:=by
 obtain ⟨hn,_,_,hx,hy,_⟩:=h
 exact ⟨⟨hn.1.2.2,λn z=>(hn.1.1 n z).2.2.1,hx.2⟩,⟨hn.1.2.2,λn z=>(hn.1.1 n z).2.2.1,hy.2⟩⟩
theorem zo1 {d:DeskD} {ns:List Str} {ss:Jq} {x y:Ji} (h:GdP d ns ss x y):(zah ns x).length≤1000∧(zah ns y).length≤1000:=by
 obtain ⟨hn,_,_,hx,hy,_⟩:=h
 exact ⟨zim hn.1 (by rw [hn.2];exact hx),zim hn.1 (by rw [hn.2];exact hy)⟩
theorem zhK:(("ask " :Str)).length=4∧((" = " :Str)).length=3∧(("wares " :Str)).length=6∧(("swap " :Str)).length=5∧(("swap nothing = " :Str)).length=15:=by decide+kernel
theorem ztc {u:Str} (h:u.length≤1000):(("ask " :Str)).length+u.length≤sizeLine:=by rw [zhK.1];exact zau (by omega)
theorem zsM {u:Str} (h:u.length≤1000):(("ask " :Str)++u).length+((" = " :Str)).length≤sizeLine:=by rw [Wd.app_len,zhK.1,zhK.2.1];exact zau (by omega)
theorem zsq {u v:Str} (h:u.length≤1000) (hv:v.length≤1000):((("ask " :Str)++u)++(" = " :Str)).length+v.length≤sizeLine:=by rw [Wd.app_len,Wd.app_len,zhK.1,zhK.2.1];exact zau (by omega)
theorem zto {d:DeskD} {ns:List Str} {ss:Jq} {x y:Ji} {l:Str} (h:GdP d ns ss x y) (e:l=((("ask " :Str)++zah ns x)++(" = " :Str))++zah ns y):TaP d l∧zaw d l=zaG ("road" :Str) (gS (zaI ⟨(2:Int),ss⟩ x y)):=by
 have A:=h.ak
 obtain ⟨hn,hd,_,hx,hy,_⟩:=h
 exact zsx hn.1 hd.1 hd.2 (by rw [hn.2];exact hx) (by rw [hn.2];exact hy) A e
theorem zt9 {d:DeskD} {ns:List Str} {ss:Jq} {x y:Ji} {o:Option Ji} (h:GdP d ns ss x y) (e:o=zaI (zaU (2:Int) (List.map (λ(x:Ji)=>x) ss)) x y):NwQ ("road" :Str) (gS o):=by rw [e,zny];exact h.ak.2.2
theorem zth {w:Str} {xs:Ji} (h:NwQ w xs):xs.length≤sizeLine:=zau (by have:=h.2.1;omega)
theorem ztv {w:Str} {xs:Ji} (h:NwQ w xs):[w].length+(List.map (λ(x:Int)=>((toString x:String):Str)) xs).length≤sizeLine:=by
 have:=h.2.1
 rw [List.length_map,List.length_singleton];
 exact zau (by omega)
noncomputable def zbc (P0:DeskD) (P1:(List Str)) (P2:Jq) (P3:Ji) (P4:Ji):Bool :=
 (Let (zaI (zaU (2:Int) (List.map (λ(x240:Ji)=>x240) P2)) P3 P4) (λ(v243:(Option Ji))=>(Let (((("ask " :Str)++(zah P1 P3))++(" = " :Str))++(zah P1 P4)) (λ(v244:Str)=>(v243.isSome && (decide ((zaw P0 v244)=(Txt.join (" " :Str) ([("road" :Str)]++(List.map (λ(x245:Int)=>((toString x245:String):Str)) (gS v243)))))))))))
def zcn (P0:DeskD) (P1:(List Str)) (P2:Jq) (P3:Ji) (P4:Ji):Prop:=GdP P0 P1 P2 P3 P4
def zhk (K:W.Frag) (A:Adr):Sp:=Spv (ι:=DeskD×(List Str)×Jq×Ji×Ji) (λx=>[zl3 A A.Desk x.1,dL (List.map dS x.2.1),dL (List.map lI x.2.2.1),dL (List.map dI x.2.2.2.1),dL (List.map dI x.2.2.2.2)]) (λx=>zcn x.1 x.2.1 x.2.2.1 x.2.2.2.1 x.2.2.2.2) (λx=> ↥[dB (zbc x.1 x.2.1 x.2.2.1 x.2.2.2.1 x.2.2.2.2)])
theorem zfA:FnScope ["_law_desk","_law_names","_law_swaps","_law_one","_law_other","_law_due","_law_line"] ["_law_desk","_law_names","_law_swaps","_law_one","_law_other"] (zag zei):=⟨rfl,rfl,rfl,by decide+kernel,rfl,by decide+kernel,by decide+kernel⟩
theorem zjW (F:Fun K "_law_good" "_law_good" zei f fd) (T:Txt K mg A) (yad:CalleeM P w K mg base (CXE P w) 12 A.Desk "tell" ["self","line"] (zbG K A)) (yap:Callee P w K mg base (CXE P w) 1 "_law_side" ["_law_names","_law_basket"] (zfs K A)) (yao:Callee P w K mg base (CXE P w) 3 "book_of" ["many","swaps"] (ze9 K A)) (yar:Callee P w K mg base (CXE P w) 9 "plain_road" ["book","one","other"] (zer K A)):FnOk P w K mg base (CXE P w) 13 f fd ["_law_desk","_law_names","_law_swaps","_law_one","_law_other"] (zhk K A):=by
 refine F.okV zfA (λ_=>rfl) (λcdv Ar outer s H E x hr hp=> ?_)
 obtain ⟨P0,P1,P2,P3,P4⟩:=x
 have hu:=hr.units
 replace hp:zcn P0 P1 P2 P3 P4:=hp
 unfold zcn at hp
 refine ⟨_,(zaa (zax (i:=5) zfA.nd rfl (Or.inl rfl) (zaN yar (hr.mono (by decide)) rfl zaF ↑[(zaN yao (hr.mono (by decide)) rfl zaF ↑[zaj,(zcM rfl (.of (osc:=(zag zei)) (N:=["_law_desk","_law_names","_law_swaps","_law_one","_law_other","_law_due","_law_line"]) (own:=["_law_swap"]) (fvn:=[]) (fv:=[]) rfl rfl (by decide+kernel)) (zbz (K:=K) rfl (pv 2)) (λ_ _ _ _ _=>⟨(zaQ (i:=0) (show (["_law_swap"]:List Str).Nodup by decide+kernel) rfl (Or.inl rfl) (Or.inr rfl)),zcK,(zb6 (zdy (K:=K) rfl) rfl T.list PyProof.Rows.boot_list ↑[pv 0])⟩))]),pv 3,pv 4])) (zaa (zax (i:=6) zfA.nd rfl (Or.inl rfl) (zaE zaX (zaE zaX (zaE zaX zaT (zaN yap (hr.mono (by decide)) rfl zaF ↑[pv 1,pv 3])) zaT) (zaN yap (hr.mono (by decide)) rfl zaF ↑[pv 1,pv 4]))) (zaa (zaP (zia (zex znD (pv 5) zgl (zaR _)) (zkN (zex zdO (zfl (pv 0) T.Desk_cl yad (hr.mono (by decide)) zaF ↑[pv 6]) (zkD (K:=K) rfl zaT ↑[(zaE zeP (zbu ↑[zaT]) (zcM rfl (.of (osc:=(zag zei)) (N:=["_law_desk","_law_names","_law_swaps","_law_one","_law_other","_law_due","_law_line"]) (own:=["_law_many"]) (fvn:=[]) (fv:=[]) rfl rfl (by decide+kernel)) (zbz (K:=K) rfl (pv 5)) (λ_ _ _ _ _=>⟨(zaQ (i:=0) (show (["_law_many"]:List Str).Nodup by decide+kernel) rfl (Or.inl rfl) (Or.inr rfl)),zcK,(zb6 zcJ rfl T.str (by decide+kernel) ↑[pv 0])⟩)))]) (zaR _))))) zad))),.inl ?_⟩
 show L2.Run _ ([⇑[zl3 A A.Desk P0],⇑[dL (List.map dS P1)],⇑[dL (List.map lI P2)],⇑[dL (List.map dI P3)],⇑[dL (List.map dI P4)],.no,.no]:L2.Ctx) _ ((λ(r:Bool)=>Oc.rt true (dB r)) (zbc P0 P1 P2 P3 P4))
 unfold zbc
 exact (zaC (m:=true) (x:=(zaI (zaU (2:Int) (List.map (λ(x240:Ji)=>x240) P2)) P3 P4)) (dOpt lI) (λ(r:Bool)=>Oc.rt true (dB r)) (zao (x:=((zaU (2:Int) (List.map (λ(x240:Ji)=>x240) P2)),P3,P4)) (zac (Ev.old (zao (x:=((2:Int),(List.map (λ(x240:Ji)=>x240) P2))) (zac zaL (zac (Ev.weak (K:=K) (EvO.ev (EvO.conv (zdQ (g:=(λ(x240:Ji)=>dL (List.map dI x240))) (zcQ (m:=false) lI (xs:=P2) (Ev.weak (K:=K) (zab (i:=2) rfl))) ↥(zsA hp.2.2.1) ⟨by decide,by decide⟩ (λi241 x240 hx242=>have v242:=List.mem_of_getElem? hx242;(EvO.ev (EvO.anyI (m:=false) (zhA (Ev.weak (K:=K) (zab (i:=0) rfl))))))) (by first|(rw [List.map_map];rfl)|(simp only [cond_true,cond_false];rw [List.map_map];rfl))))) zae)) rfl (by show zbK (2:Int) (List.map (λ(x240:Ji)=>x240) P2);exact zq9 hp.2.2.1) rfl)) (zac (Ev.weak (K:=K) (zab (i:=3) rfl)) (zac (Ev.weak (K:=K) (zab (i:=4) rfl)) zae))) rfl (by show zcx (zaU (2:Int) (List.map (λ(x240:Ji)=>x240) P2)) P3 P4;rw [zny];exact hp.ak.1) rfl) (λv243 hv243=>have hD:=zt9 hp hv243;(zaC (m:=true) (x:=(((("ask " :Str)++(zah P1 P3))++(" = " :Str))++(zah P1 P4))) dS (λ(r:Bool)=>Oc.rt true (dB r)) (zbV (x:=((("ask " :Str)++(zah P1 P3))++(" = " :Str))) (y:=(zah P1 P4)) (zbV (x:=(("ask " :Str)++(zah P1 P3))) (y:=(" = " :Str)) (zbV (x:=("ask " :Str)) (y:=(zah P1 P3)) zaL (Ev.any (m:=true) (zao (x:=(P1,P3)) (zac (zab (i:=1) rfl) (zac (zab (i:=3) rfl) zae)) rfl (by show zci P1 P3;exact (zsz hp).1) rfl)) ↥(ztc (zo1 hp).1)) zaL ↥(zsM (zo1 hp).1)) (Ev.any (m:=true) (zao (x:=(P1,P4)) (zac (zab (i:=1) rfl) (zac (zab (i:=4) rfl) zae)) rfl (by show zci P1 P4;exact (zsz hp).2) rfl)) ↥(zsq (zo1 hp).1 (zo1 hp).2)) (λv244 hv244=>have hL:=hv244;(zan (zaK (zid (b:=v243.isSome) (zgk (x:=v243) (f:=lI) (Ev.old (zab (i:=5) rfl)) zaL NN.lst) (λhb=>(zdp (x:=(zaw P0 v244)) (y:=(Txt.join (" " :Str) ([("road" :Str)]++(List.map (λ(x245:Int)=>((toString x245:String):Str)) (gS v243))))) (Ev.any (m:=true) (zkl (x:=(P0,v244)) (zab (i:=0) rfl) (zac (Ev.any (m:=true) (zab (i:=6) rfl)) zae) rfl (by show zba P0 v244;exact (zto hp hL).1) rfl rfl)) (zj6 (K:=K) (x:=(" " :Str)) (ys:=([("road" :Str)]++(List.map (λ(x245:Int)=>((toString x245:String):Str)) (gS v243)))) zaL (Ev.weak (K:=K) (EvO.ev (zdB (f:=dS) (xs:=[("road" :Str)]) (ys:=(List.map (λ(x245:Int)=>((toString x245:String):Str)) (gS v243))) (EvO.ev (zcH (zac zaL zae) (by show 1≤sizeLine;decide))) (EvO.ev (EvO.conv (zdQ (g:=(λ(x245:Int)=>dS ((toString x245:String):Str))) (zcQ (m:=true) dI (xs:=(gS v243)) (Ev.weak (K:=K) (ev_some (f:=lI) (x:=v243) (zab (i:=5) rfl) ↥(hb)))) ↥(zth hD) ⟨by decide,by decide⟩ (λi246 x245 hx247=>have v247:=List.mem_of_getElem? hx247;(zge (i:=x245) (Ev.any (m:=true) (zab (i:=0) rfl)) ↥(hD.bit (by assumption))))) (by first|(rw [List.map_map];rfl)|(simp only [cond_true,cond_false];rw [List.map_map];rfl)))) ↥(ztv hD)))) ↥(hD.join)))))))))))
theorem zkb {d:DeskD} {ns:List Str} {ss:Jq} {x y:Ji} (h:GdP d ns ss x y):zbc d ns ss x y=true:=by
 unfold zbc
 show ((zaI (zaU (2:Int) (List.map (λ(x:Ji)=>x) ss)) x y).isSome && decide (zaw d (((("ask " :Str)++zah ns x)++(" = " :Str))++zah ns y)=Txt.join (" " :Str) ([("road" :Str)]++List.map (λ(z:Int)=>((toString z:String):Str)) (gS (zaI (zaU (2:Int) (List.map (λ(x:Ji)=>x) ss)) x y)))))=true
 rw [zny,h.ak.2.1,(zto h rfl).2]
 simp only [Bool.true_and]
 exact decide_eq_true rfl
theorem zsQ {sc:Ji} {ns:List Str} (h:ns=zbo sc (1:Int) (2:Int)):Wd.NmsP ns∧ns.length=2:=by
 rw [h]
 exact zoT (sc:=sc) (a:=1) (n:=2) (by decide)
theorem zrx {ns:List Str} (h:Wd.NmsP ns∧ns.length=2):ns≠[]:=λz=>by rw [z] at h;simp at h
theorem zs6 {ns:List Str} (h:ns.length=2):ns=[ixD ns (0:Int),ixD ns (1:Int)]:=by match ns,h with|[a,b],_=>rfl
theorem zoo {ns:List Str} (h:Wd.NmsP ns∧ns.length=2):InB ns.length (0:Int)∧InB ns.length (1:Int):=by rw [h.2];unfold InB;decide
theorem zft {ns:List Str} (h:Wd.NmsP ns∧ns.length=2):Wd.Nm (ixD ns (0:Int))∧Wd.Nm (ixD ns (1:Int)):=by
 obtain ⟨⟨a,_,_⟩,l⟩:=h
 rw [zs6 l] at a
 exact ⟨a _ (by simp),a _ (by simp)⟩
theorem zrZ:((" " :Str)).length=1:=by decide+kernel
theorem zuU {a:Str} (h:a.length≤12):(("wares " :Str)).length+a.length≤sizeLine:=by rw [zhK.2.2.1];exact zau (by omega)
theorem zvd {a:Str} (h:a.length≤12):(("wares " :Str)++a).length+((" " :Str)).length≤sizeLine:=by rw [Wd.app_len,zhK.2.2.1,zrZ];exact zau (by omega)
theorem zu9 {a b:Str} (h:a.length≤12) (hb:b.length≤12):((("wares " :Str)++a)++(" " :Str)).length+b.length≤sizeLine:=by rw [Wd.app_len,Wd.app_len,zhK.2.2.1,zrZ];exact zau (by omega)
theorem zuO {ns:List Str} (h:Wd.NmsP ns∧ns.length=2):((("wares " :Str)++ixD ns (0:Int))++(" " :Str))++ixD ns (1:Int)=("wares " :Str)++Txt.join (" " :Str) ns:=by
 have:Txt.join (" " :Str) ns=ixD ns (0:Int)++(" " :Str)++ixD ns (1:Int):=by
  conv=>lhs;rw [zs6 h.2]
  rw [zdC (by simp),zhB]
 rw [this];
 simp only [zi3]
theorem zu6 {ns:List Str} (h:Wd.NmsP ns∧ns.length=2):TwP (((("wares " :Str)++ixD ns (0:Int))++(" " :Str))++ixD ns (1:Int)):=by rw [zuO h];exact (zrl (d:=zfk) h.1 (zrx h)).1
def Lp (ns:List Str) (i:Nat) (s:DeskD×Jq):Prop:=(s.1.names=ns∧s.1.book=some ⟨(2:Int),s.2⟩)∧s.2.length=i∧∀r∈s.2,r.length=2∧Lat.Bit 4 r
theorem Lp.dq {ns:List Str} {i:Nat} {s:DeskD×Jq} (h:Lp ns i s) (hN:Wd.NmsP ns∧ns.length=2) (hi:i≤12):Dq s.1 ns s.2:=⟨h.1.1,by rw [h.1.2,hN.2];rfl,by rw [h.2.1];exact hi,λr hr=>by rw [(h.2.2 r hr).1,hN.2]⟩
theorem zuF {ns:List Str} {d:DeskD} {w:Str×DeskD} (h:Wd.NmsP ns∧ns.length=2) (e:w=zas d (((("wares " :Str)++ixD ns (0:Int))++(" " :Str))++ixD ns (1:Int))):Lp ns 0 (w.2,[]):=by
 rw [e,zuO h,(zrl h.1 (zrx h)).2]
 refine ⟨⟨rfl,?_⟩,rfl,λ_ z=>by cases z⟩
 show some (⟨((ns.length:Nat):Int),[]⟩:BookD)=_
 rw [h.2];
 rfl
def SwP (x:Ji):Prop:=(x.length=2∧Lat.Bit 4 x)∧XsP 2 x
theorem zuD {x:Ji} (hl:x.length=2) (h:∀y∈x,y.natAbs≤9):SwP x:=⟨⟨hl,λy hy=>Nat.le_trans (h y hy) (by decide)⟩,hl,λy hy=>Nat.lt_of_le_of_lt (h y hy) (by decide)⟩
theorem ztg {x:Ji} {a b:Int} (e:x=[((a%(19:Int))-(9:Int)),((b%(19:Int))-(9:Int))]):SwP x:=by
 rw [e]
 refine zuD rfl λy hy=> ?_
 rcases List.mem_cons.mp hy with z|z
 ·omega
 ·
  have:=List.mem_singleton.mp z
  omega
theorem x2 {ns:List Str} {x:Ji} (h:Wd.NmsP ns∧ns.length=2) (hx:XsP 2 x):XsP ns.length x:=by rw [h.2];exact hx
theorem zuX {ns:List Str} {x:Ji} (h:Wd.NmsP ns∧ns.length=2) (hx:XsP 2 x):(("swap nothing = " :Str)).length+(zah ns x).length≤sizeLine:=by
 have:=zim h.1 (x2 h hx)
 rw [zhK.2.2.2.2];
 exact zau (by omega)
theorem zuT {ns:List Str} {x:Ji} (h:Wd.NmsP ns∧ns.length=2) (hx:XsP 2 x):Wd.BwP ns x:=⟨h.1.2.2,λn z=>(h.1.1 n z).2.2.1,hx.2⟩
theorem ztE {ns:List Str} {i:Nat} {s:DeskD×Jq} {x:Ji} (hN:Wd.NmsP ns∧ns.length=2) (h:Lp ns i s) (hi:i≤4) (hx:SwP x) :
  TsP s.1 (("swap nothing = " :Str)++zah ns x)∧(zal s.1 (("swap nothing = " :Str)++zah ns x)).1=("swap " :Str)++((toString ((i:Nat):Int):String):Str)∧Lp ns (i+1) ((zal s.1 (("swap nothing = " :Str)++zah ns x)).2,s.2++[x]):=by
   obtain ⟨a,b⟩:=ztV (l:=("swap nothing = " :Str)++zah ns x) ⟨hN.1,zrx hN⟩ (h.dq hN (by omega)) (by rw [h.2.1];omega) (x2 hN hx.2) rfl
   refine ⟨a,by rw [b,h.2.1],?_⟩
   rw [b]
   refine ⟨⟨rfl,by show some _=some _;rw [hN.2];rfl⟩,by rw [List.length_append,h.2.1];rfl,λr hr=> ?_⟩
   rcases List.mem_append.mp (show r∈s.2++[x] from hr) with z|z
   ·exact h.2.2 r z
   ·rw [List.mem_singleton.mp z];exact hx.1
noncomputable def lpF (sc:Ji) (ns:List Str) (s:DeskD×Jq) (x:Int):(DeskD×Jq)⊕Bool :=
 Let [(((zaf sc ((2:Int)+((2:Int)*x)))%(19:Int))-(9:Int)),(((zaf sc ((3:Int)+((2:Int)*x)))%(19:Int))-(9:Int))] (λ(y:Ji)=>Let (zal s.1 (("swap nothing = " :Str)++(zah ns y))) (λ(w:Str×DeskD)=>(bif (!decide (w.1=(("swap " :Str)++((toString x:String):Str)))) then (Sum.inr false) else (Sum.inl (w.2,(s.2++[y]))))))
theorem zta {sc:Ji} {ns:List Str} {i:Nat} {s:DeskD×Jq} {x:Int} (hN:Wd.NmsP ns∧ns.length=2) (h:Lp ns i s) (hi:i≤4) (hx:x=(i:Int)):∃s',lpF sc ns s x= .inl s'∧Lp ns (i+1) s':=by
 have S:=ztg (x:=[(((zaf sc ((2:Int)+((2:Int)*x)))%(19:Int))-(9:Int)),(((zaf sc ((3:Int)+((2:Int)*x)))%(19:Int))-(9:Int))]) rfl
 obtain ⟨a,b,c⟩:=ztE hN h hi S
 refine ⟨_,?_,c⟩
 unfold lpF
 show (bif (!decide ((zal s.1 (("swap nothing = " :Str)++zah ns _)).1=_)) then _ else _)=_
 rw [b,hx,decide_eq_true rfl];
 rfl
theorem zvj {sc:Ji} {ns:List Str} {i:Nat} {s z:DeskD×Jq} {x m:Int} (hN:Wd.NmsP ns∧ns.length=2) (h:Lp ns i s) (hi:i<((1:Int)+(m%(4:Int))).toNat∧x=0+(i:Int)) (e:lpF sc ns s x= .inl z):Lp ns (i+1) z:=by
 obtain ⟨s',q,k⟩:=zta (sc:=sc) (x:=x) hN h (by omega) (by omega)
 rw [q] at e
 cases e;
 exact k
theorem zvk {ns:List Str} {i:Nat} {s:DeskD×Jq} (h:Lp ns i s) (hi:i≤4):s.2.length<sizeLine:=by rw [h.2.1];exact Nat.lt_of_le_of_lt (show i≤10000 by omega) (by decide)
theorem zvi {x:Int} {i:Nat} (h:i≤4) (e:x=(i:Int)):x.natAbs.log2<1920:=Wd.log_lt (by omega)
theorem zvg {x:Int} {i:Nat} (h:i≤4) (e:x=(i:Int)):(("swap " :Str)).length+(((toString x:String):Str)).length≤sizeLine:=by
 have:=Wd.num_leI (x:=x) (by omega) (by omega)
 rw [zhK.2.2.2.1];
 exact zau (by omega)
theorem zsl {x:Ji} {a b:Int} (e:x=[(a%(9999:Int)),((0:Int)-(b%(9999:Int)))]):x.length=2∧∀y∈x,y.natAbs≤9999:=by
 rw [e]
 refine ⟨rfl,λy hy=> ?_⟩
 rcases List.mem_cons.mp hy with z|z
 ·omega
 ·
  have:=List.mem_singleton.mp z
  omega
noncomputable def lmF (sc:Ji) (s:Ji) (x:Int×Ji):Ji :=
 Let (((zaf sc ((12:Int)+x.1))%(19:Int))-(9:Int)) (λ(many:Int)=>Let (List.map (λ(z:Int×Int)=>(z.1+(many*z.2))) (List.zip s x.2)) (λ(o:Ji)=>o))
def Ot (ss:Jq) (one:Ji) (i:Nat) (s:Ji):Prop:=(s.length=2∧∀y∈s,y.natAbs≤9999+144*i)∧∃w:Ji,w.length=i∧(∀y∈w,y.natAbs≤9)∧∀j,Lat.vec s j=Lat.vec one j+Lat.comb w ((ss.take i).map Lat.vec) j
theorem zvf {r:Ji} (h:∀y∈r,y.natAbs≤9):Lat.Bit 4 r:=λy hy=>Nat.le_trans (h y hy) (by decide)
theorem zmB {sc:Ji} {ss:Jq} {one s:Ji} {i:Nat} {x:Int×Ji} (hs:∀r∈ss,r.length=2∧Lat.Bit 4 r) (h:Ot ss one i s) (hx:(zb8 ss)[i]? =some x):Ot ss one (i+1) (lmF sc s x):=by
 obtain ⟨⟨a1,a2⟩,w,w1,w2,w3⟩:=h
 obtain ⟨hi,e1,e2⟩:=zcw hx
 have hr:=hs x.2 (List.mem_of_getElem? e2)
 have hm: -9≤((zaf sc ((12:Int)+x.1))%(19:Int))-(9:Int)∧((zaf sc ((12:Int)+x.1))%(19:Int))-(9:Int)≤9:=by omega
 generalize hq:((zaf sc ((12:Int)+x.1))%(19:Int))-(9:Int)=q at hm
 have el:lmF sc s x=List.map (λ(z:Int×Int)=>(z.1+(q*z.2))) (List.zip s x.2):=by unfold lmF;rw [hq];rfl
 rw [el]
 refine ⟨⟨by rw [List.length_map,List.length_zip,a1,hr.1];rfl,λy hy=> ?_⟩,w++[q],by simp [w1],λy hy=> ?_,λj=> ?_⟩
 ·
  obtain ⟨z,hz,rfl⟩:=List.mem_map.mp hy
  have m:=List.of_mem_zip (show (z.1,z.2)∈_ from hz)
  have b1:=a2 _ m.1
  have b2:=hr.2 _ m.2
  have b3:(q*z.2).natAbs≤9*2 ^ 4:=by rw [Int.natAbs_mul];exact Nat.mul_le_mul (by omega) b2
  omega
 ·
  rcases List.mem_append.mp hy with z|z
  ·exact w2 y z
  ·rw [List.mem_singleton.mp z];omega
 ·
  rw [Lat.zkf (by rw [a1,hr.1]),w3 j,List.take_add_one,e2]
  show _=_+Lat.comb (w++[q]) ((ss.take i++[x.2]).map Lat.vec) j
  rw [List.map_append,Lat.zi1 (by rw [w1,List.length_map,List.length_take];omega)]
  show _=_+(_+(q*Lat.vec x.2 j+0))
  omega
theorem zuZ {ss:Jq} {one:Ji} (h:one.length=2∧∀y∈one,y.natAbs≤9999):Ot ss one 0 one:=⟨⟨h.1,λy hy=>by have:=h.2 y hy;omega⟩,[],rfl,(λ_ z=>by cases z),λj=>by show _=_+0;omega⟩
theorem Ot.x {ss:Jq} {one s:Ji} {i:Nat} (h:Ot ss one i s) (hi:i≤5):XsP 2 s:=⟨h.1.1,λy hy=>by have:=h.1.2 y hy;omega⟩
theorem ztX {ns:List Str} {i:Nat} {s:DeskD×Jq} {y:Ji} {x m:Int} (hN:Wd.NmsP ns∧ns.length=2) (h:Lp ns i s) (hi:i<((1:Int)+(m%(4:Int))).toNat∧x=0+(i:Int)) (hy:SwP y):TsP s.1 (("swap nothing = " :Str)++zah ns y):=(ztE hN h (by omega) hy).1
theorem zug {i:Nat} {x m:Int} (hi:i<((1:Int)+(m%(4:Int))).toNat∧x=0+(i:Int)):x.natAbs.log2<1920:=zvi (i:=i) (by omega) (by omega)
theorem zuj {i:Nat} {x m:Int} (hi:i<((1:Int)+(m%(4:Int))).toNat∧x=0+(i:Int)):(("swap " :Str)).length+(((toString x:String):Str)).length≤sizeLine:=zvg (i:=i) (by omega) (by omega)
theorem zt1 {ns:List Str} {i:Nat} {s:DeskD×Jq} {x m:Int} (h:Lp ns i s) (hi:i<((1:Int)+(m%(4:Int))).toNat∧x=0+(i:Int)):s.2.length<sizeLine:=zvk h (by omega)
def Lq (ns:List Str) (s:DeskD×Jq):Prop:=∃i,Lp ns i s∧1≤i∧i≤4
theorem l_q {ns:List Str} {s:DeskD×Jq} {m:Int} (h:Lp ns (zcY 0 ((1:Int)+(m%(4:Int))).toNat).length s):Lq ns s:=⟨_,h,by rw [zhe];omega,by rw [zhe];omega⟩
theorem Lq.sm {ns:List Str} {s:DeskD×Jq} (h:Lq ns s):Sm s.2∧s.2.length≤4∧InB s.2.length (0:Int):=by
 obtain ⟨i,a,b,c⟩:=h
 refine ⟨⟨by rw [a.2.1];omega,a.2.2⟩,by rw [a.2.1];exact c,?_⟩
 rw [a.2.1];
 unfold InB;
 omega
theorem Lq.ix2 {ns:List Str} {s:DeskD×Jq} (h:Lq ns s) {y:Ji}:InB (s.2++[y]).length (0:Int)∧ixD (s.2++[y]) (0:Int)=ixD s.2 (0:Int):=by
 have z:=h.sm.2.2
 unfold InB at z
 refine ⟨by unfold InB;rw [List.length_append];omega,?_⟩
 match s.2,z with|a::r,_=>rw [List.cons_append,Wd.ix0,Wd.ix0]
theorem Lq.sw {ns:List Str} {s:DeskD×Jq} (h:Lq ns s):SwP (ixD s.2 (0:Int)):=by
 have q:=h.sm.1.2 _ (zq6 h.sm.2.2)
 exact ⟨q,q.1,λy hy=>Nat.lt_of_le_of_lt (q.2 y hy) (by decide)⟩
theorem Lq.sw2 {ns:List Str} {s:DeskD×Jq} (h:Lq ns s) {y:Ji}:SwP (ixD (s.2++[y]) (0:Int)):=by rw [h.ix2.2];exact h.sw
theorem Lq.lt {ns:List Str} {s:DeskD×Jq} (h:Lq ns s):s.2.length<sizeLine:=Nat.lt_of_le_of_lt (show s.2.length≤10000 by have:=h.sm.2.1;omega) (by decide)
theorem Lq.ts {ns:List Str} {s:DeskD×Jq} (h:Lq ns s) (hN:Wd.NmsP ns∧ns.length=2) {y:Ji}:TsP s.1 (("swap nothing = " :Str)++zah ns (ixD (s.2++[y]) (0:Int))):=by
 have S:=h.sw2 (y:=y)
 obtain ⟨i,a,b,c⟩:=h
 exact (ztE hN a c S).1
theorem Lq.two {ns:List Str} {s:DeskD×Jq} {w:Str×DeskD} (h:Lq ns s) (hN:Wd.NmsP ns∧ns.length=2) (e:w=zal s.1 (("swap nothing = " :Str)++zah ns (ixD (s.2++[ixD s.2 (0:Int)]) (0:Int)))):(w.2.names=ns∧w.2.book=some ⟨(2:Int),s.2++[ixD s.2 (0:Int)]⟩)∧Sm (s.2++[ixD s.2 (0:Int)]):=by
 have x2:=h.ix2 (y:=ixD s.2 (0:Int))
 have S:=h.sw
 rw [x2.2] at e
 obtain ⟨i,a,b,c⟩:=h
 have q:=(ztE hN a c S).2.2
 rw [←e] at q
 refine ⟨q.1,?_,q.2.2⟩
 have:=q.2.1
 have this:(s.2++[ixD s.2 (0:Int)]).length=i+1:=this
 omega
theorem Ot.full {ss:Jq} {one s:Ji} (h:Ot ss one (zb8 ss).length s) (hl:ss.length≤4):XsP 2 s∧∃w:Ji,w.length=ss.length∧Lat.Bit 4 w∧∀j,Lat.vec s j=Lat.vec one j+Lat.comb w (ss.map Lat.vec) j:=by
 rw [zdM] at h
 refine ⟨h.x (by omega),?_⟩
 obtain ⟨_,w,w1,w2,w3⟩:=h
 exact ⟨w,w1,zvf w2,λj=>by have:=w3 j;rwa [List.take_length] at this⟩
theorem zrc {x:Ji} (h:x.length=2∧∀y∈x,y.natAbs≤9999):XsP 2 x:=⟨h.1,λy hy=>by have:=h.2 y hy;omega⟩
theorem ztK {ns:List Str} {s:DeskD×Jq} {one o:Ji} (hN:Wd.NmsP ns∧ns.length=2) (h:Lq ns s) (hO:one.length=2∧∀y∈one,y.natAbs≤9999) (ho:Ot s.2 one (zb8 s.2).length o):GdP s.1 ns s.2 one o:=by
 have q:=h.sm
 obtain ⟨f1,w,w1,w2,w3⟩:=ho.full q.2.1
 obtain ⟨i,a,b,c⟩:=h
 exact ⟨hN,a.1,q.1,zrc hO,f1,w,w1,w2,w3⟩
theorem ztm {ns:List Str} {s:DeskD×Jq} {d:DeskD} {one o:Ji} (hN:Wd.NmsP ns∧ns.length=2) (h:Lq ns s) (hO:one.length=2∧∀y∈one,y.natAbs≤9999) (ho:Ot s.2 one (zb8 s.2).length o) (h2:(d.names=ns∧d.book=some ⟨(2:Int),s.2++[ixD s.2 (0:Int)]⟩)∧Sm (s.2++[ixD s.2 (0:Int)])):GdP d ns (s.2++[ixD s.2 (0:Int)]) one o∧GdP d ns (s.2++[ixD s.2 (0:Int)]) o one:=by
 have q:=h.sm
 obtain ⟨f1,w,w1,w2,w3⟩:=ho.full q.2.1
 have c0:∀j,Lat.comb (w++[0]) ((s.2++[ixD s.2 (0:Int)]).map Lat.vec) j=Lat.comb w (s.2.map Lat.vec) j:=λj=>by
  rw [List.map_append,Lat.zi1 (by rw [w1,List.length_map])]
  show _+((0:Int)*_+0)=_
  rw [Int.zero_mul];
  omega
 have b0:Lat.Bit 4 (w++[0]):=λy hy=>by
  rcases List.mem_append.mp hy with z|z
  ·exact w2 y z
  ·rw [List.mem_singleton.mp z];decide
 have l0:(w++[(0:Int)]).length=(s.2++[ixD s.2 (0:Int)]).length:=by rw [List.length_append,List.length_append,w1];rfl
 refine ⟨⟨hN,h2.1,h2.2,zrc hO,f1,w++[0],l0,b0,λj=>by rw [c0,w3]⟩,hN,h2.1,h2.2,f1,zrc hO,(w++[0]).map (λx=>(-1)*x),by rw [List.length_map];exact l0,λy hy=> ?_,λj=>by rw [Lat.zlF,c0,w3];omega⟩
 obtain ⟨z,hz,rfl⟩:=List.mem_map.mp hy
 have:=b0 z hz
 omega
theorem zrR {ss:Jq} {one s r:Ji} {i:Nat} (h:Ot ss one i s):(List.zip s r).length≤sizeLine:=zau (by rw [List.length_zip,h.1.1];omega)
theorem zuB {n:Str} (h:Wd.Nm n):Wd.NmsP [n]∧[n]≠[]:=⟨⟨λx hx=>by rw [List.mem_singleton.mp hx];exact h,by simp,by simp⟩,by simp⟩
theorem zuE {n:Str} {d:DeskD} (h:Wd.Nm n):TwP (("wares " :Str)++n)∧(zas d (("wares " :Str)++n)).2=⟨[n],some ⟨(1:Int),[]⟩⟩:=by
 have:=zrl (d:=d) (zuB h).1 (zuB h).2
 rw [zhB] at this
 exact ⟨this.1,by rw [this.2];rfl⟩
theorem zsO {n:Str} {v:Int} (h:0<v):zah [n] [v]=(((toString v:String):Str)++(" " :Str))++n:=by
 rw [zeY]
 have e:zgT [n] [v]=[Wd.num v.natAbs,n]:=by
  unfold zgT wds Wd.tmL
  have f:(List.zip [n] [v]).filter (λp=> !decide (p.2=0))=[(n,v)]:=by
   show List.filter _ [(n,v)]=_
   rw [List.filter_cons_of_pos (by simp;omega)];
   rfl
  rw [f]
  have t:[(n,v)].map Wd.tmOf=[⟨("+" :Str),some v.natAbs,n⟩]:=by
   show [Wd.tmOf (n,v)]=_
   unfold Wd.tmOf
   rw [decide_eq_false (show¬(n,v).2<0 by show¬v<0;omega)];
   rfl
  rw [t]
  show (bif decide ([("+" :Str),Wd.num v.natAbs,n]=[]) then _ else Wd.drp [("+" :Str),Wd.num v.natAbs,n])=_
  rw [decide_eq_false (by simp)]
  unfold Wd.drp
  rw [decide_eq_true (show [("+" :Str),Wd.num v.natAbs,n].head? =some ("+" :Str) from rfl)];
  rfl
 rw [e,zdC (by simp),zhB]
 unfold Wd.num
 rw [show ((v.natAbs:Nat):Int)=v by omega]
theorem zu8 {v:Int} (h:0<v) (h9:v≤9999):AkP ⟨(1:Int),[]⟩ [v] [v]∧gS (zaI ⟨(1:Int),[]⟩ [v] [v])=[]:=by
 have hB:BkP ⟨(1:Int),[]⟩:=⟨1,rfl,by decide,by decide,λ_ z=>by cases z⟩
 have e:=zp1 (b:=⟨(1:Int),[]⟩) (w:=[]) (z:=[v]) hB rfl rfl
 have e1:zbD [v] (⟨(1:Int),[]⟩:BookD).swaps []=[v]:=rfl
 rw [e1] at e
 have p:zbI ⟨(1:Int),[]⟩ []=[]:=by
  have:=(zpP hB (r:=[]) (a:=0) rfl (λ_ z=>by cases z)).1
  exact List.length_eq_zero_iff.mp this
 rw [p] at e
 refine ⟨⟨⟨rfl,rfl,⟨rfl,by show 1≤1000;decide⟩,hB,0,by decide,Lat.Bit.of λi=> ?_⟩,by rw [e];rfl,by rw [e];exact ⟨by decide+kernel,by decide,λ_ z=>by cases z⟩⟩,by rw [e];rfl⟩
 rw [show za5 [v] [v]=Lat.sub [v] [v] from rfl,Lat.zeN rfl,Int.sub_self];
 decide
theorem zuM {n sd:Str} {d:DeskD} {v:Int} (h:Wd.Nm n) (hd:d=⟨[n],some ⟨(1:Int),[]⟩⟩) (h0:0<v) (h9:v≤9999) (e:sd=(((toString v:String):Str)++(" " :Str))++n):TaP d (((("ask " :Str)++sd)++(" = " :Str))++sd)∧zaw d (((("ask " :Str)++sd)++(" = " :Str))++sd)=("road" :Str):=by
 have X:XsP [n].length [v]:=⟨rfl,λy hy=>by rw [List.mem_singleton.mp hy];omega⟩
 obtain ⟨a,b⟩:=zu8 h0 h9
 have q:=zsx (d:=d) (l:=((("ask " :Str)++sd)++(" = " :Str))++sd) (zuB h).1 (by rw [hd]) (by rw [hd]) X X a (by rw [zsO h0,e])
 refine ⟨q.1,?_⟩
 rw [q.2,b]
 show Txt.join (" " :Str) [("road" :Str)]=_
 exact zhB
theorem b_v {c v:Int} (e:v=(1:Int)+(c%(9999:Int))):0<v∧v≤9999:=by omega
theorem zrL {c:Int}:(((toString ((1:Int)+(c%(9999:Int))):String):Str)).length≤12:=Wd.num_leI (by omega) (by omega)
theorem zvc {c:Int}:((1:Int)+(c%(9999:Int))).natAbs.log2<1920:=Wd.log_lt (by omega)
theorem zvb {u:Str} (h:u.length≤12):u.length+((" " :Str)).length≤sizeLine:=by rw [zrZ];exact zau (by omega)
theorem zvl {u n:Str} (h:u.length≤12) (hn:n.length≤12):(u++(" " :Str)).length+n.length≤sizeLine:=by rw [Wd.app_len,zrZ];exact zau (by omega)
theorem ztJ {u n x:Str} (h:u.length≤12) (hn:n.length≤12) (e:x=(u++(" " :Str))++n):x.length≤1000:=by rw [e,Wd.app_len,Wd.app_len,zrZ];omega
noncomputable def zkj (P0:Ji):Bool :=
 (Let (zbo P0 (1:Int) (2:Int)) (λ(v248:(List Str))=>(Let (zas zfk (((("wares " :Str)++(ixD v248 (0:Int)))++(" " :Str))++(ixD v248 (1:Int)))) (λ(w251:Str×DeskD)=>(zmi (zcm (λ(s252:DeskD×Jq) (x253:Int)=>(((Let [(((zaf P0 ((2:Int)+((2:Int)*x253)))%(19:Int))-(9:Int)),(((zaf P0 ((3:Int)+((2:Int)*x253)))%(19:Int))-(9:Int))] (λ(v257:Ji)=>(Let (zal s252.1 (("swap nothing = " :Str)++(zah v248 v257))) (λ(w258:Str×DeskD)=>(bif (!decide (w258.1=(("swap " :Str)++((toString x253:String):Str)))) then (Sum.inr false) else (Sum.inl (w258.2,(s252.2++[v257]))))))))):(DeskD×Jq)⊕Bool)) (w251.2,[]) (zcY 0 ((1:Int)+((zaf P0 (0:Int))%(4:Int))).toNat)) (λ(r260:DeskD×Jq)=>(Let [((zaf P0 (10:Int))%(9999:Int)),((0:Int)-((zaf P0 (11:Int))%(9999:Int)))] (λ(v261:Ji)=>(Let (List.foldl (λ(s262:Ji) (x263:(Int×Ji))=>(Let (((zaf P0 ((12:Int)+x263.1))%(19:Int))-(9:Int)) (λ(v267:Int)=>(Let (List.map (λ(x268:(Int×Int))=>(x268.1+(v267*x268.2))) (List.zip s262 x263.2)) (λ(v271:Ji)=>v271))))) v261 (zb8 r260.2)) (λ(r272:Ji)=>(bif (!(zbc r260.1 v248 r260.2 v261 r272)) then false else (Let (zal r260.1 (("swap nothing = " :Str)++(zah v248 (ixD (r260.2++[(ixD r260.2 (0:Int))]) (0:Int))))) (λ(w274:Str×DeskD)=>(bif ((!(zbc w274.2 v248 (r260.2++[(ixD r260.2 (0:Int))]) v261 r272))||(!(zbc w274.2 v248 (r260.2++[(ixD r260.2 (0:Int))]) r272 v261))) then false else (Let (zas zfk (("wares " :Str)++(ixD v248 (1:Int)))) (λ(w278:Str×DeskD)=>(Let ((((toString ((1:Int)+((zaf P0 (10:Int))%(9999:Int))):String):Str)++(" " :Str))++(ixD v248 (1:Int))) (λ(v279:Str)=>((decide ((zaw w278.2 (((("ask " :Str)++v279)++(" = " :Str))++v279))=("road" :Str))) && (zbc w274.2 v248 (r260.2++[(ixD r260.2 (0:Int))]) v261 r272))))))))))))))) (λb=>b))))))
def zkz (P0:Ji):Prop:=P0.length≤63
def zpD (K:W.Frag) (A:Adr):Sp:=Spv (ι:=Ji) (λx=>[dQ K (List.map dI x)]) (λx=>zkz x) (λx=> ↥[dB (zkj x)])
theorem zdU:FnScope ["_law_script","_law_names","_law_desk","_law_swaps","_law_k","_law_swap","_law_one","_law_other","_law_many","_law_bare","_law_side_here"] ["_law_script"] (zag zji):=⟨rfl,rfl,rfl,by decide+kernel,rfl,by decide+kernel,by decide+kernel⟩
theorem zti (F:Fun K "law" "law" zji f fd) (T:Txt K mg A) (yad:CalleeM P w K mg base (CXE P w) 12 A.Desk "tell" ["self","line"] (zbG K A)) (yak:CalleeM P w K mg base (CXE P w) 7 A.Desk "tell" ["self","line"] (zcb K A)) (yai:CalleeM P w K mg base (CXE P w) 5 A.Desk "tell" ["self","line"] (zb0 K A)) (yae:Callee P w K mg base (CXE P w) 1 "_law_cell" ["_law_script","_law_k"] (zfv K A)) (yaz:Callee P w K mg base (CXE P w) 13 "_law_good" ["_law_desk","_law_names","_law_swaps","_law_one","_law_other"] (zhk K A)) (ya6:Callee P w K mg base (CXE P w) 2 "_law_named" ["_law_script","_law_at","_law_many"] (zgr K A)) (yap:Callee P w K mg base (CXE P w) 1 "_law_side" ["_law_names","_law_basket"] (zfs K A)) {yda:Addr} {ycM:FuncData} (ybQ:Mk K A.Desk yda) (yaw:FnOk P w K mg base (CXE P w) 1 yda ycM ["self"] (zey K A)) (yax:zfP K ycM ["self"] []):FnOk P w K mg base (CXE P w) 14 f fd ["_law_script"] (zpD K A):=by
 refine F.okV zdU (λ_=>rfl) (λcdv Ar outer s H E P0 hr hp=> ?_)
 have hu:=hr.units
 replace hp:zkz P0:=hp
 unfold zkz at hp
 refine ⟨_,(zaa (zax (i:=1) zdU.nd rfl (Or.inl rfl) (zaN ya6 (hr.mono (by decide)) rfl zaF ↑[pv 0,zaj,zaj])) (zaa (zax (i:=2) zdU.nd rfl (Or.inl rfl) (zlN ybQ yaw (hr.mono (by decide)) rfl T.Desk yax .nil zaF)) (zaa (zbJ (zfl (pv 2) T.Desk_cl yai (hr.mono (by decide)) zaF ↑[(zaE zaX (zaE zaX (zaE zaX zaT (zbx (zaJ (K:=K) rfl) (pv 1) zaj (λ_ _=>rfl))) zaT) (zbx (zaJ (K:=K) rfl) (pv 1) zaj (λ_ _=>rfl)))])) (zaa (zax (i:=3) zdU.nd rfl (Or.inl rfl) (zbu zcI)) (zaa (zdo PassesOwn.never rfl (zeW rfl T.range ↑[zaE zdn zaj (zaE zdh (zaN yae (hr.mono (by decide)) rfl zaF ↑[pv 0,zaj]) zaj)]) (zaQ (i:=4) zdU.nd rfl (Or.inl rfl) (Or.inl rfl)) (zaa (zax (i:=5) zdU.nd rfl (Or.inl rfl) (zbu ↑[zaE zeB (zaE zdh (zaN yae (hr.mono (by decide)) rfl zaF ↑[pv 0,zaE zdn zaj (zaE zeQ zaj (pv 4))]) zaj) zaj,zaE zeB (zaE zdh (zaN yae (hr.mono (by decide)) rfl zaF ↑[pv 0,zaE zdn zaj (zaE zeQ zaj (pv 4))]) zaj) zaj])) (zaa (zbp (zaz zht (zfl (pv 2) T.Desk_cl yak (hr.mono (by decide)) zaF ↑[zaE zaX zaT (zaN yap (hr.mono (by decide)) rfl zaF ↑[pv 1,pv 5])]) (zaE zaX zaT (zb6 zcJ rfl T.str (by decide+kernel) ↑[pv 4])) (zaR _)) (zaa (zaP zqQ) zad) zad) (zaa (zbJ (zby (K:=K) rfl (pv 3) ↑[pv 5])) zad)))) (zaa (zax (i:=6) zdU.nd rfl (Or.inl rfl) (zbu ↑[zaE zdh (zaN yae (hr.mono (by decide)) rfl zaF ↑[pv 0,zaj]) zaj,zaE zeB zaj (zaE zdh (zaN yae (hr.mono (by decide)) rfl zaF ↑[pv 0,zaj]) zaj)])) (zaa (zax (i:=7) zdU.nd rfl (Or.inl rfl) (zb6 (zdy (K:=K) rfl) rfl T.list PyProof.Rows.boot_list ↑[pv 6])) (zaa (zdo PassesOwn.never rfl (zhJ rfl rfl T.enumerate ↑[pv 3]) (zc7 (K:=K) (n:=2) rfl rfl (zbj (zaQ (i:=4) zdU.nd rfl (Or.inl rfl) (Or.inl rfl)) (zbj (zaQ (i:=5) zdU.nd rfl (Or.inl rfl) (Or.inl rfl)) zd6))) (zaa (zax (i:=8) zdU.nd rfl (Or.inr rfl) (zaE zeB (zaE zdh (zaN yae (hr.mono (by decide)) rfl zaF ↑[pv 0,zaE zdn zaj (pv 4)]) zaj) zaj)) (zaa (zp7 (i:=7) rfl zdU.nd rfl rfl (.of (osc:=(zag zji)) (N:=["_law_script","_law_names","_law_desk","_law_swaps","_law_k","_law_swap","_law_one","_law_other","_law_many","_law_bare","_law_side_here"]) (own:=["_law_a","_law_b"]) (fvn:=["_law_many"]) (fv:=[8]) rfl rfl (by decide+kernel)) (zgC (K:=K) rfl rfl T.zip ↑[pv 7,pv 5]) (λ_ _ _ _ _=>⟨(zc7 (K:=K) (n:=2) rfl rfl (zbj (zaQ (i:=0) (show (["_law_a","_law_b","_law_many"]:List Str).Nodup by decide+kernel) rfl (Or.inl rfl) (Or.inr rfl)) (zbj (zaQ (i:=1) (show (["_law_a","_law_b","_law_many"]:List Str).Nodup by decide+kernel) rfl (Or.inl rfl) (Or.inr rfl)) zd6))),zcK,(zaE zdn (pv 0) (zaE zeQ (pv 2) (pv 1)))⟩)) zad))) (zaa (zbp (zlw (zgQ (zaN yaz (hr.mono (by decide)) rfl zaF ↑[pv 2,pv 1,pv 3,pv 6,pv 7]))) (zaa (zaP zqQ) zad) zad) (zaa (zbJ (zby (K:=K) rfl (pv 3) ↑[(zb6 (zdy (K:=K) rfl) rfl T.list PyProof.Rows.boot_list ↑[(zbx (zaJ (K:=K) rfl) (pv 3) zaj (λ_ _=>rfl))])])) (zaa (zbJ (zfl (pv 2) T.Desk_cl yak (hr.mono (by decide)) zaF ↑[(zaE zaX zaT (zaN yap (hr.mono (by decide)) rfl zaF ↑[pv 1,(zbx (zaJ (K:=K) rfl) (pv 3) zaj (λ_ _=>rfl))]))])) (zaa (zbp (PW.pt (zos (zlw (zgQ (zaN yaz (hr.mono (by decide)) rfl zaF ↑[pv 2,pv 1,pv 3,pv 6,pv 7]))) (zlP (zlw (zgQ (zaN yaz (hr.mono (by decide)) rfl zaF ↑[pv 2,pv 1,pv 3,pv 7,pv 6])))))) (zaa (zaP zqQ) zad) zad) (zaa (zax (i:=9) zdU.nd rfl (Or.inl rfl) (zlN ybQ yaw (hr.mono (by decide)) rfl T.Desk yax .nil zaF)) (zaa (zbJ (zfl (pv 9) T.Desk_cl yai (hr.mono (by decide)) zaF ↑[(zaE zaX zaT (zbx (zaJ (K:=K) rfl) (pv 1) zaj (λ_ _=>rfl)))])) (zaa (zax (i:=10) zdU.nd rfl (Or.inl rfl) (zaE zaX (zaE zaX (zb6 zcJ rfl T.str (by decide+kernel) ↑[zaE zdn zaj (zaE zdh (zaN yae (hr.mono (by decide)) rfl zaF ↑[pv 0,zaj]) zaj)]) zaT) (zbx (zaJ (K:=K) rfl) (pv 1) zaj (λ_ _=>rfl)))) (zaa (zaP (zia (zex zdO (zfl (pv 9) T.Desk_cl yad (hr.mono (by decide)) zaF ↑[zaE zaX (zaE zaX (zaE zaX zaT (pv 10)) zaT) (pv 10)]) zaT (zaR _)) (zkN (zaN yaz (hr.mono (by decide)) rfl zaF ↑[pv 2,pv 1,pv 3,pv 6,pv 7])))) zad)))))))))))))))),.inl ?_⟩
 show L2.Run _ ([⇑[dQ K (List.map dI P0)],.no,.no,.no,.no,.no,.no,.no,.no,.no,.no]:L2.Ctx) _ ((λ(r:Bool)=>Oc.rt true (dB r)) (zkj P0))
 unfold zkj
 exact (zaC (m:=true) (x:=(zbo P0 (1:Int) (2:Int))) (λ(xs:(List Str))=>dL (List.map dS xs)) (λ(r:Bool)=>Oc.rt true (dB r)) (EvO.ev (EvO.anyS (m:=true) (zce (x:=(P0,(1:Int),(2:Int))) (zac (zab (i:=0) rfl) (zac zaL (zac zaL zae))) rfl (by show zdu P0 (1:Int) (2:Int);exact ⟨by decide,by decide,by decide⟩) rfl))) (λv248 hv248=>have hN:=zsQ hv248;(zjA (K:=K) (i:=()) zae rfl (by show zbS;exact trivial) (λp249 dx250=>(zgF (λ(r:Bool)=>Oc.rt true (dB r)) (λw251 hw251=>have hA:=zuF hN hw251;(zhp (zet (i:=2) (x:=(zfk,(((("wares " :Str)++(ixD v248 (0:Int)))++(" " :Str))++(ixD v248 (1:Int))))) (d:=dS w251.1) (fs0:=[("names",dL (List.map dS w251.2.names)),("book",dOpt (zaV A.Book) w251.2.book)]) rfl (zac (zbV (x:=((("wares " :Str)++(ixD v248 (0:Int)))++(" " :Str))) (y:=(ixD v248 (1:Int))) (zbV (x:=(("wares " :Str)++(ixD v248 (0:Int)))) (y:=(" " :Str)) (zbV (x:=("wares " :Str)) (y:=(ixD v248 (0:Int))) zaL (Ev.any (m:=true) (zb5 (f:=dS) (xs:=v248) (Ev.weak (K:=K) (zab (i:=1) rfl)) zaL ↥((zoo hN).1))) ↥(zuU (zft hN).1.2.2.1)) zaL ↥(zvd (zft hN).1.2.2.1)) (Ev.any (m:=true) (zb5 (f:=dS) (xs:=v248) (Ev.weak (K:=K) (zab (i:=1) rfl)) zaL ↥((zoo hN).2))) ↥(zu9 (zft hN).1.2.2.1 (zft hN).2.2.2.1)) zae) rfl rfl (by show za0 zfk (((("wares " :Str)++(ixD v248 (0:Int)))++(" " :Str))++(ixD v248 (1:Int)));exact zu6 hN) (by rw [hw251];try rfl) (by rw [hw251];try rfl) rfl) (zdr (m:=true) (ds:=List.map lI []) (zbM (m:=true) zae) (ziD (s0:=(w251.2,[])) (λ(s252:DeskD×Jq)=>([⇑[dQ K (List.map dI P0)],↥[dL (List.map dS v248)],.ob false A.Desk p249 dx250 [("names",dL (List.map dS s252.1.names)),("book",dOpt (zaV A.Book) s252.1.book)],.ow true (List.map lI s252.2),.no,.no,.no,.no,.no,.no,.no]:L2.Ctx)) (λ(r:Bool)=>Oc.rt true (dB r)) (λb=>b) (λ(s252:DeskD×Jq) (x253:Int)=>(((Let [(((zaf P0 ((2:Int)+((2:Int)*x253)))%(19:Int))-(9:Int)),(((zaf P0 ((3:Int)+((2:Int)*x253)))%(19:Int))-(9:Int))] (λ(v257:Ji)=>(Let (zal s252.1 (("swap nothing = " :Str)++(zah v248 v257))) (λ(w258:Str×DeskD)=>(bif (!decide (w258.1=(("swap " :Str)++((toString x253:String):Str)))) then (Sum.inr false) else (Sum.inl (w258.2,(s252.2++[v257]))))))))):(DeskD×Jq)⊕Bool)) (λ(i:Nat) (s252:DeskD×Jq)=>Lp v248 i s252) (λb=> .inl ⟨_,_,rfl⟩) (zgZ (m:=true) (n:=((1:Int)+((zaf P0 (0:Int))%(4:Int)))) (zaY (x:=(1:Int)) (y:=((zaf P0 (0:Int))%(4:Int))) zaL (zbb (x:=(zaf P0 (0:Int))) (y:=(4:Int)) (Ev.any (m:=true) (zao (x:=(P0,(0:Int))) (zac (zab (i:=0) rfl) (zac zaL zae)) rfl (by show zbi P0 (0:Int);show (0:Int)≤0;decide) rfl)) zaL (by decide))) (by refine ⟨?_,?_⟩<;>((try simp only [decide_eq_true_eq,decide_eq_false_iff_not,Bool.not_eq_true',Bool.not_eq_false',Bool.and_eq_true,Bool.or_eq_false_iff,Bool.or_eq_true,Bool.and_eq_false_iff,Bool.cond_eq_ite] at*)<;>omega))) (.eq (.eq (.eq (.eq (.eq (.eq (.eq (.eq (.eq (.eq (.eq .nil))))))))))) ↥(hA) (λi254 x253 s252 hx255 hI256=>have v255:=zbe hx255;⟨(by intro z hz;exact zvj hN (by assumption) (zbe (by assumption)) hz),(zaC (m:=true) (x:=[(((zaf P0 ((2:Int)+((2:Int)*x253)))%(19:Int))-(9:Int)),(((zaf P0 ((3:Int)+((2:Int)*x253)))%(19:Int))-(9:Int))]) lI (zhL (λ(s252:DeskD×Jq)=>([⇑[dQ K (List.map dI P0)],↥[dL (List.map dS v248)],.ob false A.Desk p249 dx250 [("names",dL (List.map dS s252.1.names)),("book",dOpt (zaV A.Book) s252.1.book)],.ow true (List.map lI s252.2),.no,.no,.no,.no,.no,.no,.no]:L2.Ctx)) (λ(r:Bool)=>Oc.rt true (dB r))) (EvO.ev (zcH (zac (zaY (x:=((zaf P0 ((2:Int)+((2:Int)*x253)))%(19:Int))) (y:=(9:Int)) (zbb (x:=(zaf P0 ((2:Int)+((2:Int)*x253)))) (y:=(19:Int)) (Ev.any (m:=true) (zao (x:=(P0,((2:Int)+((2:Int)*x253)))) (zac (zab (i:=0) rfl) (zac (zaY (x:=(2:Int)) (y:=((2:Int)*x253)) zaL (zbb (x:=(2:Int)) (y:=x253) zaL (Ev.any (m:=true) (zab (i:=4) rfl)) (by first|exact .inl ⟨by ((try simp only [decide_eq_true_eq,decide_eq_false_iff_not,Bool.not_eq_true',Bool.not_eq_false',Bool.and_eq_true,Bool.or_eq_false_iff,Bool.or_eq_true,Bool.and_eq_false_iff,Bool.cond_eq_ite] at*)<;>omega),by ((try simp only [decide_eq_true_eq,decide_eq_false_iff_not,Bool.not_eq_true',Bool.not_eq_false',Bool.and_eq_true,Bool.or_eq_false_iff,Bool.or_eq_true,Bool.and_eq_false_iff,Bool.cond_eq_ite] at*)<;>omega)⟩|exact .inr (.inl ⟨by ((try simp only [decide_eq_true_eq,decide_eq_false_iff_not,Bool.not_eq_true',Bool.not_eq_false',Bool.and_eq_true,Bool.or_eq_false_iff,Bool.or_eq_true,Bool.and_eq_false_iff,Bool.cond_eq_ite] at*)<;>omega),by ((try simp only [decide_eq_true_eq,decide_eq_false_iff_not,Bool.not_eq_true',Bool.not_eq_false',Bool.and_eq_true,Bool.or_eq_false_iff,Bool.or_eq_true,Bool.and_eq_false_iff,Bool.cond_eq_ite] at*)<;>omega)⟩)))) zae)) rfl (by show zbi P0 ((2:Int)+((2:Int)*x253));show (0:Int)≤_;omega) rfl)) zaL (by decide)) zaL) (zac (zaY (x:=((zaf P0 ((3:Int)+((2:Int)*x253)))%(19:Int))) (y:=(9:Int)) (zbb (x:=(zaf P0 ((3:Int)+((2:Int)*x253)))) (y:=(19:Int)) (Ev.any (m:=true) (zao (x:=(P0,((3:Int)+((2:Int)*x253)))) (zac (zab (i:=0) rfl) (zac (zaY (x:=(3:Int)) (y:=((2:Int)*x253)) zaL (zbb (x:=(2:Int)) (y:=x253) zaL (Ev.any (m:=true) (zab (i:=4) rfl)) (by first|exact .inl ⟨by ((try simp only [decide_eq_true_eq,decide_eq_false_iff_not,Bool.not_eq_true',Bool.not_eq_false',Bool.and_eq_true,Bool.or_eq_false_iff,Bool.or_eq_true,Bool.and_eq_false_iff,Bool.cond_eq_ite] at*)<;>omega),by ((try simp only [decide_eq_true_eq,decide_eq_false_iff_not,Bool.not_eq_true',Bool.not_eq_false',Bool.and_eq_true,Bool.or_eq_false_iff,Bool.or_eq_true,Bool.and_eq_false_iff,Bool.cond_eq_ite] at*)<;>omega)⟩|exact .inr (.inl ⟨by ((try simp only [decide_eq_true_eq,decide_eq_false_iff_not,Bool.not_eq_true',Bool.not_eq_false',Bool.and_eq_true,Bool.or_eq_false_iff,Bool.or_eq_true,Bool.and_eq_false_iff,Bool.cond_eq_ite] at*)<;>omega),by ((try simp only [decide_eq_true_eq,decide_eq_false_iff_not,Bool.not_eq_true',Bool.not_eq_false',Bool.and_eq_true,Bool.or_eq_false_iff,Bool.or_eq_true,Bool.and_eq_false_iff,Bool.cond_eq_ite] at*)<;>omega)⟩)))) zae)) rfl (by show zbi P0 ((3:Int)+((2:Int)*x253));show (0:Int)≤_;omega) rfl)) zaL (by decide)) zaL) zae)) (by show 2≤sizeLine;decide))) (λv257 hv257=>have hS:=ztg hv257;(zgF (zhL (λ(s252:DeskD×Jq)=>([⇑[dQ K (List.map dI P0)],↥[dL (List.map dS v248)],.ob false A.Desk p249 dx250 [("names",dL (List.map dS s252.1.names)),("book",dOpt (zaV A.Book) s252.1.book)],.ow true (List.map lI s252.2),.no,.no,.no,.no,.no,.no,.no]:L2.Ctx)) (λ(r:Bool)=>Oc.rt true (dB r))) (λw258 hw258=>(zqA (c:=(!decide (w258.1=(("swap " :Str)++((toString x253:String):Str))))) (zhL (λ(s252:DeskD×Jq)=>([⇑[dQ K (List.map dI P0)],↥[dL (List.map dS v248)],.ob false A.Desk p249 dx250 [("names",dL (List.map dS s252.1.names)),("book",dOpt (zaV A.Book) s252.1.book)],.ow true (List.map lI s252.2),.no,.no,.no,.no,.no,.no,.no]:L2.Ctx)) (λ(r:Bool)=>Oc.rt true (dB r))) (zrD (x:=w258.1) (y:=(("swap " :Str)++((toString x253:String):Str))) (zet (i:=2) (x:=(s252.1,(("swap nothing = " :Str)++(zah v248 v257)))) (d:=dS w258.1) (fs0:=[("names",dL (List.map dS w258.2.names)),("book",dOpt (zaV A.Book) w258.2.book)]) rfl (zac (zbV (x:=("swap nothing = " :Str)) (y:=(zah v248 v257)) zaL (Ev.any (m:=true) (zao (x:=(v248,v257)) (zac (Ev.old (zab (i:=1) rfl)) (zac (Ev.old (zab (i:=5) rfl)) zae)) rfl (by show zci v248 v257;exact zuT hN hS.2) rfl)) ↥(zuX hN hS.2)) zae) rfl rfl (by show za6 s252.1 (("swap nothing = " :Str)++(zah v248 v257));exact ztX hN (by assumption) (zbe (by assumption)) hS) (by rw [hw258];try rfl) (by rw [hw258];try rfl) rfl) (zbV (x:=("swap " :Str)) (y:=((toString x253:String):Str)) zaL (zge (i:=x253) (Ev.any (m:=true) (zab (i:=4) rfl)) ↥(zug (zbe (by assumption)))) ↥(zuj (zbe (by assumption))))) (λh259=>(zaH (zan (zaK zaL)))) (λh259=>(zak (zb2 (f:=lI) (xs:=s252.2) (x:=v257) rfl (zab (i:=5) rfl) ↥(zt1 (by assumption) (zbe (by assumption))) (zaD (.eq (.eq (.eq (.eq (.no (.no (.eq (.eq (.eq (.eq (.eq .nil))))))))))))))))))))⟩) (λr260 hr260 hI=>(zaC (m:=true) (x:=[((zaf P0 (10:Int))%(9999:Int)),((0:Int)-((zaf P0 (11:Int))%(9999:Int)))]) lI (λ(r:Bool)=>Oc.rt true (dB r)) (EvO.ev (zcH (zac (zbb (x:=(zaf P0 (10:Int))) (y:=(9999:Int)) (Ev.any (m:=true) (zao (x:=(P0,(10:Int))) (zac (zab (i:=0) rfl) (zac zaL zae)) rfl (by show zbi P0 (10:Int);show (0:Int)≤10;decide) rfl)) zaL (by decide)) (zac (zaY (x:=(0:Int)) (y:=((zaf P0 (11:Int))%(9999:Int))) zaL (zbb (x:=(zaf P0 (11:Int))) (y:=(9999:Int)) (Ev.any (m:=true) (zao (x:=(P0,(11:Int))) (zac (zab (i:=0) rfl) (zac zaL zae)) rfl (by show zbi P0 (11:Int);show (0:Int)≤11;decide) rfl)) zaL (by decide))) zae)) (by show 2≤sizeLine;decide))) (λv261 hv261=>have hO:=zsl hv261;(zcE (m:=true) (EvO.ev (EvO.anyI (m:=true) (zhA (Ev.weak (K:=K) (zab (i:=6) rfl))))) (zsj (.eq (.eq (.eq (.oldL (.eq (.eq (.eq (.eq (.eq (.eq (.eq .nil))))))))))) (zpe (i:=3) rfl (λp=>(zmN (i:=3) (s0:=v261) (xs:=r260.2) lI (λ(s262:Ji)=>([⇑[dQ K (List.map dI P0)],↥[dL (List.map dS v248)],.ob false A.Desk p249 dx250 [("names",dL (List.map dS r260.1.names)),("book",dOpt (zaV A.Book) r260.1.book)],.ol p (List.map lI r260.2),.no,.no,↥[dL (List.map dI v261)],↥[dL (List.map dI s262)],.no,.no,.no]:L2.Ctx)) (λ(r:Bool)=>Oc.rt true (dB r)) (λ(s262:Ji) (x263:(Int×Ji))=>(Let (((zaf P0 ((12:Int)+x263.1))%(19:Int))-(9:Int)) (λ(v267:Int)=>(Let (List.map (λ(x268:(Int×Int))=>(x268.1+(v267*x268.2))) (List.zip s262 x263.2)) (λ(v271:Ji)=>v271))))) (λ(i:Nat) (s262:Ji)=>Ot r260.2 v261 i s262) rfl (λ_=>rfl) (.eq (.eq (.eq (.eq (.eq (.eq (.eq (.eq (.eq (.eq (.eq .nil))))))))))) ↥(zuZ hO) (λi264 x263 s262 hx265 hI266=>have v265:=zcw hx265;⟨↥(zmB (l_q (by assumption)).sm.1.2 (by assumption) (by assumption)),(zaC (m:=true) (x:=(((zaf P0 ((12:Int)+x263.1))%(19:Int))-(9:Int))) dI (λz=>Oc.nx ((λ(s262:Ji)=>([⇑[dQ K (List.map dI P0)],↥[dL (List.map dS v248)],.ob false A.Desk p249 dx250 [("names",dL (List.map dS r260.1.names)),("book",dOpt (zaV A.Book) r260.1.book)],.ol p (List.map lI r260.2),.no,.no,↥[dL (List.map dI v261)],↥[dL (List.map dI s262)],.no,.no,.no]:L2.Ctx)) z)) (zaY (x:=((zaf P0 ((12:Int)+x263.1))%(19:Int))) (y:=(9:Int)) (zbb (x:=(zaf P0 ((12:Int)+x263.1))) (y:=(19:Int)) (Ev.any (m:=true) (zao (x:=(P0,((12:Int)+x263.1))) (zac (zab (i:=0) rfl) (zac (zaY (x:=(12:Int)) (y:=x263.1) zaL (Ev.any (m:=false) (zab (i:=4) rfl))) zae)) rfl (by show zbi P0 ((12:Int)+x263.1);show (0:Int)≤_;omega) rfl)) zaL (by decide)) zaL) (λv267 hv267=>(zaC (m:=true) (x:=(List.map (λ(x268:(Int×Int))=>(x268.1+(v267*x268.2))) (List.zip s262 x263.2))) lI (λz=>Oc.nx ((λ(s262:Ji)=>([⇑[dQ K (List.map dI P0)],↥[dL (List.map dS v248)],.ob false A.Desk p249 dx250 [("names",dL (List.map dS r260.1.names)),("book",dOpt (zaV A.Book) r260.1.book)],.ol p (List.map lI r260.2),.no,.no,↥[dL (List.map dI v261)],↥[dL (List.map dI s262)],.no,.no,.no]:L2.Ctx)) z)) (EvO.ev (EvO.conv (zdQ (g:=(λ(x268:(Int×Int))=>dI (x268.1+(v267*x268.2)))) (zkL (m:=false) dI dI (xs:=s262) (ys:=x263.2) (Ev.old (Ev.weak (K:=K) (zab (i:=7) rfl))) (Ev.weak (K:=K) (zab (i:=5) rfl))) ↥(zrR (by assumption)) ⟨by decide,by decide⟩ (λi269 x268 hx270=>have v270:=zgf hx270;(zaY (x:=x268.1) (y:=(v267*x268.2)) (Ev.any (m:=false) (zab (i:=0) rfl)) (zbb (x:=v267) (y:=x268.2) (Ev.any (m:=true) (zab (i:=2) rfl)) (Ev.any (m:=false) (zab (i:=1) rfl)) (by first|exact .inl ⟨by ((try simp only [decide_eq_true_eq,decide_eq_false_iff_not,Bool.not_eq_true',Bool.not_eq_false',Bool.and_eq_true,Bool.or_eq_false_iff,Bool.or_eq_true,Bool.and_eq_false_iff,Bool.cond_eq_ite] at*)<;>omega),by ((try simp only [decide_eq_true_eq,decide_eq_false_iff_not,Bool.not_eq_true',Bool.not_eq_false',Bool.and_eq_true,Bool.or_eq_false_iff,Bool.or_eq_true,Bool.and_eq_false_iff,Bool.cond_eq_ite] at*)<;>omega)⟩|exact .inr (.inl ⟨by ((try simp only [decide_eq_true_eq,decide_eq_false_iff_not,Bool.not_eq_true',Bool.not_eq_false',Bool.and_eq_true,Bool.or_eq_false_iff,Bool.or_eq_true,Bool.and_eq_false_iff,Bool.cond_eq_ite] at*)<;>omega),by ((try simp only [decide_eq_true_eq,decide_eq_false_iff_not,Bool.not_eq_true',Bool.not_eq_false',Bool.and_eq_true,Bool.or_eq_false_iff,Bool.or_eq_true,Bool.and_eq_false_iff,Bool.cond_eq_ite] at*)<;>omega)⟩)))))) (by first|(rw [List.map_map];rfl)|(simp only [cond_true,cond_false];rw [List.map_map];rfl)))) (λv271 hv271=>(zaD (.eq (.eq (.eq (.eq (.no (.no (.eq (.eq (.no (.eq (.eq .nil))))))))))))))))⟩) (λr272 hr272 hI=>(zmv (i:=3) rfl (zb9 (b:=(!(zbc r260.1 v248 r260.2 v261 r272))) (λ(r:Bool)=>Oc.rt true (dB r)) (EvT.borrowB (i:=2) rfl rfl (EvT.borrowO (i:=3) rfl (ziz (zfz (Ev.any (m:=true) (zao (x:=(r260.1,v248,r260.2,v261,r272)) (zac (zab (i:=2) rfl) (zac (Ev.old (zab (i:=1) rfl)) (zac (zab (i:=3) rfl) (zac (Ev.old (zab (i:=6) rfl)) (zac (Ev.old (zab (i:=7) rfl)) zae))))) rfl (by show zcn r260.1 v248 r260.2 v261 r272;first|exact ztK hN (l_q (by assumption)) hO (by assumption)|exact (ztm hN (l_q (by assumption)) hO (by assumption) hB).1) rfl)))))) (λh273=>(zaH (zan (zaK zaL)))) (λh273=>(zak (zb2 (f:=lI) (xs:=r260.2) (x:=(ixD r260.2 (0:Int))) rfl (EvO.ev (EvO.anyI (m:=false) (zhA (Ev.weak (K:=K) (zfI (f:=lI) (xs:=r260.2) rfl zaL (by first|exact (l_q (by assumption)).sm.2.2|exact (l_q (by assumption)).ix2.1)))))) ↥((l_q (by assumption)).lt) (zgF (λ(r:Bool)=>Oc.rt true (dB r)) (λw274 hw274=>have hB:=(l_q (by assumption)).two hN hw274;(zhp (zet (i:=2) (x:=(r260.1,(("swap nothing = " :Str)++(zah v248 (ixD (r260.2++[(ixD r260.2 (0:Int))]) (0:Int)))))) (d:=dS w274.1) (fs0:=[("names",dL (List.map dS w274.2.names)),("book",dOpt (zaV A.Book) w274.2.book)]) rfl (zac (zbV (x:=("swap nothing = " :Str)) (y:=(zah v248 (ixD (r260.2++[(ixD r260.2 (0:Int))]) (0:Int)))) zaL (Ev.any (m:=true) (zao (x:=(v248,(ixD (r260.2++[(ixD r260.2 (0:Int))]) (0:Int)))) (zac (Ev.old (zab (i:=1) rfl)) (zac (zfI (f:=lI) (xs:=(r260.2++[(ixD r260.2 (0:Int))])) rfl zaL (by first|exact (l_q (by assumption)).sm.2.2|exact (l_q (by assumption)).ix2.1)) zae)) rfl (by show zci v248 (ixD (r260.2++[(ixD r260.2 (0:Int))]) (0:Int));exact zuT hN (l_q (by assumption)).sw2.2) rfl)) ↥(zuX hN (l_q (by assumption)).sw2.2)) zae) rfl rfl (by show za6 r260.1 (("swap nothing = " :Str)++(zah v248 (ixD (r260.2++[(ixD r260.2 (0:Int))]) (0:Int))));exact (l_q (by assumption)).ts hN) (by rw [hw274];try rfl) (by rw [hw274];try rfl) rfl) (zb9 (b:=((!(zbc w274.2 v248 (r260.2++[(ixD r260.2 (0:Int))]) v261 r272))||(!(zbc w274.2 v248 (r260.2++[(ixD r260.2 (0:Int))]) r272 v261)))) (λ(r:Bool)=>Oc.rt true (dB r)) (EvT.borrowB (i:=2) rfl rfl (EvT.borrowO (i:=3) rfl (zlg (b:=(!(zbc w274.2 v248 (r260.2++[(ixD r260.2 (0:Int))]) v261 r272))) (ziz (zfz (Ev.any (m:=true) (zao (x:=(w274.2,v248,(r260.2++[(ixD r260.2 (0:Int))]),v261,r272)) (zac (zab (i:=2) rfl) (zac (Ev.old (zab (i:=1) rfl)) (zac (zab (i:=3) rfl) (zac (Ev.old (zab (i:=6) rfl)) (zac (Ev.old (zab (i:=7) rfl)) zae))))) rfl (by show zcn w274.2 v248 (r260.2++[(ixD r260.2 (0:Int))]) v261 r272;first|exact ztK hN (l_q (by assumption)) hO (by assumption)|exact (ztm hN (l_q (by assumption)) hO (by assumption) hB).1) rfl)))) (λhb=>(ziz (zfz (Ev.any (m:=true) (zao (x:=(w274.2,v248,(r260.2++[(ixD r260.2 (0:Int))]),r272,v261)) (zac (zab (i:=2) rfl) (zac (Ev.old (zab (i:=1) rfl)) (zac (zab (i:=3) rfl) (zac (Ev.old (zab (i:=7) rfl)) (zac (Ev.old (zab (i:=6) rfl)) zae))))) rfl (by show zcn w274.2 v248 (r260.2++[(ixD r260.2 (0:Int))]) r272 v261;exact (ztm hN (l_q (by assumption)) hO (by assumption) hB).2) rfl)))))))) (λh275=>(zaH (zan (zaK zaL)))) (λh275=>(zak (zjA (K:=K) (i:=()) zae rfl (by show zbS;exact trivial) (λp276 dx277=>(zgF (λ(r:Bool)=>Oc.rt true (dB r)) (λw278 hw278=>have hC:=hw278;(zhp (zet (i:=9) (x:=(zfk,(("wares " :Str)++(ixD v248 (1:Int))))) (d:=dS w278.1) (fs0:=[("names",dL (List.map dS w278.2.names)),("book",dOpt (zaV A.Book) w278.2.book)]) rfl (zac (zbV (x:=("wares " :Str)) (y:=(ixD v248 (1:Int))) zaL (Ev.any (m:=true) (zb5 (f:=dS) (xs:=v248) (Ev.weak (K:=K) (zab (i:=1) rfl)) zaL ↥((zoo hN).2))) ↥(zuU (zft hN).2.2.2.1)) zae) rfl rfl (by show za0 zfk (("wares " :Str)++(ixD v248 (1:Int)));exact (zuE (d:=zfk) (zft hN).2).1) (by rw [hw278];try rfl) (by rw [hw278];try rfl) rfl) (zaC (m:=true) (x:=((((toString ((1:Int)+((zaf P0 (10:Int))%(9999:Int))):String):Str)++(" " :Str))++(ixD v248 (1:Int)))) dS (λ(r:Bool)=>Oc.rt true (dB r)) (zbV (x:=(((toString ((1:Int)+((zaf P0 (10:Int))%(9999:Int))):String):Str)++(" " :Str))) (y:=(ixD v248 (1:Int))) (zbV (x:=((toString ((1:Int)+((zaf P0 (10:Int))%(9999:Int))):String):Str)) (y:=(" " :Str)) (zge (i:=((1:Int)+((zaf P0 (10:Int))%(9999:Int)))) (zaY (x:=(1:Int)) (y:=((zaf P0 (10:Int))%(9999:Int))) zaL (zbb (x:=(zaf P0 (10:Int))) (y:=(9999:Int)) (Ev.any (m:=true) (zao (x:=(P0,(10:Int))) (zac (zab (i:=0) rfl) (zac zaL zae)) rfl (by show zbi P0 (10:Int);show (0:Int)≤10;decide) rfl)) zaL (by decide))) ↥(zvc)) zaL ↥(zvb zrL)) (Ev.any (m:=true) (zb5 (f:=dS) (xs:=v248) (Ev.weak (K:=K) (zab (i:=1) rfl)) zaL ↥((zoo hN).2))) ↥(zvl zrL (zft hN).2.2.2.1)) (λv279 hv279=>have hE:=hv279;(zh2 (i:=2) rfl rfl (zh2 (i:=9) rfl rfl (zcX (i:=3) rfl (zan (zaK (zid (b:=(decide ((zaw w278.2 (((("ask " :Str)++v279)++(" = " :Str))++v279))=("road" :Str)))) (zdp (x:=(zaw w278.2 (((("ask " :Str)++v279)++(" = " :Str))++v279))) (y:=("road" :Str)) (Ev.any (m:=true) (zkl (x:=(w278.2,(((("ask " :Str)++v279)++(" = " :Str))++v279))) (zab (i:=9) rfl) (zac (zbV (x:=((("ask " :Str)++v279)++(" = " :Str))) (y:=v279) (zbV (x:=(("ask " :Str)++v279)) (y:=(" = " :Str)) (zbV (x:=("ask " :Str)) (y:=v279) zaL (Ev.any (m:=true) (zab (i:=10) rfl)) ↥(ztc (ztJ zrL (zft hN).2.2.2.1 hE))) zaL ↥(zsM (ztJ zrL (zft hN).2.2.2.1 hE))) (Ev.any (m:=true) (zab (i:=10) rfl)) ↥(zsq (ztJ zrL (zft hN).2.2.2.1 hE) (ztJ zrL (zft hN).2.2.2.1 hE))) zae) rfl (by show zba w278.2 (((("ask " :Str)++v279)++(" = " :Str))++v279);exact (zuM (zft hN).2 (by rw [hC];exact (zuE (zft hN).2).2) (b_v rfl).1 (b_v rfl).2 hE).1) rfl rfl)) zaL) (λhb=>(Ev.any (m:=true) (zao (x:=(w274.2,v248,(r260.2++[(ixD r260.2 (0:Int))]),v261,r272)) (zac (zab (i:=2) rfl) (zac (Ev.old (zab (i:=1) rfl)) (zac (zab (i:=3) rfl) (zac (Ev.old (zab (i:=6) rfl)) (zac (Ev.old (zab (i:=7) rfl)) zae))))) rfl (by show zcn w274.2 v248 (r260.2++[(ixD r260.2 (0:Int))]) v261 r272;first|exact ztK hN (l_q (by assumption)) hO (by assumption)|exact (ztm hN (l_q (by assumption)) hO (by assumption) hB).1) rfl)))))))))))))))))))))))))))))))))))))))))))))
theorem zoP {α β γ:Type} {x:α} {f:α->γ} {g:β->γ}:zmi (Sum.inl x) f g=f x:=rfl
theorem zgW {α β:Type} {x:α} {f:α->β} {b:β} (h:∀y,y=x->f y=b):Let x f=b:=h x rfl
theorem zlb {S γ β:Type} {f:S->γ->S ⊕ β} {I:Nat->S->Prop}:∀ {xs:List γ} {n:Nat} {s:S},I n s->(∀(i:Nat) (x:γ) (s:S),xs[i]? =some x->I (n+i) s->∃s',f s x= .inl s'∧I (n+i+1) s')->∃s',zcm f s xs= .inl s'∧I (n+xs.length) s'
 | [],n,s,h,_=>⟨s,rfl,h⟩
 | x :: xs,n,s,h,k=>by
  obtain ⟨s1,e1,h1⟩:=k 0 x s rfl h
  obtain ⟨s2,e2,h2⟩:=zlb (xs:=xs) (n:=n+1) h1 λi y t ey ht=>by
   have:=k (i+1) y t (by simpa using ey) (by rw [show n+(i+1)=n+1+i by omega];exact ht)
   rw [show n+1+i+1=n+(i+1)+1 by omega];
   exact this
  refine ⟨s2,?_,by rw [List.length_cons,show n+(xs.length+1)=n+1+xs.length by omega];exact h2⟩
  unfold zcm
  rw [e1];
  exact e2
theorem zoX (sc:Ji) (_:sc.length≤63):zkj sc=true:=by
 unfold zkj
 refine zgW λns hns=> ?_
 have hN:=zsQ hns
 refine zgW λw hw=> ?_
 have hA:=zuF hN hw
 obtain ⟨r,er,hr⟩:=zlb (f:=lpF sc ns) (I:=Lp ns) (xs:=zcY 0 ((1:Int)+((zaf sc (0:Int))%(4:Int))).toNat) (n:=0) (s:=(w.2,[])) hA λi x s e q=>by
  rw [Nat.zero_add] at q ⊢
  have z:=zbe e
  exact zta hN q (by omega) (by omega)
 rw [Nat.zero_add] at hr
 have hQ:=l_q hr
 show zmi (zcm (lpF sc ns) (w.2,[]) (zcY 0 ((1:Int)+((zaf sc (0:Int))%(4:Int))).toNat)) _ _=true
 rw [er,zoP]
 refine zgW λone hone=> ?_
 have hO:=zsl hone
 refine zgW λo ho=> ?_
 have hT:Ot r.2 one (zb8 r.2).length o:=by
  have:=zec (f:=lmF sc) (I:=Ot r.2 one) (xs:=zb8 r.2) (s:=one) (n:=0) (zuZ hO) λi x s e q=>by
   rw [Nat.zero_add] at q ⊢
   exact zmB hQ.sm.1.2 q e
  rw [Nat.zero_add] at this
  rw [ho];
  exact this
 rw [zkb (ztK hN hQ hO hT),Bool.not_true,cond_false]
 refine zgW λw2 hw2=> ?_
 have h2:=hQ.two hN hw2
 obtain ⟨g1,g2⟩:=ztm hN hQ hO hT h2
 rw [zkb g1,zkb g2,Bool.not_true,Bool.or_false,cond_false]
 refine zgW λw3 hw3=> ?_
 refine zgW λsd hsd=> ?_
 obtain ⟨v0,v9⟩:=b_v (c:=zaf sc (10:Int)) rfl
 rw [(zuM (zft hN).2 (by rw [hw3];exact (zuE (zft hN).2).2) v0 v9 hsd).2,decide_eq_true rfl]
 rfl
def zol (K:W.Frag):Sp:=λvs H Q _=>∃(a:Addr) (ns:Ji),vs=[.ref a]∧SqL K H a (ns.map V.int)∧ns.length≤63∧∀H',Q (.bl true) H'
theorem ztD {K:W.Frag} {A:Adr} {vs:List V} {H:Hp} {Q:VK} {E:XK} (h:zol K vs H Q E):zpD K A vs H Q E:=by
 obtain ⟨a,ns,rfl,hS,hl,q⟩:=h
 refine ⟨ns,H,Same.refl _,.cons ⟨a,_,rfl,hS,?_⟩ .nil,hl,λv F' H' _ hv=> ?_⟩
 ·
  clear hS hl
  induction ns with
   |nil=>exact .nil
   |cons n ns ih=>exact .cons rfl ih
 ·
  have hv:v= .bl (zkj ns):=hv
  rw [hv,zoX ns hl]
  exact q _
theorem zrY {l:W.OpenLaw} {w:World} {K:W.Frag} {h:Heap} {mg:Str->Option Value} {fa f0 f1 f2 f3 f4 f5 f6 f7 f8 f9 f10 f11 f12 f13 f14 f15 f16 f17 f18 f19 f20 f21 f22 f23 f24 f25 f26 f27 f28 f29 f30 f31 f32 f33 f34 f35 f36 f37 f38 f39 f40 f41 f42 f43 f44 f45 f46 yal yau yac T_MARKS:Addr} (X:K.In h) (G:h.Ns mainGlobals mg) (hfa:mg "law" =some (.ref fa))
  {yaE yaU ybm ybo yaI yaD yaW ya0:Tok}
  (ybu:W.nsIn K mainGlobals "Stairs" =some (some (.ref yal)))
  (yb4:W.nsIn K mainGlobals "Book" =some (some (.ref yau)))
  (yb5:W.nsIn K mainGlobals "Desk" =some (some (.ref yac)))
  (a0:W.nsIn K mainGlobals "made_of" =some (some (.ref f0)))
  (q0:FA K f0 "made_of" "made_of" zfG)
  (a1:W.nsIn K mainGlobals "is_name" =some (some (.ref f1)))
  (q1:FA K f1 "is_name" "is_name" zhm)
  (a2:W.nsIn K mainGlobals "is_count" =some (some (.ref f2)))
  (q2:FA K f2 "is_count" "is_count" zgh)
  (a3:W.nsIn K mainGlobals "names_of" =some (some (.ref f3)))
  (q3:FA K f3 "names_of" "names_of" zff)
  (a4:W.nsIn K mainGlobals "term_of" =some (some (.ref f4)))
  (q4:FA K f4 "term_of" "term_of" zgS)
  (a5:W.nsIn K mainGlobals "side_of" =some (some (.ref f5)))
  (q5:FA K f5 "side_of" "side_of" zfL)
  (a6:W.nsIn K mainGlobals "sides_of" =some (some (.ref f6)))
  (q6:FA K f6 "sides_of" "sides_of" zf4)
  (a7:W.nsIn K mainGlobals "refuse_bad_names" =some (some (.ref f7)))
  (q7:FA K f7 "refuse_bad_names" "refuse_bad_names" zcf)
  (a8:W.nsIn K mainGlobals "basket_of" =some (some (.ref f8)))
  (q8:FA K f8 "basket_of" "basket_of" zfr)
  (a9:W.nsIn K mainGlobals "numbers_written" =some (some (.ref f9)))
  (q9:FA K f9 "numbers_written" "numbers_written" zcr)
  (a10:W.nsIn K mainGlobals "read_line" =some (some (.ref f10)))
  (q10:FA K f10 "read_line" "read_line" zjQ)
  (a11:W.nsIn K mainGlobals "refuse_unlike" =some (some (.ref f11)))
  (q11:FA K f11 "refuse_unlike" "refuse_unlike" zdG)
  (a12:W.nsIn K mainGlobals "plus" =some (some (.ref f12)))
  (q12:FA K f12 "plus" "plus" zlr)
  (a13:W.nsIn K mainGlobals "less" =some (some (.ref f13)))
  (q13:FA K f13 "less" "less" zll)
  (a14:W.nsIn K mainGlobals "times" =some (some (.ref f14)))
  (q14:FA K f14 "times" "times" zi5)
  (a15:W.nsIn K mainGlobals "head_of" =some (some (.ref f15)))
  (q15:FA K f15 "head_of" "head_of" zhz)
  (a16:W.nsIn K mainGlobals "common" =some (some (.ref f16)))
  (q16:FA K f16 "common" "common" ziy)
  (a17:W.nsIn K mainGlobals "upright" =some (some (.ref f17)))
  (q17:FA K f17 "upright" "upright" zgM)
  (a18:W.nsIn K mainGlobals "lowered" =some (some (.ref f18)))
  (q18:FA K f18 "lowered" "lowered" zhr)
  (a19:W.nsIn K mainGlobals "merged" =some (some (.ref f19)))
  (q19:FA K f19 "merged" "merged" ziA)
  (a20:W.nsIn K mainGlobals "taken_in" =some (some (.ref f20)))
  (q20:FA K f20 "taken_in" "taken_in" zf6)
  (a21:W.nsIn K mainGlobals "settled" =some (some (.ref f21)))
  (q21:FA K f21 "settled" "settled" zhg)
  (a22:W.nsIn K mainGlobals "climbed" =some (some (.ref f22)))
  (q22:FA K f22 "climbed" "climbed" zg7)
  (a23:W.nsIn K mainGlobals "marked" =some (some (.ref f23)))
  (q23:FA K f23 "marked" "marked" zit)
  (a24:W.nsIn K mainGlobals "traced" =some (some (.ref f24)))
  (q24:FA K f24 "traced" "traced" ziC)
  (a25:W.nsIn K mainGlobals "tails" =some (some (.ref f25)))
  (q25:FA K f25 "tails" "tails" ziN)
  (a26:W.nsIn K mainGlobals "counted" =some (some (.ref f26)))
  (q26:FA K f26 "counted" "counted" zhw)
  (a27:W.nsIn K mainGlobals "book_of" =some (some (.ref f27)))
  (q27:FA K f27 "book_of" "book_of" zg0)
  (a28:W.nsIn K mainGlobals "refuse_bad_basket" =some (some (.ref f28)))
  (q28:FA K f28 "refuse_bad_basket" "refuse_bad_basket" zcG)
  (a29:W.nsIn K mainGlobals "refuse_bad_road" =some (some (.ref f29)))
  (q29:FA K f29 "refuse_bad_road" "refuse_bad_road" zc1)
  (a30:W.nsIn K mainGlobals "way_to" =some (some (.ref f30)))
  (q30:FA K f30 "way_to" "way_to" ziH)
  (a31:W.nsIn K mainGlobals "rounds" =some (some (.ref f31)))
  (q31:FA K f31 "rounds" "rounds" ziI)
  (a32:W.nsIn K mainGlobals "plain" =some (some (.ref f32)))
  (q32:FA K f32 "plain" "plain" zjY)
  (a33:W.nsIn K mainGlobals "plain_road" =some (some (.ref f33)))
  (q33:FA K f33 "plain_road" "plain_road" zeU)
  (a34:W.nsIn K mainGlobals "asked" =some (some (.ref f34)))
  (q34:FA K f34 "asked" "asked" zjX)
  (a35:W.nsIn K mainGlobals "_law_cell" =some (some (.ref f35)))
  (q35:FA K f35 "_law_cell" "_law_cell" zf5)
  (a36:W.nsIn K mainGlobals "_law_side" =some (some (.ref f36)))
  (q36:FA K f36 "_law_side" "_law_side" zgb)
  (a37:W.nsIn K mainGlobals "_law_spelled" =some (some (.ref f37)))
  (q37:FA K f37 "_law_spelled" "_law_spelled" zev)
  (a38:W.nsIn K mainGlobals "_law_named" =some (some (.ref f38)))
  (q38:FA K f38 "_law_named" "_law_named" zfn)
  (a39:W.nsIn K mainGlobals "_law_good" =some (some (.ref f39)))
  (q39:FA K f39 "_law_good" "_law_good" zei)
  (a40:W.nsIn K mainGlobals "law" =some (some (.ref f40)))
  (q40:FA K f40 "law" "law" zji)
  (ybN:W.findIn K (.ref yac) "begin" =some (some (.ref f41)))
  (i41:W.isFn K (.ref f41)=true)
  (q41:FA K f41 "begin" "Desk.begin" zeI)
  (yaX:W.findIn K (.ref yac) "tell" =some (some (.ref f42)))
  (i42:W.isFn K (.ref f42)=true)
  (q42:FA K f42 "tell" "Desk.tell" zkw)
  (ybO:W.findIn K (.ref yac) "put" =some (some (.ref f43)))
  (i43:W.isFn K (.ref f43)=true)
  (q43:FA K f43 "put" "Desk.put" zf7)
  (ybh:W.findIn K (.ref yac) "answer" =some (some (.ref f44)))
  (i44:W.isFn K (.ref f44)=true)
  (q44:FA K f44 "answer" "Desk.answer" ziu)
  (a45:W.findIn K (.ref yau) "__init__" =some (some (.ref f45)))
  (i45:W.isFn K (.ref f45)=true)
  (q45:FA K f45 "__init__" "Book.__init__" zcV)
  (a46:W.findIn K (.ref yac) "__init__" =some (some (.ref f46)))
  (i46:W.isFn K (.ref f46)=true)
  (q46:FA K f46 "__init__" "Desk.__init__" zdJ)
  (ybv:W.plainGet K yal Str.empty=true)
  (ybw:W.hasDictIn K yal=true)
  (ybx:W.plainOver K yal=true)
  (yby:W.findIn K (.ref yal) "__setattr__" =some (some (.builtin "object.__setattr__")))
  (ycj:W.makesIn K yal=true)
  (yck:W.keepIn K (.ref yal)=true)
  (yaK:W.findIn K (.ref yal) "steps" =some none)
  (yaL:W.findIn K (.ref yal) "heads" =some none)
  (yaM:W.findIn K (.ref yal) "roads" =some none)
  (yb6:W.plainGet K yau Str.empty=true)
  (yb7:W.hasDictIn K yau=true)
  (yb8:W.plainOver K yau=true)
  (yb9:W.findIn K (.ref yau) "__setattr__" =some (some (.builtin "object.__setattr__")))
  (yca:W.makesIn K yau=true)
  (ycb:W.keepIn K (.ref yau)=true)
  (ya7:W.findIn K (.ref yau) "many" =some none)
  (yaY:W.findIn K (.ref yau) "swaps" =some none)
  (ycc:W.plainGet K yac Str.empty=true)
  (ycd:W.hasDictIn K yac=true)
  (yce:W.plainOver K yac=true)
  (ycf:W.findIn K (.ref yac) "__setattr__" =some (some (.builtin "object.__setattr__")))
  (ycg:W.makesIn K yac=true)
  (ych:W.keepIn K (.ref yac)=true)
  (yaZ:W.findIn K (.ref yac) "names" =some none)
  (ya8:W.findIn K (.ref yac) "book" =some none)
  (ycR:W.nsIn K mainGlobals "abs" =some none)
  (ycS:W.nsIn K mainGlobals "all" =some none)
  (ycT:W.nsIn K mainGlobals "any" =some none)
  (ya9:W.nsIn K mainGlobals "enumerate" =some none)
  (ycU:W.nsIn K mainGlobals "int" =some none)
  (ycV:W.nsIn K mainGlobals "len" =some none)
  (ycA:W.nsIn K mainGlobals "list" =some none)
  (yci:W.nsIn K mainGlobals "range" =some none)
  (ybi:W.nsIn K mainGlobals "reversed" =some none)
  (ycW:W.nsIn K mainGlobals "set" =some none)
  (ycX:W.nsIn K mainGlobals "str" =some none)
  (ycY:W.nsIn K mainGlobals "zip" =some none)
  (g_MOST_WARES:W.nsIn K mainGlobals "MOST_WARES" =some (some (.int 8 yaE)))
  (g_MOST_SWAPS:W.nsIn K mainGlobals "MOST_SWAPS" =some (some (.int 12 yaU)))
  (g_LETTERS:W.nsIn K mainGlobals "LETTERS" =some (some (.str "abcdefghijklmnopqrstuvwxyz" ybm)))
  (g_FIGURES:W.nsIn K mainGlobals "FIGURES" =some (some (.str "0123456789" ybo)))
  (g_LONGEST_NAME:W.nsIn K mainGlobals "LONGEST_NAME" =some (some (.int 12 yaI)))
  (g_LONGEST_COUNT:W.nsIn K mainGlobals "LONGEST_COUNT" =some (some (.int 12 yaD)))
  (yas:W.nsIn K mainGlobals "LONGEST_NUMBER" =some (some (.int 2 yaW)))
  (g_NOTHING:W.nsIn K mainGlobals "NOTHING" =some (some (.str "nothing" ya0)))
  (aT_MARKS:W.nsIn K mainGlobals "MARKS" =some (some (.ref T_MARKS)))
  (tk_MARKS:zrC K T_MARKS=some [("+" :Str),("-" :Str),("=" :Str)]) :
  ∃fd:FuncData,(∀(s:Shared) (v:Value),BindsTo s fd ⟨[v],[]⟩ [("_law_script",v)])∧∀base:Heap,K.In base->base.Ns mainGlobals mg->FnOk l.prog w K mg base (CXE l.prog w) 14 fa fd ["_law_script"] (zol K):=by
   have e:=hfa.symm.trans (W.mg_of X G a40)
   cases e
   have ycl:=q0.f
   have ydb:=ycl.binds (ps:=["word","signs"]) λ_ _ _ _ _ _ us hl=>match us,hl with|[_,_],_=>rfl
   have zco:=W.mg_of X G a0
   have ycm:=q1.f
   have ydc:=ycm.binds (ps:=["word"]) λ_ _ _ _ _ _ us hl=>match us,hl with|[_],_=>rfl
   have zck:=W.mg_of X G a1
   have ybR:=q2.f
   have ycZ:=ybR.binds (ps:=["word"]) λ_ _ _ _ _ _ us hl=>match us,hl with|[_],_=>rfl
   have zcq:=W.mg_of X G a2
   have ybS:=q3.f
   have yc0:=ybS.binds (ps:=["words"]) λ_ _ _ _ _ _ us hl=>match us,hl with|[_],_=>rfl
   have zc5:=W.mg_of X G a3
   have ycn:=q4.f
   have ydd:=ycn.binds (ps:=["words"]) λ_ _ _ _ _ _ us hl=>match us,hl with|[_],_=>rfl
   have zbO:=W.mg_of X G a4
   have yco:=q5.f
   have yde:=yco.binds (ps:=["words"]) λ_ _ _ _ _ _ us hl=>match us,hl with|[_],_=>rfl
   have zay:=W.mg_of X G a5
   have ybT:=q6.f
   have yc1:=ybT.binds (ps:=["words"]) λ_ _ _ _ _ _ us hl=>match us,hl with|[_],_=>rfl
   have zcs:=W.mg_of X G a6
   have yaO:=q7.f
   have ybz:=yaO.binds (ps:=["names"]) λ_ _ _ _ _ _ us hl=>match us,hl with|[_],_=>rfl
   have zdT:=W.mg_of X G a7
   have ybE:=q8.f
   have ycJ:=ybE.binds (ps:=["names","side"]) λ_ _ _ _ _ _ us hl=>match us,hl with|[_,_],_=>rfl
   have zaq:=W.mg_of X G a8
   have yaR:=q9.f
   have ybC:=yaR.binds (ps:=["word","numbers"]) λ_ _ _ _ _ _ us hl=>match us,hl with|[_,_],_=>rfl
   have zaG:=W.mg_of X G a9
   have yba:=q10.f
   have ybF:=yba.binds (ps:=["line"]) λ_ _ _ _ _ _ us hl=>match us,hl with|[_],_=>rfl
   have ybG:=W.mg_of X G a10
   have ya3:=q11.f
   have ybU:=ya3.binds (ps:=["one","other"]) λ_ _ _ _ _ _ us hl=>match us,hl with|[_,_],_=>rfl
   have zeK:=W.mg_of X G a11
   have ydf:=q12.f
   have ydz:=ydf.binds (ps:=["one","other"]) λ_ _ _ _ _ _ us hl=>match us,hl with|[_,_],_=>rfl
   have zfj:=W.mg_of X G a12
   have ydg:=q13.f
   have ydA:=ydg.binds (ps:=["one","other"]) λ_ _ _ _ _ _ us hl=>match us,hl with|[_,_],_=>rfl
   have za5:=W.mg_of X G a13
   have ycN:=q14.f
   have ydv:=ycN.binds (ps:=["some","many"]) λ_ _ _ _ _ _ us hl=>match us,hl with|[_,_],_=>rfl
   have zar:=W.mg_of X G a14
   have ycp:=q15.f
   have ydh:=ycp.binds (ps:=["row"]) λ_ _ _ _ _ _ us hl=>match us,hl with|[_],_=>rfl
   have zam:=W.mg_of X G a15
   have ycB:=q16.f
   have ydo:=ycB.binds (ps:=["one","other"]) λ_ _ _ _ _ _ us hl=>match us,hl with|[_,_],_=>rfl
   have zcN:=W.mg_of X G a16
   have ycq:=q17.f
   have ydi:=ycq.binds (ps:=["row"]) λ_ _ _ _ _ _ us hl=>match us,hl with|[_],_=>rfl
   have zbA:=W.mg_of X G a17
   have ycr:=q18.f
   have ydj:=ycr.binds (ps:=["row","steps"]) λ_ _ _ _ _ _ us hl=>match us,hl with|[_,_],_=>rfl
   have m_lowered:=W.mg_of X G a18
   have ycC:=q19.f
   have ydp:=ycC.binds (ps:=["step","row"]) λ_ _ _ _ _ _ us hl=>match us,hl with|[_,_],_=>rfl
   have zbm:=W.mg_of X G a19
   have ybV:=q20.f
   have yc2:=ybV.binds (ps:=["steps","row"]) λ_ _ _ _ _ _ us hl=>match us,hl with|[_,_],_=>rfl
   have m_taken_in:=W.mg_of X G a20
   have ycs:=q21.f
   have ydk:=ycs.binds (ps:=["steps"]) λ_ _ _ _ _ _ us hl=>match us,hl with|[_],_=>rfl
   have zch:=W.mg_of X G a21
   have yct:=q22.f
   have ydl:=yct.binds (ps:=["rows"]) λ_ _ _ _ _ _ us hl=>match us,hl with|[_],_=>rfl
   have zdf:=W.mg_of X G a22
   have ycD:=q23.f
   have ydq:=ycD.binds (ps:=["rows"]) λ_ _ _ _ _ _ us hl=>match us,hl with|[_],_=>rfl
   have zdX:=W.mg_of X G a23
   have ycE:=q24.f
   have ydr:=ycE.binds (ps:=["rows"]) λ_ _ _ _ _ _ us hl=>match us,hl with|[_],_=>rfl
   have zbk:=W.mg_of X G a24
   have ycO:=q25.f
   have ydw:=ycO.binds (ps:=["steps","many"]) λ_ _ _ _ _ _ us hl=>match us,hl with|[_,_],_=>rfl
   have zeF:=W.mg_of X G a25
   have ycu:=q26.f
   have ydm:=ycu.binds (ps:=["steps","basket","many"]) λ_ _ _ _ _ _ us hl=>match us,hl with|[_,_,_],_=>rfl
   have zdK:=W.mg_of X G a26
   have ycv:=q27.f
   have ydn:=ycv.binds (ps:=["many","swaps"]) λ_ _ _ _ _ _ us hl=>match us,hl with|[_,_],_=>rfl
   have zaU:=W.mg_of X G a27
   have yaH:=q28.f
   have ybl:=yaH.binds (ps:=["book","basket"]) λ_ _ _ _ _ _ us hl=>match us,hl with|[_,_],_=>rfl
   have zdI:=W.mg_of X G a28
   have yaS:=q29.f
   have ybD:=yaS.binds (ps:=["book","road"]) λ_ _ _ _ _ _ us hl=>match us,hl with|[_,_],_=>rfl
   have zef:=W.mg_of X G a29
   have ycF:=q30.f
   have yds:=ycF.binds (ps:=["book","basket"]) λ_ _ _ _ _ _ us hl=>match us,hl with|[_,_],_=>rfl
   have zbT:=W.mg_of X G a30
   have ycG:=q31.f
   have ydt:=ycG.binds (ps:=["book"]) λ_ _ _ _ _ _ us hl=>match us,hl with|[_],_=>rfl
   have za9:=W.mg_of X G a31
   have ycP:=q32.f
   have ydx:=ycP.binds (ps:=["book","road"]) λ_ _ _ _ _ _ us hl=>match us,hl with|[_,_],_=>rfl
   have zbI:=W.mg_of X G a32
   have ybA:=q33.f
   have ycH:=ybA.binds (ps:=["book","one","other"]) λ_ _ _ _ _ _ us hl=>match us,hl with|[_,_,_],_=>rfl
   have zaI:=W.mg_of X G a33
   have ycQ:=q34.f
   have ydy:=ycQ.binds (ps:=["book","one","other"]) λ_ _ _ _ _ _ us hl=>match us,hl with|[_,_,_],_=>rfl
   have zfB:=W.mg_of X G a34
   have ybW:=q35.f
   have yc3:=ybW.binds (ps:=["_law_script","_law_k"]) λ_ _ _ _ _ _ us hl=>match us,hl with|[_,_],_=>rfl
   have zaf:=W.mg_of X G a35
   have ybX:=q36.f
   have yc4:=ybX.binds (ps:=["_law_names","_law_basket"]) λ_ _ _ _ _ _ us hl=>match us,hl with|[_,_],_=>rfl
   have zah:=W.mg_of X G a36
   have ybj:=q37.f
   have ycw:=ybj.binds (ps:=["_law_digits","_law_many"]) λ_ _ _ _ _ _ us hl=>match us,hl with|[_,_],_=>rfl
   have zbf:=W.mg_of X G a37
   have ybH:=q38.f
   have ycK:=ybH.binds (ps:=["_law_script","_law_at","_law_many"]) λ_ _ _ _ _ _ us hl=>match us,hl with|[_,_,_],_=>rfl
   have zbo:=W.mg_of X G a38
   have ybY:=q39.f
   have yc5:=ybY.binds (ps:=["_law_desk","_law_names","_law_swaps","_law_one","_law_other"]) λ_ _ _ _ _ _ us hl=>match us,hl with|[_,_,_,_,_],_=>rfl
   have zbc:=W.mg_of X G a39
   obtain ⟨_,kV40,dc40,pm40,cd40,ct40,_,an40,_,l40,c40,k40⟩:=q40
   have ydu:=zpz (st:=zji) l40 c40 k40
   have ydB:=ydu.binds (ps:=["_law_script"]) λ_ _ _ _ _ _ us hl=>match us,hl with|[_],_=>rfl
   have zkj:=W.mg_of X G a40
   have ybB:=q41.f
   have ycI:=ybB.binds (ps:=["self","names"]) λ_ _ _ _ _ _ us hl=>match us,hl with|[_,_],_=>rfl
   have yaN:=q42.f
   have ybb:=yaN.binds (ps:=["self","line"]) λ_ _ _ _ _ _ us hl=>match us,hl with|[_,_],_=>rfl
   have ybZ:=q43.f
   have yc6:=ybZ.binds (ps:=["self","swap"]) λ_ _ _ _ _ _ us hl=>match us,hl with|[_,_],_=>rfl
   have yaQ:=q44.f
   have ybk:=yaQ.binds (ps:=["self","order","sides"]) λ_ _ _ _ _ _ us hl=>match us,hl with|[_,_,_],_=>rfl
   have ya4:=q45.f
   have yaG:=ya4.binds (ps:=["self","many","swaps"]) λ_ _ _ _ _ _ us hl=>match us,hl with|[_,_,_],_=>rfl
   have ya5:=q46.f
   have yax:=ya5.binds (ps:=["self"]) λ_ _ _ _ _ _ us hl=>match us,hl with|[_],_=>rfl
   have T:Txt K mg ⟨(),yal,yau,yac,T_MARKS⟩:=⟨W.mg_none_of X G ycR,W.mg_none_of X G ycS,W.mg_none_of X G ycT,W.mg_none_of X G ya9,W.mg_none_of X G ycU,W.mg_none_of X G ycV,W.mg_none_of X G ycA,W.mg_none_of X G yci,W.mg_none_of X G ybi,W.mg_none_of X G ycW,W.mg_none_of X G ycX,W.mg_none_of X G ycY,W.mg_of X G ybu,⟨ybv,ybw,ybx,yby⟩,yaK,yaL,yaM,W.mg_of X G yb4,⟨yb6,yb7,yb8,yb9⟩,ya7,yaY,W.mg_of X G yb5,⟨ycc,ycd,yce,ycf⟩,yaZ,ya8,⟨yaE,W.mg_of X G g_MOST_WARES⟩,⟨yaU,W.mg_of X G g_MOST_SWAPS⟩,⟨ybm,W.mg_of X G g_LETTERS⟩,⟨ybo,W.mg_of X G g_FIGURES⟩,⟨yaI,W.mg_of X G g_LONGEST_NAME⟩,⟨yaD,W.mg_of X G g_LONGEST_COUNT⟩,⟨yaW,W.mg_of X G yas⟩,⟨ya0,W.mg_of X G g_NOTHING⟩,W.mg_of X G aT_MARKS,tk_MARKS⟩
   refine ⟨W.fnOf "law" "law" (zfD zji) (zdA zji) (zag zji) .none kV40 dc40 pm40 an40 cd40 ct40,λs v=> .of_eq rfl,λbase _ _=> ?_⟩
   have ycy:Mk K yau f45:=⟨yca,a45,i45,ycb⟩
   have ybQ:Mk K yac f46:=⟨ycg,a46,i46,ych⟩
   have yaC:=cm l w base (zlU ycl T) zco q0.k ydb
   have ybq:=cm l w base (zmf ycm T yaC) zck q1.k ydc
   have ybc:=cm l w base (zjU ybR T yaC) zcq q2.k ycZ
   have ybd:=cm l w base (zkt ybS T) zc5 q3.k yc0
   have ybp:=cm l w base (zlZ ycn T ybc) zbO q4.k ydd
   have ya1:=cm l w base (zl6 yco T ybp) zay q5.k yde
   have ybe:=cm l w base (zjS ybT T ya1) zcs q6.k yc1
   have yay:=cm l w base (zfq yaO T ybq) zdT q7.k ybz
   have yav:=cm l w base (zjp ybE T) zaq q8.k ycJ
   have yab:=cm l w base (zfM yaR T) zaG q9.k ybC
   have yaB:=cm l w base (zfU yba T ybd) ybG q10.k ybF
   have yag:=cm l w base (zfW yba T ybe) ybG q10.k ybF
   have yaj:=cm l w base (zgt ya3 T) zeK q11.k ybU
   have ycx:=cm l w base (zrw ydf T yaj) zfj q12.k ydz
   have yat:=cm l w base (zqP ydg T yaj) za5 q13.k ydA
   have yah:=cm l w base (zou ycN T) zar q14.k ydv
   have yaa:=cm l w base (zlS ycp T) zam q15.k ydh
   have ybI:=cm l w base (zmY ycB T) zcN q16.k ydo
   have ya2:=cm l w base (zmh ycq T yaa yah) zbA q17.k ydi
   have yaf:=cm l w base (zl7 ycr T yaa yat yah) m_lowered q18.k ydj
   have ybJ:=cm l w base (znb ycC T ybI yaa yat ycx yah) zbm q19.k ydp
   have ybf:=cm l w base (zj1 ybV T yaa yaf ybJ ya2) m_taken_in q20.k yc2
   have ybr:=cm l w base (zlW ycs T yaf) zch q21.k ydk
   have ybs:=cm l w base (zlY yct T ybr ybf) zdf q22.k ydl
   have ybK:=cm l w base (znC ycD T) zdX q23.k ydq
   have yaJ:=cm l w base (zm9 ycE T ybs ybK) zbk q24.k ydr
   have yb1:=cm l w base (zoE ycO T yaa) zeF q25.k ydw
   have ybt:=cm l w base (zmm ycu T yaf yah) zdK q26.k ydm
   have yaF:=zgu (P:=l.prog) (w:=w) (base:=base) ya4 T
   have yao:=cm l w base (zlQ ycv T ycy yaF yaG) zaU q27.k ydn
   have yam:=cm l w base (zfi yaH T) zdI q28.k ybl
   have yaA:=cm l w base (zfN yaS T) zef q29.k ybD
   have ybM:=cm l w base (znn ycF T ybt yaJ) zbT q30.k yds
   have ybL:=cm l w base (zn2 ycG T yb1 yaJ) za9 q31.k ydt
   have yb2:=cm l w base (zpt ycP T yaf yaA ybL) zbI q32.k ydx
   have yar:=cm l w base (ziv ybA T yat yb2 yam ybM) zaI q33.k ycH
   have yb3:=cm l w base (zoF ycQ T yab yar) zfB q34.k ydy
   have yaw:=zgv (P:=l.prog) (w:=w) (base:=base) ya5 T
   have yaV:CalleeM l.prog w K mg base (CXE l.prog w) 4 yac "begin" ["self","names"] (zem K _):=⟨_,_,ziG ybB T yao yab yay,⟨ybN,i41,q41.k⟩,ycI⟩
   have yai:CalleeM l.prog w K mg base (CXE l.prog w) 5 yac "tell" ["self","line"] (zb0 K _):=⟨_,_,zeo yaN T yaV yaB,⟨yaX,i42,q42.k⟩,ybb⟩
   have ybg:CalleeM l.prog w K mg base (CXE l.prog w) 4 yac "put" ["self","swap"] (zfo K _):=⟨_,_,zj0 ybZ T yao yab,⟨ybO,i43,q43.k⟩,yc6⟩
   have yan:CalleeM l.prog w K mg base (CXE l.prog w) 5 yac "answer" ["self","order","sides"] (zbQ K _):=⟨_,_,zeh yaQ T ybg yat,⟨ybh,i44,q44.k⟩,ybk⟩
   have yak:CalleeM l.prog w K mg base (CXE l.prog w) 7 yac "tell" ["self","line"] (zcb K _):=⟨_,_,zeC yaN T yan yav yag,⟨yaX,i42,q42.k⟩,ybb⟩
   have yaq:CalleeM l.prog w K mg base (CXE l.prog w) 11 yac "answer" ["self","order","sides"] (zb3 K _):=⟨_,_,zej yaQ T yb3,⟨ybh,i44,q44.k⟩,ybk⟩
   have yad:CalleeM l.prog w K mg base (CXE l.prog w) 12 yac "tell" ["self","line"] (zbG K _):=⟨_,_,zeH yaN T yaq yav yag,⟨yaX,i42,q42.k⟩,ybb⟩
   have yae:=cm l w base (zkp ybW T) zaf q35.k yc3
   have yap:=cm l w base (zkx ybX T) zah q36.k yc4
   have yaP:=cm l w base (zhN ybj T) zbf q37.k ycw
   have ya6:=cm l w base (zjM ybH T yae yaP) zbo q38.k ycK
   have yaz:=cm l w base (zjW ybY T yad yap yao yar) zbc q39.k yc5
   exact (zti ydu T yad yak yai yae yaz ya6 yap ybQ yaw yax).imp λ_ _ _ _ q=>ztD q
theorem zu7 {l:W.OpenLaw} {q:Program} {loose:List Str} {XP:(Str->Option Value)->Heap->Prop} {YP:World->Heap->Prop} {d:DefRec} {K:Params->W.Frag} (hn:l.most=some 63) (hdf:d.params.defaults=[])
  (hY:∀(w:World) (h:Heap),YP w h->(K w.params).In h)
  (F:∀(w:World) (mg:Str->Option Value) (fa:Addr) (h:Heap),(K w.params).In h->h.Ns mainGlobals mg->mg d.name=some (.ref fa)→∃fd:FuncData,(∀(s:Shared) (u:Value),BindsTo s fd ⟨[u],[]⟩ [("_law_script",u)])∧∀base:Heap,(K w.params).In base->base.Ns mainGlobals mg->FnOk l.prog w (K w.params) mg base (CXE l.prog w) 14 fa fd ["_law_script"] (zol (K w.params))) :
  W.WalkO q loose XP YP l.row.toRowW d [] (λf vs=>PySem.call f vs) :=
 L2.zqH (n:=63) (k:=14) (x:="_law_script") (CX:=λw=>CXE l.prog w) (sp:=λw=>zol (K w.params)) hn (by decide) hdf ⟨rfl,by decide,by decide⟩ hY F (λ_ _ a ns hl _ hS=>⟨a,ns,rfl,hS,hl,λ_=>rfl⟩) λ_ _ _ _ _ ⟨_,_,_,_,_,_,_,_,_,_,z⟩=>z
end
end My
section
open PySem PySem.W PyProof.Rows
set_option maxRecDepth 100000 in
set_option maxHeartbeats 0 in
theorem PySem.Challenge.cw_swapbook_k84_plain_roads_of_a_desk_holds : PySem.Challenge.rw_swapbook_k84_plain_roads_of_a_desk.Holds := by
 refine My.headT ?hc
 k_fill
 refine My.zu7 (l:=PySem.Challenge.rw_swapbook_k84_plain_roads_of_a_desk) rfl rfl (λw h Y=>W.kIn_of Y) ?F
 case F =>
  intro w mg fa h KX G hmg
  refine' My.zrY KX G hmg ?ybu ?yb4 ?yb5 ?a0 ?q0 ?a1 ?q1 ?a2 ?q2 ?a3 ?q3 ?a4 ?q4 ?a5 ?q5 ?a6 ?q6 ?a7 ?q7 ?a8 ?q8 ?a9 ?q9 ?a10 ?q10 ?a11 ?q11 ?a12 ?q12 ?a13 ?q13 ?a14 ?q14 ?a15 ?q15 ?a16 ?q16 ?a17 ?q17 ?a18 ?q18 ?a19 ?q19 ?a20 ?q20 ?a21 ?q21 ?a22 ?q22 ?a23 ?q23 ?a24 ?q24 ?a25 ?q25 ?a26 ?q26 ?a27 ?q27 ?a28 ?q28 ?a29 ?q29 ?a30 ?q30 ?a31 ?q31 ?a32 ?q32 ?a33 ?q33 ?a34 ?q34 ?a35 ?q35 ?a36 ?q36 ?a37 ?q37 ?a38 ?q38 ?a39 ?q39 ?a40 ?q40 ?ybN ?i41 ?q41 ?yaX ?i42 ?q42 ?ybO ?i43 ?q43 ?ybh ?i44 ?q44 ?a45 ?i45 ?q45 ?a46 ?i46 ?q46 ?ybv ?ybw ?ybx ?yby ?ycj ?yck ?yaK ?yaL ?yaM ?yb6 ?yb7 ?yb8 ?yb9 ?yca ?ycb ?ya7 ?yaY ?ycc ?ycd ?yce ?ycf ?ycg ?ych ?yaZ ?ya8 ?ycR ?ycS ?ycT ?ya9 ?ycU ?ycV ?ycA ?yci ?ybi ?ycW ?ycX ?ycY ?g_MOST_WARES ?g_MOST_SWAPS ?g_LETTERS ?g_FIGURES ?g_LONGEST_NAME ?g_LONGEST_COUNT ?yas ?g_NOTHING ?aT_MARKS ?tk_MARKS
  (case ybu=>k_is)
  (case yb4=>k_is)
  (case yb5=>k_is)
  (case a0=>k_is)
  (case q0=>apply L2.FA.m<;>k_is)
  (case a1=>k_is)
  (case q1=>apply L2.FA.m<;>k_is)
  (case a2=>k_is)
  (case q2=>apply L2.FA.m<;>k_is)
  (case a3=>k_is)
  (case q3=>apply L2.FA.m<;>k_is)
  (case a4=>k_is)
  (case q4=>apply L2.FA.m<;>k_is)
  (case a5=>k_is)
  (case q5=>apply L2.FA.m<;>k_is)
  (case a6=>k_is)
  (case q6=>apply L2.FA.m<;>k_is)
  (case a7=>k_is)
  (case q7=>apply L2.FA.m<;>k_is)
  (case a8=>k_is)
  (case q8=>apply L2.FA.m<;>k_is)
  (case a9=>k_is)
  (case q9=>apply L2.FA.m<;>k_is)
  (case a10=>k_is)
  (case q10=>apply L2.FA.m<;>k_is)
  (case a11=>k_is)
  (case q11=>apply L2.FA.m<;>k_is)
  (case a12=>k_is)
  (case q12=>apply L2.FA.m<;>k_is)
  (case a13=>k_is)
  (case q13=>apply L2.FA.m<;>k_is)
  (case a14=>k_is)
  (case q14=>apply L2.FA.m<;>k_is)
  (case a15=>k_is)
  (case q15=>apply L2.FA.m<;>k_is)
  (case a16=>k_is)
  (case q16=>apply L2.FA.m<;>k_is)
  (case a17=>k_is)
  (case q17=>apply L2.FA.m<;>k_is)
  (case a18=>k_is)
  (case q18=>apply L2.FA.m<;>k_is)
  (case a19=>k_is)
  (case q19=>apply L2.FA.m<;>k_is)
  (case a20=>k_is)
  (case q20=>apply L2.FA.m<;>k_is)
  (case a21=>k_is)
  (case q21=>apply L2.FA.m<;>k_is)
  (case a22=>k_is)
  (case q22=>apply L2.FA.m<;>k_is)
  (case a23=>k_is)
  (case q23=>apply L2.FA.m<;>k_is)
  (case a24=>k_is)
  (case q24=>apply L2.FA.m<;>k_is)
  (case a25=>k_is)
  (case q25=>apply L2.FA.m<;>k_is)
  (case a26=>k_is)
  (case q26=>apply L2.FA.m<;>k_is)
  (case a27=>k_is)
  (case q27=>apply L2.FA.m<;>k_is)
  (case a28=>k_is)
  (case q28=>apply L2.FA.m<;>k_is)
  (case a29=>k_is)
  (case q29=>apply L2.FA.m<;>k_is)
  (case a30=>k_is)
  (case q30=>apply L2.FA.m<;>k_is)
  (case a31=>k_is)
  (case q31=>apply L2.FA.m<;>k_is)
  (case a32=>k_is)
  (case q32=>apply L2.FA.m<;>k_is)
  (case a33=>k_is)
  (case q33=>apply L2.FA.m<;>k_is)
  (case a34=>k_is)
  (case q34=>apply L2.FA.m<;>k_is)
  (case a35=>k_is)
  (case q35=>apply L2.FA.m<;>k_is)
  (case a36=>k_is)
  (case q36=>apply L2.FA.m<;>k_is)
  (case a37=>k_is)
  (case q37=>apply L2.FA.m<;>k_is)
  (case a38=>k_is)
  (case q38=>apply L2.FA.m<;>k_is)
  (case a39=>k_is)
  (case q39=>apply L2.FA.m<;>k_is)
  (case a40=>k_is)
  (case q40=>apply L2.FA.m<;>k_is)
  (case ybN=>k_is)
  (case i41=>k_is)
  (case q41=>apply L2.FA.m<;>k_is)
  (case yaX=>k_is)
  (case i42=>k_is)
  (case q42=>apply L2.FA.m<;>k_is)
  (case ybO=>k_is)
  (case i43=>k_is)
  (case q43=>apply L2.FA.m<;>k_is)
  (case ybh=>k_is)
  (case i44=>k_is)
  (case q44=>apply L2.FA.m<;>k_is)
  (case a45=>k_is)
  (case i45=>k_is)
  (case q45=>apply L2.FA.m<;>k_is)
  (case a46=>k_is)
  (case i46=>k_is)
  (case q46=>apply L2.FA.m<;>k_is)
  (case ybv=>k_is)
  (case ybw=>k_is)
  (case ybx=>k_is)
  (case yby=>k_is)
  (case ycj=>k_is)
  (case yck=>k_is)
  (case yaK=>k_is)
  (case yaL=>k_is)
  (case yaM=>k_is)
  (case yb6=>k_is)
  (case yb7=>k_is)
  (case yb8=>k_is)
  (case yb9=>k_is)
  (case yca=>k_is)
  (case ycb=>k_is)
  (case ya7=>k_is)
  (case yaY=>k_is)
  (case ycc=>k_is)
  (case ycd=>k_is)
  (case yce=>k_is)
  (case ycf=>k_is)
  (case ycg=>k_is)
  (case ych=>k_is)
  (case yaZ=>k_is)
  (case ya8=>k_is)
  (case ycR=>k_is)
  (case ycS=>k_is)
  (case ycT=>k_is)
  (case ya9=>k_is)
  (case ycU=>k_is)
  (case ycV=>k_is)
  (case ycA=>k_is)
  (case yci=>k_is)
  (case ybi=>k_is)
  (case ycW=>k_is)
  (case ycX=>k_is)
  (case ycY=>k_is)
  (case g_MOST_WARES=>k_is)
  (case g_MOST_SWAPS=>k_is)
  (case g_LETTERS=>k_is)
  (case g_FIGURES=>k_is)
  (case g_LONGEST_NAME=>k_is)
  (case g_LONGEST_COUNT=>k_is)
  (case yas=>k_is)
  (case g_NOTHING=>k_is)
  (case aT_MARKS=>k_is)
  (case tk_MARKS=>(apply L2.zsv;k_is;rfl))
end
