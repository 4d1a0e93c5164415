import PyProof.Rows.All
import Wide.All
import OpenK.AllK
import Wide.FinOn
import Lean
import PyProof.EqAt
import PyProof.EqKinds
import PyProof.TupleCall
import PySem.Challenge.RW_swapbook_k13_whole_one_stairs_for_all
set_option Elab.async false
set_option linter.all false
set_option maxRecDepth 100000
namespace L2
open PySem PySem.Spec PyProof.Rows

abbrev Key := Sum Int Str
def keyIs : Key → Value → Bool
  | .inl k, v => Value.isInt k v
  | .inr x, v => Value.isStrOf x v
def keyH (w : World) : Key → Int
  | .inl k => hashInt k
  | .inr x => hashStr w x
theorem keyIs_shape : ∀ {k : Key} {v : Value}, keyIs k v = true → (∃ i t, k = Sum.inl i ∧ v = Value.int i t) ∨ (∃ x t, k = Sum.inr x ∧ v = Value.str x t)
  | .inl i, v, h => by
    obtain ⟨t, e⟩ := Value.isInt_shape (k := i) (v := v) h
    exact .inl ⟨i, t, rfl, e⟩
  | .inr x, v, h => by
    obtain ⟨t, e⟩ := Value.isStrOf_shape (x := x) (v := v) h
    exact .inr ⟨x, t, rfl, e⟩
theorem key_ll (a b : Int) : decide ((Sum.inl a : Key) = Sum.inl b) = (a == b) := by
  by_cases e : a = b
  · subst e; simp
  · have h : ¬ (Sum.inl a : Key) = Sum.inl b := fun q => e (Sum.inl.inj q)
    rw [decide_eq_false h]
    exact (beq_eq_false_iff_ne.mpr e).symm
theorem key_rr (a b : Str) : decide ((Sum.inr a : Key) = Sum.inr b) = decide (a = b) := by
  by_cases e : a = b
  · subst e; simp
  · have h : ¬ (Sum.inr a : Key) = Sum.inr b := fun q => e (Sum.inr.inj q)
    rw [decide_eq_false h, decide_eq_false e]
theorem key_lr (a : Int) (b : Str) : decide ((Sum.inl a : Key) = Sum.inr b) = false := decide_eq_false (fun q => nomatch q)
theorem key_rl (a : Str) (b : Int) : decide ((Sum.inr a : Key) = Sum.inl b) = false := decide_eq_false (fun q => nomatch q)

def mixKind (prog : Program) (w : World) : PySem.KeyKind prog w Key where
  is := keyIs
  hash := keyH w
  inj := fun v a b ha hb => by
    rcases keyIs_shape ha with ⟨i, t, rfl, rfl⟩ | ⟨x, t, rfl, rfl⟩
    · rcases keyIs_shape hb with ⟨j, u, rfl, e⟩ | ⟨y, u, rfl, e⟩
      · injection e with e1 _; rw [e1]
      · exact nomatch e
    · rcases keyIs_shape hb with ⟨j, u, rfl, e⟩ | ⟨y, u, rfl, e⟩
      · exact nomatch e
      · injection e with e1 _; rw [e1]
  byValue := fun k v h => by
    rcases keyIs_shape h with ⟨i, t, rfl, rfl⟩ | ⟨x, t, rfl, rfl⟩ <;> rfl
  pyHash := fun hv h => by
    rcases keyIs_shape hv with ⟨i, t, rfl, rfl⟩ | ⟨x, t, rfl, rfl⟩
    · exact wpAny_pyHash_int h
    · exact wpAny_pyHash_str h
  eqBool := fun hu hv h => by
    rcases keyIs_shape hu with ⟨i, t, rfl, rfl⟩ | ⟨x, t, rfl, rfl⟩
    · rcases keyIs_shape hv with ⟨j, u, rfl, rfl⟩ | ⟨y, u, rfl, rfl⟩
      · rw [key_ll] at h; exact wpAny_eqBool_int h
      · rw [key_lr] at h; exact SeqAt.EqAt.int_str i t y u _ _ _ _ h
    · rcases keyIs_shape hv with ⟨j, u, rfl, rfl⟩ | ⟨y, u, rfl, rfl⟩
      · rw [key_rl] at h; exact SeqAt.EqAt.str_int x t j u _ _ _ _ h
      · rw [key_rr] at h; exact wpAny_eqBool_str h
  «strs» := fun k x t v h => by
    rcases keyIs_shape h with ⟨i, u, rfl, e⟩ | ⟨y, u, rfl, e⟩
    · exact nomatch e
    · injection e with e1 _
      subst e1
      cases v <;> rfl

end L2

namespace L2
open PySem PySem.Spec PyProof.Rows

inductive V where
  | non | bl (b : Bool) | int (i : Int) | str (x : Str) | byt (b : Array UInt8) | flt (b : UInt64) | ref (a : Addr) | ty (n : String)
  deriving DecidableEq

def RelV : V → Value → Prop
  | .non, u => u = Value.none
  | .bl b, u => u = Value.bool b
  | .int i, u => ∃ t, u = Value.int i t
  | .str x, u => ∃ t, u = Value.str x t
  | .byt b, u => ∃ t, u = Value.bytes b t
  | .flt b, u => ∃ t, u = Value.float b t
  | .ref a, u => u = Value.ref a
  | .ty n, u => u = Value.type n

abbrev Vals : List V → List Value → Prop := Paired RelV
theorem Vals.length {xs : List V} {us : List Value} (r : Vals xs us) : xs.length = us.length := Paired.length r
theorem Vals.get : ∀ {xs : List V} {us : List Value} {i : Nat} {x : V}, Vals xs us → xs[i]? = some x → ∃ u, us[i]? = some u ∧ RelV x u
  | _, _, _, _, .nil, e => by simp at e
  | _, _, 0, _, .cons r _, e => by simp at e; subst e; exact ⟨_, rfl, r⟩
  | _, _, i + 1, x, .cons _ t, e => by
    obtain ⟨u, h1, h2⟩ := Vals.get (i := i) (x := x) t (by simpa using e)
    exact ⟨u, by simpa using h1, h2⟩
theorem Vals.set {x : V} {u : Value} (r : RelV x u) : ∀ {xs : List V} {us : List Value} (i : Nat), Vals xs us → Vals (xs.set i x) (us.set i u)
  | _, _, _, .nil => .nil
  | _, _, 0, .cons _ t => .cons r t
  | _, _, i + 1, .cons q t => .cons q (Vals.set r i t)
theorem Vals.append : ∀ {xs ys : List V} {us ws : List Value}, Vals xs us → Vals ys ws → Vals (xs ++ ys) (us ++ ws)
  | _, _, _, _, .nil, s => s
  | _, _, _, _, .cons r t, s => .cons r (Vals.append t s)
theorem Vals.take : ∀ {xs : List V} {us : List Value} (n : Nat), Vals xs us → Vals (xs.take n) (us.take n)
  | _, _, 0, _ => .nil
  | _, _, _ + 1, .nil => .nil
  | _, _, n + 1, .cons r t => .cons r (Vals.take n t)
theorem Vals.drop : ∀ {xs : List V} {us : List Value} (n : Nat), Vals xs us → Vals (xs.drop n) (us.drop n)
  | _, _, 0, r => r
  | _, _, _ + 1, .nil => .nil
  | _, _, n + 1, .cons _ t => Vals.drop n t
def RelO : Option V → Option Value → Prop
  | some v, some u => RelV v u
  | none, none => True
  | _, _ => False
def KV {κ : Type} : List (κ × V) → List (κ × Value) → Prop := Paired fun (p : κ × V) (q : κ × Value) => p.1 = q.1 ∧ RelV p.2 q.2

def kV : Key → V
  | .inl i => .int i
  | .inr x => .str x

inductive HO where
    | lst (xs : List V)
    | tup (xs : List V)
    | dK (kvs : List (Key × V)) | dT (kvs : List (List Key × V))
    | set (S : Int → Bool) (n : Nat)
    | ins (C dx : Addr) (fs : List (Str × V))
    | own (x : Addr)
    | xd (fs : List (Str × V))
    | met (f x : Addr)
    | rng (lo hi : Int)
    | frz (o : Obj) (u : HO)
    | tbl (ps : Array Value)
    | ext (φ : Heap → Prop)

abbrev Hp := Addr → Option HO
def upd (H : Hp) (a : Addr) (o : HO) : Hp := fun b => if b = a then some o else H b
theorem upd_same {H : Hp} {a : Addr} {o : HO} : upd H a o a = some o := by unfold upd; rw [if_pos rfl]
theorem upd_ne {H : Hp} {a b : Addr} {o : HO} (h : b ≠ a) : upd H a o b = H b := by unfold upd; rw [if_neg h]
theorem ne_of {H : Hp} {a b : Addr} {o u : HO} (h : H a = some o) (h' : H b = some u) (d : o ≠ u) : a ≠ b := by
  intro e; subst e; rw [h] at h'; exact d (Option.some.inj h')
theorem ne_of_none {H : Hp} {a b : Addr} {o : HO} (h : H a = some o) (h' : H b = none) : a ≠ b := by
  intro e; subst e; rw [h] at h'; cases h'

section
variable (P : Program) (w : World)
def ObjOk (H : Hp) (h : Heap) (a : Addr) : HO → Prop
  | .lst xs => xs.length ≤ sizeLine ∧ ∃ (its : List Value) (n : Nat), Vals xs its ∧ h.get? a = some { cls := .type "list", data := .seq its.toArray n }
  | .tup xs => xs.length ≤ sizeLine ∧ ∃ its : List Value, Vals xs its ∧ IsTup h a its.toArray
  | .dK kvs => kvs.length ≤ sizeLine ∧ (a == sysModules) = false ∧ ∃ vs, KV kvs vs ∧ h.DictOf (mixKind P w) a vs
  | .dT kvs => kvs.length ≤ sizeLine ∧ (a == sysModules) = false ∧ ∃ xs : List (List Key × Addr × Value),
      Paired (fun (p : List Key × V) (q : List Key × Addr × Value) => p.1 = q.1 ∧ H q.2.1 = some (.tup (p.1.map kV)) ∧ RelV p.2 q.2.2) kvs xs ∧
      ∃ o es ep, h.get? a = some o ∧ o.ExactDict ∧ o.data = .dict es ep ∧ es.toList = xs.map (entryOfKey (tupleKind (mixKind P w))) ∧ (xs.map (·.1)).Nodup
  | .set S n => h.SetOf (intKind P w) a S n
  | .ins C dx fs => H dx = some (.own a) ∧ fs.length ≤ 1000 ∧ dx ≠ a ∧ h.get? a = some (PySem.W.instObj C dx) ∧
      ∃ mA, h.Ns1 dx mA ∧ (∀ f, RelO (fs.lookup f) (mA f)) ∧ PySem.Within mA (fs.map (·.1))
  | .own _ => ∃ o, h.get? a = some o
  | .xd fs => ∃ mA, h.Ns1 a mA ∧ ∀ f, RelO (fs.lookup f) (mA f)
  | .rng lo hi => ∃ t u v, h.get? a = some { cls := .type "range", data := .fields #[.int lo t, .int hi u, .int 1 v] }
  | .frz o u => h.get? a = some o ∧ ObjOk H h a u
  | .tbl ps => h.get? a = some { cls := .none, data := .fields ps }
  | .met f x => h.get? a = some (PySem.W.methodObj (.ref f) (.ref x))
  | .ext φ => φ h ∧ (∃ o, h.get? a = some o) ∧ ∀ h1 h2 : Heap, φ h1 → (∀ o, h1.get? a = some o → h2.get? a = some o) → φ h2
def HOk (H : Hp) (h : Heap) : Prop := ∀ a o, H a = some o → ObjOk P w H h a o
end

section
variable {P : Program} {w : World} {H H' : Hp} {h h' : Heap} {a : Addr} {o : HO}
theorem ObjOk.lt (x : ObjOk P w H h a o) : a < h.objs.size := by
  cases o with
  | lst xs => obtain ⟨_, _, _, _, e⟩ := x; exact Heap.lt_size e
  | tup xs => obtain ⟨_, _, _, p⟩ := x; exact p.lt
  | dK kvs => obtain ⟨_, _, _, _, o, _, _, e, _⟩ := x; exact Heap.lt_size e
  | dT kvs => obtain ⟨_, _, _, _, o, _, _, e, _⟩ := x; exact Heap.lt_size e
  | set S n => obtain ⟨o, _, _, _, e, _⟩ := x; exact Heap.lt_size e
  | ins C dx fs => obtain ⟨_, _, _, e, _⟩ := x; exact Heap.lt_size e
  | own y => obtain ⟨_, e⟩ := x; exact Heap.lt_size e
  | xd fs => obtain ⟨_, ⟨_, _, _, e, _⟩, _⟩ := x; exact Heap.lt_size e
  | rng lo hi => obtain ⟨_, _, _, e⟩ := x; exact Heap.lt_size e
  | frz ob u => obtain ⟨e, _⟩ := x; exact Heap.lt_size e
  | tbl ps => exact Heap.lt_size (show h.get? a = some _ from x)
  | met f y => exact Heap.lt_size (show h.get? a = some _ from x)
  | ext φ => obtain ⟨_, ⟨_, e⟩, _⟩ := x; exact Heap.lt_size e
theorem Paired.mapP {α β : Type} {F G : α → β → Prop} : ∀ {l₁ : List α} {l₂ : List β}, Paired F l₁ l₂ → (∀ a b, F a b → G a b) → Paired G l₁ l₂
  | _, _, .nil, _ => .nil
  | _, _, .cons r t, f => .cons (f _ _ r) (Paired.mapP t f)
theorem ObjOk.stay (x : ObjOk P w H h a o) (k : ∀ b u, (b = a ∨ H b = some (.own a)) → h.get? b = some u → h'.get? b = some u)
    (ho : ∀ b, H b = some (.own a) → H' b = some (.own a)) (ht : ∀ b xs, H b = some (.tup xs) → H' b = some (.tup xs)) : ObjOk P w H' h' a o := by
  induction o with
  | lst xs => obtain ⟨z, its, n, r, e⟩ := x; exact ⟨z, its, n, r, k _ _ (.inl rfl) e⟩
  | tup xs => obtain ⟨z, its, r, ob, e, c⟩ := x; exact ⟨z, its, r, ob, k _ _ (.inl rfl) e, c⟩
  | dK kvs => obtain ⟨z, y, vs, r, ob, es, ep, e, c⟩ := x; exact ⟨z, y, vs, r, ob, es, ep, k _ _ (.inl rfl) e, c⟩
  | dT kvs =>
    obtain ⟨z, y, xs, r, ob, es, ep, e, c⟩ := x
    exact ⟨z, y, xs, Paired.mapP r fun p q z => ⟨z.1, ht _ _ z.2.1, z.2.2⟩, ob, es, ep, k _ _ (.inl rfl) e, c⟩
  | set S n => obtain ⟨ob, es, ep, t, e, c⟩ := x; exact ⟨ob, es, ep, t, k _ _ (.inl rfl) e, c⟩
  | ins C dx fs =>
    obtain ⟨d, z, ne, e, mA, ⟨od, es, ep, e2, c⟩, r⟩ := x
    exact ⟨ho _ d, z, ne, k _ _ (.inl rfl) e, mA, ⟨od, es, ep, k _ _ (.inr d) e2, c⟩, r⟩
  | own y => obtain ⟨ob, e⟩ := x; exact ⟨ob, k _ _ (.inl rfl) e⟩
  | xd fs => obtain ⟨mA, ⟨od, es, ep, e, c⟩, r⟩ := x; exact ⟨mA, ⟨od, es, ep, k _ _ (.inl rfl) e, c⟩, r⟩
  | rng lo hi => obtain ⟨t, u, v, e⟩ := x; exact ⟨t, u, v, k _ _ (.inl rfl) e⟩
  | frz ob u ih => obtain ⟨e, q⟩ := x; exact ⟨k _ _ (.inl rfl) e, ih q⟩
  | tbl ps =>
    have e : h.get? a = some { cls := .none, data := .fields ps } := x
    show h'.get? a = some { cls := .none, data := .fields ps }
    exact k a _ (.inl rfl) e
  | met f y =>
    have e : h.get? a = some (PySem.W.methodObj (.ref f) (.ref y)) := x
    show h'.get? a = some (PySem.W.methodObj (.ref f) (.ref y))
    exact k a _ (.inl rfl) e
  | ext φ => obtain ⟨p, ⟨o, e⟩, st⟩ := x; exact ⟨st _ _ p fun o q => k _ _ (.inl rfl) q, ⟨o, k _ _ (.inl rfl) e⟩, st⟩
theorem HOk.lt (x : HOk P w H h) (e : H a = some o) : a < h.objs.size := (x a o e).lt
theorem HOk.fresh (x : HOk P w H h) (e : h.objs.size ≤ a) : H a = none := by
  cases q : H a with
  | none => rfl
  | some u => exact absurd (Nat.lt_of_lt_of_le (x.lt q) e) (Nat.lt_irrefl _)
theorem HOk.kept (x : HOk P w H h) (k : ∀ b u, h.get? b = some u → h'.get? b = some u) : HOk P w H h' := fun a o e =>
  (x a o e).stay (fun b u _ q => k b u q) (fun _ q => q) fun _ _ q => q
theorem HOk.laid (x : HOk P w H h) (k : ∀ b u, h.get? b = some u → h'.get? b = some u) (hp : h.objs.size ≤ a) (new : ObjOk P w (upd H a o) h' a o) : HOk P w (upd H a o) h' := fun b u e => by
  have hn := x.fresh hp
  by_cases hb : b = a
  · subst hb; rw [upd_same] at e; cases e; exact new
  · rw [upd_ne hb] at e
    exact (x b u e).stay (fun c v _ q => k c v q) (fun c q => by rw [upd_ne (ne_of_none q hn)]; exact q) fun c xs q => by rw [upd_ne (ne_of_none q hn)]; exact q
end

def Rd (H : Hp) (a : Addr) (u : HO) : Prop := H a = some u ∨ ∃ o, H a = some (.frz o u)
theorem Rd.of {H : Hp} {a : Addr} {u : HO} (h : H a = some u) : Rd H a u := .inl h
theorem Rd.ok {P : Program} {w : World} {H : Hp} {h : Heap} {a : Addr} {u : HO} (r : Rd H a u) (x : HOk P w H h) : ObjOk P w H h a u := by
  rcases r with r | ⟨o, r⟩
  · exact x a u r
  · obtain ⟨_, q⟩ := x a _ r
    exact q
def Mut : Option HO → Prop
  | some (.lst _) => True
  | some (.dK _) => True
  | some (.dT _) => True
  | some (.set _ _) => True
  | some (.ins _ _ _) => True
  | some (.ext _) => True
  | _ => False
section
variable {P : Program} {w : World} {H : Hp} {h h' : Heap} {x e : Addr} {o' : HO}
theorem HOk.write (ok : HOk P w H h) (mu : Mut (H x)) (he : e = x ∨ H e = some (.own x)) (k : ∀ b u, b ≠ e → h.get? b = some u → h'.get? b = some u) (heo : ∃ u, h'.get? e = some u)
    (new : ObjOk P w (upd H x o') h' x o') : HOk P w (upd H x o') h' := fun b u q => by
  have nown : ∀ c y, H c = some (.own y) → c ≠ x := fun c y r z => by subst z; rw [r] at mu; exact mu
  have ntup : ∀ c xs, H c = some (.tup xs) → c ≠ x := fun c xs r z => by subst z; rw [r] at mu; exact mu
  by_cases hb : b = x
  · subst hb; rw [upd_same] at q; cases q; exact new
  · rw [upd_ne hb] at q
    by_cases hbe : b = e
    · have q' : H b = some (.own x) := by
        rcases he with z | z
        · exact absurd (hbe.trans z) hb
        · rw [hbe]; exact z
      rw [q] at q'; cases q'
      obtain ⟨v, hv⟩ := heo
      exact ⟨v, by rw [hbe]; exact hv⟩
    · refine (ok b u q).stay (fun c v hc r => k c v ?_ r) (fun c r => by rw [upd_ne (nown c b r)]; exact r) fun c xs r => by rw [upd_ne (ntup c xs r)]; exact r
      rcases hc with rfl | hc
      · exact hbe
      · rintro rfl
        rcases he with z | z
        · exact nown c b hc z
        · rw [hc] at z; cases z; exact hb rfl
end

structure Un (fs ex : List Addr) (H H' : Hp) (h h' : Heap) : Prop where
  keep : ∀ b o, h.get? b = some o → H b = none → b ∉ fs → b ∉ ex → h'.get? b = some o
  slot : ∀ b o, h.get? b = some o → H b = none → b ∈ fs → b ∉ ex → ∃ sl, h'.get? b = some { o with slots := sl }
  free : ∀ b o, h.get? b = some o → H b = none → b ∉ ex → H' b = none
  there : ∀ b o, h.get? b = some o → b ∉ ex → ∃ o', h'.get? b = some o'
  tups : ∀ b xs, H b = some (.tup xs) → H' b = some (.tup xs)
  frzs : ∀ b o u, H b = some (.frz o u) → H' b = some (.frz o u)
  tbls : ∀ b ps, H b = some (.tbl ps) → ∃ more, H' b = some (.tbl (ps ++ more))
section
variable {fs fs' ex ex' : List Addr} {H H1 H2 : Hp} {h h1 h2 h' : Heap} {a x e : Addr} {o : HO}
theorem Un.any (u : Un fs ex H H1 h h1) {b : Addr} {ob : Obj} (q : h.get? b = some ob) (n : H b = none) (hx : b ∉ ex) : ∃ sl, h1.get? b = some { ob with slots := sl } := by
  by_cases hb : b ∈ fs
  · exact u.slot b ob q n hb hx
  · exact ⟨ob.slots, u.keep b ob q n hb hx⟩
theorem Un.trans (a : Un fs ex H H1 h h1) (b : Un fs ex H1 H2 h1 h2) : Un fs ex H H2 h h2 where
  keep := fun c ob q n hc hx => b.keep c ob (a.keep c ob q n hc hx) (a.free c ob q n hx) hc hx
  slot := fun c ob q n hc hx => by
    obtain ⟨sl, e1⟩ := a.slot c ob q n hc hx
    obtain ⟨sl', e2⟩ := b.slot c _ e1 (a.free c ob q n hx) hc hx
    exact ⟨sl', e2⟩
  free := fun c ob q n hx => by
    obtain ⟨o', e1⟩ := a.there c ob q hx
    exact b.free c o' e1 (a.free c ob q n hx) hx
  there := fun c ob q hx => by
    obtain ⟨o', e1⟩ := a.there c ob q hx
    exact b.there c o' e1 hx
  tups := fun c xs q => b.tups c xs (a.tups c xs q)
  frzs := fun c ob xs q => b.frzs c ob xs (a.frzs c ob xs q)
  tbls := fun c ps q => by
    obtain ⟨m1, e1⟩ := a.tbls c ps q
    obtain ⟨m2, e2⟩ := b.tbls c _ e1
    exact ⟨m1 ++ m2, by rw [e2, Array.append_assoc]⟩
theorem Un.kept (k : ∀ b u, h.get? b = some u → h'.get? b = some u) : Un fs ex H H h h' :=
  ⟨fun b ob q _ _ _ => k b ob q, fun b ob q _ _ _ => ⟨ob.slots, k b ob q⟩, fun _ _ _ n _ => n, fun b ob q _ => ⟨ob, k b ob q⟩, fun _ _ q => q, fun _ _ _ q => q, fun _ ps q => ⟨#[], by rw [q]; simp⟩⟩
theorem Un.refl : Un fs ex H H h h := Un.kept fun _ _ q => q
theorem Un.laid (k : ∀ b u, h.get? b = some u → h'.get? b = some u) (hp : h.objs.size ≤ a) (hn : H a = none) : Un fs ex H (upd H a o) h h' where
  keep := fun b u q _ _ _ => k b u q
  slot := fun b u q _ _ _ => ⟨u.slots, k b u q⟩
  free := fun b u q n _ => by rw [upd_ne (Nat.ne_of_lt (Nat.lt_of_lt_of_le (Heap.lt_size q) hp))]; exact n
  there := fun b u q _ => ⟨u, k b u q⟩
  tups := fun b xs q => by rw [upd_ne (ne_of_none q hn)]; exact q
  frzs := fun b u xs q => by rw [upd_ne (ne_of_none q hn)]; exact q
  tbls := fun b ps q => ⟨#[], by rw [upd_ne (ne_of_none q hn), q]; simp⟩
theorem Un.write (mu : Mut (H x)) (he : e = x ∨ H e = some (.own x)) (k : ∀ b u, b ≠ e → h.get? b = some u → h'.get? b = some u) (heo : ∃ u, h'.get? e = some u) : Un fs ex H (upd H x o) h h' := by
  have hx : ∀ b, H b = none → b ≠ x := fun b n z => by subst z; rw [n] at mu; exact mu
  have hb : ∀ b, H b = none → b ≠ e := fun b n z => by
    subst z
    rcases he with r | r
    · exact hx b n r
    · rw [n] at r; cases r
  have hm : ∀ b u, H b = some u → ¬ Mut (some u) → b ≠ x := fun b u q nm z => by subst z; rw [q] at mu; exact nm mu
  refine ⟨fun b u q n _ _ => k b u (hb b n) q, fun b u q n _ _ => ⟨u.slots, k b u (hb b n) q⟩, fun b u q n _ => by rw [upd_ne (hx b n)]; exact n, fun b u q _ => ?_,
    fun b xs q => by rw [upd_ne (hm b _ q fun z => z)]; exact q, fun b u xs q => by rw [upd_ne (hm b _ q fun z => z)]; exact q, fun b ps q => ⟨#[], by rw [upd_ne (hm b _ q fun z => z), q]; simp⟩⟩
  by_cases hbe : b = e
  · subst hbe; exact heo
  · exact ⟨u, k b u hbe q⟩
theorem Un.mono (u : Un fs ex H H1 h h1) (hs : ∀ b ∈ fs, b ∈ fs') (hx : ∀ b ∈ ex, b ∈ ex') : Un fs' ex' H H1 h h1 :=
  ⟨fun b ob q n hb he => u.keep b ob q n (fun z => hb (hs b z)) fun z => he (hx b z), fun _ _ q n _ he => u.any q n fun z => he (hx _ z), fun b ob q n he => u.free b ob q n fun z => he (hx b z), fun b ob q he => u.there b ob q fun z => he (hx b z), u.tups, u.frzs, u.tbls⟩
end

def trk (h : Heap) (H : Hp) : List Addr := (List.range h.objs.size).filter fun a => (H a).isSome
def hidT (h : Heap) (H : Hp) : Heap := PySem.W.hideAll h (trk h H)
theorem hidT_size (h : Heap) (H : Hp) : (hidT h H).objs.size = h.objs.size := PySem.W.hideAll_size _ _
theorem hidT_get {h : Heap} {H : Hp} {b : Addr} {o : Obj} (e : h.get? b = some o) (n : H b = none) : (hidT h H).get? b = some o :=
  PySem.W.hideAll_get _ e fun hm => by
    have q : (H b).isSome = true := (List.mem_filter.mp hm).2
    rw [n] at q; simp at q
theorem of_hidT {h : Heap} {H : Hp} {b : Addr} {o : Obj} (e : (hidT h H).get? b = some o) : h.get? b = some o ∧ H b = none := by
  have e' : h.get? b = some o := PySem.W.of_hideAll (trk h H) e
  refine ⟨e', ?_⟩
  cases q : H b with
  | none => rfl
  | some x =>
    have hm : b ∈ trk h H := List.mem_filter.mpr ⟨List.mem_range.mpr (Heap.lt_size e'), by simp [q]⟩
    have z : (hidT h H).get? b = none := PySem.W.hideAll_none (trk h H) hm
    rw [z] at e; cases e

def allNews (g h : Heap) (L : Addr) : List (Addr × Obj) := (List.range h.objs.size).filterMap fun a => if a = L ∨ (g.get? a).isSome = true then none else (h.get? a).map fun o => (a, o)
def rest (g h : Heap) (L d : Addr) : List (Addr × Obj) := (allNews g h L).filter fun p => decide (p.1 ≠ d)
end L2

namespace L2
open PySem PySem.Spec PyProof.Rows

structure Mod (K : PySem.W.Frag) (mg : Str → Option Value) (base : Heap) : Prop where
  kin : K.In base
  glob : base.Ns mainGlobals mg
  blt : ∃ mb, base.Ns builtinsNs mb ∧ ∀ x : Str, x ≠ "__name__" → mb x = bootBuiltins x
  nolimit : base.NoLimit

structure Cx where
  prog : Program
  w : World
  K : PySem.W.Frag
  mg : Str → Option Value
  base : Heap
  A : Around
  N : List Str
  s₀ : Shared
  H₀ : Hp
  env : Env
  outer : List Env
  stack : List Env
  ex : List Addr
  fn : Str → Bool
  calm : Bool
  pn : List (Addr × Obj)
  xe : Value → Shared → Prop
def frs (l : List Env) : List Addr := l.filterMap (·.frame)
abbrev Cx.fs (X : Cx) : List Addr := frs X.outer

def Vis (sc : Scope) (x : Str) : Prop := sc.names.lookup x = some .local ∨ sc.names.lookup x = some .cell ∨ sc.names.lookup x = some .free
def Loc (sc : Scope) (x : Str) : Prop := sc.names.lookup x = some .local ∨ sc.names.lookup x = some .cell
def Look (env : Env) (h : Heap) (m : Str → Option Value) (x : Str) (u : Value) : Prop :=
  (env.kindOf x = some .local ∧ m x = some u) ∨ ((env.kindOf x = some .cell ∨ env.kindOf x = some .free) ∧ ∃ c, env.cells.lookup x = some c ∧ h.IsCell c (some u))

structure Cx.Ok (X : Cx) : Prop where
  mod : Mod X.K X.mg X.base
  kind : X.env.scope.kind = .function
  glob : X.env.globals = mainGlobals
  blt : X.env.builtins = builtinsNs
  above : X.s₀.heap.objs.size ≤ X.env.locals
  inj : ∀ x y c, X.env.cells.lookup x = some c → X.env.cells.lookup y = some c → x = y
  has : ∀ x, (X.env.kindOf x = some .cell ∨ X.env.kindOf x = some .free) → ∃ c, X.env.cells.lookup x = some c
  cab : ∀ x c, X.fn x = true → X.env.cells.lookup x = some c → X.s₀.heap.objs.size ≤ c
  hd : X.calm = true → X.A.handled = none
  frames : X.A.frames = some X.stack
  stk : X.stack = X.outer ∨ (X.stack = X.env :: X.outer ∧ X.env.frame = some X.env.locals)
  exf : ∀ b ∈ X.ex, b ≠ X.env.locals ∧ ∀ x c, X.env.cells.lookup x = some c → c ≠ b
  bs : ∀ b o, X.base.get? b = some o → X.s₀.heap.get? b = some o ∧ X.H₀ b = none
  bsz : X.base.objs.size ≤ X.s₀.heap.objs.size
  noex : ∀ b o, X.base.get? b = some o → b ∉ X.ex
  exfs : ∀ b ∈ X.ex, b ∉ X.fs
  funs : X.s₀.heap.FunFrames X.base X.outer
  frf : ∀ b ∈ X.fs, X.H₀ b = none

structure Inv (X : Cx) (pins : List (Addr × Obj)) (σ : List (Option V)) (H : Hp) (s : Shared) : Prop where
  ok : X.Ok
  os : s.os = X.s₀.os
  bare : AllBare s.gens
  base : Un X.fs X.ex X.H₀ H X.s₀.heap s.heap
  loc : ∃ m, s.heap.Ns X.env.locals m ∧ ∀ (i : Nat) (x : Str) (v : V), X.N[i]? = some x → σ[i]? = some (some v) → Vis X.env.scope x → ∃ u, RelV v u ∧ Look X.env s.heap m x u
  cell : ∀ x c, X.env.cells.lookup x = some c → ∃ v, s.heap.IsCell c v
  free : H X.env.locals = none
  freeC : ∀ x c, X.env.cells.lookup x = some c → H c = none
  pin : ∀ p ∈ X.pn ++ pins, s.heap.get? p.1 = some p.2 ∧ H p.1 = none ∧ p.1 ≠ X.env.locals ∧ p.1 ∉ X.fs ∧ ∀ v, p.2.data ≠ .cell v
  hok : HOk X.prog X.w H s.heap
  len : σ.length = X.N.length

section
variable {X : Cx} {pins : List (Addr × Obj)} {σ : List (Option V)} {H H' : Hp} {s : Shared} {h' : Heap}

theorem Cx.Ok.nofr (ok : X.Ok) {b : Addr} {o : Obj} (e : X.base.get? b = some o) : b ∉ X.fs := fun hb => by
  have := (ok.funs.mem hb).1
  rw [e] at this; cases this
theorem Inv.bs (I : Inv X pins σ H s) : ∀ b o, X.base.get? b = some o → s.heap.get? b = some o ∧ H b = none := fun b o e =>
  ⟨I.base.keep b o (I.ok.bs b o e).1 (I.ok.bs b o e).2 (I.ok.nofr e) (I.ok.noex b o e), I.base.free b o (I.ok.bs b o e).1 (I.ok.bs b o e).2 (I.ok.noex b o e)⟩
theorem Inv.bk (I : Inv X pins σ H s) : ∀ b o, X.base.get? b = some o → s.heap.get? b = some o := fun b o e => (I.bs b o e).1
theorem Inv.mod (I : Inv X pins σ H s) : Mod X.K X.mg X.base := I.ok.mod
theorem Inv.kIn (I : Inv X pins σ H s) : X.K.In s.heap := I.ok.mod.kin.keeps I.bk
theorem Inv.nolimit (I : Inv X pins σ H s) : s.heap.NoLimit := I.ok.mod.nolimit.keeps I.bk
theorem Inv.fr (I : Inv X pins σ H s) : ∃ m, Fr X.base X.env.locals s.heap m :=
  let ⟨m, hn, _⟩ := I.loc
  ⟨m, hn, I.bk, Nat.le_trans I.ok.bsz I.ok.above⟩
theorem Inv.lt (I : Inv X pins σ H s) : X.env.locals < s.heap.objs.size := let ⟨_, hn, _⟩ := I.loc; hn.lt
theorem Inv.sz (I : Inv X pins σ H s) : X.s₀.heap.objs.size ≤ s.heap.objs.size := Nat.le_trans I.ok.above (Nat.le_of_lt I.lt)
theorem Inv.nofs (I : Inv X pins σ H s) {a : Addr} (h : s.heap.objs.size ≤ a) : a ∉ X.fs := fun hb => by
  obtain ⟨_, o, ho, _⟩ := I.ok.funs.mem hb
  exact absurd (Nat.lt_of_lt_of_le (Heap.lt_size ho) (Nat.le_trans I.sz h)) (Nat.lt_irrefl _)
theorem Inv.cne (I : Inv X pins σ H s) : ∀ x c, X.env.cells.lookup x = some c → c ≠ X.env.locals := fun x c e z => by
  obtain ⟨v, o, ho, hd⟩ := I.cell x c e
  obtain ⟨m, ⟨o', es, ep, ho', hd', _⟩, _⟩ := I.loc
  rw [z, ho'] at ho; cases ho; rw [hd'] at hd; cases hd
theorem Inv.funs (I : Inv X pins σ H s) : s.heap.FunFrames X.base X.outer := by
  have all : ∀ (l : List Env), (∀ b ∈ frs l, b ∈ X.fs) → X.s₀.heap.FunFrames X.base l → s.heap.FunFrames X.base l := by
    intro l
    induction l with
    | nil => intro _ _; trivial
    | cons env r ih =>
      intro hs hl
      obtain ⟨hk, ⟨L, o, hf, hn, ho, hd⟩, hr⟩ := hl
      have hL : L ∈ X.fs := hs L (by unfold frs; rw [List.filterMap_cons, hf]; exact List.mem_cons_self)
      obtain ⟨sl, e⟩ := I.base.slot L o ho (I.ok.frf L hL) hL fun z => I.ok.exfs L z hL
      exact ⟨hk, ⟨L, _, hf, hn, e, hd⟩, ih (fun b hb => hs b (by unfold frs; rw [List.filterMap_cons, hf]; exact List.mem_cons_of_mem _ hb)) hr⟩
  exact all X.outer (fun _ hb => hb) I.ok.funs

theorem Inv.stack (I : Inv X pins σ H s) : s.heap.FunFrames X.base X.stack := by
  rcases I.ok.stk with e | ⟨e, hf⟩
  · rw [e]; exact I.funs
  · rw [e]
    obtain ⟨m, hn, _⟩ := I.loc
    refine .cons (by rw [I.ok.kind]; decide) hf hn ?_ I.funs
    exact Heap.get?_none_of_le (Nat.le_trans I.ok.bsz I.ok.above)
theorem Inv.stkSub (I : Inv X pins σ H s) : ∀ b ∈ frs X.stack, b ∈ X.env.locals :: X.fs := fun b hb => by
  rcases I.ok.stk with e | ⟨e, hf⟩
  · rw [e] at hb; exact List.mem_cons_of_mem _ hb
  · rw [e] at hb
    unfold frs at hb
    rw [List.filterMap_cons, hf] at hb
    exact hb
theorem Inv.stkFree (I : Inv X pins σ H s) : ∀ b ∈ frs X.stack, H b = none := fun b hb => by
  rcases List.mem_cons.mp (I.stkSub b hb) with e | hb
  · rw [e]; exact I.free
  · obtain ⟨_, o, ho, _⟩ := I.ok.funs.mem hb
    exact I.base.free b o ho (I.ok.frf b hb) fun z => I.ok.exfs b z hb

theorem Inv.step {g' : Array GenState} {t' : Nat} {d' : Drawn} {ch : List Addr} (I : Inv X pins σ H s)
    (hch : ∀ b ∈ ch, (b ∈ X.ex ∨ X.s₀.heap.objs.size ≤ b) ∧ b ≠ X.env.locals ∧ (∀ x c, X.env.cells.lookup x = some c → c ≠ b) ∧ ∀ p ∈ X.pn ++ pins, p.1 ≠ b)
    (keep : ∀ b o, b ≠ X.env.locals → b ∉ X.fs → b ∉ ch → s.heap.get? b = some o → H b = none → h'.get? b = some o)
    (slot : ∀ b o, b ≠ X.env.locals → b ∈ X.fs → b ∉ ch → s.heap.get? b = some o → H b = none → ∃ sl, h'.get? b = some { o with slots := sl }) (free : ∀ b o, b ∉ ch → s.heap.get? b = some o → H b = none → H' b = none)
    (there : ∀ b o, b ∉ ch → s.heap.get? b = some o → ∃ o', h'.get? b = some o')
    (tups : ∀ b xs, H b = some (.tup xs) → H' b = some (.tup xs)) (frzs : ∀ b o u, H b = some (.frz o u) → H' b = some (.frz o u)) (tbls : ∀ b ps, H b = some (.tbl ps) → ∃ more, H' b = some (.tbl (ps ++ more)))
    (ns : ∀ m, s.heap.Ns X.env.locals m → h'.Ns X.env.locals m) (hok : HOk X.prog X.w H' h') (hg : AllBare g') :
    Inv X pins σ H' { s with heap := h', gens := g', drawn := d', toks := t' } := by
  have neL : ∀ b o, X.s₀.heap.get? b = some o → b ≠ X.env.locals := fun b o e => Nat.ne_of_lt (Nat.lt_of_lt_of_le (Heap.lt_size e) I.ok.above)
  have neC : ∀ b o, X.s₀.heap.get? b = some o → b ∉ X.ex → b ∉ ch := fun b o e hx hb => by
    rcases (hch b hb).1 with z | z
    · exact hx z
    · exact absurd (Nat.lt_of_lt_of_le (Heap.lt_size e) z) (Nat.lt_irrefl _)
  have cellK : ∀ x c, X.env.cells.lookup x = some c → ∀ v, s.heap.IsCell c v → h'.IsCell c v := fun x c e v ⟨o, ho, hd⟩ => by
    have nch : c ∉ ch := fun z => (hch c z).2.2.1 x c e rfl
    by_cases hc : c ∈ X.fs
    · obtain ⟨sl, q⟩ := slot c o (I.cne x c e) hc nch ho (I.freeC x c e)
      exact ⟨_, q, hd⟩
    · exact ⟨o, keep c o (I.cne x c e) hc nch ho (I.freeC x c e), hd⟩
  refine ⟨I.ok, I.os, hg, ⟨fun b o e n hb hx => ?_, fun b o e n hb hx => ?_, fun b o e n hx => ?_, fun b o e hx => ?_, fun b xs e => tups b xs (I.base.tups b xs e), fun b o xs e => frzs b o xs (I.base.frzs b o xs e), fun b ps e => ?_⟩, ?_, fun x c e => ?_, ?_, fun x c e => ?_, fun p hp => ?_, hok, I.len⟩
  · exact keep b o (neL b o e) hb (neC b o e hx) (I.base.keep b o e n hb hx) (I.base.free b o e n hx)
  · obtain ⟨sl, e1⟩ := I.base.slot b o e n hb hx
    obtain ⟨sl', e2⟩ := slot b _ (neL b o e) hb (neC b o e hx) e1 (I.base.free b o e n hx)
    exact ⟨sl', e2⟩
  · obtain ⟨o', e1⟩ := I.base.there b o e hx
    exact free b o' (neC b o e hx) e1 (I.base.free b o e n hx)
  · obtain ⟨o', e1⟩ := I.base.there b o e hx
    exact there b o' (neC b o e hx) e1
  · obtain ⟨m1, e1⟩ := I.base.tbls b ps e
    obtain ⟨m2, e2⟩ := tbls b _ e1
    exact ⟨m1 ++ m2, by rw [e2, Array.append_assoc]⟩
  · obtain ⟨m, hn, hl⟩ := I.loc
    refine ⟨m, ns m hn, fun i x v e1 e2 e3 => ?_⟩
    obtain ⟨u, r, l⟩ := hl i x v e1 e2 e3
    refine ⟨u, r, ?_⟩
    rcases l with l | ⟨k, c, e, z⟩
    · exact .inl l
    · exact .inr ⟨k, c, e, cellK x c e _ z⟩
  · obtain ⟨v, z⟩ := I.cell x c e
    exact ⟨v, cellK x c e v z⟩
  · obtain ⟨m, ⟨o, _, _, ho, _⟩, _⟩ := I.loc
    exact free _ o (fun z => (hch _ z).2.1 rfl) ho I.free
  · obtain ⟨v, o, ho, hd⟩ := I.cell x c e
    exact free c o (fun z => (hch c z).2.2.1 x c e rfl) ho (I.freeC x c e)
  · obtain ⟨e, n, ne, nf, d⟩ := I.pin p hp
    have nch : p.1 ∉ ch := fun z => (hch p.1 z).2.2.2 p hp rfl
    exact ⟨keep p.1 p.2 ne nf nch e n, free p.1 p.2 nch e n, ne, nf, d⟩
theorem Inv.un {t' : Nat} (I : Inv X pins σ H s) (u : Un X.fs [] H H' s.heap h') (hok : HOk X.prog X.w H' h') : Inv X pins σ H' { s with heap := h', toks := t' } := by
  obtain ⟨m, ⟨o, es, ep, ho, r⟩, _⟩ := id I.loc
  obtain ⟨sl, hL⟩ := u.any ho I.free (by simp)
  exact I.step (g' := s.gens) (d' := s.drawn) (ch := []) (fun _ z => nomatch z) (fun b o _ hb _ e n => u.keep b o e n hb (by simp)) (fun b o _ hb _ e n => u.slot b o e n hb (by simp)) (fun b o _ e n => u.free b o e n (by simp)) (fun b o _ e => u.there b o e (by simp)) u.tups u.frzs u.tbls (fun m' hm => by
    obtain ⟨o', es', ep', ho', r'⟩ := hm
    rw [ho] at ho'; cases ho'
    exact ⟨_, es', ep', hL, r'⟩) hok I.bare
theorem Inv.call {g' : Array GenState} {t' : Nat} {d' : Drawn} {ch : List Addr} (I : Inv X pins σ H s) (u : Un (frs X.stack) ch H H' s.heap h') (hok : HOk X.prog X.w H' h') (hg : AllBare g')
    (hch : ∀ b ∈ ch, (b ∈ X.ex ∨ X.s₀.heap.objs.size ≤ b) ∧ b ≠ X.env.locals ∧ (∀ x c, X.env.cells.lookup x = some c → c ≠ b) ∧ ∀ p ∈ X.pn ++ pins, p.1 ≠ b) :
    Inv X pins σ H' { s with heap := h', gens := g', drawn := d', toks := t' } := by
  obtain ⟨m, ⟨o, es, ep, ho, r⟩, _⟩ := id I.loc
  obtain ⟨sl, hL⟩ := u.any ho I.free fun z => (hch _ z).2.1 rfl
  exact I.step (ch := ch) hch (fun b o hL hb hc e n => u.keep b o e n (fun z => (List.mem_cons.mp (I.stkSub b z)).elim hL hb) hc) (fun b o _ _ hc e n => u.any e n hc) (fun b o hc e n => u.free b o e n hc) (fun b o hc e => u.there b o e hc) u.tups u.frzs u.tbls (fun m' hm => by
    obtain ⟨o', es', ep', ho', r'⟩ := hm
    rw [ho] at ho'; cases ho'
    exact ⟨_, es', ep', hL, r'⟩) hok hg
theorem Inv.turned {t' : Nat} {it : Addr} (I : Inv X pins σ H s) (k : ∀ b o, b ≠ it → s.heap.get? b = some o → h'.get? b = some o) (hn : H it = none) (hL : it ≠ X.env.locals)
    (h1 : it ∈ X.ex ∨ X.s₀.heap.objs.size ≤ it) (h2 : ∀ x c, X.env.cells.lookup x = some c → c ≠ it) (h3 : ∀ p ∈ X.pn ++ pins, p.1 ≠ it) : Inv X pins σ H { s with heap := h', toks := t' } := by
  have nit : ∀ b u, H b = some u → b ≠ it := fun b u e z => by rw [z, hn] at e; cases e
  refine I.step (g' := s.gens) (d' := s.drawn) (ch := [it]) (fun b hb => ?_) (fun b o _ _ hc e _ => k b o (fun z => hc (by simp [z])) e) (fun b o _ _ hc e _ => ⟨o.slots, k b o (fun z => hc (by simp [z])) e⟩) (fun _ _ _ _ n => n)
    (fun b o hc e => ⟨o, k b o (fun z => hc (by simp [z])) e⟩) (fun _ _ e => e) (fun _ _ _ e => e) (fun b ps e => ⟨#[], by rw [e]; simp⟩) (fun m hm => ?_) (fun b u e => ?_) I.bare
  · have e : b = it := by simpa using hb
    subst e
    exact ⟨h1, hL, h2, h3⟩
  · obtain ⟨o, es, ep, ho, r⟩ := hm
    exact ⟨o, es, ep, k _ o (Ne.symm hL) ho, r⟩
  · refine (I.hok b u e).stay (fun c v hc q => k c v ?_ q) (fun _ q => q) fun _ _ q => q
    rcases hc with z | z
    · rw [z]; exact nit b u e
    · exact nit c _ z
theorem Inv.tok (I : Inv X pins σ H s) (t : Nat) : Inv X pins σ H { s with toks := t } := I.un (h' := s.heap) (t' := t) Un.refl I.hok
theorem Inv.kept {t' : Nat} (I : Inv X pins σ H s) (k : ∀ b u, s.heap.get? b = some u → h'.get? b = some u) : Inv X pins σ H { s with heap := h', toks := t' } := I.un (Un.kept k) (I.hok.kept k)
theorem Inv.laid {a : Addr} {o : HO} {t' : Nat} (I : Inv X pins σ H s) (k : ∀ b u, s.heap.get? b = some u → h'.get? b = some u) (hp : s.heap.objs.size ≤ a) (new : ObjOk X.prog X.w (upd H a o) h' a o) :
    Inv X pins σ (upd H a o) { s with heap := h', toks := t' } := I.un (Un.laid k hp (I.hok.fresh hp)) (I.hok.laid k hp new)
theorem Inv.write {x e : Addr} {o : HO} {t' : Nat} (I : Inv X pins σ H s) (mu : Mut (H x)) (he : e = x ∨ H e = some (.own x)) (k : ∀ b u, b ≠ e → s.heap.get? b = some u → h'.get? b = some u) (heo : ∃ u, h'.get? e = some u)
    (new : ObjOk X.prog X.w (upd H x o) h' x o) : Inv X pins σ (upd H x o) { s with heap := h', toks := t' } := I.un (Un.write mu he k heo) (I.hok.write mu he k heo new)
theorem Inv.weak {σ' : List (Option V)} (I : Inv X pins σ H s) (hl : σ'.length = σ.length) (w : ∀ (i : Nat) v, σ'[i]? = some (some v) → σ[i]? = some (some v)) : Inv X pins σ' H s :=
  ⟨I.ok, I.os, I.bare, I.base, let ⟨m, hn, hl'⟩ := I.loc; ⟨m, hn, fun i x v e1 e2 e3 => hl' i x v e1 (w i v e2) e3⟩, I.cell, I.free, I.freeC, I.pin, I.hok, hl.trans I.len⟩
theorem Inv.pins_of {pins' : List (Addr × Obj)} (I : Inv X pins σ H s) (h : ∀ p ∈ pins', s.heap.get? p.1 = some p.2 ∧ H p.1 = none ∧ p.1 ≠ X.env.locals ∧ p.1 ∉ X.fs ∧ ∀ v, p.2.data ≠ .cell v) : Inv X pins' σ H s :=
  ⟨I.ok, I.os, I.bare, I.base, I.loc, I.cell, I.free, I.freeC, fun p hp => (List.mem_append.mp hp).elim (fun z => I.pin p (List.mem_append_left _ z)) (h p), I.hok, I.len⟩

theorem nodup_ix {N : List Str} (hN : N.Nodup) {i j : Nat} {x : Str} (a : N[i]? = some x) (b : N[j]? = some x) : i = j := by
  obtain ⟨h1, e1⟩ := List.getElem?_eq_some_iff.mp a
  obtain ⟨h2, e2⟩ := List.getElem?_eq_some_iff.mp b
  exact (List.getElem_inj hN).mp (e1.trans e2.symm)

theorem store_ok2 {M : Model} {A : Around} {E : Value → Shared → Prop} {i : Nat} {x : Str} {v : V} {u : Value} {Q : Unit → Shared → Prop} (I : Inv X pins σ H s) (hN : X.N.Nodup) (hi : X.N[i]? = some x) (hx : Loc X.env.scope x) (r : RelV v u)
    (h : ∀ s', Inv X pins (σ.set i (some v)) H s' → (∃ a, Heap.SameBut a s.heap s'.heap ∧ (a = X.env.locals ∨ X.env.cells.lookup x = some a)) → Q () s') (hf : X.fn x = true ∨ X.env.scope.names.lookup x = some .local := by first | exact .inl rfl | exact .inr rfl | assumption) : wpAny M A (storeName X.env x u) Q E s := by
  obtain ⟨m, hn, hl⟩ := id I.loc
  have hcls : (X.env.scope.kind == .class || (X.env.scope.kind == .module && X.env.locals != X.env.globals)) = false := by rw [I.ok.kind]; rfl
  have hiσ : i < σ.length := by rw [I.len]; exact (List.getElem?_eq_some_iff.mp hi).1
  have cne := I.cne
  have tracked : ∀ {a : Addr} {h' : Heap}, (∃ o, s.heap.get? a = some o ∧ H a = none) → Heap.SameBut a s.heap h' → HOk X.prog X.w H h' := fun {a h'} ha hs b ob e => by
    obtain ⟨_, _, hfree⟩ := ha
    refine (I.hok b ob e).stay (fun c w' hc q => (hs.2 c ?_).trans q) (fun _ q => q) fun _ _ q => q
    rintro rfl
    rcases hc with rfl | hc
    · rw [hfree] at e; cases e
    · rw [hfree] at hc; cases hc
  rcases hx with hk | hk
  · refine wpAny_storeName_local hk hn (fun h' hn' hs => ?_) hcls
    obtain ⟨oL, _, _, hoL, _⟩ := id hn
    refine h _ ⟨I.ok, I.os, I.bare, ⟨fun b o e n hb hx => ?_, fun b o e n hb hx => ?_, I.base.free, fun b o e hx => ?_, I.base.tups, I.base.frzs, I.base.tbls⟩, ⟨_, hn', fun j y v' e1 e2 e3 => ?_⟩, fun y c e => ?_, I.free, I.freeC, fun p hp => ?_, tracked ⟨oL, hoL, I.free⟩ hs, by simpa using I.len⟩ ⟨_, hs, .inl rfl⟩
    · exact (hs.2 b (Nat.ne_of_lt (Nat.lt_of_lt_of_le (Heap.lt_size e) I.ok.above))).trans (I.base.keep b o e n hb hx)
    · obtain ⟨sl, e1⟩ := I.base.slot b o e n hb hx
      exact ⟨sl, (hs.2 b (Nat.ne_of_lt (Nat.lt_of_lt_of_le (Heap.lt_size e) I.ok.above))).trans e1⟩
    · obtain ⟨o', e1⟩ := I.base.there b o e hx
      exact ⟨o', (hs.2 b (Nat.ne_of_lt (Nat.lt_of_lt_of_le (Heap.lt_size e) I.ok.above))).trans e1⟩
    · by_cases hj : j = i
      · subst hj
        rw [hi] at e1; cases e1
        rw [List.getElem?_set_self hiσ] at e2
        cases e2
        exact ⟨u, r, .inl ⟨hk, by simp⟩⟩
      · rw [List.getElem?_set_ne (Ne.symm hj)] at e2
        obtain ⟨u', r', q⟩ := hl j y v' e1 e2 e3
        refine ⟨u', r', ?_⟩
        rcases q with ⟨k, e⟩ | ⟨k, c, e, z⟩
        · refine .inl ⟨k, ?_⟩
          have : y ≠ x := fun e => hj (nodup_ix hN e1 (e ▸ hi))
          simp [this, e]
        · exact .inr ⟨k, c, e, z.sameBut hs (cne y c e)⟩
    · obtain ⟨w', z⟩ := I.cell y c e
      exact ⟨w', z.sameBut hs (cne y c e)⟩
    · obtain ⟨e, n, ne, nf, d⟩ := I.pin p hp
      exact ⟨(hs.2 p.1 ne).trans e, n, ne, nf, d⟩
  · have hfn : X.fn x = true := by
      rcases hf with z | z
      · exact z
      · rw [z] at hk; cases hk
    obtain ⟨c, hc⟩ := I.ok.has x (.inl hk)
    obtain ⟨w', z⟩ := I.cell x c hc
    refine wpAny_storeName_cell I.ok.kind hk hc z (fun h' hc' hs => ?_)
    obtain ⟨oc, hoc, hocd⟩ := id z
    refine h { s with heap := h' } ⟨I.ok, I.os, I.bare, ⟨fun b o e n hb hx => ?_, fun b o e n hb hx => ?_, I.base.free, fun b o e hx => ?_, I.base.tups, I.base.frzs, I.base.tbls⟩, ⟨m, hn.sameBut hs (Ne.symm (cne x c hc)), fun j y v' e1 e2 e3 => ?_⟩, fun y c' e => ?_, I.free, I.freeC, fun p hp => ?_, tracked ⟨oc, hoc, I.freeC x c hc⟩ hs, by simpa using I.len⟩ ⟨c, hs, .inr hc⟩
    · exact (hs.2 b (Nat.ne_of_lt (Nat.lt_of_lt_of_le (Heap.lt_size e) (I.ok.cab x c hfn hc)))).trans (I.base.keep b o e n hb hx)
    · obtain ⟨sl, e1⟩ := I.base.slot b o e n hb hx
      exact ⟨sl, (hs.2 b (Nat.ne_of_lt (Nat.lt_of_lt_of_le (Heap.lt_size e) (I.ok.cab x c hfn hc)))).trans e1⟩
    · obtain ⟨o', e1⟩ := I.base.there b o e hx
      exact ⟨o', (hs.2 b (Nat.ne_of_lt (Nat.lt_of_lt_of_le (Heap.lt_size e) (I.ok.cab x c hfn hc)))).trans e1⟩
    · by_cases hj : j = i
      · subst hj
        rw [hi] at e1; cases e1
        rw [List.getElem?_set_self hiσ] at e2
        cases e2
        exact ⟨u, r, .inr ⟨.inl hk, c, hc, hc'⟩⟩
      · rw [List.getElem?_set_ne (Ne.symm hj)] at e2
        obtain ⟨u', r', q⟩ := hl j y v' e1 e2 e3
        refine ⟨u', r', ?_⟩
        rcases q with q | ⟨k, c', e, z'⟩
        · exact .inl q
        · refine .inr ⟨k, c', e, z'.sameBut hs ?_⟩
          rintro rfl
          exact hj (nodup_ix hN e1 (I.ok.inj _ _ _ e hc ▸ hi))
    · by_cases hcc : c' = c
      · subst hcc; exact ⟨_, hc'⟩
      · obtain ⟨w2, z2⟩ := I.cell y c' e
        exact ⟨w2, z2.sameBut hs hcc⟩
    · obtain ⟨e, n, ne, nf, d⟩ := I.pin p hp
      refine ⟨(hs.2 p.1 ?_).trans e, n, ne, nf, d⟩
      intro q
      rw [q, hoc] at e
      have q' : oc = p.2 := Option.some.inj e
      exact d w' (by rw [← q']; exact hocd)
theorem store_ok {M : Model} {A : Around} {E : Value → Shared → Prop} {i : Nat} {x : Str} {v : V} {u : Value} {Q : Unit → Shared → Prop} (I : Inv X pins σ H s) (hN : X.N.Nodup) (hi : X.N[i]? = some x) (hx : Loc X.env.scope x) (r : RelV v u)
    (h : ∀ s', Inv X pins (σ.set i (some v)) H s' → Q () s') (hf : X.fn x = true ∨ X.env.scope.names.lookup x = some .local := by first | exact .inl rfl | exact .inr rfl | assumption) : wpAny M A (storeName X.env x u) Q E s :=
  store_ok2 I hN hi hx r (fun s' I' _ => h s' I') hf
theorem Inv.call' {s' : Shared} {ch : List Addr} (I : Inv X pins σ H s) (ho : s'.os = s.os) (u : Un (frs X.stack) ch H H' s.heap s'.heap) (hok : HOk X.prog X.w H' s'.heap) (hg : AllBare s'.gens)
    (hch : ∀ b ∈ ch, (b ∈ X.ex ∨ X.s₀.heap.objs.size ≤ b) ∧ b ≠ X.env.locals ∧ (∀ x c, X.env.cells.lookup x = some c → c ≠ b) ∧ ∀ p ∈ X.pn ++ pins, p.1 ≠ b) : Inv X pins σ H' s' := by
  obtain ⟨h', g', d', t', o'⟩ := s'
  have e : o' = s.os := ho
  subst e
  exact I.call (g' := g') (t' := t') (d' := d') u hok hg hch
end

abbrev XK := Value → Option Addr → Hp → Prop
abbrev St := List (Option V)
abbrev VK := V → Hp → Prop
abbrev TE := St → Hp → VK → Prop
abbrev TT := St → Hp → (Bool → Hp → Prop) → Prop
abbrev TA := St → Hp → (List V → Hp → Prop) → Prop
structure Ends where
  nx : St → Hp → Prop
  rt : VK
  bk : St → Hp → Prop := fun _ _ => False
  ct : St → Hp → Prop := fun _ _ => False
abbrev TS := Ends → St → Hp → Prop

def EP (X : Cx) (pins : List (Addr × Obj)) (σ : St) (Q : VK) (u : Value) (s' : Shared) : Prop := ∃ v H', Inv X pins σ H' s' ∧ RelV v u ∧ Q v H'
def TP (X : Cx) (pins : List (Addr × Obj)) (σ : St) (Q : Bool → Hp → Prop) (b : Bool) (s' : Shared) : Prop := ∃ H', Inv X pins σ H' s' ∧ Q b H'
def AP (X : Cx) (pins : List (Addr × Obj)) (σ : St) (Q : List V → Hp → Prop) (us : List Value) (s' : Shared) : Prop := ∃ vs H', Inv X pins σ H' s' ∧ Vals vs us ∧ Q vs H'
def SP (X : Cx) (pins : List (Addr × Obj)) (D : Ends) (f : Flow) (s' : Shared) : Prop :=
  match f with
  | .next => ∃ σ' H', Inv X pins σ' H' s' ∧ D.nx σ' H'
  | .brk => ∃ σ' H', Inv X pins σ' H' s' ∧ D.bk σ' H'
  | .cont => ∃ σ' H', Inv X pins σ' H' s' ∧ D.ct σ' H'
  | .ret u => ∃ v σ' H', Inv X pins σ' H' s' ∧ RelV v u ∧ D.rt v H'

def PE (X : Cx) (e : Expr) (t : TE) : Prop :=
  ∀ (pins : List (Addr × Obj)) (s : Shared) (σ : St) (H : Hp) (Q : VK), Inv X pins σ H s → t σ H Q → wpAny (model X.prog X.w) X.A (eval e X.env) (EP X pins σ Q) X.xe s
def PT (X : Cx) (e : Expr) (t : TT) : Prop :=
  ∀ (pins : List (Addr × Obj)) (s : Shared) (σ : St) (H : Hp) (Q : Bool → Hp → Prop), Inv X pins σ H s → t σ H Q → wpAny (model X.prog X.w) X.A (isTrue e X.env (eval e X.env)) (TP X pins σ Q) X.xe s
def PW (X : Cx) (e : Expr) (t : TT) : Prop :=
  ∀ (whole : Sem Value) (pins : List (Addr × Obj)) (s : Shared) (σ : St) (H : Hp) (Q : Bool → Hp → Prop), Inv X pins σ H s → t σ H Q → wpAny (model X.prog X.w) X.A (isTrue e X.env whole) (TP X pins σ Q) X.xe s
theorem PW.pt {X : Cx} {e : Expr} {t : TT} (h : PW X e t) : PT X e t := h _
def PA (X : Cx) (es : List Expr) (t : TA) : Prop :=
  ∀ (pos : Pos) (pins : List (Addr × Obj)) (s : Shared) (σ : St) (H : Hp) (Q : List V → Hp → Prop), Inv X pins σ H s → t σ H Q → wpAny (model X.prog X.w) X.A (spliced (backTo pos (starEach es X.env))) (AP X pins σ Q) X.xe s
def PS (X : Cx) (st : Stmt) (t : TS) : Prop :=
  ∀ (pins : List (Addr × Obj)) (s : Shared) (σ : St) (H : Hp) (D : Ends), Inv X pins σ H s → t D σ H → wpAny (model X.prog X.w) X.A (exec st X.env) (SP X pins D) X.xe s
def PSs (X : Cx) (st : List Stmt) (t : TS) : Prop :=
  ∀ (pins : List (Addr × Obj)) (s : Shared) (σ : St) (H : Hp) (D : Ends), Inv X pins σ H s → t D σ H → wpAny (model X.prog X.w) X.A (execs st X.env) (SP X pins D) X.xe s
theorem thn {α : Type} {t : Sem α} {Q Q' : α → Shared → Prop} {M : Model} {A : Around} {E : Value → Shared → Prop} {s : Shared} (h : wpAny M A t Q E s) (hQ : ∀ a s, Q a s → Q' a s) : wpAny M A t Q' E s := wpAny_mono h hQ fun _ _ x => x
end L2

namespace L2
open PySem PySem.Spec PyProof.Rows
section
variable {X : Cx}

def tVar (i : Nat) : TE := fun σ H Q => ∃ v, σ[i]? = some (some v) ∧ Q v H
def tC (v : V) : TE := fun _ H Q => Q v H
theorem pe_var {i : Nat} {x : Str} {pos : Pos} (hN : X.N[i]? = some x) (hv : Vis X.env.scope x) (hd : (x == ("__debug__" : Str)) = false := by decide) (hcd : (x == ("__classdict__" : Str)) = false := by decide) : PE X (.Name x pos) (tVar i) := by
  intro pins s σ H Q I h
  obtain ⟨v, e, h⟩ := h
  obtain ⟨m, hn, hl⟩ := I.loc
  obtain ⟨u, r, l⟩ := hl i x v hN e hv
  have fin : EP X pins σ Q u s := ⟨v, H, I, r, h⟩
  rcases l with ⟨hk, hm⟩ | ⟨hk, c, hc, hcell⟩
  · exact wpAny_Name (wpAny_loadName_local I.ok.kind hk hn hm fin) hd
  · rcases hk with hk | hk
    · exact wpAny_Name (wpAny_loadName_cell I.ok.kind hk hc hcell fin) hd
    · exact wpAny_Name (wpAny_loadName_free I.ok.kind hk hc hcell fin hcd) hd
theorem pe_int {i j pos} : PE X (.Constant (.int i) j pos) (tC (.int i)) := fun _ _ _ H _ I h => wpAny_Constant_int ⟨.int i, H, I.tok _, ⟨_, rfl⟩, h⟩
def Gl (X : Cx) (x : Str) : Prop := X.env.kindOf x = some .globalImplicit
theorem ld_glob {E : Value → Shared → Prop} {pins : List (Addr × Obj)} {s : Shared} {σ : St} {H : Hp} {x : Str} {u : Value} {pos : Pos} {Q : Value → Shared → Prop} (I : Inv X pins σ H s) (hg : Gl X x) (hm : X.mg x = some u) (h : Q u s)
    (hd : (x == ("__debug__" : Str)) = false := by decide) : wpAny (model X.prog X.w) X.A (eval (.Name x pos) X.env) Q E s :=
  Calls.Name_function_global I.ok.kind hg (Calls.loadGlobal_global (by rw [I.ok.glob]; exact I.mod.glob.keeps I.bk) hm h) hd
theorem ld_blt {E : Value → Shared → Prop} {pins : List (Addr × Obj)} {s : Shared} {σ : St} {H : Hp} {x : Str} {u : Value} {pos : Pos} {Q : Value → Shared → Prop} (I : Inv X pins σ H s) (hg : Gl X x) (hm : X.mg x = none) (hv : bootBuiltins x = some u) (h : Q u s)
    (hn : x ≠ "__name__" := by decide) (hd : (x == ("__debug__" : Str)) = false := by decide) : wpAny (model X.prog X.w) X.A (eval (.Name x pos) X.env) Q E s := by
  obtain ⟨mb, h1, h2⟩ := I.mod.blt
  exact Calls.Name_function_global I.ok.kind hg (Calls.loadGlobal_builtin (by rw [I.ok.glob]; exact I.mod.glob.keeps I.bk) hm (by rw [I.ok.blt]; exact h1.keeps I.bk) ((h2 x hn).trans hv) h) hd
theorem pe_bltn {x : Str} {v : V} {u : Value} {pos : Pos} (hg : Gl X x) (hm : X.mg x = none) (hv : bootBuiltins x = some u) (r : RelV v u) (hn : x ≠ "__name__" := by decide) (hd : (x == ("__debug__" : Str)) = false := by decide) : PE X (.Name x pos) (tC v) :=
  fun _ _ _ H _ I h => ld_blt I hg hm hv ⟨v, H, I, r, h⟩ hn hd

variable {a b : Expr} {ta tb : TE} {pos : Pos}
variable {tA tB' : TT} {rest : List Expr}
def tAnd (t u : TT) : TT := fun σ H Q => t σ H fun c H1 => if c = true then u σ H1 Q else Q false H1
def tOr (t u : TT) : TT := fun σ H Q => t σ H fun c H1 => if c = true then Q true H1 else u σ H1 Q
theorem pw_and1 (ha : PT X a tA) : PW X (.BoolOp .And [a] pos) tA := by
  intro wh pins s σ H Q I h
  refine isTrue_and (thn (ha pins s σ H Q I h) fun c s1 e => ?_)
  cases c with
  | true => exact isTrue_and_nil e
  | false => exact e
theorem pw_or1 (ha : PT X a tA) : PW X (.BoolOp .Or [a] pos) tA := by
  intro wh pins s σ H Q I h
  refine isTrue_or (thn (ha pins s σ H Q I h) fun c s1 e => ?_)
  cases c with
  | false => exact isTrue_or_nil e
  | true => exact e
theorem pw_and (ha : PT X a tA) (hb : PW X (.BoolOp .And (b :: rest) pos) tB') : PW X (.BoolOp .And (a :: b :: rest) pos) (tAnd tA tB') := by
  intro wh pins s σ H Q I h
  refine isTrue_and (thn (ha pins s σ H _ I h) fun c s1 ⟨H1, I1, q1⟩ => ?_)
  cases c with
  | true => exact hb wh pins s1 σ H1 Q I1 q1
  | false => exact ⟨H1, I1, q1⟩
theorem pw_or (ha : PT X a tA) (hb : PW X (.BoolOp .Or (b :: rest) pos) tB') : PW X (.BoolOp .Or (a :: b :: rest) pos) (tOr tA tB') := by
  intro wh pins s σ H Q I h
  refine isTrue_or (thn (ha pins s σ H _ I h) fun c s1 ⟨H1, I1, q1⟩ => ?_)
  cases c with
  | true => exact ⟨H1, I1, q1⟩
  | false => exact hb wh pins s1 σ H1 Q I1 q1
def tAndV (ta tb : TE) : TE := fun σ H Q => ta σ H fun x H1 => ∃ c, x = .bl c ∧ if c = true then tb σ H1 Q else Q (.bl false) H1
theorem pe_one {op} {t : TE} (h : PE X a t) : PE X (.BoolOp op [a] pos) t := fun pins s σ H Q I hw => BoolOp_one (h pins s σ H Q I hw)
theorem pe_and (ha : PE X a ta) (hb : PE X (.BoolOp .And (b :: rest) pos) tb) : PE X (.BoolOp .And (a :: b :: rest) pos) (tAndV ta tb) := by
  intro pins s σ H Q I h
  refine BoolOp_and (thn (ha pins s σ H _ I h) fun v s1 ⟨x, H1, I1, r1, q1⟩ => ?_)
  obtain ⟨c, rfl, q1⟩ := q1
  cases r1
  refine wpAny_truthy_bool ?_
  cases c with
  | true => exact hb pins s1 σ H1 Q I1 q1
  | false => exact ⟨.bl false, H1, I1, rfl, q1⟩
def tIf (t : TT) (ta tb : TE) : TE := fun σ H Q => t σ H fun c H1 => if c = true then ta σ H1 Q else tb σ H1 Q
theorem pe_ifExp {c : Expr} (hc : PT X c tA) (ha : PE X a ta) (hb : PE X b tb) : PE X (.IfExp c a b pos) (tIf tA ta tb) := by
  intro pins s σ H Q I h
  refine wpAny_IfExp (thn (hc pins s σ H _ I h) fun d s1 ⟨H1, I1, q1⟩ => ?_)
  cases d with
  | true => exact ha pins s1 σ H1 Q I1 q1
  | false => exact hb pins s1 σ H1 Q I1 q1
end
end L2

namespace L2
open PySem PySem.Spec PyProof.Rows

def SqL (K : PySem.W.Frag) (H : Hp) (a : Addr) (xs : List V) : Prop :=
  Rd H a (.lst xs) ∨
    ∃ (o : Obj) (its : Array Value) (n : Nat), K.lookup a = some o ∧ o.cls = .type "list" ∧ o.dict = none ∧ o.data = .seq its n ∧ its.size ≤ sizeLine ∧ Vals xs its.toList
def SqT (K : PySem.W.Frag) (H : Hp) (a : Addr) (xs : List V) : Prop :=
  Rd H a (.tup xs) ∨
    ∃ (o : Obj) (its : Array Value) (n : Nat), K.lookup a = some o ∧ o.cls = .type "tuple" ∧ o.data = .seq its n ∧ its.size ≤ sizeLine ∧ Vals xs its.toList
def absV : Value → Option V
  | .none => some .non
  | .bool b => some (.bl b)
  | .int i _ => some (.int i)
  | .str x _ => some (.str x)
  | .bytes b _ => some (.byt b)
  | .float b _ => some (.flt b)
  | .ref a => some (.ref a)
  | .type n => some (.ty n)
  | _ => none
theorem RelV.abs {x : V} {u : Value} (r : RelV x u) : absV u = some x := by
  cases x with
  | non => cases r; rfl
  | bl _ => cases r; rfl
  | int _ => obtain ⟨t, rfl⟩ := r; rfl
  | str _ => obtain ⟨t, rfl⟩ := r; rfl
  | byt _ => obtain ⟨t, rfl⟩ := r; rfl
  | flt _ => obtain ⟨t, rfl⟩ := r; rfl
  | ref _ => cases r; rfl
  | ty _ => cases r; rfl
theorem RelV.inj {x y : V} {u : Value} (r : RelV x u) (q : RelV y u) : x = y := Option.some.inj (r.abs.symm.trans q.abs)
theorem Vals.inj : ∀ {xs ys : List V} {us : List Value}, Vals xs us → Vals ys us → xs = ys
  | _, _, _, .nil, .nil => rfl
  | _, _, _, .cons r t, .cons r' t' => by rw [r.inj r', Vals.inj t t']
section
variable {X : Cx} {pins : List (Addr × Obj)} {σ : St} {H : Hp} {s : Shared} {a : Addr} {xs ys : List V}
theorem SqL.of {K : PySem.W.Frag} (h : H a = some (.lst xs)) : SqL K H a xs := .inl (.inl h)
theorem SqT.of {K : PySem.W.Frag} (h : H a = some (.tup xs)) : SqT K H a xs := .inl (.inl h)
theorem Inv.list (I : Inv X pins σ H s) (h : SqL X.K H a xs) : ∃ its : List Value, Vals xs its ∧ PlainL s.heap a its.toArray ∧ xs.length ≤ sizeLine := by
  rcases h with h | ⟨o, its, n, hk, hc, hd, hs, hz, r⟩
  · obtain ⟨z, its, n, r, e⟩ := h.ok I.hok
    exact ⟨its, r, ⟨_, n, e, rfl, rfl, rfl⟩, z⟩
  · refine ⟨its.toList, r, ⟨o, n, I.kIn a o hk, hc, hd, by simpa using hs⟩, ?_⟩
    have e := r.length
    simp only [Array.length_toList] at e
    omega
theorem Inv.tuple (I : Inv X pins σ H s) (h : SqT X.K H a xs) : ∃ its : List Value, Vals xs its ∧ IsTup s.heap a its.toArray ∧ xs.length ≤ sizeLine := by
  rcases h with h | ⟨o, its, n, hk, hc, hs, hz, r⟩
  · obtain ⟨z, its, r, p⟩ := h.ok I.hok
    exact ⟨its, r, p, z⟩
  · refine ⟨its.toList, r, ⟨o, I.kIn a o hk, hc, n, by simpa using hs⟩, ?_⟩
    have e := r.length
    simp only [Array.length_toList] at e
    omega
theorem Inv.list_inj (I : Inv X pins σ H s) (h : SqL X.K H a xs) (h' : SqL X.K H a ys) : xs = ys := by
  obtain ⟨its, r, ⟨o, n, e, _, _, d⟩, _⟩ := I.list h
  obtain ⟨its', r', ⟨o', n', e', _, _, d'⟩, _⟩ := I.list h'
  rw [e] at e'; cases e'
  rw [d] at d'
  injection d' with d1 _
  have : its = its' := by simpa using congrArg Array.toList d1
  subst this
  exact r.inj r'
end

abbrev Cx.wish (X : Cx) (E : Value → Shared → Prop) : Cx := { X with xe := E }
abbrev Cx.nox (X : Cx) : Cx := X.wish fun _ _ => False
theorem Cx.Ok.wish {X : Cx} (ok : X.Ok) (E : Value → Shared → Prop) : (X.wish E).Ok :=
  ⟨ok.mod, ok.kind, ok.glob, ok.blt, ok.above, ok.inj, ok.has, ok.cab, ok.hd, ok.frames, ok.stk, ok.exf, ok.bs, ok.bsz, ok.noex, ok.exfs, ok.funs, ok.frf⟩
theorem Cx.Ok.unwish {X : Cx} {E : Value → Shared → Prop} (ok : (X.wish E).Ok) : X.Ok :=
  ⟨ok.mod, ok.kind, ok.glob, ok.blt, ok.above, ok.inj, ok.has, ok.cab, ok.hd, ok.frames, ok.stk, ok.exf, ok.bs, ok.bsz, ok.noex, ok.exfs, ok.funs, ok.frf⟩
section
variable {X : Cx} {pins : List (Addr × Obj)} {σ : St} {H : Hp} {s : Shared} {E : Value → Shared → Prop}
theorem Inv.wish (I : Inv X pins σ H s) (E : Value → Shared → Prop) : Inv (X.wish E) pins σ H s := ⟨I.ok.wish E, I.os, I.bare, I.base, I.loc, I.cell, I.free, I.freeC, I.pin, I.hok, I.len⟩
theorem Inv.unwish (I : Inv (X.wish E) pins σ H s) : Inv X pins σ H s := ⟨I.ok.unwish, I.os, I.bare, I.base, I.loc, I.cell, I.free, I.freeC, I.pin, I.hok, I.len⟩
theorem SP.unwish {D : Ends} {f : Flow} {s' : Shared} (h : SP (X.wish E) pins D f s') : SP X pins D f s' := by
  cases f with
  | next => obtain ⟨σ', H', I, q⟩ := h; exact ⟨σ', H', I.unwish, q⟩
  | brk => obtain ⟨σ', H', I, q⟩ := h; exact ⟨σ', H', I.unwish, q⟩
  | cont => obtain ⟨σ', H', I, q⟩ := h; exact ⟨σ', H', I.unwish, q⟩
  | ret u => obtain ⟨v, σ', H', I, r, q⟩ := h; exact ⟨v, σ', H', I.unwish, r, q⟩
theorem PE.nox {e : Expr} {t : TE} (h : PE X.nox e t) : PE X e t := fun pins s σ H Q I hw =>
  wpAny_mono (h pins s σ H Q (I.wish _) hw) (fun _ _ ⟨v, H', I', r, q⟩ => ⟨v, H', I'.unwish, r, q⟩) fun _ _ z => False.elim z
theorem PT.nox {e : Expr} {t : TT} (h : PT X.nox e t) : PT X e t := fun pins s σ H Q I hw =>
  wpAny_mono (h pins s σ H Q (I.wish _) hw) (fun _ _ ⟨H', I', q⟩ => ⟨H', I'.unwish, q⟩) fun _ _ z => False.elim z
theorem PSs.nox {st : List Stmt} {t : TS} (h : PSs X.nox st t) : PSs X st t := fun pins s σ H D I hw =>
  wpAny_mono (h pins s σ H D (I.wish _) hw) (fun _ _ q => q.unwish) fun _ _ z => False.elim z
end

section
variable {X : Cx} {st : Stmt} {rest : List Stmt} {t u : TS} {e : Expr} {te : TE} {pos : Pos}
def tNext : TS := fun D σ H => D.nx σ H
def tSeq (t u : TS) : TS := fun D σ H => t { D with nx := u D } σ H
theorem pss_nil : PSs X [] tNext := fun _ _ σ H _ I h => wpAny_execs_nil ⟨σ, H, I, h⟩
theorem pss_cons (h1 : PS X st t) (h2 : PSs X rest u) : PSs X (st :: rest) (tSeq t u) := by
  intro pins s σ H D I h
  refine wpAny_execs_cons (thn (h1 pins s σ H { D with nx := u D } I h) fun f s1 q => ?_)
  cases f with
  | next =>
    obtain ⟨σ', H', I', q⟩ := q
    exact h2 pins s1 σ' H' D I' q
  | ret v => exact q
  | brk => exact q
  | cont => exact q
theorem Inv.quiet {pins : List (Addr × Obj)} {σ : St} {H : Hp} {s : Shared} (I : Inv X pins σ H s) : interactive X.env = false := by simp [interactive, I.ok.kind]
def tDrop (te : TE) : TS := fun D σ H => te σ H fun _ H1 => D.nx σ H1
theorem ps_expr (he : PE X e te) (hs : swapsWith e none pos.line X.env = pure false := by rfl) : PS X (.Expr e pos) (tDrop te) := by
  intro pins s σ H D I h
  exact wpAny_Expr_any (thn (he pins s σ H _ I h) fun v s1 ⟨x, H1, I1, r1, q1⟩ => ⟨σ, H1, I1, q1⟩) I.quiet hs
def tRet (te : TE) : TS := fun D σ H => te σ H D.rt
theorem ps_ret (he : PE X e te) : PS X (.Return (some e) pos) (tRet te) := by
  intro pins s σ H D I h
  exact wpAny_Return_some (thn (he pins s σ H _ I h) fun v s1 ⟨x, H1, I1, r1, q1⟩ => ⟨x, σ, H1, I1, r1, q1⟩)
def tIfS (c : TT) (t u : TS) : TS := fun D σ H => c σ H fun b H1 => if b = true then t D σ H1 else u D σ H1
theorem ps_if {c : Expr} {a b : List Stmt} {tc : TT} (hc : PT X c tc) (ha : PSs X a t) (hb : PSs X b u) : PS X (.If c a b pos) (tIfS tc t u) := by
  intro pins s σ H D I h
  refine wpAny_If (thn (hc pins s σ H _ I h) fun d s1 ⟨H1, I1, q1⟩ => ?_)
  cases d with
  | true => exact ha pins s1 σ H1 D I1 q1
  | false => exact hb pins s1 σ H1 D I1 q1
def tNever : TS := fun _ _ _ => False
theorem ps_never : PS X st tNever := fun _ _ _ _ _ _ h => h.elim
end

abbrev TG := V → St → Hp → (St → Hp → Prop) → Prop
abbrev TGs := List V → St → Hp → (St → Hp → Prop) → Prop
def PG (X : Cx) (target : Expr) (t : TG) : Prop :=
  ∀ (pins : List (Addr × Obj)) (s : Shared) (σ : St) (H : Hp) (v : V) (u : Value) (Q : St → Hp → Prop), Inv X pins σ H s → RelV v u → t v σ H Q →
    wpAny (model X.prog X.w) X.A (assign target X.env u) (fun _ s' => ∃ σ' H', Inv X pins σ' H' s' ∧ Q σ' H') X.xe s
def PGs (X : Cx) (ts : List Expr) (t : TGs) : Prop :=
  ∀ (pins : List (Addr × Obj)) (s : Shared) (σ : St) (H : Hp) (vs : List V) (us : List Value) (Q : St → Hp → Prop), Inv X pins σ H s → Vals vs us → t vs σ H Q →
    wpAny (model X.prog X.w) X.A (assignInOrder ((assignEach ts X.env).map (·.2)) us) (fun _ s' => ∃ σ' H', Inv X pins σ' H' s' ∧ Q σ' H') X.xe s
abbrev TSet := V → V → V → Hp → (Hp → Prop) → Prop
def PSet (X : Cx) (t : TSet) : Prop :=
  ∀ (pins : List (Addr × Obj)) (s : Shared) (σ : St) (H : Hp) (o i v : V) (ov iv u : Value) (Q : Hp → Prop), Inv X pins σ H s → RelV o ov → RelV i iv → RelV v u → t o i v H Q →
    wpAny (model X.prog X.w) X.A (setItem ov iv u) (fun _ s' => ∃ H', Inv X pins σ H' s' ∧ Q H') X.xe s
section
variable {X : Cx} {pos : Pos}
def gName (i : Nat) : TG := fun v σ H Q => Q (σ.set i (some v)) H
theorem pg_name {i : Nat} {x : Str} (hN : X.N.Nodup) (hi : X.N[i]? = some x) (hx : Loc X.env.scope x) (hf : X.fn x = true ∨ X.env.scope.names.lookup x = some .local := by first | exact .inl rfl | exact .inr rfl | assumption) : PG X (.Name x pos) (gName i) := by
  intro pins s σ H v u Q I r h
  exact wpAny_assign_Name (store_ok I hN hi hx r (fun s' I' => ⟨_, H, I', h⟩) hf)
def gNil : TGs := fun vs σ H Q => vs = [] ∧ Q σ H
def gCons (t : TG) (u : TGs) : TGs := fun vs σ H Q => ∃ v r, vs = v :: r ∧ t v σ H fun σ' H' => u r σ' H' Q
theorem pgs_nil : PGs X [] gNil := by
  intro pins s σ H vs us Q I r h
  obtain ⟨e, h⟩ := h
  subst e
  cases r
  exact assignInOrder_nil ⟨σ, H, I, h⟩
theorem pgs_cons {e : Expr} {es : List Expr} {t : TG} {u : TGs} (h1 : PG X e t) (h2 : PGs X es u)
    (hs : (assignEach (e :: es) X.env).map (·.2) = assign e X.env :: (assignEach es X.env).map (·.2) := by rfl) : PGs X (e :: es) (gCons t u) := by
  intro pins s σ H vs us Q I r h
  obtain ⟨v, vr, e1, h⟩ := h
  subst e1
  cases r with
  | cons r rr =>
    rw [hs]
    refine assignInOrder_cons (thn (h1 pins s σ H _ _ _ I r h) fun _ s1 ⟨σ1, H1, I1, q1⟩ => ?_)
    exact h2 pins s1 σ1 H1 _ _ Q I1 rr q1
def gTup (K : PySem.W.Frag) (n : Nat) (t : TGs) : TG := fun v σ H Q => ∃ a xs, v = .ref a ∧ SqT K H a xs ∧ xs.length = n ∧ t xs σ H Q
theorem pg_tup {es : List Expr} {k : Nat} {t : TGs} {n : Nat} (hc : X.calm = true) (h : PGs X es t)
    (hn : (assignEach es X.env).length = n := by rfl) (hst : (assignEach es X.env).findIdx? (·.1) = none := by rfl) : PG X (.Tuple es k pos) (gTup X.K n t) := by
  intro pins s σ H v u Q I r hw
  obtain ⟨a, xs, e1, hq, hl, hw⟩ := hw
  subst e1
  cases r
  obtain ⟨its, rv, ht, hz⟩ := I.tuple hq
  refine assign_Tuple_tuple (I.ok.hd hc) ht (by simp [hn, ← hl, rv.length]) hst fun h' hx => ?_
  have I1 : Inv X pins σ H { s with heap := h' } := I.kept (t' := s.toks) fun b o e => hx b o (Nat.ne_of_lt (Heap.lt_size e)) e
  exact h pins _ σ H xs _ Q I1 (by simpa using rv) hw
def gSub (to ti : TE) (t : TSet) : TG := fun v σ H Q => to σ H fun o H1 => ti σ H1 fun i H2 => t o i v H2 fun H3 => Q σ H3
theorem pg_sub {o i : Expr} {to ti : TE} {t : TSet} (ho : PE X o to) (hi : PE X i ti) (hs : PSet X t)
    (ha : ∀ v, assign (.Subscript o i pos) X.env v = (do
      let ov ← holding [v] (eval o X.env)
      let iv ← holding [v, ov] (eval i X.env)
      standAt pos
      holding [v, ov, iv] (setItem ov iv v)
      release [v, ov, iv] []) := by intro _; rfl) : PG X (.Subscript o i pos) (gSub to ti t) := by
  intro pins s σ H v u Q I r h
  rw [ha]
  refine wpAny_bind (wpAny_holding (thn (ho pins s σ H _ I h) fun ov s1 ⟨x, H1, I1, r1, q1⟩ => ?_))
  refine wpAny_bind (wpAny_holding (thn (hi pins s1 σ H1 _ I1 q1) fun iv s2 ⟨y, H2, I2, r2, q2⟩ => ?_))
  refine wpAny_bind (wpAny_standAt (wpAny_bind (wpAny_holding (thn (hs pins s2 σ H2 x y v ov iv u _ I2 r1 r2 r q2) fun _ s3 ⟨H3, I3, q3⟩ => ?_))))
  exact wpAny_release ⟨σ, H3, I3, q3⟩
def tAsg (te : TE) (g : TG) : TS := fun D σ H => te σ H fun x H1 => g x σ H1 D.nx
theorem ps_asg {tg e : Expr} {te : TE} {g : TG} (he : PE X e te) (hg : PG X tg g) (hs : swapsWithSole [tg] e pos.line X.env = pure false := by rfl) (hw : swappedStores [tg] e X.env = pure none := by rfl)
    (h1 : (assignEach [tg] X.env).map (·.2) = [assign tg X.env] := by rfl) : PS X (.Assign [tg] e pos) (tAsg te g) := by
  intro pins s σ H D I h
  refine wpAny_Assign_stores (thn (he pins s σ H _ I h) fun v s1 ⟨x, H1, I1, r1, q1⟩ => ?_) hs hw
  rw [h1]
  exact thn (hg pins s1 σ H1 x v _ I1 r1 q1) fun _ s2 q => q
theorem ps_set {i : Nat} {x : Str} {e : Expr} {te : TE} {pos' : Pos} (hN : X.N.Nodup) (hi : X.N[i]? = some x) (hx : Loc X.env.scope x) (he : PE X e te) (hs : swapsWith e (some (.Name x pos')) pos.line X.env = pure false := by rfl) (hf : X.fn x = true ∨ X.env.scope.names.lookup x = some .local := by first | exact .inl rfl | exact .inr rfl | assumption) :
    PS X (.Assign [.Name x pos'] e pos) (tAsg te (gName i)) := by
  intro pins s σ H D I h
  refine wpAny_Assign_Name (thn (he pins s σ H _ I h) fun v s1 ⟨y, H1, I1, r1, q1⟩ => ?_) hs
  exact store_ok I1 hN hi hx r1 (fun s2 I2 => ⟨_, H1, I2, q1⟩) hf
end

section
variable {X : Cx} {pos : Pos}
def tWhile (c : TT) (tb : TS) : TS := fun D σ H => ∃ W : Nat → St → Hp → Prop, (∃ m, W m σ H) ∧ ∀ m σ H, W m σ H →
  c σ H fun b H1 => if b = true then ∃ N : St → Hp → Prop, (∀ σ' H', N σ' H' → ∃ m', m' < m ∧ W m' σ' H') ∧ tb { D with nx := N, ct := N, bk := D.nx } σ H1 else D.nx σ H1
theorem ps_while {c : Expr} {body : List Stmt} {tc : TT} {tb : TS} (hp : PassesOwn (model X.prog X.w) X.A X.env X.xe) (hc : PT X c tc) (hb : PSs X body tb) : PS X (.While c body [] pos) (tWhile tc tb) := by
  intro pins s σ H D I h
  obtain ⟨W, ⟨m0, w0⟩, turn⟩ := h
  refine wpAny_While (codeAny_whileLoop (fun n s' => ∃ σ' H', Inv X pins σ' H' s' ∧ W n σ' H') ?_ m0 ⟨σ, H, I, w0⟩)
  rintro n s1 ⟨σ1, H1, I1, w1⟩
  refine wpAny_passesOwn hp (thn (hc pins s1 σ1 H1 _ I1 (turn n σ1 H1 w1)) fun b s2 ⟨H2, I2, q2⟩ => ?_)
  cases b with
  | true =>
    obtain ⟨N, hN, q2⟩ := q2
    rw [if_pos rfl]
    refine wpAny_passesOwn hp (thn (hb pins s2 σ1 H2 _ I2 q2) fun f s3 q3 => ?_)
    cases f with
    | next =>
      obtain ⟨σ3, H3, I3, n3⟩ := q3
      obtain ⟨m', hm, w3⟩ := hN σ3 H3 n3
      exact ⟨m', hm, σ3, H3, I3, w3⟩
    | cont =>
      obtain ⟨σ3, H3, I3, n3⟩ := q3
      obtain ⟨m', hm, w3⟩ := hN σ3 H3 n3
      exact ⟨m', hm, σ3, H3, I3, w3⟩
    | brk => exact q3
    | ret v => exact q3
  | false =>
    rw [if_neg Bool.false_ne_true]
    exact wpAny_execs_nil ⟨σ1, H2, I2, q2⟩
end

structure It where
  go : Nat → Hp → Prop
  yld : Nat → Hp → V → Hp → Prop
  stop : Nat → Hp → Prop
def FpOk (X : Cx) (pins : List (Addr × Obj)) (H : Hp) (b : Addr) : Prop :=
  H b = none ∧ b ≠ X.env.locals ∧ b ∉ X.fs ∧ (b ∈ X.ex ∨ X.s₀.heap.objs.size ≤ b) ∧ (∀ x c, X.env.cells.lookup x = some c → c ≠ b) ∧ ∀ p ∈ X.pn ++ pins, p.1 ≠ b
theorem Inv.fpOk {X : Cx} {pins : List (Addr × Obj)} {σ : St} {H H' : Hp} {s : Shared} {b : Addr} (I : Inv X pins σ H s) (hb : s.heap.objs.size ≤ b) (hn : H' b = none) : FpOk X pins H' b := by
  refine ⟨hn, Nat.ne_of_gt (Nat.lt_of_lt_of_le I.lt hb), I.nofs hb, .inr (Nat.le_trans I.sz hb), fun x c e z => ?_, fun p hp z => ?_⟩
  · obtain ⟨v, q⟩ := I.cell x c e
    exact absurd (Nat.lt_of_lt_of_le q.lt (by rw [z]; exact hb)) (Nat.lt_irrefl _)
  · exact absurd (Nat.lt_of_lt_of_le (Heap.lt_size (I.pin p hp).1) (by rw [z]; exact hb)) (Nat.lt_irrefl _)
structure Turn (P : Program) (w : World) (K : PySem.W.Frag) (tg : Expr) (J : It) (fp : List Addr) (it : Addr) (tn : Nat → Heap → Prop) : Prop where
  mem : it ∈ fp
  obj : ∀ i h, tn i h → ∀ b ∈ fp, ∃ o, h.get? b = some o ∧ ∀ v, o.data ≠ .cell v
  keep : ∀ i h h', tn i h → (∀ b ∈ fp, ∀ o, h.get? b = some o → h'.get? b = some o) → tn i h'
  item : ∀ (X : Cx), X.prog = P → X.w = w → X.K = K → X.calm = true → ∀ (i : Nat) (pins : List (Addr × Obj)) (s : Shared) (σ : St) (H : Hp) (E : Value → Shared → Prop), Inv X pins σ H s → (∀ b ∈ fp, FpOk X pins H b) → tn i s.heap → J.go i H →
    wpAny (model P w) X.A (pyNext (.ref it)) (fun r s1 => ∃ u, r = some u ∧
      wpAny (model P w) X.A (letOwnedTupleGo tg (.ref it) u) (fun _ s2 => ∃ x H', Inv X pins σ H' s2 ∧ RelV x u ∧ J.yld i H x H' ∧ tn (i + 1) s2.heap ∧ ∀ b ∈ fp, H' b = none) E s1) E s
  done : ∀ (X : Cx), X.prog = P → X.w = w → X.K = K → X.calm = true → ∀ (i : Nat) (pins : List (Addr × Obj)) (s : Shared) (σ : St) (H : Hp) (E : Value → Shared → Prop), Inv X pins σ H s → (∀ b ∈ fp, FpOk X pins H b) → tn i s.heap → J.stop i H →
    wpAny (model P w) X.A (pyNext (.ref it)) (fun r s1 => r = none ∧ Inv X pins σ H s1) E s
  self : ∀ (A : Around) (i : Nat) (s : Shared) (Q : Value → Shared → Prop) (E : Value → Shared → Prop), tn i s.heap → Q (.ref it) s → wpAny (model P w) A (pyIter (.ref it)) Q E s
abbrev TI := St → Hp → (It → Hp → Prop) → Prop
def PIE (X : Cx) (pins : List (Addr × Obj)) (σ : St) (tg : Expr) (R : It → Hp → Prop) (itv : Value) (s2 : Shared) : Prop :=
  ∃ (it : Addr) (fp : List Addr) (tn : Nat → Heap → Prop) (J : It) (H' : Hp), itv = .ref it ∧ Inv X pins σ H' s2 ∧ Turn X.prog X.w X.K tg J fp it tn ∧ tn 0 s2.heap ∧ (∀ b ∈ fp, FpOk X pins H' b) ∧ R J H'
def PI (X : Cx) (tg iter : Expr) (wi : TI) : Prop :=
  ∀ (pins : List (Addr × Obj)) (s : Shared) (σ : St) (H : Hp) (R : It → Hp → Prop), Inv X pins σ H s → wi σ H R →
    wpAny (model X.prog X.w) X.A (eval iter X.env) (fun v s1 => wpAny (model X.prog X.w) X.A (pyIter v) (PIE X pins σ tg R) X.xe s1) X.xe s

theorem go_of {M : Model} {A : Around} {E : Value → Shared → Prop} {s : Shared} {tg : Expr} {it : Addr} {u : Value} {o : Obj} {n : String} {vs : Array Value} {Q : Unit → Shared → Prop} (ho : s.heap.get? it = some o) (hc : o.cls = .type n) (hd : o.data = .fields vs)
    (hn : ["enumerate", "zip", "dict_itemiterator", "dict_reverseitemiterator", "odict_iterator", "itertools.zip_longest", "itertools.pairwise"].contains n = false) (hQ : Q () s) : wpAny M A (letOwnedTupleGo tg (.ref it) u) Q E s := by
  unfold letOwnedTupleGo
  cases tg <;> first
    | exact wpAny_pure hQ
    | (cases u <;> first
        | exact wpAny_pure hQ
        | (refine wpAny_bind (wpAny_load ho ?_)
           rw [hc, hd]
           show wpAny M A (if (["enumerate", "zip", "dict_itemiterator", "dict_reverseitemiterator", "odict_iterator", "itertools.zip_longest", "itertools.pairwise"].contains n && vs[0]? == some (rawInt _)) = true then _ else _) Q E s
           rw [if_neg (by intro h; rw [hn, Bool.false_and] at h; cases h)]
           exact wpAny_pure hQ))

def Itl (K : PySem.W.Frag) (a : Addr) : It :=
  ⟨fun i H => ∃ xs x, SqL K H a xs ∧ xs[i]? = some x, fun i H x H' => H' = H ∧ ∀ xs, SqL K H a xs → xs[i]? = some x, fun i H => ∃ xs, SqL K H a xs ∧ xs.length ≤ i⟩
def Itr (lo : Int) (n : Nat) : It := ⟨fun i _ => i < n, fun i H x H' => H' = H ∧ x = .int (lo + i), fun i _ => n ≤ i⟩
theorem turn_list {P : Program} {w : World} {K : PySem.W.Frag} {tg : Expr} (a it : Addr) : Turn P w K tg (Itl K a) [it] it (fun i h => h.IsListIter it a i) where
  mem := by simp
  obj := fun i h st b hb => by
    have e : b = it := by simpa using hb
    subst e
    obtain ⟨o, e, c, d⟩ := st
    exact ⟨o, e, fun v z => by rw [d] at z; cases z⟩
  keep := fun i h h' st k => st.at fun o e => k it (by simp) o e
  item := by
    intro X hP hw hK hc i pins s σ H E I hf st hg
    subst hP hw hK
    obtain ⟨xs, x, hq, hx⟩ := hg
    obtain ⟨its, rv, p, hz⟩ := I.list hq
    obtain ⟨u, hu, ru⟩ := rv.get hx
    obtain ⟨f0, f1, f2, f3, f4, f5⟩ := hf it (by simp)
    refine wpAny_pyNext_list_item st p.isList (x := u) (by simpa using hu) fun h' st' sb => ?_
    have I1 : Inv X pins σ H { s with heap := h' } := I.turned (t' := s.toks) (fun b o hb e => (sb.2 b hb).trans e) f0 f1 f3 f4 f5
    obtain ⟨o, e, c, d⟩ := id st'
    exact ⟨u, rfl, go_of (s := { s with heap := h' }) e c d (by decide) ⟨x, H, I1, ru, ⟨rfl, fun ys hy => by rw [I.list_inj hy hq]; exact hx⟩, st', fun b hb => (hf b hb).1⟩⟩
  done := by
    intro X hP hw hK hc i pins s σ H E I hf st hg
    subst hP hw hK
    obtain ⟨xs, hq, hx⟩ := hg
    obtain ⟨its, rv, p, hz⟩ := I.list hq
    obtain ⟨f0, f1, f2, f3, f4, f5⟩ := hf it (by simp)
    have hl := rv.length
    exact wpAny_pyNext_list_end (I.ok.hd hc) st p.isList (by simp; omega) fun h' eb => ⟨rfl, I.turned (t' := s.toks) (fun b o hb e => eb b o hb e) f0 f1 f3 f4 f5⟩
  self := fun _ _ _ _ _ st h => wpAny_pyIter_listiter st h
theorem turn_range {P : Program} {w : World} {K : PySem.W.Frag} {tg : Expr} (it : Addr) (lo : Int) (n : Nat) : Turn P w K tg (Itr lo n) [it] it (fun i h => IsRangeIter h it (lo + (i : Nat) * 1) ((n : Int) - (i : Nat)) 1) where
  mem := by simp
  obj := fun i h st b hb => by
    have e : b = it := by simpa using hb
    subst e
    exact ⟨_, st, fun v z => by
      have z' : Data.fields _ = Data.cell v := z
      cases z'⟩
  keep := fun i h h' st k => k it (by simp) _ st
  item := by
    intro X hP hw hK hc i pins s σ H E I hf st hg
    subst hP hw hK
    obtain ⟨f0, f1, f2, f3, f4, f5⟩ := hf it (by simp)
    have W := Walks.range (prog := X.prog) (w := X.w) (I.ok.hd hc) it lo 1 n
    refine W.item i s _ _ hg st fun v h' tk hv st' kk => ?_
    obtain ⟨t, rfl⟩ := hv
    have I1 : Inv X pins σ H { s with heap := h', toks := tk } := I.turned (fun b o hb e => kk b o (by simpa using hb) e) f0 f1 f3 f4 f5
    refine ⟨_, rfl, go_of (s := { s with heap := h', toks := tk }) (n := "range_iterator") st' rfl rfl (by decide) ⟨.int (lo + i), H, I1, ⟨t, ?_⟩, ⟨rfl, rfl⟩, st', fun b hb => (hf b hb).1⟩⟩
    rw [Int.mul_one]
  done := by
    intro X hP hw hK hc i pins s σ H E I hf st hg
    subst hP hw hK
    obtain ⟨f0, f1, f2, f3, f4, f5⟩ := hf it (by simp)
    exact wpAny_pyNext_range_end (I.ok.hd hc) st (by have : n ≤ i := hg; omega) fun h' eb => ⟨rfl, I.turned (t' := s.toks) (fun b o hb e => eb b o hb e) f0 f1 f3 f4 f5⟩
  self := fun _ _ _ _ _ st h => wpAny_pyIter_rangeiter st h
end L2

namespace L2
open PySem PySem.Spec PyProof.Rows
section
variable {X : Cx} {tg : Expr}
def iList (K : PySem.W.Frag) (tl : TE) : TI := fun σ H R => tl σ H fun x H1 => ∃ a, x = .ref a ∧ (∃ xs, SqL K H1 a xs) ∧ R (Itl K a) H1
theorem pi_list {l : Expr} {tl : TE} (hl : PE X l tl) : PI X tg l (iList X.K tl) := by
  intro pins s σ H R I h
  refine thn (hl pins s σ H _ I h) fun v s1 ⟨x, H1, I1, r1, q1⟩ => ?_
  obtain ⟨a, e, ⟨xs, hq⟩, q⟩ := q1
  subst e
  cases r1
  obtain ⟨its, rv, p, hz⟩ := I1.list hq
  refine wpAny_pyIter_list p.isList ?_
  refine ⟨s1.heap.objs.size, [s1.heap.objs.size], _, _, H1, rfl, I1.kept (t' := s1.toks) fun b o e => Heap.get?_push_of_some _ e, turn_list a _, ⟨_, Heap.get?_push_size _ rfl, rfl, rfl⟩, fun b hb => ?_, q⟩
  have e : b = s1.heap.objs.size := by simpa using hb
  subst e
  exact I1.fpOk (Nat.le_refl _) (I1.hok.fresh (Nat.le_refl _))
theorem range_it {pins : List (Addr × Obj)} {σ : St} {H : Hp} {s : Shared} {R : It → Hp → Prop} {E : Value → Shared → Prop} {lo hi : Int} {t u v : Tok} {tk : Nat} (I : Inv X pins σ H s) (h1 : -(2 ^ 62) ≤ lo) (h2 : lo < 2 ^ 62) (h3 : -(2 ^ 62) ≤ hi) (h4 : hi < 2 ^ 62)
    (q : R (Itr lo (hi - lo).toNat) H) : wpAny (model X.prog X.w) X.A (pyIter (.ref s.heap.objs.size)) (PIE X pins σ tg R) E { s with heap := s.heap.push { cls := .type "range", data := .fields #[.int lo t, .int hi u, .int 1 v] }, toks := tk } := by
  refine wpAny_pyIter_range (IsRange.new ..) (small_one h1 h2 h3 h4) ?_
  have I1 : Inv X pins σ H { s with heap := s.heap.push { cls := .type "range", data := .fields #[.int lo t, .int hi u, .int 1 v] }, toks := tk } := I.kept fun b o e => Heap.get?_push_of_some _ e
  refine ⟨(s.heap.push { cls := .type "range", data := .fields #[.int lo t, .int hi u, .int 1 v] }).objs.size, [(s.heap.push { cls := .type "range", data := .fields #[.int lo t, .int hi u, .int 1 v] }).objs.size], _, _, H, rfl,
    I1.kept (t' := tk) fun b o e => Heap.get?_push_of_some _ e, turn_range _ lo (hi - lo).toNat, ?_, fun b hb => ?_, q⟩
  · have e1 : lo + ((0 : Nat) : Int) * 1 = lo := by simp
    have e2 : (((hi - lo).toNat : Nat) : Int) - ((0 : Nat) : Int) = Builtin.Range.rangeSize lo hi 1 := by rw [rangeSize_one]; split <;> omega
    show IsRangeIter _ _ (lo + ((0 : Nat) : Int) * 1) ((((hi - lo).toNat : Nat) : Int) - ((0 : Nat) : Int)) 1
    rw [e1, e2]
    exact Heap.get?_push_size _ rfl
  · have e : b = (s.heap.push { cls := .type "range", data := .fields #[.int lo t, .int hi u, .int 1 v] }).objs.size := by simpa using hb
    subst e
    exact I1.fpOk (Nat.le_refl _) (I1.hok.fresh (Nat.le_refl _))
def iRng1 (ta : TA) : TI := fun σ H R => ta σ H fun vs H1 => ∃ j : Int, vs = [.int j] ∧ -(2 ^ 62) ≤ j ∧ j < 2 ^ 62 ∧ R (Itr 0 j.toNat) H1
def iRng2 (ta : TA) : TI := fun σ H R => ta σ H fun vs H1 => ∃ i j : Int, vs = [.int i, .int j] ∧ (-(2 ^ 62) ≤ i ∧ i < 2 ^ 62 ∧ -(2 ^ 62) ≤ j ∧ j < 2 ^ 62) ∧ R (Itr i (j - i).toNat) H1
theorem pi_range1 {a : Expr} {ta : TA} {p pos : Pos} (hg : Gl X "range") (hm : X.mg "range" = none) (ha : PA X [a] ta) (hs : starEach [a] X.env = [(false, eval a X.env)] := by rfl) : PI X tg (.Call (.Name "range" p) [a] [] pos) (iRng1 ta) := by
  intro pins s σ H R I h
  refine Call_ (ld_blt I hg hm boot_range (PyProof.Rows.callWith_type1 (thn (ha pos pins s σ H _ I h) fun us s1 ⟨vs, H1, I1, r1, q1⟩ => ?_) hs rfl))
  obtain ⟨j, e, q1, q2, q⟩ := q1
  subst e
  cases r1 with
  | cons r rr =>
    cases rr
    obtain ⟨t, rfl⟩ := r
    exact call_range_1 (range_it I1 (by omega) (by omega) q1 q2 (by simpa using q))
theorem pi_range2 {a b : Expr} {ta : TA} {p pos : Pos} (hg : Gl X "range") (hm : X.mg "range" = none) (ha : PA X [a, b] ta) (hs : starEach [a, b] X.env = [(false, eval a X.env), (false, eval b X.env)] := by rfl) (hs2 : starEach [b] X.env = [(false, eval b X.env)] := by rfl) :
    PI X tg (.Call (.Name "range" p) [a, b] [] pos) (iRng2 ta) := by
  intro pins s σ H R I h
  refine Call_ (ld_blt I hg hm boot_range (PyProof.Rows.callWith_type1 (thn (ha pos pins s σ H _ I h) fun us s1 ⟨vs, H1, I1, r1, q1⟩ => ?_) (by rw [hs, hs2]) (by rw [hs2]; rfl)))
  obtain ⟨i, j, e, ⟨q1, q2, q3, q4⟩, q⟩ := q1
  subst e
  cases r1 with
  | cons r rr =>
    cases rr with
    | cons r' rr =>
      cases rr
      obtain ⟨t, rfl⟩ := r
      obtain ⟨t', rfl⟩ := r'
      exact call_range_2 (range_it I1 q1 q2 q3 q4 q)

def tFor (wi : TI) (g : TG) (tb : TS) : TS := fun D σ H => wi σ H fun J H1 => ∃ W : Nat → Nat → St → Hp → Prop, (∃ m, W 0 m σ H1) ∧ ∀ i m σ H, W i m σ H →
  (J.stop i H ∧ D.nx σ H) ∨ (J.go i H ∧ ∃ N : St → Hp → Prop, (∀ σ' H', N σ' H' → ∃ m', m' < m ∧ W (i + 1) m' σ' H') ∧ ∀ x H', J.yld i H x H' → g x σ H' fun σ2 H2 => tb { D with nx := N, ct := N, bk := D.nx } σ2 H2)
def pinsAt (fp : List Addr) (h : Heap) : List (Addr × Obj) := fp.filterMap fun b => (h.get? b).map fun o => (b, o)
theorem mem_pinsAt {fp : List Addr} {h : Heap} {b : Addr} {o : Obj} (hb : b ∈ fp) (e : h.get? b = some o) : (b, o) ∈ pinsAt fp h := List.mem_filterMap.mpr ⟨b, hb, by rw [e]; rfl⟩
theorem of_pinsAt {fp : List Addr} {h : Heap} {p : Addr × Obj} (hp : p ∈ pinsAt fp h) : p.1 ∈ fp ∧ h.get? p.1 = some p.2 := by
  obtain ⟨b, hb, e⟩ := List.mem_filterMap.mp hp
  cases q : h.get? b with
  | none => rw [q] at e; cases e
  | some o =>
    rw [q] at e
    have e' : (b, o) = p := Option.some.inj e
    subst e'
    exact ⟨hb, q⟩
theorem Inv.pinned {pins : List (Addr × Obj)} {σ : St} {H : Hp} {s : Shared} {fp : List Addr} (I : Inv X pins σ H s) (hf : ∀ b ∈ fp, FpOk X pins H b) (ho : ∀ b ∈ fp, ∃ o, s.heap.get? b = some o ∧ ∀ v, o.data ≠ .cell v) : Inv X (pins ++ pinsAt fp s.heap) σ H s :=
  I.pins_of fun p hp => (List.mem_append.mp hp).elim (fun z => I.pin p (List.mem_append_right _ z)) fun z => by
    obtain ⟨hb, e⟩ := of_pinsAt z
    obtain ⟨f0, f1, f2, _⟩ := hf p.1 hb
    obtain ⟨o, e', d⟩ := ho p.1 hb
    rw [e] at e'; cases e'
    exact ⟨e, f0, f1, f2, d⟩
theorem Inv.unpinned {pins pl : List (Addr × Obj)} {σ : St} {H : Hp} {s : Shared} (I : Inv X (pins ++ pl) σ H s) : Inv X pins σ H s := I.pins_of fun p hp => I.pin p (List.mem_append_right _ (List.mem_append_left _ hp))
theorem ps_for {iter : Expr} {body : List Stmt} {wi : TI} {g : TG} {tb : TS} {pos : Pos} (hp : PassesOwn (model X.prog X.w) X.A X.env X.xe) (hc : X.calm = true) (hi : PI X tg iter wi) (hg : PG X tg g) (hb : PSs X body tb)
    (hs : ∀ x, foldedSetIterable iter X.env x = pure x := by intro _; rfl) : PS X (.For tg iter body [] pos) (tFor wi g tb) := by
  intro pins s σ H D I h
  refine wpAny_For (thn (hi pins s σ H _ I h) fun v s1 h1 => thn h1 fun itv s2 h2 => ?_) hs
  obtain ⟨it, fp, tn, J, H2, e, I2, T, st2, f2, W, ⟨m0, w0⟩, turn⟩ := h2
  subst e
  -- what stays true of the iterator's objects through the loop
  have stat : ∀ {H' : Hp}, (∀ b ∈ fp, H' b = none) → ∀ b ∈ fp, FpOk X pins H' b := fun hn b hb => ⟨hn b hb, (f2 b hb).2⟩
  refine codeAny_forLoop_any (fun n s' => ∃ i σ' H', Inv X pins σ' H' s' ∧ tn i s'.heap ∧ (∀ b ∈ fp, H' b = none) ∧ W i n σ' H') ?_ m0 ⟨0, σ, H2, I2, st2, fun b hb => (f2 b hb).1, w0⟩
  rintro n s3 ⟨i, σ3, H3, I3, st3, fr3, w3⟩
  rcases turn i n σ3 H3 w3 with ⟨stop, qn⟩ | ⟨go, N, hN, step⟩
  · refine wpAny_passesOwn hp (thn (T.done X rfl rfl rfl hc i pins s3 σ3 H3 X.xe I3 (stat fr3) st3 stop) fun r s4 ⟨hr, I4⟩ => ?_)
    subst hr
    exact wpAny_execs_nil ⟨σ3, H3, I4, qn⟩
  · refine wpAny_passesOwn hp (thn (T.item X rfl rfl rfl hc i pins s3 σ3 H3 X.xe I3 (stat fr3) st3 go) fun r s4 ⟨u, hr, h4⟩ => ?_)
    subst hr
    refine wpAny_passesOwn hp (thn h4 fun _ s5 ⟨x, H5, I5, r5, y5, st5, fr5⟩ => ?_)
    have I5' := I5.pinned (stat fr5) (T.obj _ _ st5)
    refine wpAny_passesOwn hp (thn (hg _ s5 σ3 H5 x u _ I5' r5 (step x H5 y5)) fun _ s6 ⟨σ6, H6, I6, q6⟩ => ?_)
    refine wpAny_passesOwn hp (thn (hb _ s6 σ6 H6 _ I6 q6) fun f s7 q7 => ?_)
    have again : ∀ {σ7 : St} {H7 : Hp}, Inv X (pins ++ pinsAt fp s5.heap) σ7 H7 s7 → N σ7 H7 → ∃ m, m < n ∧ ∃ i σ' H', Inv X pins σ' H' s7 ∧ tn i s7.heap ∧ (∀ b ∈ fp, H' b = none) ∧ W i m σ' H' := fun {σ7 H7} I7 n7 => by
      obtain ⟨m', hm, w7⟩ := hN σ7 H7 n7
      refine ⟨m', hm, i + 1, σ7, H7, I7.unpinned, T.keep _ _ _ st5 fun b hb o e => (I7.pin (b, o) (List.mem_append_right _ (List.mem_append_right _ (mem_pinsAt hb e)))).1, fun b hb => ?_, w7⟩
      obtain ⟨o, e, d⟩ := T.obj _ _ st5 b hb
      exact (I7.pin (b, o) (List.mem_append_right _ (List.mem_append_right _ (mem_pinsAt hb e)))).2.1
    cases f with
    | next => obtain ⟨σ7, H7, I7, n7⟩ := q7; exact again I7 n7
    | cont => obtain ⟨σ7, H7, I7, n7⟩ := q7; exact again I7 n7
    | brk => obtain ⟨σ7, H7, I7, q7⟩ := q7; exact ⟨σ7, H7, I7.unpinned, q7⟩
    | ret v => obtain ⟨x7, σ7, H7, I7, r7, q7⟩ := q7; exact ⟨x7, σ7, H7, I7.unpinned, r7, q7⟩
end

end L2

namespace L2
open PySem PySem.Spec PyProof.Rows

abbrev R2 := V → V → Hp → VK → Prop
def OpR (X : Cx) (f : Value → Value → Sem Value) (r : R2) : Prop :=
  ∀ (pins : List (Addr × Obj)) (s : Shared) (σ : St) (H : Hp) (x y : V) (v u : Value) (Q : VK), Inv X pins σ H s → RelV x v → RelV y u → r x y H Q →
    wpAny (model X.prog X.w) X.A (f v u) (EP X pins σ Q) X.xe s
def UnR (X : Cx) (f : Value → Sem Value) (r : V → Hp → VK → Prop) : Prop :=
  ∀ (pins : List (Addr × Obj)) (s : Shared) (σ : St) (H : Hp) (x : V) (v : Value) (Q : VK), Inv X pins σ H s → RelV x v → r x H Q →
    wpAny (model X.prog X.w) X.A (f v) (EP X pins σ Q) X.xe s
def CallR (X : Cx) (f : Value) (r : List V → Hp → VK → Prop) : Prop :=
  ∀ (pins : List (Addr × Obj)) (s : Shared) (σ : St) (H : Hp) (xs : List V) (us : List Value) (Q : VK), Inv X pins σ H s → Vals xs us → r xs H Q →
    wpAny (model X.prog X.w) X.A (call f us) (EP X pins σ Q) X.xe s
def tOp (r : R2) (ta tb : TE) : TE := fun σ H Q => ta σ H fun x H1 => tb σ H1 fun y H2 => r x y H2 Q
def tUn (r : V → Hp → VK → Prop) (ta : TE) : TE := fun σ H Q => ta σ H fun x H1 => r x H1 Q
def rI (C : Int → Int → Prop) (g : Int → Int → V) : R2 := fun x y H Q => ∃ i j, x = .int i ∧ y = .int j ∧ C i j ∧ Q (g i j) H
def rI0 (g : Int → Int → V) : R2 := fun x y H Q => ∃ i j, x = .int i ∧ y = .int j ∧ Q (g i j) H
def rU (g : Int → V) : V → Hp → VK → Prop := fun x H Q => ∃ i, x = .int i ∧ Q (g i) H

section
variable {X : Cx} {a b c : Expr} {ta tb tc : TE} {pos : Pos}

theorem binT (ha : PE X a ta) (hb : PE X b tb) {pins : List (Addr × Obj)} {s : Shared} {σ : St} {H : Hp} {R : V → V → Hp → Prop} (I : Inv X pins σ H s)
    (h : ta σ H fun x H1 => tb σ H1 fun y H2 => R x y H2) {Q : Value → Shared → Prop} {f : Value → Value → Sem Value}
    (hf : ∀ v u s2 x y H2, Inv X pins σ H2 s2 → RelV x v → RelV y u → R x y H2 → wpAny (model X.prog X.w) X.A (f v u) Q X.xe s2) :
    wpAny (model X.prog X.w) X.A (eval a X.env) (fun v s₁ => wpAny (model X.prog X.w) X.A (eval b X.env) (fun u s₂ => wpAny (model X.prog X.w) X.A (f v u) Q X.xe s₂) X.xe s₁) X.xe s := by
  refine thn (ha pins s σ H _ I h) fun v s1 ⟨x, H1, I1, r1, q1⟩ => ?_
  refine thn (hb pins s1 σ H1 _ I1 q1) fun u s2 ⟨y, H2, I2, r2, q2⟩ => ?_
  exact hf v u s2 x y H2 I2 r1 r2 q2

theorem pe_op {op : Operator} {r : R2} (ho : OpR X (binaryOp op) r) (ha : PE X a ta) (hb : PE X b tb) : PE X (.BinOp a op b pos) (tOp r ta tb) := by
  intro pins s σ H Q I h
  exact wpAny_BinOp (binT ha hb I h fun v u s2 x y H2 I2 rx ry q => ho pins s2 σ H2 x y v u Q I2 rx ry q)
theorem pe_un {op : UnaryOp} {r : V → Hp → VK → Prop} (ho : UnR X (unaryOp op) r) (ha : PE X a ta) : PE X (.UnaryOp op a pos) (tUn r ta) := by
  intro pins s σ H Q I h
  exact UnaryOp_ (thn (ha pins s σ H _ I h) fun v s1 ⟨x, H1, I1, r1, q1⟩ => ho pins s1 σ H1 x v Q I1 r1 q1)
theorem opI {f : Value → Value → Sem Value} {C : Int → Int → Prop} {g : Int → Int → Int}
    (rule : ∀ (i j : Int) (t u : Tok) (s : Shared) (Q : Value → Shared → Prop) (E : Value → Shared → Prop), C i j → Q (.int (g i j) s.toks) { s with toks := s.toks + 1 } → wpAny (model X.prog X.w) X.A (f (.int i t) (.int j u)) Q E s) :
    OpR X f (rI C fun i j => .int (g i j)) := by
  intro pins s σ H x y v u Q I rx ry h
  obtain ⟨i, j, rfl, rfl, hc, q⟩ := h
  obtain ⟨t, rfl⟩ := rx
  obtain ⟨t', rfl⟩ := ry
  exact rule i j t t' s _ _ hc ⟨.int (g i j), H, I.tok _, ⟨_, rfl⟩, q⟩
theorem opI0 {f : Value → Value → Sem Value} {g : Int → Int → Int}
    (rule : ∀ (i j : Int) (t u : Tok) (s : Shared) (Q : Value → Shared → Prop) (E : Value → Shared → Prop), Q (.int (g i j) s.toks) { s with toks := s.toks + 1 } → wpAny (model X.prog X.w) X.A (f (.int i t) (.int j u)) Q E s) :
    OpR X f (rI0 fun i j => .int (g i j)) := by
  intro pins s σ H x y v u Q I rx ry h
  obtain ⟨i, j, rfl, rfl, q⟩ := h
  obtain ⟨t, rfl⟩ := rx
  obtain ⟨t', rfl⟩ := ry
  exact rule i j t t' s _ _ ⟨.int (g i j), H, I.tok _, ⟨_, rfl⟩, q⟩
theorem opB0 {f : Value → Value → Sem Value} {g : Int → Int → Bool}
    (rule : ∀ (i j : Int) (t u : Tok) (s : Shared) (Q : Value → Shared → Prop) (E : Value → Shared → Prop), Q (.bool (g i j)) s → wpAny (model X.prog X.w) X.A (f (.int i t) (.int j u)) Q E s) :
    OpR X f (rI0 fun i j => .bl (g i j)) := by
  intro pins s σ H x y v u Q I rx ry h
  obtain ⟨i, j, rfl, rfl, q⟩ := h
  obtain ⟨t, rfl⟩ := rx
  obtain ⟨t', rfl⟩ := ry
  exact rule i j t t' s _ _ ⟨.bl (g i j), H, I, rfl, q⟩

def CPow (i j : Int) : Prop := 0 ≤ j ∧ j ≤ 1000000 ∧ i.natAbs < 2 ^ 64
def CMul (i j : Int) : Prop := (-(2 ^ 64) < i ∧ i < 2 ^ 64) ∨ (-(2 ^ 64) < j ∧ j < 2 ^ 64)
theorem CMul.ok {i j : Int} (h : CMul i j) : IntMulOk i j := by
  rcases h with ⟨h1, h2⟩ | ⟨h1, h2⟩
  · exact .of_left (intBits_le_64 h1 h2)
  · exact .of_right (intBits_le_64 h1 h2)
theorem op_add : OpR X (binaryOp .Add) (rI0 fun i j => .int (i + j)) := opI0 fun _ _ _ _ _ _ _ q => add_int q
theorem op_sub : OpR X (binaryOp .Sub) (rI0 fun i j => .int (i - j)) := opI0 fun _ _ _ _ _ _ _ q => sub_int q
theorem op_mod : OpR X (binaryOp .Mod) (rI (fun _ j => 0 < j) fun i j => .int (i % j)) := opI fun i j _ _ _ _ _ hc q => by
  have h1 : (0 : Int) < j := hc
  exact mod_int' (by omega) (by rw [Int.fmod_eq_emod_of_nonneg i (by omega)]; exact q)
theorem op_pow : OpR X (binaryOp .Pow) (rI CPow fun i j => .int (i ^ j.toNat)) := opI fun _ _ _ _ _ _ _ hc q => pow_int_small hc.1 hc.2.1 hc.2.2 q
theorem unI {f : Value → Sem Value} {g : Int → Int}
    (rule : ∀ (i : Int) (t : Tok) (s : Shared) (Q : Value → Shared → Prop) (E : Value → Shared → Prop), Q (.int (g i) s.toks) { s with toks := s.toks + 1 } → wpAny (model X.prog X.w) X.A (f (.int i t)) Q E s) :
    UnR X f (rU fun i => .int (g i)) := by
  intro pins s σ H x v Q I rx h
  obtain ⟨i, rfl, q⟩ := h
  obtain ⟨t, rfl⟩ := rx
  exact rule i t s _ _ ⟨.int (g i), H, I.tok _, ⟨_, rfl⟩, q⟩
theorem un_neg : UnR X (unaryOp .USub) (rU fun i => .int (-i)) := unI fun _ _ _ _ _ q => neg_int q
end

def scal : V → V → Bool
  | .non, .non => true | .non, .int _ => true | .int _, .non => true | .non, .bl _ => true | .bl _, .non => true | .non, .str _ => true | .str _, .non => true
  | .int _, .int _ => true | .bl _, .bl _ => true | .str _, .str _ => true | .byt _, .byt _ => true
  | .int _, .str _ => true | .str _, .int _ => true | .bl _, .str _ => true | .str _, .bl _ => true
  | _, _ => false
def rEq : R2 := fun x y H Q => scal x y = true ∧ Q (.bl (decide (x = y))) H
def rNe : R2 := fun x y H Q => scal x y = true ∧ Q (.bl (!decide (x = y))) H

theorem dec_int {i j : Int} : decide (V.int i = V.int j) = (i == j) := by
  rw [Bool.eq_iff_iff]
  simp
theorem dec_bl {i j : Bool} : decide (V.bl i = V.bl j) = (i == j) := by
  rw [Bool.eq_iff_iff]
  simp
theorem dec_str {i j : Str} : decide (V.str i = V.str j) = (i == j) := by
  rw [Bool.eq_iff_iff]
  simp
theorem dec_byt {i j : Array UInt8} : decide (V.byt i = V.byt j) = (i.toList == j.toList) := by
  rw [Bool.eq_iff_iff]
  cases i
  cases j
  simp

section
variable {X : Cx} {a b c : Expr} {ta tb tc : TE} {pos : Pos}
theorem fin_bl {pins : List (Addr × Obj)} {σ : St} {H : Hp} {s : Shared} {Q : VK} {k k' : Bool} (I : Inv X pins σ H s) (q : Q (.bl k) H) (e : k = k') : EP X pins σ Q (.bool k') s := by
  subst e
  exact ⟨.bl k, H, I, rfl, q⟩
theorem op_eq : OpR X (compareOp .Eq) rEq := by
  intro pins s σ H x y v u Q I rx ry h
  obtain ⟨hs, q⟩ := h
  cases x with
  | non =>
    cases rx
    cases y with
    | non => cases ry; exact PySem.EqNone.eq_none_none (fin_bl I q (by simp))
    | bl j => cases ry; exact PySem.EqNone.eq_none_bool (fin_bl I q (by simp))
    | int j => obtain ⟨t', rfl⟩ := ry; exact PySem.EqNone.eq_none_int (fin_bl I q (by simp))
    | str j => obtain ⟨t', rfl⟩ := ry; exact PySem.EqNone.eq_none_str (fin_bl I q (by simp))
    | _ => exact absurd (show false = true from hs) Bool.false_ne_true
  | bl i =>
    cases rx
    cases y with
    | non => cases ry; exact PySem.EqNone.eq_bool_none (fin_bl I q (by simp))
    | bl j => cases ry; exact eq_bool (fin_bl I q dec_bl)
    | str j => obtain ⟨t', rfl⟩ := ry; exact PySem.EqMixed.eq_bool_str (fin_bl I q (by simp))
    | _ => exact absurd (show false = true from hs) Bool.false_ne_true
  | int i =>
    obtain ⟨t, rfl⟩ := rx
    cases y with
    | non => cases ry; exact PySem.EqNone.eq_int_none (fin_bl I q (by simp))
    | int j => obtain ⟨t', rfl⟩ := ry; exact eq_int (fin_bl I q dec_int)
    | str j => obtain ⟨t', rfl⟩ := ry; exact PySem.EqMixed.eq_int_str (fin_bl I q (by simp))
    | _ => exact absurd (show false = true from hs) Bool.false_ne_true
  | str i =>
    obtain ⟨t, rfl⟩ := rx
    cases y with
    | non => cases ry; exact PySem.EqNone.eq_str_none (fin_bl I q (by simp))
    | bl j => cases ry; exact PySem.EqMixed.eq_str_bool (fin_bl I q (by simp))
    | int j => obtain ⟨t', rfl⟩ := ry; exact PySem.EqMixed.eq_str_int (fin_bl I q (by simp))
    | str j => obtain ⟨t', rfl⟩ := ry; exact eq_str (fin_bl I q dec_str)
    | _ => exact absurd (show false = true from hs) Bool.false_ne_true
  | byt i =>
    obtain ⟨t, rfl⟩ := rx
    cases y with
    | byt j => obtain ⟨t', rfl⟩ := ry; exact PySem.W.eq_bytes (fin_bl I q dec_byt)
    | _ => exact absurd (show false = true from hs) Bool.false_ne_true
  | _ => cases y <;> exact absurd (show false = true from hs) Bool.false_ne_true
theorem op_ne : OpR X (compareOp .NotEq) rNe := by
  intro pins s σ H x y v u Q I rx ry h
  obtain ⟨hs, q⟩ := h
  cases x with
  | non =>
    cases rx
    cases y with
    | non => cases ry; exact PySem.EqNone.ne_none_none (fin_bl I q (by simp))
    | bl j => cases ry; exact PySem.EqNone.ne_none_bool (fin_bl I q (by simp))
    | int j => obtain ⟨t', rfl⟩ := ry; exact PySem.EqNone.ne_none_int (fin_bl I q (by simp))
    | str j => obtain ⟨t', rfl⟩ := ry; exact PySem.EqNone.ne_none_str (fin_bl I q (by simp))
    | _ => exact absurd (show false = true from hs) Bool.false_ne_true
  | bl i =>
    cases rx
    cases y with
    | non => cases ry; exact PySem.EqNone.ne_bool_none (fin_bl I q (by simp))
    | bl j => cases ry; exact ne_bool (fin_bl I q (congrArg not dec_bl))
    | str j => obtain ⟨t', rfl⟩ := ry; exact PySem.EqMixed.ne_bool_str (fin_bl I q (by simp))
    | _ => exact absurd (show false = true from hs) Bool.false_ne_true
  | int i =>
    obtain ⟨t, rfl⟩ := rx
    cases y with
    | non => cases ry; exact PySem.EqNone.ne_int_none (fin_bl I q (by simp))
    | int j => obtain ⟨t', rfl⟩ := ry; exact ne_int (fin_bl I q (congrArg not dec_int))
    | str j => obtain ⟨t', rfl⟩ := ry; exact PySem.EqMixed.ne_int_str (fin_bl I q (by simp))
    | _ => exact absurd (show false = true from hs) Bool.false_ne_true
  | str i =>
    obtain ⟨t, rfl⟩ := rx
    cases y with
    | non => cases ry; exact PySem.EqNone.ne_str_none (fin_bl I q (by simp))
    | bl j => cases ry; exact PySem.EqMixed.ne_str_bool (fin_bl I q (by simp))
    | int j => obtain ⟨t', rfl⟩ := ry; exact PySem.EqMixed.ne_str_int (fin_bl I q (by simp))
    | str j => obtain ⟨t', rfl⟩ := ry; exact ne_str (fin_bl I q (congrArg not dec_str))
    | _ => exact absurd (show false = true from hs) Bool.false_ne_true
  | byt i =>
    obtain ⟨t, rfl⟩ := rx
    cases y with
    | byt j => obtain ⟨t', rfl⟩ := ry; exact PySem.W.ne_bytes (fin_bl I q (congrArg not dec_byt))
    | _ => exact absurd (show false = true from hs) Bool.false_ne_true
  | _ => cases y <;> exact absurd (show false = true from hs) Bool.false_ne_true

theorem op_lt : OpR X (compareOp .Lt) (rI0 fun i j => .bl (decide (i < j))) := opB0 fun _ _ _ _ _ _ _ q => lt_int q
theorem op_gt : OpR X (compareOp .Gt) (rI0 fun i j => .bl (decide (j < i))) := opB0 fun _ _ _ _ _ _ _ q => gt_int q
theorem nomark (b : Expr) {op : CmpOp} (h : op ≠ .In := by decide) (h2 : op ≠ .NotIn := by decide) : behindInMarks op b = false := by
  have e1 : (op == CmpOp.In) = false := by cases op <;> first | rfl | exact absurd rfl h
  have e2 : (op == CmpOp.NotIn) = false := by cases op <;> first | rfl | exact absurd rfl h2
  cases b <;> simp [behindInMarks, e1, e2]
theorem pe_cmpR {op : CmpOp} {r : R2} (ho : OpR X (compareOp op) r) (ha : PE X a ta) (hb : PE X b tb) (hm : behindInMarks op b = false) : PE X (.Compare a [op] [b] pos) (tOp r ta tb) := by
  intro pins s σ H Q I h
  exact wpAny_Compare1 (binT ha hb I h fun v u s2 x y H2 I2 rx ry q => ho pins s2 σ H2 x y v u Q I2 rx ry q) hm
def tTest (t : TE) : TT := fun σ H Q => t σ H fun x H' => ∃ k, x = .bl k ∧ Q k H'
theorem pt_cmpR {op : CmpOp} {r : R2} (ho : OpR X (compareOp op) r) (ha : PE X a ta) (hb : PE X b tb) (hm : behindInMarks op b = false) : PT X (.Compare a [op] [b] pos) (tTest (tOp r ta tb)) := by
  intro pins s σ H Q I h
  refine wpAny_isTrue_Compare1 (thn (ha pins s σ H _ I h) fun v s1 ⟨x, H1, I1, r1, q1⟩ => thn (hb pins s1 σ H1 _ I1 q1) fun u s2 ⟨y, H2, I2, r2, q2⟩ =>
    thn (ho pins s2 σ H2 x y v u _ I2 r1 r2 q2) fun c s3 ⟨z, H3, I3, r3, k, e, q3⟩ => ?_) hm
  subst e
  cases r3
  exact wpAny_truthy_bool ⟨H3, I3, q3⟩
theorem line63 : (sizeLine : Nat) < 2 ^ 63 := by rw [sizeLine_eq]; decide
theorem vals1 {x : V} {us : List Value} (r : Vals [x] us) : ∃ u, us = [u] ∧ RelV x u := by
  cases r with
  | cons r1 r2 => cases r2; exact ⟨_, rfl, r1⟩
theorem vals2 {x y : V} {us : List Value} (r : Vals [x, y] us) : ∃ u w', us = [u, w'] ∧ RelV x u ∧ RelV y w' := by
  cases r with
  | cons r1 r2 =>
    cases r2 with
    | cons r3 r4 => cases r4; exact ⟨_, _, rfl, r1, r3⟩
theorem call_int1 : CallR X (.type "int") (fun xs H Q => (∃ i, xs = [.int i] ∧ Q (.int i) H) ∨ ∃ k, xs = [.bl k] ∧ Q (.int (if k then 1 else 0)) H) := by
  intro pins s σ H xs us Q I r h
  rcases h with ⟨i, rfl, q⟩ | ⟨k, rfl, q⟩
  · obtain ⟨u, rfl, t, rfl⟩ := vals1 r
    exact call_int_int ⟨.int i, H, I, ⟨_, rfl⟩, q⟩
  · obtain ⟨u, rfl, r1⟩ := vals1 r
    cases r1
    exact call_int_bool ⟨.int (if k then 1 else 0), H, I.tok _, ⟨_, rfl⟩, q⟩
end
end L2

namespace L2
open PySem PySem.Spec PyProof.Rows

structure ObjM (h : Heap) (x dx C : Addr) (mA : Str → Option Value) : Prop where
  obj : h.get? x = some (PySem.W.instObj C dx)
  ns : h.Ns1 dx mA
  ne : dx ≠ x

theorem lookIn_ns {h : Heap} {dx : Addr} {mA : Str → Option Value} (n : h.Ns1 dx mA) : ∃ od, h.get? dx = some od ∧ ∀ name, PySem.W.lookIn name od = some (mA name) := by
  obtain ⟨o, es, ep, ho, hd, hk, _, hm⟩ := n
  refine ⟨o, ho, fun name => ?_⟩
  have e := hm name
  unfold nsFind findBy at e
  rw [← Array.find?_toList] at e
  unfold PySem.W.lookIn
  rw [hd]
  dsimp only
  split
  · rename_i y q
    rw [q] at e
    exact congrArg some e
  · rename_i q
    rw [q] at e
    have a : es.toList.any (·.refKey) = false := by
      rw [List.any_eq_false]
      intro y hy
      obtain ⟨z, t, hkey⟩ := hk y (Array.mem_toList_iff.mp hy)
      simp [DictEntry.refKey, hkey]
    have a' : ¬ es.toList.any (·.refKey) = true := by rw [a]; exact Bool.false_ne_true
    rw [if_neg a']
    exact congrArg some e

theorem ObjM.look {h : Heap} {x dx C : Addr} {mA : Str → Option Value} (I : ObjM h x dx C mA) : ∃ od, PySem.W.InstAt h x (PySem.W.instObj C dx) C (some od) ∧ ∀ name, PySem.W.lookIn name od = some (mA name) :=
  let ⟨od, ho, hl⟩ := lookIn_ns I.ns
  ⟨od, ⟨I.obj, rfl, rfl, ho⟩, hl⟩

section
variable {prog : Program} {w : World} {A : Around} {E : Value → Shared → Prop} {s : Shared} {K : PySem.W.Frag} {x dx C f : Addr} {mA : Str → Option Value} {name : Str} {v : Value}

end

section
variable {P : Program} {w : World} {H H' : Hp} {h h' : Heap} {a C dx : Addr} {fs fs' : List (Str × V)}
theorem ins_get (hok : HOk P w H h) (e : H a = some (.ins C dx fs)) : ∃ mA, ObjM h a dx C mA ∧ (∀ f, RelO (fs.lookup f) (mA f)) ∧ PySem.Within mA (fs.map (·.1)) ∧ fs.length ≤ 1000 ∧ H dx = some (.own a) := by
  obtain ⟨d, z, ne, ob, mA, n, r, q⟩ := (show ObjOk P w H h a (.ins C dx fs) from hok a _ e)
  exact ⟨mA, ⟨ob, n, ne⟩, r, q, z, d⟩
end

structure Cls (K : PySem.W.Frag) (C : Addr) : Prop where
  pg : PySem.W.plainGet K C Str.empty = true
  hd : PySem.W.hasDictIn K C = true
  po : PySem.W.plainOver K C = true
  sa : PySem.W.findIn K (.ref C) "__setattr__" = some (some (.builtin "object.__setattr__"))
theorem Cls.get {K : PySem.W.Frag} {C : Addr} (c : Cls K C) (f : Str) : PySem.W.plainGet K C f = true := c.pg
structure Con (K : PySem.W.Frag) (C : Addr) (f : Str) (v : V) (u : Value) : Prop where
  at_ : PySem.W.findIn K (.ref C) f = some (some u)
  rel : RelV v u
  get : PySem.W.specialIn K u "__get__" = some none
  cp : PySem.W.copiedNames.contains f = false
structure Meth (K : PySem.W.Frag) (C : Addr) (m : Str) (f : Addr) : Prop where
  at_ : PySem.W.findIn K (.ref C) m = some (some (.ref f))
  fn : PySem.W.isFn K (.ref f) = true
  kp : PySem.W.keepIn K (.ref f) = true

section
variable {X : Cx} {pins : List (Addr × Obj)} {σ : St} {H : Hp} {s : Shared} {a C dx : Addr} {fs : List (Str × V)} {f : Str} {v : V} {A : Around} {E : Value → Shared → Prop}

end

section
variable {X : Cx} {o e value : Expr} {f : Str} {pos pos' tpos : Pos} {ta tv : TE}
end

section
variable {X : Cx} {pins : List (Addr × Obj)} {σ : St} {H : Hp} {s : Shared} {A : Around} {E : Value → Shared → Prop} {Q : Value → Shared → Prop} {c : Value} {b : Bool}
inductive TyOf (K : PySem.W.Frag) (H : Hp) : V → Value → Prop where
  | non : TyOf K H .non (.type "NoneType")
  | bl (x : Bool) : TyOf K H (.bl x) (.type "bool")
  | int (i : Int) : TyOf K H (.int i) (.type "int")
  | str (x : Str) : TyOf K H (.str x) (.type "str")
  | flt (x : UInt64) : TyOf K H (.flt x) (.type "float")
  | lst {a : Addr} {xs : List V} (e : H a = some (.lst xs)) : TyOf K H (.ref a) (.type "list")
  | frz {a : Addr} {o : Obj} {xs : List V} (e : H a = some (.frz o (.lst xs))) : TyOf K H (.ref a) (.type "list")
  | tup {a : Addr} {xs : List V} (e : H a = some (.tup xs)) : TyOf K H (.ref a) (.type "tuple")
  | dK {a : Addr} {kvs : List (Key × V)} (e : H a = some (.dK kvs)) : TyOf K H (.ref a) (.type "dict")
  | dT {a : Addr} {kvs : List (List Key × V)} (e : H a = some (.dT kvs)) : TyOf K H (.ref a) (.type "dict")
  | ins {a C dx : Addr} {fs : List (Str × V)} (e : H a = some (.ins C dx fs)) (cl : Cls K C) (ha : PySem.W.findIn K (.ref C) "__class__" = some (some (.builtin "object.__class__")))
      (hn : PySem.W.specialIn K (.builtin "object.__class__") "__get__" = some (some (.builtin "getset_descriptor.__get__"))) (htk : PySem.W.takesIn K (.builtin "object.__class__") = some true)
      (hm : PySem.W.mroIn K C (.type "object") = some true) : TyOf K H (.ref a) (.ref C)
theorem isinst_ok {x : V} {u t : Value} (I : Inv X pins σ H s) (rx : RelV x u) (ty : TyOf X.K H x t) (e : PySem.W.kitOne X.K t c = some b) (h : ∀ tk, Q (.bool b) { s with toks := tk }) :
    wpAny (model X.prog X.w) A (call (.builtin "isinstance") [u, c]) Q E s := by
  cases ty with
  | non => cases (show u = Value.none from rx); exact PySem.W.kia_one PySem.W.kitx_none I.kIn True.intro e (fun z => nomatch z) h
  | bl y => cases (show u = Value.bool y from rx); exact PySem.W.kia_one PySem.W.kitx_bool I.kIn True.intro e (fun z => nomatch z) h
  | int i => obtain ⟨t, q⟩ := (show ∃ t, u = Value.int i t from rx); cases q; exact PySem.W.kia_one PySem.W.kitx_int I.kIn True.intro e (fun z => nomatch z) h
  | str y => obtain ⟨t, q⟩ := (show ∃ t, u = Value.str y t from rx); cases q; exact PySem.W.kia_one PySem.W.kitx_str I.kIn True.intro e (fun z => nomatch z) h
  | flt y => obtain ⟨t, q⟩ := (show ∃ t, u = Value.float y t from rx); cases q; exact PySem.W.kia_one PySem.W.kitx_float I.kIn True.intro e (fun z => nomatch z) h
  | @lst a xs ea =>
    cases (show u = Value.ref a from rx)
    obtain ⟨_, _, n, _, h1⟩ := (show ObjOk X.prog X.w H s.heap a (.lst xs) from I.hok a _ ea)
    exact PySem.W.kia_one PySem.W.kitx_list I.kIn ⟨_, h1, rfl⟩ e (fun z => nomatch z) h
  | @frz a ob xs ea =>
    cases (show u = Value.ref a from rx)
    obtain ⟨_, _, _, n, _, h1⟩ := (show ObjOk X.prog X.w H s.heap a (.frz ob (.lst xs)) from I.hok a _ ea)
    exact PySem.W.kia_one PySem.W.kitx_list I.kIn ⟨_, h1, rfl⟩ e (fun z => nomatch z) h
  | @tup a xs ea =>
    cases (show u = Value.ref a from rx)
    obtain ⟨_, _, _, p⟩ := (show ObjOk X.prog X.w H s.heap a (.tup xs) from I.hok a _ ea)
    obtain ⟨o, h1, h2, _⟩ := p
    exact PySem.W.kia_one PySem.W.kitx_tuple I.kIn ⟨o, h1, h2⟩ e (fun z => nomatch z) h
  | @dK a kvs ea =>
    cases (show u = Value.ref a from rx)
    obtain ⟨_, _, vs, _, p⟩ := (show ObjOk X.prog X.w H s.heap a (.dK kvs) from I.hok a _ ea)
    obtain ⟨o, es, ep, h1, h2, _⟩ := p
    exact PySem.W.kia_one PySem.W.kitx_dict I.kIn ⟨o, h1, h2.1⟩ e (fun z => nomatch z) h
  | @dT a kvs ea =>
    cases (show u = Value.ref a from rx)
    obtain ⟨_, _, xs, _, o, es, ep, h1, h2, _⟩ := (show ObjOk X.prog X.w H s.heap a (.dT kvs) from I.hok a _ ea)
    exact PySem.W.kia_one PySem.W.kitx_dict I.kIn ⟨o, h1, h2.1⟩ e (fun z => nomatch z) h
  | @ins a C dx fs ea cl ha hn htk hm =>
    cases (show u = Value.ref a from rx)
    obtain ⟨mA, O, _⟩ := ins_get I.hok ea
    obtain ⟨od, J, _⟩ := O.look
    exact PySem.W.kia_one (PySem.W.kitx_own (cl.get _) cl.hd ha hn htk hm) I.kIn J e (fun z => nomatch z) h
end
end L2

namespace L2
open PySem PySem.Spec PyProof.Rows

structure Room (k : Nat) (A : Around) : Prop where
  hd : A.handled = none
  dp : A.depth + 3 * k + 5 < recursionLimit
  un : A.units + 16 * k + 200 < cLine
theorem Room.mono {j k : Nat} {A : Around} (r : Room k A) (h : j ≤ k) : Room j A := ⟨r.hd, by have := r.dp; omega, by have := r.un; omega⟩
theorem Room.deeper {k : Nat} {A : Around} (r : Room (k + 1) A) (env : Env) : Room k (A.deeper env) :=
  ⟨r.hd, by have := r.dp; show A.depth + 1 + 3 * k + 5 < _; omega, by have := r.un; show A.units + 3 + 16 * k + 200 < _; omega⟩
theorem Room.in1 {k : Nat} {A : Around} (r : Room (k + 1) A) : Room k A.in1 :=
  ⟨r.hd, by have := r.dp; show A.depth + 3 * k + 5 < _; omega, by have := r.un; show A.units + 1 + 16 * k + 200 < _; omega⟩
theorem Room.depth {k : Nat} {A : Around} (r : Room k A) : A.depth < recursionLimit := by have := r.dp; omega
theorem Room.units {k : Nat} {A : Around} (r : Room k A) : A.units + 64 < cLine := by have := r.un; omega
def tNil : TA := fun _ H Q => Q [] H
def tCons (ta : TE) (tr : TA) : TA := fun σ H Q => ta σ H fun x H1 => tr σ H1 fun xs H2 => Q (x :: xs) H2
section
variable {X : Cx} {e : Expr} {es : List Expr} {te : TE} {t : TA} {pos : Pos}
theorem pa_nil : PA X [] tNil := fun _ _ _ _ H Q I h => Calls.spliced_nil ⟨[], H, I, .nil, h⟩
theorem pa_cons (ha : PE X e te) (hr : PA X es t) (hs : starEach (e :: es) X.env = (false, eval e X.env) :: starEach es X.env := by rfl) : PA X (e :: es) (tCons te t) := by
  intro pos pins s σ H Q I h
  rw [hs]
  show wpAny _ _ (spliced ((false, eval e X.env) :: backTo pos (starEach es X.env))) _ _ s
  refine Calls.spliced_cons (thn (ha pins s σ H _ I h) fun u s1 ⟨x, H1, I1, r1, q1⟩ => ?_)
  exact thn (hr pos pins s1 σ H1 _ I1 q1) fun us s2 ⟨xs, H2, I2, r2, q2⟩ => ⟨x :: xs, H2, I2, .cons r1 r2, q2⟩

def tTup (t : TA) : TE := fun σ H Q => t σ H fun xs H1 => xs.length ≤ sizeLine ∧ ∀ p, H1 p = none → Q (.ref p) (upd H1 p (.tup xs))
def tLst (t : TA) : TE := fun σ H Q => t σ H fun xs H1 => xs.length ≤ sizeLine ∧ ∀ p, H1 p = none → Q (.ref p) (upd H1 p (.lst xs))
theorem pe_tup {x1} (h : PA X es t) : PE X (.Tuple es x1 pos) (tTup t) := by
  intro pins s σ H Q I hq
  refine wpAny_Tuple_spliced (thn (h pos pins s σ H _ I hq) fun us s1 ⟨xs, H1, I1, r, z, q⟩ => ⟨by rw [← r.length]; exact z, ?_⟩)
  have hf : H1 s1.heap.objs.size = none := I1.hok.fresh (Nat.le_refl _)
  refine ⟨.ref s1.heap.objs.size, upd H1 s1.heap.objs.size (.tup xs), I1.laid (t' := s1.toks) (fun b u e => Heap.get?_push_of_some _ e) (Nat.le_refl _) ?_, rfl, q _ hf⟩
  exact ⟨z, us, r, ⟨_, Heap.get?_push_size _ rfl, rfl, _, rfl⟩⟩
theorem pe_lst (h : PA X es t) : PE X (.List es pos) (tLst t) := by
  intro pins s σ H Q I hq
  refine wpAny_List_spliced (thn (h pos pins s σ H _ I hq) fun us s1 ⟨xs, H1, I1, r, z, q⟩ => ⟨by rw [← r.length]; exact z, ?_⟩)
  have hf : H1 s1.heap.objs.size = none := I1.hok.fresh (Nat.le_refl _)
  refine ⟨.ref s1.heap.objs.size, upd H1 s1.heap.objs.size (.lst xs), I1.laid (t' := s1.toks) (fun b u e => Heap.get?_push_of_some _ e) (Nat.le_refl _) ?_, rfl, q _ hf⟩
  exact ⟨z, us, 0, r, Heap.get?_push_size _ rfl⟩
end

abbrev Sp := List V → Hp → VK → XK → Prop
abbrev CXT := List Env → Hp → Shared → XK → Value → Shared → Prop

structure Env0 (P : Program) (w : World) (K : PySem.W.Frag) (mg : Str → Option Value) (base : Heap) (A : Around) (outer : List Env) (s : Shared) (H : Hp) : Prop where
  frames : A.frames = some outer
  mod : Mod K mg base
  bs : ∀ b o, base.get? b = some o → s.heap.get? b = some o ∧ H b = none
  bsz : base.objs.size ≤ s.heap.objs.size
  funs : s.heap.FunFrames base outer
  frf : ∀ b ∈ frs outer, H b = none
  hok : HOk P w H s.heap
  bare : AllBare s.gens
def CE (outer : List Env) (P : Program) (w : World) (H : Hp) (s : Shared) (Q : VK) (u : Value) (s' : Shared) : Prop :=
  ∃ v H', s'.os = s.os ∧ AllBare s'.gens ∧ Un (frs outer) [] H H' s.heap s'.heap ∧ HOk P w H' s'.heap ∧ RelV v u ∧ Q v H'
def CR (CX : CXT) (outer : List Env) (P : Program) (w : World) (H : Hp) (s : Shared) (Q : VK) (E : XK) (r : Result) (s' : Shared) : Prop :=
  match r with
  | .ok (.ret u) => CE outer P w H s Q u s'
  | .ok _ => False
  | .error e => CX outer H s E e s'
structure FnOk (P : Program) (w : World) (K : PySem.W.Frag) (mg : Str → Option Value) (base : Heap) (CX : CXT) (k : Nat) (f : Addr) (fd : FuncData) (ps : List Str) (sp : Sp) : Prop where
  len : ∀ vs H Q E, sp vs H Q E → vs.length = ps.length
  run : ∀ (A : Around) (outer : List Env) (s : Shared) (H : Hp) (args : Args) (us : List Value) (vs : List V) (Q : VK) (E : XK), Room k A → Env0 P w K mg base A outer s H → BindsTo s fd args (ps.zip us) → Vals vs us → sp vs H Q E →
    codeAny (model P w) A (.call (.ref f) args) (CR CX outer P w H s Q E) s
theorem FnOk.mono {P : Program} {w : World} {K : PySem.W.Frag} {mg : Str → Option Value} {base : Heap} {CX : CXT} {j k : Nat} {f : Addr} {fd : FuncData} {ps : List Str} {sp : Sp} (F : FnOk P w K mg base CX j f fd ps sp) (h : j ≤ k) :
    FnOk P w K mg base CX k f fd ps sp := ⟨F.len, fun A outer s H args us vs Q E hr => F.run A outer s H args us vs Q E (hr.mono h)⟩
theorem FnOk.imp {P : Program} {w : World} {K : PySem.W.Frag} {mg : Str → Option Value} {base : Heap} {CX : CXT} {k : Nat} {f : Addr} {fd : FuncData} {ps : List Str} {sp sp' : Sp} (F : FnOk P w K mg base CX k f fd ps sp)
    (h : ∀ vs H Q E, sp' vs H Q E → sp vs H Q E) : FnOk P w K mg base CX k f fd ps sp' :=
  ⟨fun vs H Q E q => F.len vs H Q E (h _ _ _ _ q), fun A outer s H args us vs Q E hr he hb hv hs => F.run A outer s H args us vs Q E hr he hb hv (h _ _ _ _ hs)⟩

theorem Env0.in1 {P : Program} {w : World} {K : PySem.W.Frag} {mg : Str → Option Value} {base : Heap} {A : Around} {outer : List Env} {s : Shared} {H : Hp} (e : Env0 P w K mg base A outer s H) :
    Env0 P w K mg base A.in1 outer s H := ⟨e.frames, e.mod, e.bs, e.bsz, e.funs, e.frf, e.hok, e.bare⟩

section
variable {X : Cx} {pins : List (Addr × Obj)} {σ : St} {H : Hp} {s s' : Shared}
theorem Inv.env0 (I : Inv X pins σ H s) : Env0 X.prog X.w X.K X.mg X.base X.A X.stack s H :=
  ⟨I.ok.frames, I.ok.mod, I.bs, Nat.le_trans I.ok.bsz I.sz, I.stack, I.stkFree, I.hok, I.bare⟩
theorem Inv.after {Q : VK} {u : Value} (I : Inv X pins σ H s) (h : CE X.stack X.prog X.w H s Q u s') : EP X pins σ Q u s' := by
  obtain ⟨v, H', os, bare, un, hok, r, q⟩ := h
  obtain ⟨hh, g, d, t, os'⟩ := s'
  obtain rfl : os' = s.os := os
  exact ⟨v, H', I.call (h' := hh) (g' := g) (d' := d) (t' := t) (ch := []) un hok bare (fun b z => absurd z (by simp)), r, q⟩
end

def tCall (sp : Sp) (dvs : List V) (E : XK) (t : TA) : TE := fun σ H Q => t σ H fun vs H1 => sp (vs ++ dvs) H1 Q E
def Binds (K : PySem.W.Frag) (fd : FuncData) (ps : List Str) (ds : List Value) : Prop :=
  ∀ (s : Shared) (us : List Value), K.In s.heap → (us ++ ds).length = ps.length → BindsTo s fd ⟨us, []⟩ (ps.zip (us ++ ds))
theorem Binds.all {K : PySem.W.Frag} {fd : FuncData} {ps : List Str} (h : ∀ us : List Value, us.length = ps.length → bindArgs fd ⟨us, []⟩ = pure (ps.zip us)) : Binds K fd ps [] := fun s us _ hl => by
  rw [List.append_nil] at hl ⊢
  exact .of_eq (h us hl)

def Passes (CX : CXT) (X : Cx) (E : XK) : Prop := ∀ (pins : List (Addr × Obj)) (σ : St) (H : Hp) (s : Shared) (e : Value) (s' : Shared), Inv X pins σ H s → CX X.stack H s E e s' → X.xe e s'

section
variable {X : Cx} {CX : CXT} {k : Nat} {f C : Addr} {fd : FuncData} {ps : List Str} {sp : Sp} {dvs : List V} {ds : List Value} {E : XK} {x m : Str} {p pos apos : Pos} {e o : Expr} {es : List Expr} {ta : TE} {t : TA}

theorem run_fn {pins : List (Addr × Obj)} {σ : St} {H : Hp} {s : Shared} {Q : VK} {us : List Value} {vs : List V} (F : FnOk X.prog X.w X.K X.mg X.base CX k f fd ps sp) (hr : Room k X.A) (hb : Binds X.K fd ps ds) (hd : Vals dvs ds) (hx : Passes CX X E)
    (I : Inv X pins σ H s) (r : Vals vs us) (h : sp (vs ++ dvs) H Q E) : wpAny (model X.prog X.w) X.A (call (.ref f) us) (EP X pins σ Q) X.xe s := by
  have r2 : Vals (vs ++ dvs) (us ++ ds) := r.append hd
  have hl : (us ++ ds).length = ps.length := by rw [← r2.length]; exact F.len _ _ _ _ h
  refine wpAny_call (codeAny_mono (F.run X.A X.stack s H ⟨us, []⟩ (us ++ ds) (vs ++ dvs) Q E hr I.env0 (hb s us I.kIn hl) r2 h) fun r s' hq => ?_)
  cases r with
  | error e => exact hx pins σ H s e s' I hq
  | ok fl =>
    cases fl with
    | ret u => exact I.after hq
    | next => exact False.elim hq
    | brk => exact False.elim hq
    | cont => exact False.elim hq

theorem pe_call (F : FnOk X.prog X.w X.K X.mg X.base CX k f fd ps sp) (hr : Room k X.A) (hg : Gl X x) (hm : X.mg x = some (.ref f)) (hk : PySem.W.keepIn X.K (.ref f) = true) (hb : Binds X.K fd ps ds) (hd : Vals dvs ds) (hx : Passes CX X E)
    (ha : PA X (e :: es) t) (hdb : (x == ("__debug__" : Str)) = false := by decide) (he : starEach (e :: es) X.env = (false, eval e X.env) :: starEach es X.env := by rfl) (hpl : (backTo pos (starEach es X.env)).any (·.1) = false := by rfl) :
    PE X (.Call (.Name x p) (e :: es) [] pos) (tCall sp dvs E t) := by
  intro pins s σ H Q I h
  refine wpAny_Call_Name_kw (ld_glob I hg hm ?_ hdb)
  refine PySem.W.callWith_K (h₀ := X.base) I.ok.mod.kin hk (thn (ha pos pins s σ H _ I h) fun us s1 ⟨vs, H1, I1, r, q⟩ => ⟨I1.kIn, ?_⟩) he hpl
  exact run_fn F hr hb hd hx I1 r q
structure Mk (K : PySem.W.Frag) (C f : Addr) : Prop where
  makes : PySem.W.makesIn K C = true
  init : PySem.W.findIn K (.ref C) "__init__" = some (some (.ref f))
  fn : PySem.W.isFn K (.ref f) = true
  kp : PySem.W.keepIn K (.ref C) = true

end

section
variable {X : Cx} {CX : CXT} {k : Nat} {f C : Addr} {fd : FuncData} {ps ks : List Str} {sp : Sp} {E : XK} {x m : Str} {p pos apos kpos : Pos} {e o : Expr} {es : List Expr} {kws : List Keyword} {te ta : TE} {t tk : TA} {nm : Option Str}
structure KBinds (K : PySem.W.Frag) (fd : FuncData) (ps ks : List Str) (g : List Value → List Value → List Value) (gV : List V → List V → List V) : Prop where
  to : ∀ (s : Shared) (us ws : List Value), K.In s.heap → (g us ws).length = ps.length → BindsTo s fd ⟨us, ks.zip ws⟩ (ps.zip (g us ws))
  rel : ∀ {vs : List V} {us : List Value} {zs : List V} {ws : List Value}, Vals vs us → Vals zs ws → Vals (gV vs zs) (g us ws)
variable {g : List Value → List Value → List Value} {gV : List V → List V → List V}
end

structure FnScope (N P : List Str) (sc : Scope) : Prop where
  kind : sc.kind = .function
  co : sc.isCoroutine = false
  gen : sc.isGenerator = false
  nd : N.Nodup
  pre : N.take P.length = P
  par : ∀ x ∈ P, sc.names.lookup x = some .local ∨ sc.names.lookup x = some .cell
  nofree : ∀ y ∈ sc.names, y.2 ≠ .free

theorem bindL_out {kindOf : Str → Option NameKind} {x : Str} : ∀ {binds : List (Str × Value)} {m : Str → Option Value}, (∀ v, (x, v) ∉ binds) → bindL kindOf binds m x = m x
  | [], _, _ => rfl
  | (n, v) :: r, m, h => by
    unfold bindL
    rw [bindL_out fun w hw => h w (List.mem_cons_of_mem _ hw)]
    split
    · have : x ≠ n := by rintro rfl; exact h v List.mem_cons_self
      simp [this]
    · rfl
theorem bindC_out {kindOf : Str → Option NameKind} {x : Str} : ∀ {binds : List (Str × Value)} {m : Str → Option Value}, (∀ v, (x, v) ∉ binds) → bindC kindOf binds m x = m x
  | [], _, _ => rfl
  | (n, v) :: r, m, h => by
    unfold bindC
    rw [bindC_out fun w hw => h w (List.mem_cons_of_mem _ hw)]
    split
    · rfl
    · have : x ≠ n := by rintro rfl; exact h v List.mem_cons_self
      simp [this]
theorem bindL_get {kindOf : Str → Option NameKind} {x : Str} {v : Value} : ∀ {P : List Str} {vs : List Value} {i : Nat} {m : Str → Option Value}, P.Nodup → P[i]? = some x → vs[i]? = some v → kindOf x = some .local →
    bindL kindOf (P.zip vs) m x = some v
  | [], _, _, _, _, h, _, _ => by simp at h
  | _ :: _, [], _, _, _, _, h, _ => by simp at h
  | p :: P, w :: vs, 0, m, nd, h1, h2, hk => by
    simp at h1 h2; subst h1; subst h2
    show bindL kindOf ((p, w) :: P.zip vs) m p = _
    unfold bindL
    rw [bindL_out fun v hv => (List.nodup_cons.mp nd).1 (List.of_mem_zip hv).1, if_pos hk]
    simp
  | p :: P, w :: vs, i + 1, m, nd, h1, h2, hk => by
    show bindL kindOf ((p, w) :: P.zip vs) m x = _
    unfold bindL
    exact bindL_get (i := i) (List.nodup_cons.mp nd).2 (by simpa using h1) (by simpa using h2) hk
theorem bindC_get {kindOf : Str → Option NameKind} {x : Str} {v : Value} : ∀ {P : List Str} {vs : List Value} {i : Nat} {m : Str → Option Value}, P.Nodup → P[i]? = some x → vs[i]? = some v → kindOf x ≠ some .local →
    bindC kindOf (P.zip vs) m x = some v
  | [], _, _, _, _, h, _, _ => by simp at h
  | _ :: _, [], _, _, _, _, h, _ => by simp at h
  | p :: P, w :: vs, 0, m, nd, h1, h2, hk => by
    simp at h1 h2; subst h1; subst h2
    show bindC kindOf ((p, w) :: P.zip vs) m p = _
    unfold bindC
    rw [bindC_out fun v hv => (List.nodup_cons.mp nd).1 (List.of_mem_zip hv).1, if_neg hk]
    simp
  | p :: P, w :: vs, i + 1, m, nd, h1, h2, hk => by
    show bindC kindOf ((p, w) :: P.zip vs) m x = _
    unfold bindC
    exact bindC_get (i := i) (List.nodup_cons.mp nd).2 (by simpa using h1) (by simpa using h2) hk

def start (N : List Str) (vs : List V) : St := vs.map some ++ List.replicate (N.length - vs.length) none

def cxOf (CX : CXT) (P : Program) (w : World) (K : PySem.W.Frag) (mg : Str → Option Value) (base : Heap) (N : List Str) (qual : Str) (scope : Scope) (f : Addr) (cd : Value) (A : Around) (outer : List Env) (s : Shared) (H : Hp) (E : XK) : Cx where
  prog := P
  w := w
  K := K
  mg := mg
  base := base
  A := A.deeper (envOfC qual scope s.heap.objs.size f cd)
  N := N
  s₀ := s
  H₀ := H
  env := envOfC qual scope s.heap.objs.size f cd
  outer := outer
  stack := envOfC qual scope s.heap.objs.size f cd :: outer
  ex := []
  calm := true
  fn := fun _ => true
  pn := []
  xe := fun e s' => wpAny (model P w) (A.deeper (envOfC qual scope s.heap.objs.size f cd)) (leaving (envOfC qual scope s.heap.objs.size f cd) e) (fun _ s'' => CX outer H s E e s'') (fun e' s'' => CX outer H s E e' s'') s'

theorem cell_has {sc : Scope} {n : Nat} {x : Str} (h : sc.names.lookup x = some .cell) : ∃ c, (cellsFrom n sc.names []).lookup x = some c := by
  have q := PySem.W.cellsFrom_some sc.names n [] (.inl h)
  exact Option.isSome_iff_exists.mp q

theorem inv_start {CX : CXT} {P : Program} {w : World} {K : PySem.W.Frag} {mg : Str → Option Value} {base : Heap} {N ps : List Str} {qual : Str} {scope : Scope} {f : Addr} {cd : Value} {A : Around} {outer : List Env} {s s1 : Shared} {H : Hp} {E : XK} {us : List Value} {vs : List V}
    (S : FnScope N ps scope) (hd : A.handled = none) (e0 : Env0 P w K mg base A outer s H) (hl : vs.length = ps.length) (r : Vals vs us)
    (x : InCallC s s.heap.objs.size (bindL (envOfC qual scope s.heap.objs.size f cd).kindOf (ps.zip us) fun _ => none) (cellsFrom (s.heap.objs.size + 1) scope.names []) (bindC (envOfC qual scope s.heap.objs.size f cd).kindOf (ps.zip us) fun _ => none) s1) :
    Inv (cxOf CX P w K mg base N qual scope f cd A outer s H E) [] (start N vs) H s1 := by
  have hpl : ps.length ≤ N.length := by have := congrArg List.length S.pre; rw [List.length_take] at this; omega
  obtain ⟨h1, tk, rfl, hk⟩ := x.done
  have noA : ∀ b : Addr, b ∉ (cxOf CX P w K mg base N qual scope f cd A outer s H E).ex := fun b z => absurd (show b ∈ ([] : List Addr) from z) (by simp)
  refine ⟨⟨e0.mod, S.kind, rfl, rfl, Nat.le_refl _, fun y z c h1 h2 => ?_, fun y hy => ?_, fun y c _ h => ?_, fun _ => hd, Around.frames_deeper e0.frames, .inr ⟨rfl, rfl⟩, fun b z => absurd z (noA b), e0.bs, e0.bsz, fun b _ _ => noA b, fun b z => absurd z (noA b), e0.funs, e0.frf⟩,
    rfl, e0.bare, Un.kept hk, ⟨_, x.toInCall.ns, fun i y v h1 h2 h3 => ?_⟩, fun y c h => ⟨_, x.cell y c h⟩, e0.hok.fresh (Nat.le_refl _), fun y c h => ?_, fun p hp => absurd (show p ∈ ([] : List (Addr × Obj)) from hp) (by simp), e0.hok.kept hk, ?_⟩
  · exact name_of_addr x.apart (PySem.mem_of_lookup h1) (PySem.mem_of_lookup h2)
  · have hy : scope.names.lookup y = some .cell ∨ scope.names.lookup y = some .free := hy
    rcases hy with hy | hy
    · exact cell_has hy
    · exact absurd rfl (S.nofree _ (PySem.mem_of_lookup hy))
  · exact Nat.le_of_lt (x.above y c (PySem.mem_of_lookup h))
  · have hi : i < vs.length := by
      unfold start at h2
      by_cases hi : i < vs.length
      · exact hi
      · rw [List.getElem?_append_right (by simpa using hi)] at h2
        rw [List.getElem?_replicate] at h2
        split at h2 <;> cases h2
    have ha : vs[i]? = some v := by
      unfold start at h2
      rw [List.getElem?_append_left (by simpa using hi), List.getElem?_map] at h2
      cases e : vs[i]? with
      | none => rw [e] at h2; cases h2
      | some a => rw [e] at h2; cases h2; rfl
    obtain ⟨u, hu, rv⟩ := r.get ha
    have hp : ps[i]? = some y := by
      rw [← S.pre, List.getElem?_take_of_lt (by omega)]; exact h1
    have ndP : ps.Nodup := by rw [← S.pre]; exact S.nd.sublist (List.take_sublist _ _)
    refine ⟨u, rv, ?_⟩
    rcases S.par y (List.mem_of_getElem? hp) with k | k
    · exact .inl ⟨k, bindL_get ndP hp hu k⟩
    · obtain ⟨c, e⟩ := cell_has (n := s.heap.objs.size + 1) k
      refine .inr ⟨.inl k, c, e, ?_⟩
      have q := x.cell y c e
      rw [bindC_get ndP hp hu (by show scope.names.lookup y ≠ _; rw [k]; decide)] at q
      exact q
  · exact e0.hok.fresh (Nat.le_of_lt (x.above y c (PySem.mem_of_lookup h)))
  · unfold start
    show _ = N.length
    rw [List.length_append, List.length_map, List.length_replicate]
    omega

theorem fn_of {CX : CXT} {P : Program} {w : World} {K : PySem.W.Frag} {mg : Str → Option Value} {base : Heap} {k : Nat} {f : Addr} {name qual : Str} {params : Arguments} {body : List Stmt} {scope : Scope} {dV kV doc pm cdv ct oc : Value} {an od : Option Addr}
    {osl : Array (Option Value)} {N ps : List Str} {sp : Sp} (lk : K.lookup f = some ⟨oc, od, .func (PySem.W.fnOf name qual params body scope dV kV doc pm an cdv ct), osl⟩) (hcd : PySem.W.codeIn K cdv qual = true) (S : FnScope N ps scope)
    (len : ∀ vs H Q E, sp vs H Q E → vs.length = ps.length)
    (hbody : ∀ (A : Around) (outer : List Env) (s : Shared) (H : Hp) (vs : List V) (Q : VK) (E : XK), Room k (A.deeper (envOfC qual scope s.heap.objs.size f cdv)) → sp vs H Q E →
      ∃ t, PSs (cxOf CX P w K mg base N qual scope f cdv A outer s H E) body t ∧ t { nx := fun _ H' => Q .non H', rt := Q } (start N vs) H) :
    FnOk P w K mg base CX (k + 1) f (PySem.W.fnOf name qual params body scope dV kV doc pm an cdv ct) ps sp := by
  refine ⟨len, fun A outer s H args us vs Q E hr e0 hb r hsp => ?_⟩
  have hl := len _ _ _ _ hsp
  have KX : K.In s.heap := e0.mod.kin.keeps fun b o e => (e0.bs b o e).1
  have lim : s.heap.NoLimit := e0.mod.nolimit.keeps fun b o e => (e0.bs b o e).1
  have hkind : ∀ y ∈ ps.zip us, scope.names.lookup y.1 = some .local ∨ (scope.names.lookup y.1 = some .cell ∧ ((cellsFrom (s.heap.objs.size + 1) scope.names []).lookup y.1).isSome = true) := fun ⟨n, v⟩ hy => by
    rcases S.par n (List.of_mem_zip hy).1 with q | q
    · exact .inl q
    · exact .inr ⟨q, PySem.W.cellsFrom_some _ _ _ (.inl q)⟩
  refine codeAny_call_function hr.depth (KX _ _ lk) rfl S.co S.gen rfl (PySem.W.codeRec_of KX hcd) (hb _ _ _ _ ?_)
  refine wpAny_newFunctionEnv_cells S.kind hkind fun env he s1 x => ?_
  subst he
  refine ⟨lim.keeps x.toInCall.keep, codeAny_func ?_⟩
  obtain ⟨t, ht, hq⟩ := hbody A outer s H vs Q E (hr.deeper _) hsp
  have I : Inv (cxOf CX P w K mg base N qual scope f cdv A outer s H E) [] (start N vs) H s1 := inv_start S hr.hd e0 hl r x
  refine wpAny_mono (ht [] s1 (start N vs) H _ I hq) (fun fl s' hs => ?_) fun e s' hs => hs
  have fin : ∀ {σ' : St} {H' : Hp} {v : V} {u : Value}, Inv (cxOf CX P w K mg base N qual scope f cdv A outer s H E) [] σ' H' s' → RelV v u → Q v H' → CE outer P w H s Q u s' :=
    fun {σ' H' v u} J rv q => ⟨v, H', J.os, J.bare, J.base, J.hok, rv, q⟩
  cases fl with
  | ret u =>
    obtain ⟨v, σ', H', J, rv, q⟩ := hs
    exact fin J rv q
  | next =>
    obtain ⟨σ', H', J, q⟩ := hs
    exact fin (v := V.non) (u := Value.none) J rfl q
  | brk =>
    obtain ⟨_, _, _, q⟩ := hs
    exact False.elim q
  | cont =>
    obtain ⟨_, _, _, q⟩ := hs
    exact False.elim q
end L2

namespace L2
open PySem PySem.Spec PyProof.Rows
section
variable {X : Cx} {x : Str} {p pos : Pos} {e : Expr} {es : List Expr} {t : TA} {id T : String} {r : List V → Hp → VK → Prop}

def tCB (r : List V → Hp → VK → Prop) (t : TA) : TE := fun σ H Q => t σ H fun vs H1 => r vs H1 Q
theorem pe_callB (hc : CallR X (.builtin id) r) (hg : Gl X x) (hm : X.mg x = none) (hv : bootBuiltins x = some (.builtin id)) (ha : PA X (e :: es) t) (hn : x ≠ "__name__" := by decide) (hdb : (x == ("__debug__" : Str)) = false := by decide)
    (he : starEach (e :: es) X.env = (false, eval e X.env) :: starEach es X.env := by rfl) (hpl : (backTo pos (starEach es X.env)).any (·.1) = false := by rfl) : PE X (.Call (.Name x p) (e :: es) [] pos) (tCB r t) := by
  intro pins s σ H Q I h
  refine wpAny_Call_Name_kw (ld_blt I hg hm hv ?_ hn hdb)
  exact PyProof.Rows.callWith_builtin1 (thn (ha pos pins s σ H _ I h) fun us s1 ⟨vs, H1, I1, r1, q1⟩ => hc pins s1 σ H1 vs us Q I1 r1 q1) he hpl
theorem pe_callTy (hc : CallR X (.type T) r) (hg : Gl X x) (hm : X.mg x = none) (hv : bootBuiltins x = some (.type T)) (ha : PA X (e :: es) t) (hn : x ≠ "__name__" := by decide) (hdb : (x == ("__debug__" : Str)) = false := by decide)
    (he : starEach (e :: es) X.env = (false, eval e X.env) :: starEach es X.env := by rfl) (hpl : (backTo pos (starEach es X.env)).any (·.1) = false := by rfl) : PE X (.Call (.Name x p) (e :: es) [] pos) (tCB r t) := by
  intro pins s σ H Q I h
  refine wpAny_Call_Name_kw (ld_blt I hg hm hv ?_ hn hdb)
  exact PyProof.Rows.callWith_type1 (thn (ha pos pins s σ H _ I h) fun us s1 ⟨vs, H1, I1, r1, q1⟩ => hc pins s1 σ H1 vs us Q I1 r1 q1) he hpl
end
end L2

namespace HT
open PySem PyProof.Rows

section
open PySem.SeqAt
open PySem.AutoSeq1 (wpAny_loadPart')
open PySem.MeetsSeq PySem.MeetsSeq2 PySem.MeetsSeq3

end

section
variable {prog : Program} {w : World} {A : Around} {E : Value → Shared → Prop} {s : Shared}

def sIx (n d : Nat) : Option Int → Nat
  | none => d
  | some v => if v < 0 then (v + (n : Int)).toNat else min v.toNat n
theorem sIx_none (n d : Nat) : sIx n d none = d := rfl
theorem sIx_nat (n d k : Nat) : sIx n d (some (k : Int)) = min k n := by
  show (if (k : Int) < 0 then ((k : Int) + (n : Int)).toNat else min (k : Int).toNat n) = min k n
  rw [if_neg (by omega), Int.toNat_natCast]
end
end HT

namespace L2
open PySem PySem.Spec PyProof.Rows

abbrev TO := St → Hp → (Option Int → Hp → Prop) → Prop
def PO (X : Cx) (e : Option Expr) (t : TO) : Prop :=
  ∀ (pins : List (Addr × Obj)) (s : Shared) (σ : St) (H : Hp) (Q : Option Int → Hp → Prop), Inv X pins σ H s → t σ H Q →
    wpAny (model X.prog X.w) X.A (evalPart e X.env) (fun u s' => ∃ o H', Inv X pins σ H' s' ∧ IsPart u o ∧ Q o H') X.xe s
def tNoPart : TO := fun _ H Q => Q none H
def tPart (t : TE) : TO := fun σ H Q => t σ H fun x H1 => ∃ i, x = .int i ∧ Q (some i) H1

section
variable {X : Cx} {e : Expr} {te : TE} {lo hi : Option Expr} {tl th : TO} {pos p2 : Pos}

theorem po_none : PO X none tNoPart := by
  intro pins s σ H Q I h
  rw [evalPart_none]
  exact wpAny_pure ⟨none, H, I, .none, h⟩
theorem po_some (h : PE X e te) : PO X (some e) (tPart te) := by
  intro pins s σ H Q I hw
  rw [evalPart_some]
  refine thn (h pins s σ H _ I hw) fun u s1 ⟨x, H1, I1, r1, q1⟩ => ?_
  obtain ⟨i, rfl, q⟩ := q1
  obtain ⟨t, rfl⟩ := r1
  exact ⟨some i, H1, I1, .int i t, q⟩

def SlR (X : Cx) (r : V → Option Int → Option Int → Hp → VK → Prop) : Prop :=
  ∀ (pins : List (Addr × Obj)) (s : Shared) (σ : St) (H : Hp) (x : V) (v vl vu : Value) (lo hi : Option Int) (sl : Addr) (Q : VK), Inv X pins σ H s → RelV x v → s.heap.IsSliceOf sl vl vu .none → IsPart vl lo → IsPart vu hi → r x lo hi H Q →
    ∃ T id, typeLookup (.type T) "__getitem__" = pure (some (.builtin id)) ∧ s.TypeIs v T ∧ wpAny (model X.prog X.w) X.A (getItem v (.ref sl)) (EP X pins σ Q) X.xe s
def tSl (r : V → Option Int → Option Int → Hp → VK → Prop) (te : TE) (tl th : TO) : TE := fun σ H Q => te σ H fun x H1 => tl σ H1 fun l H2 => th σ H2 fun u H3 => r x l u H3 Q
theorem pe_slice {r : V → Option Int → Option Int → Hp → VK → Prop} (hr : SlR X r) (he : PE X e te) (hl : PO X lo tl) (hu : PO X hi th) : PE X (.Subscript e (.Slice lo hi none p2) pos) (tSl r te tl th) := by
  intro pins s σ H Q I h
  refine Subscript_ (thn (he pins s σ H _ I h) fun v s1 ⟨x, H1, I1, r1, q1⟩ => ?_)
  refine wpAny_Slice (thn (hl pins s1 σ H1 _ I1 q1) fun vl s2 ⟨l, H2, I2, pl, q2⟩ => thn (hu pins s2 σ H2 _ I2 q2) fun vu s3 ⟨u, H3, I3, pu, q3⟩ => ?_)
  rw [evalPart_none]
  refine wpAny_pure ?_
  have I4 : Inv X pins σ H3 { s3 with heap := s3.heap.push { cls := .type "slice", data := .fields #[vl, vu, .none] } } := I3.kept (t' := s3.toks) fun b ob q => Heap.get?_push_of_some _ q
  obtain ⟨T, id, hT, ht, hg⟩ := hr pins { s3 with heap := s3.heap.push { cls := .type "slice", data := .fields #[vl, vu, .none] } } σ H3 x v vl vu l u s3.heap.objs.size Q I4 r1 (Heap.IsSliceOf.new ..) pl pu q3
  show wpAny (model X.prog X.w) X.A (subscriptTail e (.Slice lo hi none p2) v (.ref s3.heap.objs.size)) (EP X pins σ Q) X.xe { s3 with heap := s3.heap.push { cls := .type "slice", data := .fields #[vl, vu, .none] } }
  exact tail_any (ops := [.ref s3.heap.objs.size, v]) ht hT hg (by with_unfolding_all rfl)

def cutV (xs : List V) (lo hi : Option Int) : List V := (xs.drop (HT.sIx xs.length 0 lo)).take (HT.sIx xs.length xs.length hi - HT.sIx xs.length 0 lo)
theorem cutV_length (xs : List V) (lo hi : Option Int) : (cutV xs lo hi).length ≤ xs.length := by
  unfold cutV
  rw [List.length_take, List.length_drop]
  omega
end
end L2

namespace L2
open PySem PySem.Spec PyProof.Rows

def ixN (n : Nat) (i : Int) : Option Nat := if 0 ≤ i then (if i < n then some i.toNat else none) else if -(n : Int) ≤ i then some (i + n).toNat else none
def atI {α : Type} (xs : List α) (i : Int) : Option α := (ixN xs.length i).bind fun j => xs[j]?
theorem ixN_seq {n : Nat} {i : Int} {j : Nat} (h : ixN n i = some j) : seqIndex? i n = some j ∧ j < n ∧ -(n : Int) ≤ i ∧ i < n := by
  unfold ixN at h
  by_cases h0 : 0 ≤ i
  · rw [if_pos h0] at h
    by_cases h1 : i < n
    · rw [if_pos h1] at h
      have e : i.toNat = j := Option.some.inj h
      exact ⟨by rw [seqIndex_of h0 h1, e], by omega, by omega, h1⟩
    · rw [if_neg h1] at h; cases h
  · rw [if_neg h0] at h
    by_cases h1 : -(n : Int) ≤ i
    · rw [if_pos h1] at h
      have e : (i + n).toNat = j := Option.some.inj h
      exact ⟨by rw [seqIndex_neg (by omega) h1, e], by omega, h1, by omega⟩
    · rw [if_neg h1] at h; cases h
theorem atI_get {α : Type} {xs : List α} {i : Int} {v : α} (h : atI xs i = some v) : ∃ j, seqIndex? i xs.length = some j ∧ xs[j]? = some v ∧ j < xs.length ∧ -(xs.length : Int) ≤ i ∧ i < xs.length := by
  unfold atI at h
  cases e : ixN xs.length i with
  | none => rw [e] at h; cases h
  | some j =>
    rw [e] at h
    obtain ⟨h1, h2, h3, h4⟩ := ixN_seq e
    exact ⟨j, h1, h, h2, h3, h4⟩
def PlainIx (b : Expr) : Prop := ∀ o i, subscripted b false o i = operate [o, i] (getItem o i)
def IxR (X : Cx) (r : R2) : Prop :=
  ∀ (value slice : Expr) (pins : List (Addr × Obj)) (s : Shared) (σ : St) (H : Hp) (x y : V) (v u : Value) (Q : VK), Inv X pins σ H s → RelV x v → RelV y u → r x y H Q →
    subscripted slice false v u = operate [v, u] (getItem v u) → wpAny (model X.prog X.w) X.A (subscriptTail value slice v u) (EP X pins σ Q) X.xe s
def MtR (X : Cx) (id : String) (r : V → List V → Hp → VK → Prop) : Prop :=
  ∀ (pins : List (Addr × Obj)) (s : Shared) (σ : St) (H : Hp) (x : V) (xs : List V) (v : Value) (us : List Value) (Q : VK), Inv X pins σ H s → RelV x v → Vals xs us → r x xs H Q →
    wpAny (model X.prog X.w) X.A (call (.builtin id) (v :: us)) (EP X pins σ Q) X.xe s
section
variable {X : Cx} {a b : Expr} {ta tb : TE} {pos : Pos}
theorem pe_ix {r : R2} (hr : IxR X r) (ha : PE X a ta) (hb : PE X b tb) (hs : PlainIx b) : PE X (.Subscript a b pos) (tOp r ta tb) := by
  intro pins s σ H Q I h
  exact Subscript_ (binT ha hb I h fun v u s2 x y H2 I2 rx ry q => hr a b pins s2 σ H2 x y v u Q I2 rx ry q (hs _ _))

def rIxL (K : PySem.W.Frag) : R2 := fun x y H Q => ∃ p xs i v, x = .ref p ∧ y = .int i ∧ SqL K H p xs ∧ atI xs i = some v ∧ Q v H
def rIxT (K : PySem.W.Frag) : R2 := fun x y H Q => ∃ p xs i v, x = .ref p ∧ y = .int i ∧ SqT K H p xs ∧ atI xs i = some v ∧ Q v H
theorem ix_list : IxR X (rIxL X.K) := by
  intro value slice pins s σ H x y v u Q I rx ry h hs
  obtain ⟨p, xs, i, z, rfl, rfl, hq, he, q⟩ := h
  cases rx
  obtain ⟨t, rfl⟩ := ry
  obtain ⟨its, r, pl, hz⟩ := I.list hq
  obtain ⟨j, h1, h2, h3, h4, h5⟩ := atI_get he
  obtain ⟨w, ew, rw'⟩ := r.get h2
  have hl := r.length
  have hn := line63
  have fin : EP X pins σ Q w s := ⟨z, H, I, rw', q⟩
  by_cases h0 : 0 ≤ i
  · have hj : i.toNat = j := by
      rw [seqIndex_of h0 h5] at h1
      exact Option.some.inj h1
    exact item_listR pl.isList h0 (by omega) (by rw [hj]; simpa using ew) fin hs
  · have hj : (i + (its.toArray.size : Int)).toNat = j := by
      rw [seqIndex_neg (by omega) h4] at h1
      rw [List.size_toArray, ← hl]
      exact Option.some.inj h1
    exact subscriptTail_builtinR (x := w) pl.isList.typeIs slot_list_getitem.lookup
      (wpAny_getItem_list_neg (Q := fun r s' => r = w ∧ EP X pins σ Q r s') pl.isList (by omega) (by rw [List.size_toArray] <;> omega) (by omega) (by rw [hj]; simpa using ew) ⟨rfl, fin⟩) hs
theorem ix_tup : IxR X (rIxT X.K) := by
  intro value slice pins s σ H x y v u Q I rx ry h hs
  obtain ⟨p, xs, i, z, rfl, rfl, hq, he, q⟩ := h
  cases rx
  obtain ⟨t, rfl⟩ := ry
  obtain ⟨its, r, pl, hz⟩ := I.tuple hq
  obtain ⟨j, h1, h2, h3, h4, h5⟩ := atI_get he
  obtain ⟨w, ew, rw'⟩ := r.get h2
  have hl := r.length
  have hn := line63
  have fin : EP X pins σ Q w s := ⟨z, H, I, rw', q⟩
  exact subscriptTail_builtinR (x := w) pl.typeIs slot_tuple_getitem.lookup
    (getItem_tuple (j := j) (Q := fun r s' => r = w ∧ EP X pins σ Q r s') pl (by omega) (by omega) (by rw [List.size_toArray, ← hl]; exact h1) (by simpa using ew) ⟨rfl, fin⟩) hs
theorem mapSeq_set (its : List Value) (n j : Nat) (u : Value) : Obj.mapSeq (·.setIfInBounds j u) { cls := .type "list", data := .seq its.toArray n } = { cls := .type "list", data := .seq (its.set j u).toArray n } := by
  simp [Obj.mapSeq]
theorem Inv.lst {pins : List (Addr × Obj)} {σ : St} {H : Hp} {s : Shared} {p : Addr} {xs : List V} (I : Inv X pins σ H s) (h : H p = some (.lst xs)) :
    ∃ (its : List Value) (n : Nat), Vals xs its ∧ s.heap.get? p = some { cls := .type "list", data := .seq its.toArray n } ∧ xs.length ≤ sizeLine := by
  obtain ⟨z, its, n, r, e⟩ := I.hok p _ h
  exact ⟨its, n, r, e, z⟩
theorem Inv.lstUpd {pins : List (Addr × Obj)} {σ : St} {H : Hp} {s : Shared} {p : Addr} {xs ys : List V} {its its' : List Value} {n n' : Nat} {f : Obj → Obj} (I : Inv X pins σ H s) (h : H p = some (.lst xs))
    (ho : s.heap.get? p = some { cls := .type "list", data := .seq its.toArray n }) (hf : f { cls := .type "list", data := .seq its.toArray n } = { cls := .type "list", data := .seq its'.toArray n' }) (r : Vals ys its') (hz : ys.length ≤ sizeLine) (t : Nat) :
    Inv X pins σ (upd H p (.lst ys)) { s with heap := s.heap.update p f, toks := t } := by
  have e : (s.heap.update p f).get? p = some { cls := .type "list", data := .seq its'.toArray n' } := by
    rw [Heap.get?_update_self f ho (by rw [hf] <;> rfl), hf]
  refine I.write (x := p) (e := p) (by rw [h]; trivial) (.inl rfl) (fun b u hb q => (Heap.get?_update_other _ _ (Ne.symm hb)).trans q) ⟨_, e⟩ ?_
  exact ⟨hz, its', n', r, e⟩
def rSetL : V → V → V → Hp → (Hp → Prop) → Prop := fun o i v H Q => ∃ p xs k j, o = .ref p ∧ i = .int k ∧ H p = some (.lst xs) ∧ ixN xs.length k = some j ∧ Q (upd H p (.lst (xs.set j v)))
theorem set_list : PSet X rSetL := by
  intro pins s σ H o i v ov iv u Q I ro ri rv h
  obtain ⟨p, xs, k, j, rfl, rfl, hp, hj, q⟩ := h
  cases ro
  obtain ⟨t, rfl⟩ := ri
  obtain ⟨its, n, r, ho, hz⟩ := I.lst hp
  obtain ⟨h1, h2, h3, h4⟩ := ixN_seq hj
  have hl := r.length
  have hn := line63
  have I' : Inv X pins σ (upd H p (.lst (xs.set j v))) { s with heap := s.heap.update p (Obj.mapSeq (·.setIfInBounds j u)) } :=
    I.lstUpd hp ho (mapSeq_set its n j u) (r.set rv j) (by rw [List.length_set]; exact hz) s.toks
  by_cases h0 : 0 ≤ k
  · have hk : k.toNat = j := by
      rw [seqIndex_of h0 h4] at h1
      exact Option.some.inj h1
    exact PySem.W.ki_setAt ho h0 (by omega) (by rw [List.size_toArray, ← hl]; exact h4) (by rw [hk]; exact ⟨_, I', q⟩)
  · have hk : (k + (its.toArray.size : Int)).toNat = j := by
      rw [seqIndex_neg (by omega) h3] at h1
      rw [List.size_toArray, ← hl]
      exact Option.some.inj h1
    exact PySem.W.ki_setBack ho (by omega) (by rw [List.size_toArray, ← hl]; exact h3) (by omega) (by rw [hk]; exact ⟨_, I', q⟩)

theorem slice_bounds (lo hi : Option Int) (n : Nat) : (sliceBounds lo hi none n).1 = ((HT.sIx n 0 lo : Nat) : Int) ∧ (sliceBounds lo hi none n).2.1 = ((HT.sIx n n hi : Nat) : Int) ∧ (sliceBounds lo hi none n).2.2 = 1 := by
  refine ⟨?_, ?_, rfl⟩
  · cases lo with
    | none => simp [sliceBounds, HT.sIx]
    | some i =>
      simp only [sliceBounds, HT.sIx, Option.getD_none, show (1 : Int) > 0 by decide, if_true]
      by_cases h : i < 0
      · simp only [h, if_true] <;> omega
      · simp only [h, if_false] <;> omega
  · cases hi with
    | none => simp [sliceBounds, HT.sIx]
    | some i =>
      simp only [sliceBounds, HT.sIx, Option.getD_none, show (1 : Int) > 0 by decide, if_true]
      by_cases h : i < 0
      · simp only [h, if_true] <;> omega
      · simp only [h, if_false] <;> omega
theorem slicePick_cut (its : List Value) (lo hi : Option Int) : slicePick its.toArray lo hi none = ((its.drop (HT.sIx its.length 0 lo)).take (HT.sIx its.length its.length hi - HT.sIx its.length 0 lo)).toArray := by
  obtain ⟨h1, h2, h3⟩ := slice_bounds lo hi its.toArray.size
  unfold slicePick
  rw [h1, h2, h3]
  simp only [sliceRange_one, pick_run, List.size_toArray] <;> rfl
def rSlL (K : PySem.W.Frag) : V → Option Int → Option Int → Hp → VK → Prop := fun x lo hi H Q => ∃ a xs, x = .ref a ∧ SqL K H a xs ∧ ∀ p, H p = none → Q (.ref p) (upd H p (.lst (cutV xs lo hi)))
theorem sl_list : SlR X (rSlL X.K) := by
  intro pins s σ H x v vl vu lo hi sl Q I rx hs pl pu h
  obtain ⟨a, xs, rfl, hx, q⟩ := h
  cases rx
  obtain ⟨its, r, ht, hz⟩ := I.list hx
  have hlen := r.length
  refine ⟨"list", _, slot_list_getitem.lookup, ht.isList.typeIs, ?_⟩
  refine wpAny_getItem_list_slice ht.isList hs pl pu .none (by simp) ?_ (by rw [List.size_toArray] <;> omega)
  rw [slicePick_cut, ← hlen]
  refine ⟨.ref s.heap.objs.size, _, I.laid (t' := s.toks) (o := .lst (cutV xs lo hi)) (fun b ob q => Heap.get?_push_of_some _ q) (Nat.le_refl _) ?_, rfl, q _ (I.hok.fresh (Nat.le_refl _))⟩
  exact ⟨Nat.le_trans (cutV_length xs lo hi) hz, _, 0, (r.drop (HT.sIx xs.length 0 lo)).take (HT.sIx xs.length xs.length hi - HT.sIx xs.length 0 lo), Heap.get?_push_size _ rfl⟩

def flatV : V → Bool
  | .non => true
  | .bl _ => true
  | .int _ => true
  | .str _ => true
  | _ => false
def eqV : V → V → Bool
  | .non, .non => true
  | .bl a, .bl b => a == b
  | .bl a, .int b => (if a then 1 else 0) == b
  | .int a, .bl b => a == (if b then 1 else 0)
  | .int a, .int b => a == b
  | .str a, .str b => a == b
  | _, _ => false
theorem eqAt_V {A : Around} {s : Shared} {y x : V} {u v : Value} (ry : RelV y u) (rx : RelV x v) (fy : flatV y = true) (fx : flatV x = true) : SeqAt.EqAt A s u v (eqV y x) := by
  cases y with
  | non =>
    cases ry
    cases x with
    | non => cases rx; exact SeqAt.EqAt.same _
    | bl b => cases rx; exact SeqAt.EqAt.none_bool b
    | int b => obtain ⟨t, rfl⟩ := rx; exact SeqAt.EqAt.none_int b t
    | str b => obtain ⟨t, rfl⟩ := rx; exact SeqAt.EqAt.none_str b t
    | _ => exact absurd (show false = true from fx) Bool.false_ne_true
  | bl a =>
    cases ry
    cases x with
    | non => cases rx; exact SeqAt.EqAt.bool_none a
    | bl b => cases rx; exact SeqAt.EqAt.bool_bool a b
    | int b => obtain ⟨t, rfl⟩ := rx; exact SeqAt.EqAt.bool_int a b t
    | str b => obtain ⟨t, rfl⟩ := rx; exact SeqAt.EqAt.bool_str a b t
    | _ => exact absurd (show false = true from fx) Bool.false_ne_true
  | int a =>
    obtain ⟨t', rfl⟩ := ry
    cases x with
    | non => cases rx; exact SeqAt.EqAt.int_none a t'
    | bl b => cases rx; exact SeqAt.EqAt.int_bool a t' b
    | int b => obtain ⟨t, rfl⟩ := rx; exact SeqAt.EqAt.int_int a t' b t
    | str b => obtain ⟨t, rfl⟩ := rx; exact SeqAt.EqAt.int_str a t' b t
    | _ => exact absurd (show false = true from fx) Bool.false_ne_true
  | str a =>
    obtain ⟨t', rfl⟩ := ry
    cases x with
    | non => cases rx; exact SeqAt.EqAt.str_none a t'
    | bl b => cases rx; exact SeqAt.EqAt.str_bool a t' b
    | int b => obtain ⟨t, rfl⟩ := rx; exact SeqAt.EqAt.str_int a t' b t
    | str b => obtain ⟨t, rfl⟩ := rx; exact SeqAt.EqAt.str_str a t' b t
    | _ => exact absurd (show false = true from fx) Bool.false_ne_true
  | _ => exact absurd (show false = true from fy) Bool.false_ne_true
theorem call_len_seq : CallR X (.builtin "len") (fun xs H Q => ∃ p ys, xs = [.ref p] ∧ (SqL X.K H p ys ∨ SqT X.K H p ys) ∧ Q (.int ys.length) H) := by
  intro pins s σ H xs us Q I r h
  obtain ⟨p, ys, rfl, hq, q⟩ := h
  obtain ⟨u, rfl, rx⟩ := vals1 r
  cases rx
  have hn := line63
  rcases hq with hq | hq
  · obtain ⟨its, r', pl, hz⟩ := I.list hq
    have hlen := r'.length
    exact Calls.call_len_list pl.isList (by simp only [List.size_toArray] <;> omega) ⟨.int ys.length, H, I.tok _, ⟨s.toks + 1, by rw [List.size_toArray, hlen]⟩, q⟩
  · obtain ⟨its, r', pl, hz⟩ := I.tuple hq
    have hlen := r'.length
    exact len_tuple pl (by simp only [List.size_toArray] <;> omega) ⟨.int ys.length, H, I.tok _, ⟨s.toks + 1, by rw [List.size_toArray, hlen]⟩, q⟩
theorem call_list_of : CallR X (.type "list") (fun xs H Q => ∃ p ys, xs = [.ref p] ∧ (SqL X.K H p ys ∨ SqT X.K H p ys) ∧ ∀ l, H l = none → Q (.ref l) (upd H l (.lst ys))) := by
  intro pins s σ H xs us Q I r h
  obtain ⟨p, ys, rfl, hq, q⟩ := h
  obtain ⟨u, rfl, rx⟩ := vals1 r
  cases rx
  have fin : ∀ (its : List Value), Vals ys its → ys.length ≤ sizeLine → ∀ (h' : Heap) (c' : Nat), (∀ b o', s.heap.get? b = some o' → h'.get? b = some o') →
      h'.get? s.heap.objs.size = some { cls := .type "list", dict := none, data := .seq its.toArray c', slots := #[] } → EP X pins σ Q (.ref s.heap.objs.size) { s with heap := h' } := fun its r' hz h' c' kp e =>
    ⟨.ref s.heap.objs.size, _, I.laid (t' := s.toks) kp (Nat.le_refl _) (show ObjOk X.prog X.w _ h' _ (.lst ys) from ⟨hz, its, c', r', e⟩), rfl, q _ (I.hok.fresh (Nat.le_refl _))⟩
  rcases hq with hq | hq
  · obtain ⟨its, r', pl, hz⟩ := I.list hq
    have hlen := r'.length
    obtain ⟨o, ho, hc, n, hd⟩ := pl.isList
    exact call_list_seq p (.inl rfl) ho hc hd (fun h' c' kp e => fin its r' hz h' c' kp e) (by simp only [List.size_toArray] <;> omega)
  · obtain ⟨its, r', pl, hz⟩ := I.tuple hq
    have hlen := r'.length
    obtain ⟨o, ho, hc, n, hd⟩ := pl
    exact call_list_seq p (.inr rfl) ho hc hd (fun h' c' kp e => fin its r' hz h' c' kp e) (by simp only [List.size_toArray] <;> omega)
def tyV (K : PySem.W.Frag) (T : String) (x : V) (H : Hp) : Prop := match x with
  | .str _ => T = "str"
  | .int _ => T = "int"
  | .ref p => (T = "list" ∧ ∃ xs, SqL K H p xs) ∨ (T = "tuple" ∧ ∃ o, K.lookup p = some o ∧ o.cls = .type "tuple" ∧ o.dict = none) ∨
      (T = "dict" ∧ ((∃ kvs, H p = some (.dK kvs)) ∨ ∃ kvs, H p = some (.dT kvs))) ∨ (T = "set" ∧ ∃ S n, H p = some (.set S n))
  | _ => False
theorem tyV_is {pins : List (Addr × Obj)} {σ : St} {H : Hp} {s : Shared} {T : String} {x : V} {v : Value} (I : Inv X pins σ H s) (r : RelV x v) (ty : tyV X.K T x H) :
    s.TypeIs v T ∧ ∀ a, v = .ref a → ∃ ob, s.heap.get? a = some ob ∧ ob.dict = none := by
  cases x with
  | str z =>
    obtain ⟨t, rfl⟩ := r
    cases (show T = "str" from ty)
    exact ⟨typeIs_str s z t, fun _ e => nomatch e⟩
  | int i =>
    obtain ⟨t, rfl⟩ := r
    cases (show T = "int" from ty)
    exact ⟨typeIs_int s i t, fun _ e => nomatch e⟩
  | ref p =>
    cases r
    rcases ty with ⟨rfl, xs, hq⟩ | ⟨rfl, o, hk, hc, hd⟩ | ⟨rfl, hk⟩ | ⟨rfl, S, n, hk⟩
    · obtain ⟨its, _, pl, _⟩ := I.list hq
      refine ⟨pl.isList.typeIs, fun a e => ?_⟩
      cases e
      obtain ⟨o, n, e, c, hd, _⟩ := pl
      exact ⟨o, e, hd⟩
    · refine ⟨⟨o, I.kIn p o hk, hc⟩, fun a e => ?_⟩
      cases e
      exact ⟨o, I.kIn _ o hk, hd⟩
    · have z : ∃ o, s.heap.get? p = some o ∧ o.ExactDict := by
        rcases hk with ⟨kvs, hk⟩ | ⟨kvs, hk⟩
        · obtain ⟨_, _, _, _, o, _, _, e, ex, _⟩ := I.hok p _ hk
          exact ⟨o, e, ex⟩
        · obtain ⟨_, _, _, _, o, _, _, e, ex, _⟩ := I.hok p _ hk
          exact ⟨o, e, ex⟩
      obtain ⟨o, e, ex⟩ := z
      refine ⟨⟨o, e, ex.1⟩, fun a e2 => ?_⟩
      cases e2
      exact ⟨o, e, ex.2.1⟩
    · obtain ⟨o, _, _, _, e, ex, _⟩ := I.hok p _ hk
      refine ⟨⟨o, e, ex.1⟩, fun a e2 => ?_⟩
      cases e2
      exact ⟨o, e, ex.2.1⟩
  | _ => exact False.elim ty
def tBM (K : PySem.W.Frag) (T : String) (r : V → List V → Hp → VK → Prop) (to : TE) (t : TA) : TE := fun σ H Q => to σ H fun x H1 => tyV K T x H1 ∧ t σ H1 fun xs H2 => r x xs H2 Q
variable {o e : Expr} {es : List Expr} {to : TE} {t : TA} {name : Str} {apos cpos : Pos} {T id : String} {r : V → List V → Hp → VK → Prop}
theorem pe_bm (pa : PlainAttrs T) (slot : Slot T name id) (hty : typeOf (.builtin id) = pure (.type "method_descriptor")) (hm : MtR X id r) (ho : PE X o to) (ha : PA X (e :: es) t)
    (hbase : attributeBase o name X.env (eval o X.env) = eval o X.env := by rfl)
    (hfew : ((backTo cpos (starEach (e :: es) X.env)).all (fun x => !x.1) && (backToKw cpos (keywordEach [] X.env)).all (fun x => x.1.isSome)
      && decide ((e :: es).length + ([] : List Keyword).length + (if ([] : List Keyword).isEmpty then 0 else 1) < 30)) = true := by rfl)
    (hline : (apos.endLine == cpos.line) = true := by rfl) (hs : starEach (e :: es) X.env = (false, eval e X.env) :: starEach es X.env := by rfl) (hplain : (backTo cpos (starEach es X.env)).any (·.1) = false := by rfl) :
    PE X (.Call (.Attribute o name apos) (e :: es) [] cpos) (tBM X.K T r to t) := by
  intro pins s σ H Q I h
  refine wpAny_Call_method_late hbase hfew hline rfl (thn (ho pins s σ H _ I h) fun v s1 ⟨x, H1, I1, r1, ty, q1⟩ => ?_)
  obtain ⟨h1, h2⟩ := tyV_is I1 r1 ty
  refine ⟨T, id, pa, slot, hty, h1, h2, ?_⟩
  have hA := ha cpos pins s1 σ H1 _ I1 q1
  rw [hs] at hA ⊢
  refine Calls.callWith_builtin (by show (false || (backTo cpos (starEach es X.env)).any (·.1)) = false; rw [hplain] <;> rfl) (Calls.evalArgs_plain ?_)
  exact thn hA fun us s2 ⟨vs, H2, I2, r2, q2⟩ => hm pins s2 σ H2 x vs v us Q I2 r1 r2 q2
/- xs.append(e), list.index on a module's tuple .. are MtR facts of 06m -/
end
end L2

namespace L2
open PySem PySem.Spec PyProof.Rows

def MtM (X : Cx) (id : String) (r : V → List V → Hp → VK → Prop) : Prop :=
  ∀ (pins : List (Addr × Obj)) (s : Shared) (σ : St) (H : Hp) (x : V) (xs : List V) (v : Value) (us : List Value) (Q : VK), Inv X pins σ H s → RelV x v → Vals xs us → r x xs H Q →
    wpAny (model X.prog X.w) X.A (call (.builtin id) (v :: us)) (EP X pins σ Q) X.xe s

theorem Vals.one : ∀ {x : V} {us : List Value}, Vals [x] us → ∃ u, us = [u] ∧ RelV x u
  | _, _, .cons r .nil => ⟨_, rfl, r⟩
theorem Vals.two : ∀ {x y : V} {us : List Value}, Vals [x, y] us → ∃ u v, us = [u, v] ∧ RelV x u ∧ RelV y v
  | _, _, _, .cons r (.cons q .nil) => ⟨_, _, rfl, r, q⟩
theorem Vals.zero : ∀ {us : List Value}, Vals [] us → us = []
  | _, .nil => rfl
theorem Vals.dropLast {xs : List V} {us : List Value} (h : Vals xs us) : Vals xs.dropLast us.dropLast := by
  induction h with
  | nil => exact .nil
  | cons r t ih =>
    cases t with
    | nil => exact .nil
    | cons q t' => exact .cons r ih
theorem Vals.reverse {xs : List V} {us : List Value} (h : Vals xs us) : Vals xs.reverse us.reverse := by
  induction h with
  | nil => exact .nil
  | cons r t ih => rw [List.reverse_cons, List.reverse_cons]; exact Vals.append ih (.cons r .nil)
section
variable {X : Cx} {pins : List (Addr × Obj)} {σ : St} {H : Hp} {s : Shared} {l b : Addr} {xs ys zs : List V}

theorem Inv.lset {its its' : List Value} {n : Nat} {f : Array Value → Array Value} {t' : Nat} (I : Inv X pins σ H s) (hH : H l = some (.lst xs))
    (e : s.heap.get? l = some { cls := .type "list", data := .seq its.toArray n }) (hf : f its.toArray = its'.toArray) (hv : Vals ys its') (hz : ys.length ≤ sizeLine) :
    Inv X pins σ (upd H l (.lst ys)) { s with heap := s.heap.update l (Obj.mapSeq f), toks := t' } := by
  have q := PySem.IsL.update e f
  rw [hf] at q
  refine I.write (x := l) (e := l) (by rw [hH]; exact trivial) (.inl rfl) (fun b' u hb hu => (Heap.get?_update_other s.heap (Obj.mapSeq f) (Ne.symm hb)).trans hu) ⟨_, q⟩ ?_
  exact ⟨hz, its', _, hv, q⟩
theorem Inv.lnew {its : List Value} {t' : Nat} (I : Inv X pins σ H s) (hv : Vals ys its) (hz : ys.length ≤ sizeLine) :
    Inv X pins σ (upd H s.heap.objs.size (.lst ys)) { s with heap := s.heap.push { cls := .type "list", data := .seq its.toArray }, toks := t' } :=
  I.laid (fun _ _ q => Heap.get?_push_of_some _ q) (Nat.le_refl _) ⟨hz, its, 0, hv, Heap.get?_push_size _ rfl⟩
theorem Inv.fresh (I : Inv X pins σ H s) : H s.heap.objs.size = none := I.hok.fresh (Nat.le_refl _)
theorem Inv.lstM (I : Inv X pins σ H s) (hH : H l = some (.lst xs)) : xs.length ≤ sizeLine ∧ ∃ (its : List Value) (n : Nat), Vals xs its ∧ xs.length = its.length ∧ s.heap.get? l = some { cls := .type "list", data := .seq its.toArray n } := by
  obtain ⟨z, its, n, r, e⟩ := I.hok l _ hH
  exact ⟨z, its, n, r, r.length, e⟩

end

section
variable {X : Cx}

def rAppend : V → List V → Hp → VK → Prop := fun x vs H Q => ∃ l xs y, x = .ref l ∧ vs = [y] ∧ H l = some (.lst xs) ∧ xs.length < sizeLine ∧ Q .non (upd H l (.lst (xs ++ [y])))
theorem mt_append : MtM X "list.append" rAppend := by
  intro pins s σ H x vs v us Q I rx rv h
  obtain ⟨l, xs, y, rfl, rfl, hH, hz, q⟩ := h
  cases rx
  obtain ⟨u, rfl, ru⟩ := rv.one
  obtain ⟨z, its, n, r, hl, e⟩ := I.lstM hH
  refine call_meets F.slot_list_append ⟨_, e, rfl⟩ F.entry_list_append (F.args_list_append_2 _ _) (PySem.list_append l its.toArray n u (by rw [List.size_toArray]; omega)) ⟨e, ?_⟩
  refine ⟨.non, _, I.lset (its' := its ++ [u]) hH e (by simp) (r.append (.cons ru .nil)) ?_, rfl, q⟩
  rw [List.length_append, List.length_singleton]
  omega

def rCat : R2 := fun x y H Q => ∃ l b xs zs, x = .ref l ∧ y = .ref b ∧ H l = some (.lst xs) ∧ H b = some (.lst zs) ∧ xs.length + zs.length ≤ sizeLine ∧ ∀ p, H p = none → Q (.ref p) (upd H p (.lst (xs ++ zs)))
theorem op_cat : OpR X (binaryOp .Add) rCat := by
  intro pins s σ H x y v u Q I rx ry h
  obtain ⟨l, b, xs, zs, rfl, rfl, hH, hB, hz, q⟩ := h
  cases rx
  cases ry
  obtain ⟨z, its, n, r, hl, e⟩ := I.lstM hH
  obtain ⟨z2, its2, n2, r2, hl2, e2⟩ := I.lstM hB
  refine PySem.P.add_list e e2 ?_ (by rw [List.size_toArray, List.size_toArray]; omega)
  have ea : its.toArray ++ its2.toArray = (its ++ its2).toArray := by simp
  rw [ea]
  exact ⟨.ref _, _, I.lnew (t' := s.toks) (r.append r2) (by rw [List.length_append]; omega), rfl, q _ I.fresh⟩
end

section
variable {prog : Program} {w : World} {A : Around} {E : Value → Shared → Prop} {s : Shared}
end

section
variable {X : Cx}
end
end L2

namespace Att
open PySem PySem.W PySem.Calls PyProof.Rows

theorem ints_of_wellAll {P : Params} {h : Heap} : ∀ (ns : List Int) (vs : List Value), WellAll P h vs (ns.map WData.int) → IntsAre vs ns := by
  intro ns
  induction ns with
  | nil =>
    intro vs w
    rw [List.map_nil] at w
    cases w
    exact .nil
  | cons n ns ih =>
    intro vs w
    rw [List.map_cons] at w
    cases w with
    | cons a b =>
      cases a
      exact .cons _ _ (ih _ b)

theorem script_of {l : OpenLaw} {n : Nat} (hn : l.most = some n) {P : Params} {h : Heap} {args : List WData} {vals : List Value}
    (hpre : l.row.toRowW.claim.pre args = true) (hwl : WellAll P h vals args) :
    ∃ a vs ns, vals = [Value.ref a] ∧ args = [WData.list (ns.map WData.int)] ∧ h.get? a = some { cls := .type "list", data := .seq vs.toArray } ∧ IntsAre vs ns ∧ ns.length ≤ n := by
  have hsh : WShape.hasAll [] args [.list .int] = true := (pre_splitW hpre).1
  have hc : l.pre.holds [] { args := args } = true := (pre_splitW hpre).2
  obtain ⟨d, r, rfl, h1, h2⟩ := hasAllW_cons hsh
  obtain rfl := hasAllW_nil h2
  obtain ⟨xs, rfl, h3⟩ := hasW_list h1
  obtain ⟨ns, rfl⟩ := items_int h3
  have hlen : ns.length ≤ n := by
    unfold OpenLaw.pre at hc
    have h4 : (WTm.not (.lt (.lit (.int (n : Int))) (.len (.arg 0)))).holds [] { args := [.list (ns.map .int)] } = true := by
      have h4 := (holds_andW hc).1
      rw [hn] at h4
      exact h4
    have h5 := condW_of h4 (w_not (w_lt w_lit (w_len_list (w_arg rfl))))
    rw [List.length_map] at h5
    refine Nat.le_of_not_lt fun q => ?_
    have q' : (n : Int) < ((ns.length : Nat) : Int) := by omega
    first
      | (rw [decide_eq_true q'] at h5; exact absurd h5 (by decide))
      | (simp at h5; omega)
  cases hwl with
  | cons w1 w2 =>
    cases w2
    cases w1 with
    | list ho hall => exact ⟨_, _, ns, rfl, rfl, ho, ints_of_wellAll ns _ hall, hlen⟩

theorem post_true (l : OpenLaw) (args : List WData) : l.row.toRowW.claim.post args (.bool true) args = true :=
  postW_of (r := l.row.toRowW) (X := (true == true))
    (show WShape.has [] (.bool true) .bool = true by first | rfl | decide | simp [WShape.has, WShape.arms, WShape.armsAll])
    (show (WTm.eq .res (.lit (.bool true))).value [] { args := args, res := some (.bool true), after := args } = some (.bool (true == true)) from w_eq_bool (w_res rfl) w_lit) rfl

theorem attach_call {l : OpenLaw} {n : Nat} {q : Program} {loose : List Str} {XP : (Str → Option Value) → Heap → Prop} {YP : World → Heap → Prop} {d : DefRec}
    (hn : l.most = some n) (hdf : d.params.defaults = [])
    (call : ∀ (w : World) (s₀ s₁ : Shared) (mg mb : Str → Option Value) (fa : Addr) (o : Obj) (pm cd doc : Value) (a : Addr) (vs : List Value) (ns : List Int),
      Ground q loose [] XP w s₀ mg mb s₁.heap → YP w s₁.heap →
      s₁.heap.get? fa = some o → o.data = .func (docDef d.name d.params d.body d.scope pm cd doc) → s₁.heap.CodeRec cd d.name → mg d.name = some (.ref fa) →
      s₁.heap.get? a = some { cls := .type "list", data := .seq vs.toArray } → IntsAre vs ns → ns.length ≤ n → s₁.gens = #[] →
      codeAny (model l.prog w) callerA (.call (.ref fa) ⟨[.ref a], []⟩) (fun r s' => r = .ok (.ret (.bool true)) ∧ OldK s₁.heap s'.heap ∧ s'.os = s₁.os ∧ AllBare s'.gens) s₁) :
    WalkO q loose XP YP l.row.toRowW d [] (fun f vs => PySem.call f vs) := by
  intro w s₀ s₁ mg mb G Y fa o pm cd doc dV kV ho hd hcd hD hmg hg args vals as hpre hlay hrd hwl hlo
  obtain rfl : dV = .none := Dflts.none hD hdf
  obtain rfl : kV = .none := Dflts.noKw hD
  obtain ⟨a, vs, ns, rfl, rfl, hobj, hints, hlen⟩ := script_of hn hpre hwl
  refine enter_call (codeAny_mono (call w s₀ s₁ mg mb fa o pm cd doc a vs ns G Y ho (fd_plain hd) hcd hmg hobj hints hlen hg) fun r s' hq => ?_)
  obtain ⟨rfl, h2, h3, h4⟩ := hq
  exact ⟨.inl ⟨.bool true, .bool true, [], rfl, fun _ => rfl, .bool true, post_true l _, fun _ => ⟨List.Pairwise.nil, fun _ hm => (nomatch hm)⟩⟩, h2, h3, h4⟩

section
variable {prog : Program} {w : World} {A : Around} {E : Value → Shared → Prop} {s : Shared} {K : Frag}

end
end Att

namespace L2
open PySem PySem.Spec PyProof.Rows

theorem vals_ints : ∀ {vs : List Value} {ns : List Int}, IntsAre vs ns → Vals (ns.map V.int) vs
  | _, _, .nil => .nil
  | _, _, .cons n t h => .cons ⟨t, rfl⟩ (vals_ints h)

def Only (H : Hp) : Prop := ∀ b, H b = none ∨ ∃ o xs, H b = some (.frz o (.lst xs))

theorem law_call {P : Program} {w : World} {K : PySem.W.Frag} {mg mb : Str → Option Value} {CX : CXT} {k : Nat} {fa a : Addr} {fd : FuncData} {x : Str} {sp : Sp} {s₁ : Shared} {vs : List Value} {ns : List Int}
    (KX : K.In s₁.heap) (hns : s₁.heap.Ns mainGlobals mg) (hb : s₁.heap.Ns builtinsNs mb) (hbb : ∀ x : Str, x ≠ "__name__" → mb x = bootBuiltins x) (hlim : s₁.heap.NoLimit) (hg : s₁.gens = #[])
    (ha : s₁.heap.get? a = some { cls := .type "list", data := .seq vs.toArray }) (hi : IntsAre vs ns) (hl : ns.length ≤ sizeLine) (hr : Room k callerA)
    (F : ∀ base : Heap, K.In base → base.Ns mainGlobals mg → FnOk P w K mg base CX k fa fd [x] sp) (hbind : ∀ (s : Shared) (u : Value), BindsTo s fd ⟨[u], []⟩ [(x, u)])
    (hsp : ∀ H : Hp, Only H → SqL K H a (ns.map V.int) → sp [.ref a] H (fun v _ => v = .bl true) fun _ _ _ => False)
    (hCX : ∀ H e s', CX [] H s₁ (fun _ _ _ => False) e s' → False) :
    codeAny (model P w) callerA (.call (.ref fa) ⟨[.ref a], []⟩) (fun r s' => r = .ok (.ret (.bool true)) ∧ OldK s₁.heap s'.heap ∧ s'.os = s₁.os ∧ AllBare s'.gens) s₁ := by
  have rv := vals_ints hi
  have lenV := hi.length
  -- from an abstract heap in which nothing but the script may be tracked
  have core : ∀ H : Hp, Only H → SqL K H a (ns.map V.int) → HOk P w H s₁.heap → (∀ b, H b ≠ none → b = a) → (H a ≠ none → K.lookup a = none) →
      codeAny (model P w) callerA (.call (.ref fa) ⟨[.ref a], []⟩) (fun r s' => r = .ok (.ret (.bool true)) ∧ OldK s₁.heap s'.heap ∧ s'.os = s₁.os ∧ AllBare s'.gens) s₁ := by
    intro H hO hS hok hA hK
    have base_of : ∀ {b : Addr} {o : Obj}, s₁.heap.get? b = some o → H b = none → (hidT s₁.heap H).get? b = some o := fun e n => hidT_get e n
    have noA : ∀ {b : Addr} {o : Obj} {es : Array DictEntry} {ep : Nat}, s₁.heap.get? b = some o → o.data = .dict es ep → H b = none := fun {b o es ep} e d => by
      cases q : H b with
      | none => rfl
      | some u =>
        have e' : b = a := hA b (by rw [q]; simp)
        subst e'
        rw [ha] at e; cases e
        have d' : Data.seq vs.toArray _ = Data.dict es ep := d
        cases d'
    have nsK : ∀ {b : Addr} {m : Str → Option Value}, s₁.heap.Ns b m → (hidT s₁.heap H).Ns b m := fun {b m} ⟨o, es, ep, e, d, r⟩ => ⟨o, es, ep, base_of e (noA e d), d, r⟩
    have hKb : K.In (hidT s₁.heap H) := fun b o e => base_of (KX b o e) (by
      cases q : H b with
      | none => rfl
      | some u =>
        have e' : b = a := hA b (by rw [q]; simp)
        subst e'
        rw [hK (by rw [q]; simp)] at e; cases e)
    have hM : Mod K mg (hidT s₁.heap H) := ⟨hKb, nsK hns, ⟨mb, nsK hb, hbb⟩, let ⟨mc, h1, h2⟩ := hlim; ⟨mc, nsK h1, h2⟩⟩
    have e0 : Env0 P w K mg (hidT s₁.heap H) callerA [] s₁ H := ⟨rfl, hM, fun b o e => of_hidT e, Nat.le_of_eq (hidT_size _ _), trivial, fun b hb => absurd (show b ∈ ([] : List Addr) from hb) (by simp), hok, .of_eq hg⟩
    refine codeAny_mono ((F _ hKb (nsK hns)).run callerA [] s₁ H ⟨[.ref a], []⟩ [.ref a] [.ref a] _ _ hr e0 (hbind s₁ (.ref a)) (.cons rfl .nil) (hsp H hO hS)) fun r s' h => ?_
    cases r with
    | error e => exact (hCX H e s' h).elim
    | ok fl =>
      cases fl with
      | next => exact False.elim h
      | brk => exact False.elim h
      | cont => exact False.elim h
      | ret u =>
        obtain ⟨v, H', os, bare, un, hok', r', q⟩ := h
        have q' : v = .bl true := q
        subst q'
        obtain rfl : u = Value.bool true := r'
        refine ⟨rfl, OldK.of_keep fun b o e => ?_, os, bare⟩
        cases q : H b with
        | none => exact un.keep b o e q (by intro z; exact absurd (show b ∈ ([] : List Addr) from z) (by simp)) (by simp)
        | some u =>
          rcases hO b with z | ⟨ob, xs, z⟩
          · rw [q] at z; cases z
          · have z2 := un.frzs b ob _ z
            obtain ⟨e1, _⟩ := hok b _ z
            obtain ⟨e2, _⟩ := hok' b _ z2
            rw [e] at e1; cases e1
            exact e2
  cases hk : K.lookup a with
  | some o =>
    -- the script is one of the module's own objects
    have e := KX a o hk
    rw [ha] at e
    cases e
    refine core (fun _ => none) (fun _ => .inl rfl) (.inr ⟨_, vs.toArray, _, hk, rfl, rfl, rfl, by rw [List.size_toArray, lenV]; exact hl, by simpa using rv⟩) (fun b u z => by have z' : (none : Option HO) = some u := z; cases z') (fun b z => absurd rfl z) fun z => absurd rfl z
  | none =>
    refine core (fun b => if b = a then some (.frz { cls := .type "list", data := .seq vs.toArray } (.lst (ns.map V.int))) else none) (fun b => ?_) (.inl (.inr ⟨{ cls := .type "list", data := .seq vs.toArray }, if_pos rfl⟩)) (fun b u z => ?_) (fun b z => ?_) fun _ => hk
    · by_cases hb : b = a
      · exact .inr ⟨_, _, if_pos hb⟩
      · exact .inl (if_neg hb)
    · by_cases hb : b = a
      · have z' := (if_pos hb).symm.trans z
        cases z'
        subst hb
        exact ⟨ha, by rw [List.length_map]; exact hl, vs, _, rv, ha⟩
      · have z' := (if_neg hb).symm.trans z
        cases z'
    · by_cases hb : b = a
      · exact hb
      · exact absurd (if_neg hb) z
end L2

namespace L2
open PySem PySem.Spec PyProof.Rows

theorem walk_of {l : PySem.W.OpenLaw} {n k : Nat} {q : Program} {loose : List Str} {XP : (Str → Option Value) → Heap → Prop} {YP : World → Heap → Prop} {d : DefRec} {K : Params → PySem.W.Frag} {CX : World → CXT} {sp : World → Sp} {x : Str}
    (hn : l.most = some n) (hn2 : n ≤ sizeLine) (hdf : d.params.defaults = []) (hr : Room k callerA)
    (hY : ∀ (w : World) (h : Heap), YP w h → (K w.params).In h)
    (F : ∀ (w : World) (mg : Str → Option Value) (fa : Addr) (h : Heap), (K w.params).In h → h.Ns mainGlobals mg → mg d.name = some (.ref fa) →
      ∃ fd : FuncData, (∀ (s : Shared) (u : Value), BindsTo s fd ⟨[u], []⟩ [(x, u)]) ∧
        ∀ base : Heap, (K w.params).In base → base.Ns mainGlobals mg → FnOk l.prog w (K w.params) mg base (CX w) k fa fd [x] (sp w))
    (hsp : ∀ (w : World) (H : Hp) (a : Addr) (ns : List Int), ns.length ≤ n → Only H → SqL (K w.params) H a (ns.map V.int) → sp w [.ref a] H (fun v _ => v = .bl true) fun _ _ _ => False)
    (hCX : ∀ (w : World) (H : Hp) (s : Shared) (e : Value) (s' : Shared), CX w [] H s (fun _ _ _ => False) e s' → False) :
    PySem.W.WalkO q loose XP YP l.row.toRowW d [] (fun f vs => PySem.call f vs) := by
  refine Att.attach_call hn hdf fun w s₀ s₁ mg mb fa o pm cd doc a vs ns G Y ho hd hcd hmg hobj hints hlen hg => ?_
  have KX := hY w _ Y
  obtain ⟨fd, hb, hF⟩ := F w mg fa _ KX G.T.g hmg
  exact law_call KX G.T.g G.T.b G.T.builtins G.T.nolimit hg hobj hints (Nat.le_trans hlen hn2) hr hF hb (fun H hO hS => hsp w H a ns hlen hO hS) fun H e s' => hCX w H s₁ e s'
end L2

/- THE LAST THEOREM (shape; LID, My.* are yours):
   My.Adr: a structure of the addresses that your layer names (classes, functions); My.Txt K t: a structure (Prop) of the equations over K;
   My.txt_mk : {K} {implicit addresses ..} (e1 : nsIn K mainGlobals "law" = some (some (.ref f))) (e2 : K.lookup f = some ⟨oc, od, .func (fnOf "law" "law" params body scope dV kV doc pm an cdv ct), sl⟩) (e3 : codeIn K cdv "law" = true) .. : ∃ t, My.Txt K t

set_option maxRecDepth 100000 in
set_option maxHeartbeats 0 in
theorem PySem.Challenge.cw_LID_holds : PySem.Challenge.rw_LID.Holds := by
  w_on; o_law; k_head; (case hw => w_witness2)
  k_fill
  refine L2.walk_of (l := PySem.Challenge.rw_LID) (n := 63) (k := 40) (x := "script") (CX := fun w => ..) (sp := fun _ => My.sp_law) rfl (by decide) rfl ⟨rfl, by decide, by decide⟩ (fun w h Y => PySem.W.kIn_of Y) ?F ?S ?C
  case F =>
    intro w mg fa h KX G hmg
    have T : ∃ t, My.Txt (L2.KOf KX) t := by
      dsimp only [L2.KOf]                          -- K must stand as «<heap const> w.params» for k_is
      refine' My.txt_mk ?e1 ?e2 ?e3 ..
      (case e1 => PySem.W.k_is)                    -- in the order: a name -> its address -> its object -> its parts
      (case e2 => PySem.W.k_is)
      ..
    obtain ⟨t, T⟩ := T
    have e0 := hmg.symm.trans (PySem.W.mg_of KX G T.law)
    cases e0                                       -- fa is the law's own address
    exact ⟨_, fun s u => .of_eq rfl, fun base kb nb => My.law_fn T kb nb⟩     -- if «.of_eq rfl» comes too early: refine' ⟨_, ?b, fun base kb nb => My.law_fn T kb nb⟩; exact fun s u => .of_eq rfl
  case S => exact fun w H a ns hl hO hS => ..
  case C => exact ..
(the tactic k_is has no namespace: write k_is) -/

namespace L2
open PySem PySem.Spec PyProof.Rows

def defArgs (s : Stmt) : Arguments := match s with
  | .FunctionDef _ a _ _ _ _ _ _ _ _ => a
  | _ => { posonlyargs := [], args := [], vararg := none, kwonlyargs := [], kw_defaults := [], kwarg := none, defaults := [] }
def defBody (s : Stmt) : List Stmt := match s with
  | .FunctionDef _ _ b _ _ _ _ _ _ _ => b
  | _ => []
def defScope (s : Stmt) : Scope := match s with
  | .FunctionDef _ _ _ _ _ _ sc _ _ _ => sc
  | _ => { kind := .function, names := [], isGenerator := false, isCoroutine := false }

abbrev CX0 : CXT := fun _ _ _ _ _ _ => False
abbrev E0 : XK := fun _ _ _ => False
structure Fun (K : PySem.W.Frag) (x qual : Str) (st : Stmt) (f : Addr) (fd : FuncData) : Prop where
  ex : ∃ (oc : Value) (od : Option Addr) (kV doc pm : Value) (an : Option Addr) (cdv ct : Value) (osl : Array (Option Value)),
    fd = PySem.W.fnOf x qual (defArgs st) (defBody st) (defScope st) .none kV doc pm an cdv ct ∧ K.lookup f = some ⟨oc, od, .func fd, osl⟩ ∧ PySem.W.codeIn K cdv qual = true
  kp : PySem.W.keepIn K (.ref f) = true
section
variable {P : Program} {w : World} {K : PySem.W.Frag} {mg : Str → Option Value} {base : Heap}
theorem Fun.ok {x qual : Str} {st : Stmt} {f : Addr} {fd : FuncData} {N ps : List Str} {k : Nat} {sp : Sp} (F : Fun K x qual st f fd) (S : FnScope N ps (defScope st)) (len : ∀ vs H Q E, sp vs H Q E → vs.length = ps.length)
    (hbody : ∀ (cdv : Value) (A : Around) (outer : List Env) (s : Shared) (H : Hp) (vs : List V) (Q : VK) (E : XK), Room k (A.deeper (envOfC qual (defScope st) s.heap.objs.size f cdv)) → sp vs H Q E →
      ∃ t, PSs (cxOf CX0 P w K mg base N qual (defScope st) f cdv A outer s H E).nox (defBody st) t ∧ t { nx := fun _ H' => Q .non H', rt := Q } (start N vs) H) : FnOk P w K mg base CX0 (k + 1) f fd ps sp := by
  obtain ⟨oc, od, kV, doc, pm, an, cdv, ct, osl, rfl, lk, hcd⟩ := F.ex
  refine fn_of lk hcd S len fun A outer s H vs Q E hr hsp => ?_
  obtain ⟨t, h, q⟩ := hbody cdv A outer s H vs Q E hr hsp
  exact ⟨t, h.nox, q⟩
theorem Fun.binds {x qual : Str} {st : Stmt} {f : Addr} {fd : FuncData} {ps : List Str} (F : Fun K x qual st f fd)
    (h : ∀ (kV doc pm : Value) (an : Option Addr) (cdv ct : Value) (us : List Value), us.length = ps.length → bindArgs (PySem.W.fnOf x qual (defArgs st) (defBody st) (defScope st) .none kV doc pm an cdv ct) ⟨us, []⟩ = pure (ps.zip us)) : Binds K fd ps [] := by
  obtain ⟨oc, od, kV, doc, pm, an, cdv, ct, osl, rfl, lk, hcd⟩ := F.ex
  exact .all (h kV doc pm an cdv ct)
theorem fun_mk {x qual : Str} {st : Stmt} {f : Addr} {oc : Value} {od an : Option Addr} {osl : Array (Option Value)} {kV doc pm cdv ct : Value} (l : K.lookup f = some ⟨oc, od, .func (PySem.W.fnOf x qual (defArgs st) (defBody st) (defScope st) .none kV doc pm an cdv ct), osl⟩)
    (c : PySem.W.codeIn K cdv qual = true) (k : PySem.W.keepIn K (.ref f) = true) : Fun K x qual st f (PySem.W.fnOf x qual (defArgs st) (defBody st) (defScope st) .none kV doc pm an cdv ct) := ⟨⟨oc, od, kV, doc, pm, an, cdv, ct, osl, rfl, l, c⟩, k⟩
end
section
variable {X : Cx}
theorem pv (i : Nat) {x : Str} {pos : Pos} (hN : X.N[i]? = some x := by rfl) (hv : Vis X.env.scope x := by first | exact Or.inl rfl | exact Or.inr (Or.inl rfl) | exact Or.inr (Or.inr rfl)) (hd : (x == ("__debug__" : Str)) = false := by decide)
    (hcd : (x == ("__classdict__" : Str)) = false := by decide) : PE X (.Name x pos) (tVar i) := pe_var hN hv hd hcd
end

def Same (H H' : Hp) : Prop := ∀ b o, H b = some o → H' b = some o
theorem Same.refl (H : Hp) : Same H H := fun _ _ h => h
theorem Same.trans {H H1 H2 : Hp} (a : Same H H1) (b : Same H1 H2) : Same H H2 := fun c o h => b c o (a c o h)
theorem Same.free {H H' : Hp} (e : Same H H') {l : Addr} (h : H' l = Option.none) : H l = Option.none := by
  cases q : H l with
  | none => rfl
  | some o =>
    rw [e l o q] at h
    cases h
theorem Same.seq {K : PySem.W.Frag} {H H' : Hp} {a : Addr} {xs : List V} (e : Same H H') (h : SqL K H a xs) : SqL K H' a xs := by
  rcases h with (h | ⟨o, h⟩) | h
  · exact .inl (.inl (e _ _ h))
  · exact .inl (.inr ⟨o, e _ _ h⟩)
  · exact .inr h

end L2

namespace L2
open PySem PySem.Spec PyProof.Rows

theorem closure_go {env : Env} : ∀ (names : List (Str × NameKind)) (acc : List (Str × Addr)), (∀ x ∈ names, x.2 = .free → ∃ c, env.cells.lookup x.1 = some c) →
    ∃ cl : List (Str × Addr), (forIn (m := Sem) names acc fun (x : Str × NameKind) (cs : List (Str × Addr)) => if (x.2 == NameKind.free) = true then (do let a ← cellOf env x.1; pure (ForInStep.yield ((x.1, a) :: cs))) else pure (ForInStep.yield cs)) = pure cl ∧
      (∀ x c, cl.lookup x = some c → acc.lookup x = some c ∨ env.cells.lookup x = some c) ∧ (∀ x, ((x, NameKind.free) ∈ names ∨ ∃ c, acc.lookup x = some c) → ∃ c, cl.lookup x = some c)
  | [], acc, _ => ⟨acc, rfl, fun _ _ h => .inl h, fun x h => by
      rcases h with h | h
      · cases h
      · exact h⟩
  | (n, k) :: r, acc, h => by
    have hr : ∀ x ∈ r, x.2 = .free → ∃ c, env.cells.lookup x.1 = some c := fun x hx => h x (List.mem_cons_of_mem _ hx)
    by_cases hk : k = .free
    · subst hk
      obtain ⟨c, hc⟩ := h (n, .free) List.mem_cons_self rfl
      obtain ⟨cl, e, h1, h2⟩ := closure_go r ((n, c) :: acc) hr
      refine ⟨cl, ?_, fun x c' q => ?_, fun x q => ?_⟩
      · rw [List.forIn_cons]
        have e1 : cellOf env n = pure c := by unfold cellOf; rw [hc]
        simp only [beq_self_eq_true, if_true, e1]
        exact e
      · rcases h1 x c' q with z | z
        · rw [List.lookup_cons] at z
          cases hx : x == n with
          | true =>
            rw [hx] at z
            have z' : some c = some c' := z
            cases z'
            have : x = n := eq_of_beq hx
            subst this
            exact .inr hc
          | false => rw [hx] at z; exact .inl z
        · exact .inr z
      · refine h2 x ?_
        by_cases hx : x = n
        · subst hx
          exact .inr ⟨c, by rw [List.lookup_cons]; simp⟩
        · rcases q with q | ⟨c', q⟩
          · rcases List.mem_cons.mp q with q | q
            · exact absurd (congrArg Prod.fst q) hx
            · exact .inl q
          · refine .inr ⟨c', ?_⟩
            have : (x == n) = false := by simpa using hx
            rw [List.lookup_cons, this]
            exact q
    · obtain ⟨cl, e, h1, h2⟩ := closure_go r acc hr
      refine ⟨cl, ?_, h1, fun x q => h2 x ?_⟩
      · rw [List.forIn_cons]
        have e1 : (k == NameKind.free) = false := by simpa using hk
        simp only [e1, Bool.false_eq_true, if_false]
        exact e
      · rcases q with q | q
        · rcases List.mem_cons.mp q with q | q
          · exact absurd (congrArg Prod.snd q).symm hk
          · exact .inl q
        · exact .inr q
theorem closure_of {scope : Scope} {env : Env} (h : ∀ x ∈ scope.names, x.2 = .free → ∃ c, env.cells.lookup x.1 = some c) :
    ∃ cl, closureFor scope env = pure cl ∧ (∀ x c, cl.lookup x = some c → env.cells.lookup x = some c) ∧ ∀ x, (x, NameKind.free) ∈ scope.names → ∃ c, cl.lookup x = some c := by
  obtain ⟨cl, e, h1, h2⟩ := closure_go (env := env) scope.names [] h
  refine ⟨cl, ?_, fun x c q => (h1 x c q).elim (fun z => by cases z) id, fun x q => h2 x (.inl q)⟩
  have e2 : closureFor scope env = (forIn (m := Sem) scope.names [] fun (x : Str × NameKind) (cs : List (Str × Addr)) => if (x.2 == NameKind.free) = true then (do let a ← cellOf env x.1; pure (ForInStep.yield ((x.1, a) :: cs))) else pure (ForInStep.yield cs)) >>= fun r => pure r := by
    unfold closureFor
    rfl
  rw [e2, e]
  rfl

theorem lookup_relabel {env : Env} : ∀ {names : List (Str × NameKind)} {x : Str} {k : NameKind},
    (names.map fun (n, k) => if (k == NameKind.free && env.scope.kind == .function && env.kindOf n == some .cell) then (n, NameKind.cell) else (n, k)).lookup x = some k →
      names.lookup x = some k ∨ (k = .cell ∧ names.lookup x = some .free)
  | [], _, _, h => by simp at h
  | (n, k') :: r, x, k, h => by
    have ih := @lookup_relabel env r x k
    have h : List.lookup x ((if (k' == NameKind.free && env.scope.kind == .function && env.kindOf n == some .cell) = true then (n, NameKind.cell) else (n, k')) :: _) = some k := h
    cases hx : x == n with
    | true =>
      by_cases hc : (k' == NameKind.free && env.scope.kind == .function && env.kindOf n == some .cell) = true
      · rw [if_pos hc] at h
        simp only [List.lookup_cons, hx] at h
        cases h
        simp only [Bool.and_eq_true, beq_iff_eq] at hc
        refine .inr ⟨rfl, ?_⟩
        simp [List.lookup_cons, hx, hc.1.1]
      · rw [if_neg hc] at h
        simp only [List.lookup_cons, hx] at h
        cases h
        exact .inl (by simp [List.lookup_cons, hx])
    | false =>
      have h' : (r.map fun (n, k) => if (k == NameKind.free && env.scope.kind == .function && env.kindOf n == some .cell) then (n, NameKind.cell) else (n, k)).lookup x = some k := by
        by_cases hc : (k' == NameKind.free && env.scope.kind == .function && env.kindOf n == some .cell) = true
        · rw [if_pos hc] at h
          simpa only [List.lookup_cons, hx] using h
        · rw [if_neg hc] at h
          simpa only [List.lookup_cons, hx] using h
      simpa only [List.lookup_cons, hx] using ih h'

def blockCx (X : Cx) (N' : List Str) (scope : Scope) (cl : List (Str × Addr)) (C : Addr) (fp : List Addr) (s : Shared) (H : Hp) : Cx where
  prog := X.prog
  w := X.w
  K := X.K
  mg := X.mg
  base := X.base
  A := X.A
  N := N'
  s₀ := s
  H₀ := H
  env := compEnvC scope cl C X.env
  outer := X.stack
  stack := X.stack
  ex := fp
  fn := fun _ => false
  calm := true
  pn := X.pn
  xe := fun _ _ => False

def blkSt (own : Nat) (fv : List Nat) (σ : St) : St := List.replicate own none ++ fv.map fun i => (σ[i]?).join

structure BlkScope (X : Cx) (scope : Scope) (own fvn : List Str) (fv : List Nat) : Prop where
  cell : ∀ y ∈ scope.names, y.2 ≠ .cell
  kind : scope.kind = .function
  names : ∀ y ∈ scope.names, y.2 = .local → scope.names.lookup y.1 = some .local
  free : ∀ y ∈ scope.names, y.2 = .free → X.env.scope.names.lookup y.1 = some .cell ∨ X.env.scope.names.lookup y.1 = some .free
  map : fvn.map some = fv.map fun i => X.N[i]?
  vis : ∀ x ∈ fvn, scope.names.lookup x = some .free

section
variable {X : Cx} {pins : List (Addr × Obj)} {σ : St} {H : Hp} {s : Shared}

theorem block_ok {scope : Scope} {own fvn : List Str} {fv : List Nat} {cl : List (Str × Addr)} {C : Addr} {fp : List Addr} (I : Inv X pins σ H s) (B : BlkScope X scope own fvn fv) (hc : X.calm = true)
    (h1 : ∀ x c, cl.lookup x = some c → X.env.cells.lookup x = some c) (h2 : ∀ x, (x, NameKind.free) ∈ scope.names → ∃ c, cl.lookup x = some c)
    (hC : s.heap.objs.size ≤ C) (hf : ∀ b ∈ fp, FpOk X pins H b) (hl : ∀ b ∈ fp, b < s.heap.objs.size) : (blockCx X (own ++ fvn) scope cl C fp s H).Ok where
  mod := I.ok.mod
  kind := B.kind
  glob := I.ok.glob
  blt := I.ok.blt
  above := hC
  inj := fun x y c e1 e2 => I.ok.inj x y c (h1 x c e1) (h1 y c e2)
  has := fun x hx => by
    have hx : (scope.names.map fun (n, k) => if (k == NameKind.free && X.env.scope.kind == .function && X.env.kindOf n == some .cell) then (n, NameKind.cell) else (n, k)).lookup x = some .cell ∨
      (scope.names.map fun (n, k) => if (k == NameKind.free && X.env.scope.kind == .function && X.env.kindOf n == some .cell) then (n, NameKind.cell) else (n, k)).lookup x = some .free := hx
    have q : scope.names.lookup x = some .free := by
      rcases hx with hx | hx
      · rcases lookup_relabel hx with z | ⟨_, z⟩
        · exact absurd rfl (B.cell _ (PySem.mem_of_lookup z))
        · exact z
      · rcases lookup_relabel hx with z | ⟨z, _⟩
        · exact z
        · cases z
    exact h2 x (PySem.mem_of_lookup q)
  cab := fun _ _ h => by cases h
  hd := fun _ => I.ok.hd hc
  frames := I.ok.frames
  stk := .inl rfl
  exf := fun b hb => ⟨Nat.ne_of_lt (Nat.lt_of_lt_of_le (hl b hb) hC), fun x c e => (hf b hb).2.2.2.2.1 x c (h1 x c e)⟩
  bs := I.bs
  bsz := Nat.le_trans I.ok.bsz I.sz
  noex := fun b o e hb => by
    rcases (hf b hb).2.2.2.1 with z | z
    · exact I.ok.noex b o e z
    · exact absurd (Nat.lt_of_lt_of_le (Heap.lt_size (I.ok.bs b o e).1) z) (Nat.lt_irrefl _)
  exfs := fun b hb z => by
    rcases List.mem_cons.mp (I.stkSub b z) with q | q
    · exact (hf b hb).2.1 q
    · exact (hf b hb).2.2.1 q
  funs := I.stack
  frf := I.stkFree

theorem blk_get {own : List Str} {fvn : List Str} {fv : List Nat} {i : Nat} {x : Str} {v : V} (hm : fvn.map some = fv.map fun i => X.N[i]?) (h1 : (own ++ fvn)[i]? = some x) (h2 : (blkSt own.length fv σ)[i]? = some (some v)) :
    x ∈ fvn ∧ ∃ j : Nat, X.N[j]? = some x ∧ σ[j]? = some (some v) := by
  unfold blkSt at h2
  by_cases hi : i < own.length
  · rw [List.getElem?_append_left (by simpa using hi), List.getElem?_replicate] at h2
    split at h2 <;> cases h2
  · rw [List.getElem?_append_right (by simpa using hi), List.length_replicate, List.getElem?_map] at h2
    rw [List.getElem?_append_right (by simpa using hi)] at h1
    have q : (fvn.map some)[i - own.length]? = (fv.map fun i => X.N[i]?)[i - own.length]? := by rw [hm]
    rw [List.getElem?_map, List.getElem?_map, h1] at q
    cases e : fv[i - own.length]? with
    | none => rw [e] at h2; cases h2
    | some j =>
      rw [e] at h2 q
      have q' : X.N[j]? = some x := (Option.some.inj q).symm
      have h2' : (σ[j]?).join = some v := Option.some.inj h2
      refine ⟨List.mem_of_getElem? h1, j, q', ?_⟩
      cases e2 : σ[j]? with
      | none => rw [e2] at h2'; cases h2'
      | some o =>
        rw [e2] at h2'
        have : o = some v := h2'
        rw [this]

theorem block_start {scope : Scope} {own fvn : List Str} {fv : List Nat} {cl : List (Str × Addr)} {C D : Addr} {fp : List Addr} {h' : Heap} {t' : Nat} {m : Str → Option Value} (I : Inv X pins σ H s) (B : BlkScope X scope own fvn fv) (hc : X.calm = true)
    (h1 : ∀ x c, cl.lookup x = some c → X.env.cells.lookup x = some c) (h2 : ∀ x, (x, NameKind.free) ∈ scope.names → ∃ c, cl.lookup x = some c)
    (hf : ∀ b ∈ fp, FpOk X pins H b) (hl : ∀ b ∈ fp, b < s.heap.objs.size) (hD : s.heap.objs.size ≤ D) (hC : s.heap.objs.size ≤ C) (hDC : D ≠ C)
    (k : ∀ b o, s.heap.get? b = some o → h'.get? b = some o) (hn : h'.Ns C m) (ho : h'.get? D = some { cls := .type "list", data := .seq #[] 0 }) :
    Inv (blockCx X (own ++ fvn) scope cl C fp s H) pins (blkSt own.length fv σ) (upd H D (.lst [])) { s with heap := h', toks := t' } := by
  have hDn : H D = none := I.hok.fresh hD
  have hCn : H C = none := I.hok.fresh hC
  have lt : ∀ b o, s.heap.get? b = some o → b ≠ D := fun b o e => Nat.ne_of_lt (Nat.lt_of_lt_of_le (Heap.lt_size e) hD)
  refine ⟨block_ok I B hc h1 h2 hC hf hl, rfl, I.bare, Un.laid k hD hDn, ⟨m, hn, fun i x v e1 e2 e3 => ?_⟩, fun x c e => ?_, ?_, fun x c e => ?_, fun p hp => ?_, ?_, ?_⟩
  · obtain ⟨hx, j, e4, e5⟩ := blk_get B.map e1 e2
    have hfr := B.vis x hx
    obtain ⟨c, hcl⟩ := h2 x (PySem.mem_of_lookup hfr)
    obtain ⟨m0, hn0, hl0⟩ := I.loc
    have ok := B.free _ (PySem.mem_of_lookup hfr) rfl
    have hv : Vis X.env.scope x := by
      rcases ok with z | z
      · exact .inr (.inl z)
      · exact .inr (.inr z)
    obtain ⟨u, r, l⟩ := hl0 j x v e4 e5 hv
    refine ⟨u, r, .inr ⟨?_, c, hcl, ?_⟩⟩
    · rcases e3 with z | z | z
      · have z' : (scope.names.map fun (n, k) => if (k == NameKind.free && X.env.scope.kind == .function && X.env.kindOf n == some .cell) then (n, NameKind.cell) else (n, k)).lookup x = some .local := z
        rcases lookup_relabel z' with y | ⟨y, _⟩
        · rw [hfr] at y; cases y
        · cases y
      · exact .inl z
      · exact .inr z
    · rcases l with ⟨k0, _⟩ | ⟨_, c', e6, o, ho', hd⟩
      · have k0' : X.env.scope.names.lookup x = some .local := k0
        rcases ok with z | z <;> (rw [k0'] at z; cases z)
      · rw [h1 x c hcl] at e6
        cases e6
        exact ⟨o, k _ _ ho', hd⟩
  · obtain ⟨v, o, ho', hd⟩ := I.cell x c (h1 x c e)
    exact ⟨v, o, k _ _ ho', hd⟩
  · show upd H D (.lst []) C = none
    rw [upd_ne (Ne.symm hDC)]; exact hCn
  · obtain ⟨v, o, ho', hd⟩ := I.cell x c (h1 x c e)
    rw [upd_ne (lt _ _ ho')]
    exact I.freeC x c (h1 x c e)
  · obtain ⟨e, n, ne, nf, d⟩ := I.pin p hp
    refine ⟨k _ _ e, ?_, Nat.ne_of_lt (Nat.lt_of_lt_of_le (Heap.lt_size e) hC), fun z => ?_, d⟩
    · rw [upd_ne (lt _ _ e)]; exact n
    · rcases List.mem_cons.mp (I.stkSub _ z) with q | q
      · exact ne q
      · exact nf q
  · exact I.hok.laid k hD ⟨Nat.zero_le _, [], 0, .nil, ho⟩
  · have hm := congrArg List.length B.map
    rw [List.length_map, List.length_map] at hm
    show (blkSt own.length fv σ).length = (own ++ fvn).length
    unfold blkSt
    rw [List.length_append, List.length_append, List.length_replicate, List.length_map, hm]

theorem block_end {scope : Scope} {N' : List Str} {cl : List (Str × Addr)} {C : Addr} {fp : List Addr} {σ' : St} {H' : Hp} {s' : Shared} (I : Inv X pins σ H s) (hC : s.heap.objs.size ≤ C) (hf : ∀ b ∈ fp, FpOk X pins H b)
    (J : Inv (blockCx X N' scope cl C fp s H) pins σ' H' s') : Inv X pins σ H' s' ∧ FpOk X pins H' C := by
  have I' : Inv X pins σ H' s' := I.call' (ch := fp) J.os J.base J.hok J.bare fun b hb => ⟨(hf b hb).2.2.2.1, (hf b hb).2.1, (hf b hb).2.2.2.2.1, (hf b hb).2.2.2.2.2⟩
  refine ⟨I', J.free, Nat.ne_of_gt (Nat.lt_of_lt_of_le I.lt hC), I.nofs hC, .inr (Nat.le_trans I.sz hC), fun x c e z => ?_, fun p hp z => ?_⟩
  · obtain ⟨v, q⟩ := I.cell x c e
    exact absurd (Nat.lt_of_lt_of_le q.lt (by rw [z]; exact hC)) (Nat.lt_irrefl _)
  · exact absurd (Nat.lt_of_lt_of_le (Heap.lt_size (I.pin p hp).1) (by rw [z]; exact hC)) (Nat.lt_irrefl _)
end

section
variable {prog : Program} {w : World} {A : Around} {R : Result → Shared → Prop} {s : Shared}
theorem comp_loop {elt target iter : Expr} {ifs : List Expr} {scope : Scope} {pos : Pos} {it acc : Value} {env : Env} (I : Nat → Shared → Prop)
    (turn : ∀ n s, I n s → wpAny (model prog w) A (pyNext it) (fun r s₁ => match r with
      | none => R (.ok .next) s₁
      | some v => wpAny (model prog w) A (letOwnedTupleGo target it v) (fun _ s₁' => wpAny (model prog w) A (assign target env v) (fun _ s₂ =>
          wpAny (model prog w) A (forIn ifs true fun c r => if r = true then do let ok ← isTrue c env (eval c env); pure (ForInStep.yield ok) else pure (ForInStep.yield r)) (fun ok s₃ =>
            if ok = true then wpAny (model prog w) A (eval elt env) (fun x s₄ =>
              wpAny (model prog w) A (call (.builtin "list.append") [acc, x]) (fun _ s₅ => ∃ m, m < n ∧ I m s₅) (fun _ _ => False) s₄) (fun _ _ => False) s₃
            else ∃ m, m < n ∧ I m s₃) (fun _ _ => False) s₂) (fun _ _ => False) s₁') (fun _ _ => False) s₁) (fun _ _ => False) s)
    (n : Nat) (h : I n s) :
    codeAny (model prog w) A (.compLoop (.ListComp elt [⟨target, iter, ifs, 0⟩] scope pos) 0 it acc env) R s := by
  refine codeAny_loop rfl I (fun n s hI => ?_) n h
  show wpAny _ A ((compTurn (.ListComp elt [⟨target, iter, ifs, 0⟩] scope pos) 0 it acc env).onRaise (fun x => do noteFrame x env; theTreesLotGoes x)) _ _ s
  refine wpAny_noted ?_
  rw [compTurn_list]
  refine wpAny_bind (wpAny_standAt (wpAny_bind (wpAny_mono (turn n s hI) (fun r s₁ h₁ => ?_) fun _ _ h' => h'.elim)))
  cases r with
  | none => exact wpAny_pure h₁
  | some v =>
    refine wpAny_bind (wpAny_mono h₁ (fun _ s₁' h₁' => ?_) fun _ _ h' => h'.elim)
    refine wpAny_bind (wpAny_mono h₁' (fun _ s₂ h₂ => wpAny_bind (wpAny_mono h₂ (fun ok s₃ h₃ => ?_) fun _ _ h' => h'.elim)) fun _ _ h' => h'.elim)
    cases ok with
    | false => exact wpAny_pure ⟨rfl, h₃⟩
    | true =>
      exact wpAny_bind (wpAny_bind (wpAny_mono h₃ (fun x s₄ h₄ => wpAny_bind (wpAny_mono h₄ (fun _ s₅ h₅ => wpAny_pure (wpAny_pure ⟨rfl, h₅⟩)) fun _ _ h' => h'.elim)) fun _ _ h' => h'.elim))
end

abbrev TTs := St → Hp → (Bool → Hp → Prop) → Prop
def PTs (X : Cx) (ifs : List Expr) (t : TTs) : Prop :=
  ∀ (pins : List (Addr × Obj)) (s : Shared) (σ : St) (H : Hp) (Q : Bool → Hp → Prop), Inv X pins σ H s → t σ H Q →
    wpAny (model X.prog X.w) X.A (forIn ifs true fun c r => if r = true then do let ok ← isTrue c X.env (eval c X.env); pure (ForInStep.yield ok) else pure (ForInStep.yield r)) (TP X pins σ Q) X.xe s
def tNoIf : TTs := fun _ H Q => Q true H
theorem pts_nil {X : Cx} : PTs X [] tNoIf := fun _ _ _ H _ I h => wpAny_tests_nil ⟨H, I, h⟩
def tComp (own : Nat) (fv : List Nat) (wi : TI) (g : TG) (tt : TTs) (te : TE) : TE := fun σ H Q => wi σ H fun J H1 => ∀ D, H1 D = none →
  ∃ W : Nat → Nat → List V → St → Hp → Prop, (∃ m, W 0 m [] (blkSt own fv σ) (upd H1 D (.lst []))) ∧ ∀ i m ys σb H, W i m ys σb H → H D = some (.lst ys) ∧
    ((J.stop i H ∧ Q (.ref D) H) ∨ (J.go i H ∧ ∀ x H', J.yld i H x H' → g x σb H' fun σ2 H2 => tt σ2 H2 fun ok H3 => if ok = true then te σ2 H3 fun y H4 => H4 D = some (.lst ys) ∧ ys.length < sizeLine ∧ ∃ m', m' < m ∧ W (i + 1) m' (ys ++ [y]) σ2 (upd H4 D (.lst (ys ++ [y])))
      else ∃ m', m' < m ∧ W (i + 1) m' ys σ2 H3))

section
variable {X : Cx} {tg iter elt : Expr} {ifs : List Expr} {scope : Scope} {pos : Pos} {wi : TI} {g : TG} {tt : TTs} {te : TE} {own fvn : List Str} {fv : List Nat}

theorem comp_run {pins : List (Addr × Obj)} {σ : St} {s : Shared} {Q : VK} {E : Value → Shared → Prop} {cl : List (Str × Addr)} {RR : Value → Addr → Result → Shared → Prop} {itv : Value}
    (hc : X.calm = true) (B : BlkScope X scope own fvn fv) (h1 : ∀ x c, cl.lookup x = some c → X.env.cells.lookup x = some c) (h2 : ∀ x, (x, NameKind.free) ∈ scope.names → ∃ c, cl.lookup x = some c)
    (hb : ∀ (cl : List (Str × Addr)) (C : Addr) (fp : List Addr) (s : Shared) (H : Hp), PG (blockCx X (own ++ fvn) scope cl C fp s H) tg g ∧ PTs (blockCx X (own ++ fvn) scope cl C fp s H) ifs tt ∧ PE (blockCx X (own ++ fvn) scope cl C fp s H) elt te)
    (P : PIE X pins σ tg (fun J H1 => ∀ D, H1 D = none →
      ∃ W : Nat → Nat → List V → St → Hp → Prop, (∃ m, W 0 m [] (blkSt own.length fv σ) (upd H1 D (.lst []))) ∧ ∀ i m ys σb H, W i m ys σb H → H D = some (.lst ys) ∧
        ((J.stop i H ∧ Q (.ref D) H) ∨ (J.go i H ∧ ∀ x H', J.yld i H x H' → g x σb H' fun σ2 H2 => tt σ2 H2 fun ok H3 => if ok = true then te σ2 H3 fun y H4 => H4 D = some (.lst ys) ∧ ys.length < sizeLine ∧ ∃ m', m' < m ∧ W (i + 1) m' (ys ++ [y]) σ2 (upd H4 D (.lst (ys ++ [y])))
          else ∃ m', m' < m ∧ W (i + 1) m' ys σ2 H3))) itv s)
    (hRR : ∀ D C s' H' m, Inv X pins σ H' s' → s'.heap.Ns C m → FpOk X pins H' C → Q (.ref D) H' → RR (.ref D) C (.ok .next) s') :
    wpAny (model X.prog X.w) X.A (newList []) (fun acc s₃ => wpAny (model X.prog X.w) X.A (newFunctionEnv scope X.env.globals cl [] X.env.qual none .none (some X.env)) (fun cenv s₄ =>
      codeAny (model X.prog X.w) X.A (.compStart (.ListComp elt [⟨tg, iter, ifs, 0⟩] scope pos) 0 itv acc { cenv with scope := relabel scope X.env }) (RR acc cenv.locals) s₄) E s₃) E s := by
  obtain ⟨it, fp, tn, J, H2, rfl, I2, T, st2, f2, hW⟩ := P
  have hl : ∀ b ∈ fp, b < s.heap.objs.size := fun b hb => by
    obtain ⟨o, e, _⟩ := T.obj _ _ st2 b hb
    exact Heap.lt_size e
  refine wpAny_newObj_type (wpAny_newFunctionEnv B.cell (by intro y hy; simp at hy) (fun h₁ hns₁ hsb₁ => ?_) B.kind)
  dsimp only at hns₁ hsb₁ ⊢
  generalize hH2 : s.heap.push { cls := .type "list", dict := none, data := .seq ([] : List Value).toArray } = G2 at hns₁ hsb₁ ⊢
  have hC : G2.objs.size = s.heap.objs.size + 1 := by rw [← hH2, Heap.size_push]
  have hDC : s.heap.objs.size ≠ G2.objs.size := by rw [hC]; exact Nat.ne_of_lt (Nat.lt_succ_self _)
  have hCle : s.heap.objs.size ≤ G2.objs.size := by rw [hC]; exact Nat.le_succ _
  have old : ∀ b o, s.heap.get? b = some o → h₁.get? b = some o := fun b o e => hsb₁.extBut b o (by rw [hC]; exact Nat.ne_of_lt (Nat.lt_succ_of_lt (Heap.lt_size e))) (Heap.get?_push_of_some _ (hH2 ▸ Heap.get?_push_of_some _ e))
  have hacc : h₁.get? s.heap.objs.size = some { cls := .type "list", data := .seq #[] 0 } := hsb₁.extBut _ _ hDC (Heap.get?_push_of_some _ (hH2 ▸ Heap.get?_push_size _ rfl))
  obtain ⟨W, ⟨m0, w0⟩, turn⟩ := hW s.heap.objs.size (I2.hok.fresh (Nat.le_refl _))
  have J0 : ∀ t', Inv (blockCx X (own ++ fvn) scope cl G2.objs.size fp s H2) pins (blkSt own.length fv σ) (upd H2 s.heap.objs.size (.lst [])) { s with heap := h₁, toks := t' } := fun t' =>
    block_start I2 B hc h1 h2 f2 hl (Nat.le_refl _) hCle hDC old hns₁ hacc
  obtain ⟨hpg, hpt, hpe⟩ := hb cl G2.objs.size fp s H2
  have stat : ∀ {H' : Hp}, (∀ b ∈ fp, H' b = none) → ∀ b ∈ fp, FpOk (blockCx X (own ++ fvn) scope cl G2.objs.size fp s H2) pins H' b := fun hn b hb =>
    ⟨hn b hb, Nat.ne_of_lt (Nat.lt_of_lt_of_le (hl b hb) hCle), fun z => by
      rcases List.mem_cons.mp (I2.stkSub b z) with q | q
      · exact (f2 b hb).2.1 q
      · exact (f2 b hb).2.2.1 q, .inl hb, fun x c e => (f2 b hb).2.2.2.2.1 x c (h1 x c e), (f2 b hb).2.2.2.2.2⟩
  have st1 : tn 0 h₁ := T.keep _ _ _ st2 fun b hb o e => old b o e
  have fr1 : ∀ b ∈ fp, upd H2 s.heap.objs.size (.lst []) b = none := fun b hb => by
    rw [upd_ne (Nat.ne_of_lt (hl b hb))]; exact (f2 b hb).1
  have loop : ∀ s₃ : Shared, s₃ = { s with heap := h₁, toks := s.toks + ([] : List (Str × Value)).length } →
      codeAny (model X.prog X.w) X.A (.compLoop (.ListComp elt [⟨tg, iter, ifs, 0⟩] scope pos) 0 (.ref it) (.ref s.heap.objs.size) (compEnvC scope cl G2.objs.size X.env)) (RR (.ref s.heap.objs.size) G2.objs.size) s₃ := by
    rintro s₃ rfl
    refine comp_loop (fun n s' => ∃ i ys σ' H', Inv (blockCx X (own ++ fvn) scope cl G2.objs.size fp s H2) pins σ' H' s' ∧ tn i s'.heap ∧ (∀ b ∈ fp, H' b = none) ∧ W i n ys σ' H') ?_ m0 ⟨0, [], _, _, J0 _, st1, fr1, w0⟩
    rintro n s3 ⟨i, ys, σ3, H3, I3, st3, fr3, w3⟩
    obtain ⟨hD, w3⟩ := turn i n ys σ3 H3 w3
    rcases w3 with ⟨stop, qn⟩ | ⟨go, step⟩
    · refine thn (T.done (blockCx X (own ++ fvn) scope cl G2.objs.size fp s H2) rfl rfl rfl rfl i pins s3 σ3 H3 _ I3 (stat fr3) st3 stop) fun r s4 ⟨hr, I4⟩ => ?_
      subst hr
      obtain ⟨I5, fC⟩ := block_end I2 hCle f2 I4
      obtain ⟨m, hn, _⟩ := I4.loc
      exact hRR _ _ s4 H3 m I5 hn fC qn
    · refine thn (T.item (blockCx X (own ++ fvn) scope cl G2.objs.size fp s H2) rfl rfl rfl rfl i pins s3 σ3 H3 _ I3 (stat fr3) st3 go) fun r s4 ⟨u, hr, h4⟩ => ?_
      subst hr
      refine thn h4 fun _ s5 ⟨x, H5, I5, r5, y5, st5, fr5⟩ => ?_
      have I5' := I5.pinned (stat fr5) (T.obj _ _ st5)
      refine thn (hpg _ s5 σ3 H5 x u _ I5' r5 (step x H5 y5)) fun _ s6 ⟨σ6, H6, I6, q6⟩ => ?_
      refine thn (hpt _ s6 σ6 H6 _ I6 q6) fun ok s7 ⟨H7, I7, q7⟩ => ?_
      have again : ∀ {s8 : Shared} {σ8 : St} {H8 : Hp} {ys' : List V} {m' : Nat}, Inv (blockCx X (own ++ fvn) scope cl G2.objs.size fp s H2) (pins ++ pinsAt fp s5.heap) σ8 H8 s8 → m' < n → W (i + 1) m' ys' σ8 H8 →
          ∃ m, m < n ∧ ∃ i ys σ' H', Inv (blockCx X (own ++ fvn) scope cl G2.objs.size fp s H2) pins σ' H' s8 ∧ tn i s8.heap ∧ (∀ b ∈ fp, H' b = none) ∧ W i m ys σ' H' := fun {s8 σ8 H8 ys' m'} I8 hm w8 => by
        refine ⟨m', hm, i + 1, ys', σ8, H8, I8.unpinned, T.keep _ _ _ st5 fun b hb o e => (I8.pin (b, o) (List.mem_append_right _ (List.mem_append_right _ (mem_pinsAt hb e)))).1, fun b hb => ?_, w8⟩
        obtain ⟨o, e, d⟩ := T.obj _ _ st5 b hb
        exact (I8.pin (b, o) (List.mem_append_right _ (List.mem_append_right _ (mem_pinsAt hb e)))).2.1
      cases ok with
      | false =>
        rw [if_neg Bool.false_ne_true] at q7 ⊢
        obtain ⟨m', hm, w8⟩ := q7
        exact again I7 hm w8
      | true =>
        rw [if_pos rfl] at q7 ⊢
        refine thn (hpe _ s7 σ6 H7 _ I7 q7) fun yv s8 ⟨y, H8, I8, r8, hD8, hz8, m', hm, w8⟩ => ?_
        refine thn (mt_append _ s8 σ6 H8 (.ref s.heap.objs.size) [y] _ [yv] (fun _ H9 => H9 = upd H8 s.heap.objs.size (.lst (ys ++ [y]))) I8 rfl (.cons r8 .nil) ⟨_, ys, y, rfl, rfl, hD8, hz8, rfl⟩) fun _ s9 ⟨_, H9, I9, _, e9⟩ => ?_
        subst e9
        exact again I9 hm w8
  exact codeAny_compStart_list (loop _ rfl) (T.self _ 0 _ _ _ st1 (loop _ rfl))

theorem blk_closure (B : BlkScope X scope own fvn fv) (ok : X.Ok) : ∃ cl, closureFor scope X.env = pure cl ∧ (∀ x c, cl.lookup x = some c → X.env.cells.lookup x = some c) ∧ ∀ x, (x, NameKind.free) ∈ scope.names → ∃ c, cl.lookup x = some c :=
  closure_of fun x hx hk => ok.has x.1 (B.free x hx hk)

theorem pe_comp (hc : X.calm = true) (B : BlkScope X scope own fvn fv) (hi : PI X tg iter wi)
    (hb : ∀ (cl : List (Str × Addr)) (C : Addr) (fp : List Addr) (s : Shared) (H : Hp), PG (blockCx X (own ++ fvn) scope cl C fp s H) tg g ∧ PTs (blockCx X (own ++ fvn) scope cl C fp s H) ifs tt ∧ PE (blockCx X (own ++ fvn) scope cl C fp s H) elt te)
    (hs : ∀ x, foldedSetIterable iter X.env x = pure x := by intro _; rfl) : PE X (.ListComp elt [⟨tg, iter, ifs, 0⟩] scope pos) (tComp own.length fv wi g tt te) := by
  intro pins s σ H Q I h
  obtain ⟨cl, hcl, h1, h2⟩ := blk_closure B I.ok
  rw [eval_ListComp]
  refine wpAny_comprehension_free (use := none) rfl hs hcl B.kind B.names (thn (hi pins s σ H _ I h) fun v s1 q1 => thn q1 fun itv s2 q2 => ?_)
  refine comp_run (RR := fun acc C => compPost (model X.prog X.w) X.A X.xe none (EP X pins σ Q) acc C) hc B h1 h2 hb q2 fun D C s' H' m I' hn fC q => ?_
  exact ⟨m, hn, fun h' hs' => ⟨.ref D, H', I'.turned (t' := s'.toks) (fun b o hb e => (hs'.2 b hb).trans e) fC.1 fC.2.1 fC.2.2.2.1 fC.2.2.2.2.1 fC.2.2.2.2.2, rfl, q⟩⟩

theorem ps_setc {i : Nat} {x : Str} {pos' spos : Pos} (hc : X.calm = true) (hN : X.N.Nodup) (hix : X.N[i]? = some x) (hx : X.env.scope.names.lookup x = some .local) (B : BlkScope X scope own fvn fv) (hi : PI X tg iter wi)
    (hb : ∀ (cl : List (Str × Addr)) (C : Addr) (fp : List Addr) (s : Shared) (H : Hp), PG (blockCx X (own ++ fvn) scope cl C fp s H) tg g ∧ PTs (blockCx X (own ++ fvn) scope cl C fp s H) ifs tt ∧ PE (blockCx X (own ++ fvn) scope cl C fp s H) elt te)
    (hsw : swapsWith (.ListComp elt [⟨tg, iter, ifs, 0⟩] scope pos) (some (.Name x pos')) spos.line X.env = pure true := by rfl)
    (hs : ∀ x, foldedSetIterable iter X.env x = pure x := by intro _; rfl) :
    PS X (.Assign [.Name x pos'] (.ListComp elt [⟨tg, iter, ifs, 0⟩] scope pos) spos) (tAsg (tComp own.length fv wi g tt te) (gName i)) := by
  intro pins s σ H D I h
  obtain ⟨cl, hcl, h1, h2⟩ := blk_closure B I.ok
  rw [exec_Assign_Name_used _ _ _ _ hsw]
  refine wpAny_bind (wpAny_standAt (wpAny_bind ?_))
  show wpAny _ _ (do let _ ← comprehension (.ListComp elt [⟨tg, iter, ifs, 0⟩] scope pos) scope X.env _ (newList []) false (eval iter X.env) (some (assign (.Name x pos') X.env))) _ _ s
  refine wpAny_bind (wpAny_mono (wpAny_comprehension_free (use := some (assign (.Name x pos') X.env)) (Q := fun _ s' => SP X pins D .next s') rfl hs hcl B.kind B.names
    (thn (hi pins s σ H _ I h) fun v s1 q1 => thn q1 fun itv s2 q2 => ?_)) (fun _ s' hq => wpAny_pure (wpAny_pure hq)) fun _ _ e => e)
  refine comp_run (Q := fun v H1 => gName i v σ H1 D.nx) (RR := fun acc C => compPost (model X.prog X.w) X.A X.xe (some (assign (.Name x pos') X.env)) (fun _ s' => SP X pins D .next s') acc C) hc B h1 h2 hb q2 fun Da C s' H' m I' hn fC q => ?_
  show wpAny _ _ (assign (.Name x pos') X.env (.ref Da)) _ _ _
  refine wpAny_assign_Name (store_ok2 I' hN hix (.inl hx) (v := .ref Da) rfl (fun s'' I'' ⟨a, hsb, ha⟩ => ?_) (.inr hx))
  have hCa : C ≠ a := by
    rcases ha with z | z
    · rw [z]; exact fC.2.1
    · exact Ne.symm (fC.2.2.2.2.1 x a z)
  refine ⟨m, hn.sameBut hsb hCa, fun h'' hs'' => ⟨_, H', I''.turned (t' := s''.toks) (fun b o hb e => (hs''.2 b hb).trans e) fC.1 fC.2.1 fC.2.2.2.1 fC.2.2.2.2.1 fC.2.2.2.2.2, q⟩⟩
end
end L2

namespace L2
open PySem PySem.Spec PyProof.Rows

section
variable {X : Cx} {pins : List (Addr × Obj)} {σ : St} {H : Hp} {s : Shared} {h' : Heap}
theorem Inv.turnedNew {t' : Nat} {ch : List Addr} {T : Addr} {o : HO} (I : Inv X pins σ H s) (hf : ∀ b ∈ ch, FpOk X pins H b) (k : ∀ b u, b ∉ ch → s.heap.get? b = some u → h'.get? b = some u) (hT : s.heap.objs.size ≤ T)
    (new : ObjOk X.prog X.w (upd H T o) h' T o) : Inv X pins σ (upd H T o) { s with heap := h', toks := t' } := by
  have hn : H T = none := I.hok.fresh hT
  have lt : ∀ b u, s.heap.get? b = some u → b ≠ T := fun b u e => Nat.ne_of_lt (Nat.lt_of_lt_of_le (Heap.lt_size e) hT)
  refine I.step (g' := s.gens) (d' := s.drawn) (ch := ch) (fun b hb => ⟨(hf b hb).2.2.2.1, (hf b hb).2.1, (hf b hb).2.2.2.2.1, (hf b hb).2.2.2.2.2⟩) (fun b u _ _ hc e _ => k b u hc e) (fun b u _ _ hc e _ => ⟨u.slots, k b u hc e⟩)
    (fun b u _ e n => by rw [upd_ne (lt b u e)]; exact n) (fun b u hc e => ⟨u, k b u hc e⟩) (fun b xs e => by rw [upd_ne (ne_of_none e hn)]; exact e) (fun b u xs e => by rw [upd_ne (ne_of_none e hn)]; exact e)
    (fun b ps e => ⟨#[], by rw [upd_ne (ne_of_none e hn), e]; simp⟩) (fun m hm => ?_) (fun b u e => ?_) I.bare
  · obtain ⟨o, es, ep, ho, r⟩ := hm
    exact ⟨o, es, ep, k _ o (fun z => (hf _ z).2.1 rfl) ho, r⟩
  · by_cases hb : b = T
    · subst hb; rw [upd_same] at e; cases e; exact new
    · rw [upd_ne hb] at e
      refine (I.hok b u e).stay (fun c v hc q => k c v (fun z => ?_) q) (fun c q => by rw [upd_ne (ne_of_none q hn)]; exact q) fun c xs q => by rw [upd_ne (ne_of_none q hn)]; exact q
      have z' := (hf c z).1
      rcases hc with hc | hc
      · rw [hc, e] at z'; cases z'
      · rw [hc] at z'; cases z'
theorem Inv.turnedL {t' : Nat} {ch : List Addr} (I : Inv X pins σ H s) (hf : ∀ b ∈ ch, FpOk X pins H b) (k : ∀ b u, b ∉ ch → s.heap.get? b = some u → h'.get? b = some u) : Inv X pins σ H { s with heap := h', toks := t' } := by
  refine I.step (g' := s.gens) (d' := s.drawn) (ch := ch) (fun b hb => ⟨(hf b hb).2.2.2.1, (hf b hb).2.1, (hf b hb).2.2.2.2.1, (hf b hb).2.2.2.2.2⟩) (fun b u _ _ hc e _ => k b u hc e) (fun b u _ _ hc e _ => ⟨u.slots, k b u hc e⟩)
    (fun b u _ e n => n) (fun b u hc e => ⟨u, k b u hc e⟩) (fun b xs e => e) (fun b u xs e => e) (fun b ps e => ⟨#[], by rw [e]; simp⟩) (fun m hm => ?_) (fun b u e => ?_) I.bare
  · obtain ⟨o, es, ep, ho, r⟩ := hm
    exact ⟨o, es, ep, k _ o (fun z => (hf _ z).2.1 rfl) ho, r⟩
  · refine (I.hok b u e).stay (fun c v hc q => k c v (fun z => ?_) q) (fun c q => q) fun c xs q => q
    have z' := (hf c z).1
    rcases hc with hc | hc
    · rw [hc, e] at z'; cases z'
    · rw [hc] at z'; cases z'
end

def Itz (K : PySem.W.Frag) (a b : Addr) : It :=
  ⟨fun i H => ∃ xs ys x y, SqL K H a xs ∧ SqL K H b ys ∧ xs[i]? = some x ∧ ys[i]? = some y,
   fun i H v H' => ∃ p x y, v = .ref p ∧ H p = none ∧ H' = upd H p (.tup [x, y]) ∧ ∀ xs ys, SqL K H a xs → SqL K H b ys → xs[i]? = some x ∧ ys[i]? = some y,
   fun i H => ∃ xs ys, SqL K H a xs ∧ SqL K H b ys ∧ (xs.length ≤ i ∨ ys.length ≤ i)⟩
theorem turn_zip {P : Program} {w : World} {K : PySem.W.Frag} {elts : List Expr} {x1 : Nat} {tp : Pos} {a b z TI TO i1 i2 : Addr} (D : ZipApart z TI TO i1 i2 a b) :
    Turn P w K (.Tuple elts x1 tp) (Itz K a b) [z, TI, TO, i1, i2] z
      (fun i h => IsZip h z TI TO .none ∧ IsPair h TI (.ref i1) (.ref i2) ∧ (∃ p q, IsPair h TO p q) ∧ h.IsListIter i1 a i ∧ h.IsListIter i2 b i) where
  mem := by simp
  obj := fun i h st c hc => by
    obtain ⟨hz, hTI, ⟨p, q, hTO⟩, ⟨o1, e1, _, d1⟩, ⟨o2, e2, _, d2⟩⟩ := st
    simp only [List.mem_cons, List.not_mem_nil, or_false] at hc
    rcases hc with rfl | rfl | rfl | rfl | rfl
    · exact ⟨_, hz, fun v z => by cases z⟩
    · exact ⟨_, hTI, fun v z => by cases z⟩
    · exact ⟨_, hTO, fun v z => by cases z⟩
    · exact ⟨o1, e1, fun v z => by rw [d1] at z; cases z⟩
    · exact ⟨o2, e2, fun v z => by rw [d2] at z; cases z⟩
  keep := fun i h h' st k => by
    obtain ⟨hz, hTI, ⟨p, q, hTO⟩, h1, h2⟩ := st
    exact ⟨k z (by simp) _ hz, k TI (by simp) _ hTI, ⟨p, q, k TO (by simp) _ hTO⟩, h1.at fun o e => k i1 (by simp) o e, h2.at fun o e => k i2 (by simp) o e⟩
  item := by
    intro X hP hw hK hc i pins s σ H E I hf st hg
    subst hP hw hK
    obtain ⟨xs, ys, x, y, hxs, hys, hx, hy⟩ := hg
    obtain ⟨itx, rx, px, hzx⟩ := I.list hxs
    obtain ⟨ity, ry, py, hzy⟩ := I.list hys
    obtain ⟨u, hu, ru⟩ := rx.get hx
    obtain ⟨v, hv, rv⟩ := ry.get hy
    obtain ⟨hz, hTI, ⟨p, q, hTO⟩, h1, h2⟩ := st
    refine wpAny_pyNext_zip_item (x := u) (y := v) D hz hTI hTO h1 h2 px.isList py.isList (by simpa using hu) (by simpa using hv) fun h' a1 a2 a3 a4 a5 a6 hk => ?_
    refine ⟨_, rfl, wpAny_letOwnedTupleGo_zip a1 fun h'' b1 b2 => ?_⟩
    have zlt : z < s.heap.objs.size := Heap.lt_size hz
    have lt : ∀ c ∈ [z, TI, TO, i1, i2], c < s.heap.objs.size := fun c hc => by
      simp only [List.mem_cons, List.not_mem_nil, or_false] at hc
      rcases hc with rfl | rfl | rfl | rfl | rfl
      · exact zlt
      · exact Heap.lt_size hTI
      · exact Heap.lt_size hTO
      · obtain ⟨_, e, _⟩ := h1; exact Heap.lt_size e
      · obtain ⟨_, e, _⟩ := h2; exact Heap.lt_size e
    have tup : IsPair h'' s.heap.objs.size u v := b2.extBut _ _ (Nat.ne_of_gt zlt) a5
    have I1 : Inv X pins σ (upd H s.heap.objs.size (.tup [x, y])) { s with heap := h'' } := by
      refine I.turnedNew (t' := s.toks) (ch := [z, TO, i1, i2]) (fun c hc => hf c ?_) (fun c ob hc e => ?_) (Nat.le_refl _) ?_
      · simp only [List.mem_cons, List.not_mem_nil, or_false] at hc ⊢
        rcases hc with z | z | z | z <;> simp [z]
      · simp only [List.mem_cons, List.not_mem_nil, or_false, not_or] at hc
        exact b2.extBut _ _ hc.1 (hk c ob hc.1 hc.2.1 hc.2.2.1 hc.2.2.2 e)
      · exact ⟨by show 2 ≤ sizeLine; decide, [u, v], .cons ru (.cons rv .nil), ⟨_, tup, rfl, _, rfl⟩⟩
    refine ⟨.ref s.heap.objs.size, _, I1, rfl, ⟨_, x, y, rfl, I.hok.fresh (Nat.le_refl _), rfl, fun xs' ys' q1 q2 => ?_⟩, ⟨b1, ?_, ⟨_, _, b2.extBut _ _ D.TOz a2⟩, a3.extBut b2.extBut D.i1z, a4.extBut b2.extBut D.i2z⟩, fun c hc => ?_⟩
    · rw [I.list_inj q1 hxs, I.list_inj q2 hys]; exact ⟨hx, hy⟩
    · exact b2.extBut _ _ D.TIz (hk _ _ D.TIz D.TITO D.TIi1 D.TIi2 hTI)
    · rw [upd_ne (Nat.ne_of_lt (lt c hc))]; exact (hf c hc).1
  done := by
    intro X hP hw hK hc i pins s σ H E I hf st hg
    subst hP hw hK
    obtain ⟨xs, ys, hxs, hys, hend⟩ := hg
    obtain ⟨itx, rx, px, hzx⟩ := I.list hxs
    obtain ⟨ity, ry, py, hzy⟩ := I.list hys
    obtain ⟨hz, hTI, ⟨p, q, hTO⟩, h1, h2⟩ := st
    have lx := rx.length
    have ly := ry.length
    refine wpAny_pyNext_zip_end (I.ok.hd hc) D hz hTI hTO h1 h2 px.isList py.isList ?_ fun h' hk => ⟨rfl, ?_⟩
    · rcases hend with e | e
      · exact .inl (by simp; omega)
      · exact .inr (by simp; omega)
    · refine I.turnedL (t' := s.toks) (ch := [z, TO, i1, i2]) (fun c hc => hf c ?_) (fun c ob hc e => ?_)
      · simp only [List.mem_cons, List.not_mem_nil, or_false] at hc ⊢
        rcases hc with z | z | z | z <;> simp [z]
      · simp only [List.mem_cons, List.not_mem_nil, or_false, not_or] at hc
        exact hk c ob hc.1 hc.2.1 hc.2.2.1 hc.2.2.2 e
  self := fun _ _ _ _ _ st h => wpAny_pyIter_zip st.1 h

section
variable {X : Cx}
def iZip (K : PySem.W.Frag) (ta : TA) : TI := fun σ H R => ta σ H fun vs H1 => ∃ a b, vs = [.ref a, .ref b] ∧ (∃ xs, SqL K H1 a xs) ∧ (∃ ys, SqL K H1 b ys) ∧ R (Itz K a b) H1
theorem pi_zip {a b : Expr} {ta : TA} {p pos tp : Pos} {elts : List Expr} {x1 : Nat} (hg : Gl X "zip") (hm : X.mg "zip" = none) (ha : PA X [a, b] ta) (hs : starEach [a, b] X.env = [(false, eval a X.env), (false, eval b X.env)] := by rfl) (hs2 : starEach [b] X.env = [(false, eval b X.env)] := by rfl) :
    PI X (.Tuple elts x1 tp) (.Call (.Name "zip" p) [a, b] [] pos) (iZip X.K ta) := by
  intro pins s σ H R I h
  refine Call_ (ld_blt I hg hm boot_zip (PyProof.Rows.callWith_type1 (thn (ha pos pins s σ H _ I h) fun us s1 ⟨vs, H1, I1, r1, q1⟩ => ?_) (by rw [hs, hs2]) (by rw [hs2]; rfl)))
  obtain ⟨l1, l2, e, ⟨xs, hx⟩, ⟨ys, hy⟩, q⟩ := q1
  subst e
  cases r1 with
  | cons r rr =>
    cases rr with
    | cons r' rr =>
      cases rr
      cases r
      cases r'
      obtain ⟨itx, rx, px, hzx⟩ := I1.list hx
      obtain ⟨ity, ry, py, hzy⟩ := I1.list hy
      have lt1 : @LT.lt Nat _ l1 s1.heap.objs.size := by obtain ⟨o, e, _⟩ := px.isList; exact Heap.lt_size e
      have lt2 : @LT.lt Nat _ l2 s1.heap.objs.size := by obtain ⟨o, e, _⟩ := py.isList; exact Heap.lt_size e
      refine call_zip_2 px.isList py.isList fun h' hz hTI hTO h1 h2 hsz hk => ?_
      refine wpAny_pyIter_zip hz ?_
      have D : ZipApart (s1.heap.objs.size + 4) (s1.heap.objs.size + 2) (s1.heap.objs.size + 3) s1.heap.objs.size (s1.heap.objs.size + 1) l1 l2 := by
        constructor <;> (show @Ne Nat _ _; omega)
      refine ⟨s1.heap.objs.size + 4, [s1.heap.objs.size + 4, s1.heap.objs.size + 2, s1.heap.objs.size + 3, s1.heap.objs.size, s1.heap.objs.size + 1], _, Itz X.K l1 l2, H1, rfl, I1.kept (t' := s1.toks) hk, turn_zip D, ⟨hz, hTI, ⟨_, _, hTO⟩, h1, h2⟩, fun c hc => ?_, q⟩
      have hle : @LE.le Nat _ s1.heap.objs.size c := by
        simp only [List.mem_cons, List.not_mem_nil, or_false] at hc
        rcases hc with rfl | rfl | rfl | rfl | rfl <;> omega
      exact I1.fpOk hle (I1.hok.fresh hle)
end

section
variable {X : Cx}
def rIsi (K : PySem.W.Frag) : List V → Hp → VK → Prop := fun xs H Q => ∃ x t b, ((∃ n, xs = [x, .ty n] ∧ PySem.W.kitOne K t (.type n) = some b) ∨ (∃ C, xs = [x, .ref C] ∧ PySem.W.kitOne K t (.ref C) = some b)) ∧ TyOf K H x t ∧ Q (.bl b) H
theorem call_isi : CallR X (.builtin "isinstance") (rIsi X.K) := by
  intro pins s σ H xs us Q I r h
  obtain ⟨x, t, b, hx, ty, q⟩ := h
  rcases hx with ⟨n, rfl, e⟩ | ⟨C, rfl, e⟩
  · obtain ⟨u, w', rfl, rx, ry⟩ := vals2 r
    cases ry
    exact isinst_ok I rx ty e fun tk => ⟨.bl b, H, I.tok _, rfl, q⟩
  · obtain ⟨u, w', rfl, rx, ry⟩ := vals2 r
    cases ry
    exact isinst_ok I rx ty e fun tk => ⟨.bl b, H, I.tok _, rfl, q⟩
end

inductive EqV (K : PySem.W.Frag) (H : Hp) : Nat → V → V → Bool → Prop where
  | flat {n : Nat} {x y : V} (fx : flatV x = true) (fy : flatV y = true) : EqV K H n x y (eqV x y)
  | same {n : Nat} {a : Addr} : EqV K H n (.ref a) (.ref a) true
  | lists {n : Nat} {a b : Addr} {xs ys : List V} {e : Nat → Bool} (ne : a ≠ b) (ha : SqL K H a xs) (hb : SqL K H b ys) (hl : xs.length = ys.length)
      (he : ∀ (j : Nat) (x y : V), xs[j]? = some x → ys[j]? = some y → EqV K H n x y (e j)) : EqV K H (n + 1) (.ref a) (.ref b) ((List.range xs.length).all e)
  | lens {n : Nat} {a b : Addr} {xs ys : List V} (ne : a ≠ b) (ha : SqL K H a xs) (hb : SqL K H b ys) (hl : xs.length ≠ ys.length) : EqV K H (n + 1) (.ref a) (.ref b) false
theorem EqV.at {X : Cx} {pins : List (Addr × Obj)} {σ : St} {H : Hp} {s : Shared} (I : Inv X pins σ H s) {n : Nat} {x y : V} {k : Bool} (h : EqV X.K H n x y k) :
    ∀ {A : Around} {u v : Value}, RelV x u → RelV y v → A.units + n < cLine → SeqAt.EqAt A s u v k := by
  induction h with
  | flat fx fy => intro A u v rx ry _; exact eqAt_V rx ry fx fy
  | same => intro A u v rx ry _; cases rx; cases ry; exact SeqAt.EqAt.same _
  | @lists n a b xs ys e ne ha hb hl he ih =>
    intro A u v rx ry hu
    cases rx
    cases ry
    obtain ⟨ita, ra, pa, za⟩ := I.list ha
    obtain ⟨itb, rb, pb, zb⟩ := I.list hb
    have la := ra.length
    have lb := rb.length
    have q := SeqAt.RcAt.lists (A := A) (e := e) pa.isList pb.isList (by simp; omega) (by omega) fun j h1 h2 => ?_
    · rw [List.size_toArray, ← la] at q
      exact SeqAt.EqAt.of_refs ne q
    · have h1' : j < ita.length := by simpa using h1
      have h2' : j < itb.length := by simpa using h2
      obtain ⟨u', hu', ru⟩ := ra.get (i := j) (x := xs[j]'(by omega)) (List.getElem?_eq_getElem (by omega))
      obtain ⟨v', hv', rv⟩ := rb.get (i := j) (x := ys[j]'(by omega)) (List.getElem?_eq_getElem (by omega))
      have eu : ita.toArray[j] = u' := by
        rw [List.getElem?_eq_getElem h1'] at hu'
        simpa using hu'
      have ev : itb.toArray[j] = v' := by
        rw [List.getElem?_eq_getElem h2'] at hv'
        simpa using hv'
      rw [eu, ev]
      exact ih j _ _ (List.getElem?_eq_getElem (by omega)) (List.getElem?_eq_getElem (by omega)) ru rv (by show A.units + 1 + n < cLine; omega)
  | @lens n a b xs ys ne ha hb hl =>
    intro A u v rx ry hu
    cases rx
    cases ry
    obtain ⟨ita, ra, pa, za⟩ := I.list ha
    obtain ⟨itb, rb, pb, zb⟩ := I.list hb
    have la := ra.length
    have lb := rb.length
    exact SeqAt.EqAt.of_refs ne (SeqAt.RcAt.lists_lengths pa.isList pb.isList (by simp; omega) (by omega))
def rEqL (K : PySem.W.Frag) (neg : Bool) : R2 := fun x y H Q => ∃ a b n xs ys, x = .ref a ∧ y = .ref b ∧ SqL K H a xs ∧ SqL K H b ys ∧ n ≤ 50 ∧
  ((xs.length ≠ ys.length ∧ Q (.bl neg) H) ∨ ∃ e : Nat → Bool, xs.length = ys.length ∧ (∀ (j : Nat) (x y : V), xs[j]? = some x → ys[j]? = some y → EqV K H n x y (e j)) ∧ Q (.bl (if neg then !(List.range xs.length).all e else (List.range xs.length).all e)) H)
section
variable {X : Cx}
theorem eqL_items {pins : List (Addr × Obj)} {σ : St} {H : Hp} {s : Shared} (I : Inv X pins σ H s) {n : Nat} {xs ys : List V} {ita itb : List Value} {e : Nat → Bool} (ra : Vals xs ita) (rb : Vals ys itb) (he : ∀ (j : Nat) (x y : V), xs[j]? = some x → ys[j]? = some y → EqV X.K H n x y (e j))
    {A : Around} (hu : A.units + 1 + n < cLine) : ∀ j (h1 : j < ita.toArray.size) (h2 : j < itb.toArray.size), SeqAt.EqAt A.in1 s ita.toArray[j] itb.toArray[j] (e j) := fun j h1 h2 => by
  have la := ra.length
  have lb := rb.length
  have h1' : j < ita.length := by simpa using h1
  have h2' : j < itb.length := by simpa using h2
  obtain ⟨u', hu', ru⟩ := ra.get (i := j) (x := xs[j]'(by omega)) (List.getElem?_eq_getElem (by omega))
  obtain ⟨v', hv', rv⟩ := rb.get (i := j) (x := ys[j]'(by omega)) (List.getElem?_eq_getElem (by omega))
  have eu : ita.toArray[j] = u' := by
    rw [List.getElem?_eq_getElem h1'] at hu'
    simpa using hu'
  have ev : itb.toArray[j] = v' := by
    rw [List.getElem?_eq_getElem h2'] at hv'
    simpa using hv'
  rw [eu, ev]
  exact (he j _ _ (List.getElem?_eq_getElem (by omega)) (List.getElem?_eq_getElem (by omega))).at I ru rv hu
theorem op_eqL (hu : X.A.units + 64 < cLine) : OpR X (compareOp .Eq) (rEqL X.K false) := by
  intro pins s σ H x y v u Q I rx ry h
  obtain ⟨a, b, n, xs, ys, rfl, rfl, ha, hb, hn, h⟩ := h
  cases rx
  cases ry
  obtain ⟨ita, ra, pa, za⟩ := I.list ha
  obtain ⟨itb, rb, pb, zb⟩ := I.list hb
  have la := ra.length
  have lb := rb.length
  rcases h with ⟨hl, q⟩ | ⟨e, hl, he, q⟩
  · exact SeqAt.eq_list_lengthsAt pa.isList pb.isList (by simp; omega) (by omega) ⟨.bl false, H, I, rfl, q⟩
  · refine SeqAt.eq_listAt (e := e) pa.isList pb.isList (by simp; omega) (by omega) (eqL_items I ra rb he (by omega)) ?_
    rw [List.size_toArray, ← la]
    exact ⟨.bl _, H, I, rfl, q⟩
end
theorem all_eq {α : Type} [DecidableEq α] {xs ys : List α} (h : xs.length = ys.length) : (List.range xs.length).all (fun j => decide (xs[j]? = ys[j]?)) = decide (xs = ys) := by
  rw [Bool.eq_iff_iff, List.all_eq_true, decide_eq_true_iff]
  constructor
  · intro z
    refine List.ext_getElem? fun i => ?_
    by_cases hi : i < xs.length
    · exact of_decide_eq_true (z i (List.mem_range.mpr hi))
    · rw [List.getElem?_eq_none (by omega), List.getElem?_eq_none (by omega)]
  · rintro rfl i _
    exact decide_eq_true rfl
theorem rEqL.ints {K : PySem.W.Frag} {neg : Bool} {H : Hp} {Q : VK} {a b : Addr} {ns ms : List Int} (ha : SqL K H a (ns.map V.int)) (hb : SqL K H b (ms.map V.int)) (q : Q (.bl (if neg then !decide (ns = ms) else decide (ns = ms))) H) :
    rEqL K neg (.ref a) (.ref b) H Q := by
  refine ⟨a, b, 0, _, _, rfl, rfl, ha, hb, by omega, ?_⟩
  by_cases hl : ns.length = ms.length
  · refine .inr ⟨fun j => decide (ns[j]? = ms[j]?), by simp [hl], fun j x y hx hy => ?_, ?_⟩
    · rw [List.getElem?_map] at hx hy
      cases e1 : ns[j]? with
      | none => rw [e1] at hx; cases hx
      | some i =>
        cases e2 : ms[j]? with
        | none => rw [e2] at hy; cases hy
        | some k =>
          rw [e1] at hx
          rw [e2] at hy
          cases hx
          cases hy
          have q := EqV.flat (K := K) (H := H) (n := 0) (x := .int i) (y := .int k) rfl rfl
          have e : eqV (.int i) (.int k) = decide (some i = some k) := by
            show (i == k) = _
            rw [Bool.beq_eq_decide_eq]
            simp
          rw [e] at q
          show EqV K H 0 (V.int i) (V.int k) (decide (ns[j]? = ms[j]?))
          rw [e1, e2]
          exact q
    · rw [List.length_map, all_eq hl]
      exact q
  · refine .inl ⟨by simpa using hl, ?_⟩
    have e : decide (ns = ms) = false := decide_eq_false (fun z => hl (by rw [z]))
    rw [e] at q
    cases neg <;> exact q
def Rows (K : PySem.W.Frag) (H : Hp) (a : Addr) (xss : List (List Int)) : Prop :=
  ∃ as : List Addr, SqL K H a (as.map V.ref) ∧ as.length = xss.length ∧ ∀ (j : Nat) (p : Addr) (ns : List Int), as[j]? = some p → xss[j]? = some ns → H p = some (.lst (ns.map V.int))
theorem map_int_inj {ns ms : List Int} (h : ns.map V.int = ms.map V.int) : ns = ms := by
  induction ns generalizing ms with
  | nil => cases ms with
    | nil => rfl
    | cons _ _ => cases h
  | cons x r ih => cases ms with
    | nil => cases h
    | cons y s =>
      injection h with h1 h2
      injection h1 with h1
      rw [h1, ih h2]
theorem EqV.ints {K : PySem.W.Frag} {H : Hp} {n : Nat} {a b : Addr} {ns ms : List Int} (ha : H a = some (.lst (ns.map V.int))) (hb : H b = some (.lst (ms.map V.int))) : EqV K H (n + 1) (.ref a) (.ref b) (decide (ns = ms)) := by
  by_cases hab : a = b
  · subst hab
    rw [ha] at hb
    have e : ns = ms := map_int_inj (by injection hb with hb; injection hb)
    rw [decide_eq_true e]
    exact .same
  · by_cases hl : ns.length = ms.length
    · have q := EqV.lists (K := K) (H := H) (n := n) (e := fun j => decide (ns[j]? = ms[j]?)) hab (SqL.of ha) (SqL.of hb) (by simp [hl]) fun j x y hx hy => ?_
      · rw [List.length_map, all_eq hl] at q
        exact q
      · rw [List.getElem?_map] at hx hy
        cases e1 : ns[j]? with
        | none => rw [e1] at hx; cases hx
        | some i =>
          cases e2 : ms[j]? with
          | none => rw [e2] at hy; cases hy
          | some k =>
            rw [e1] at hx
            rw [e2] at hy
            cases hx
            cases hy
            have q := EqV.flat (K := K) (H := H) (n := n) (x := .int i) (y := .int k) rfl rfl
            have e : eqV (.int i) (.int k) = decide (some i = some k) := by
              show (i == k) = _
              rw [Bool.beq_eq_decide_eq]
              simp
            rw [e] at q
            exact q
    · rw [decide_eq_false (fun z => hl (by rw [z]))]
      exact .lens hab (SqL.of ha) (SqL.of hb) (by simpa using hl)
theorem rEqL.rows {K : PySem.W.Frag} {neg : Bool} {H : Hp} {Q : VK} {a b : Addr} {xss yss : List (List Int)} (ha : Rows K H a xss) (hb : Rows K H b yss) (q : Q (.bl (if neg then !decide (xss = yss) else decide (xss = yss))) H) :
    rEqL K neg (.ref a) (.ref b) H Q := by
  obtain ⟨as, hsa, hla, hra⟩ := ha
  obtain ⟨bs, hsb, hlb, hrb⟩ := hb
  refine ⟨a, b, 1, _, _, rfl, rfl, hsa, hsb, by omega, ?_⟩
  by_cases hl : xss.length = yss.length
  · refine .inr ⟨fun j => decide (xss[j]? = yss[j]?), by simp; omega, fun j x y hx hy => ?_, ?_⟩
    · rw [List.getElem?_map] at hx hy
      cases e1 : as[j]? with
      | none => rw [e1] at hx; cases hx
      | some p =>
        cases e2 : bs[j]? with
        | none => rw [e2] at hy; cases hy
        | some p2 =>
          rw [e1] at hx
          rw [e2] at hy
          cases hx
          cases hy
          have h1 : j < xss.length := by have := (List.getElem?_eq_some_iff.mp e1).1; omega
          have h2 : j < yss.length := by omega
          have q := EqV.ints (K := K) (n := 0) (hra j p _ e1 (List.getElem?_eq_getElem h1)) (hrb j p2 _ e2 (List.getElem?_eq_getElem h2))
          show EqV K H 1 (V.ref p) (V.ref p2) (decide (xss[j]? = yss[j]?))
          rw [List.getElem?_eq_getElem h1, List.getElem?_eq_getElem h2]
          have e : decide (xss[j] = yss[j]) = decide (some xss[j] = some yss[j]) := by simp
          rw [e] at q
          exact q
    · rw [List.length_map, hla, all_eq hl]
      exact q
  · refine .inl ⟨by simp; omega, ?_⟩
    have e : decide (xss = yss) = false := decide_eq_false (fun z => hl (by rw [z]))
    rw [e] at q
    cases neg <;> exact q

section
variable {X : Cx}
theorem log_of {n k m : Nat} (h : n < 2 ^ k) (hk : k ≤ m) (hm : 0 < m) : n.log2 < m := by
  by_cases hn : n = 0
  · subst hn
    exact Nat.lt_of_le_of_lt (by decide : Nat.log2 0 ≤ 0) hm
  · exact Nat.lt_of_lt_of_le ((Nat.log2_lt hn).mpr h) hk
theorem bits_of {i : Int} {k : Nat} (h : i.natAbs.log2 < k) : Builtin.Int.intBits i ≤ k := by
  unfold Builtin.Int.intBits
  split
  · exact Nat.zero_le _
  · omega
def CDivB (i j : Int) : Prop := 0 < j ∧ j.natAbs.log2 < 9000
theorem op_fdivB : OpR X (binaryOp .FloorDiv) (rI CDivB fun i j => .int (i / j)) := opI fun i j _ _ _ _ _ hc q => by
  have hj : j ≠ 0 := by have := hc.1; omega
  have e : i.fdiv j = i / j := Int.fdiv_eq_ediv_of_nonneg _ (by have := hc.1; omega)
  exact floordiv_int hj (by rw [e]; exact q) (.inl (PyProof.noPylong_of_log2 hc.2))
end
end L2

namespace L2
open PySem PySem.Spec PyProof.Rows

def blkChk (scope osc : Scope) (N own fvn : List Str) (fv : List Nat) : Bool :=
  (scope.names.all fun y => y.2 != .cell) && (scope.kind == .function) && (scope.names.all fun y => y.2 != .local || scope.names.lookup y.1 == some .local) &&
  (scope.names.all fun y => y.2 != .free || osc.names.lookup y.1 == some .cell || osc.names.lookup y.1 == some .free) && (fvn.map some == fv.map fun i => N[i]?) && (fvn.all fun x => scope.names.lookup x == some .free)
theorem BlkScope.of {X : Cx} {scope osc : Scope} {N own fvn : List Str} {fv : List Nat} (hX : X.env.scope = osc) (hN : X.N = N) (h : blkChk scope osc N own fvn fv = true) : BlkScope X scope own fvn fv := by
  subst hX hN
  unfold blkChk at h
  simp only [Bool.and_eq_true, List.all_eq_true, bne_iff_ne, beq_iff_eq, Bool.or_eq_true] at h
  obtain ⟨⟨⟨⟨⟨h1, h2⟩, h3⟩, h4⟩, h5⟩, h6⟩ := h
  refine ⟨h1, h2, fun y hy e => ?_, fun y hy e => ?_, h5, h6⟩
  · rcases h3 y hy with z | z
    · exact absurd e z
    · exact z
  · rcases h4 y hy with (z | z) | z
    · exact absurd e z
    · exact .inl z
    · exact .inr z

theorem Same.new {H : Hp} {p : Addr} (h : H p = none) (o : HO) : Same H (upd H p o) := fun b u q => by rw [upd_ne (ne_of_none q h)]; exact q
theorem Same.set {H H' : Hp} {p : Addr} {o : HO} (e : Same H H') (h : H p = none) : Same H (upd H' p o) := fun b u q => by rw [upd_ne (ne_of_none q h)]; exact e b u q
theorem Same.tup {K : PySem.W.Frag} {H H' : Hp} {a : Addr} {xs : List V} (e : Same H H') (h : SqT K H a xs) : SqT K H' a xs := by
  rcases h with (h | ⟨o, h⟩) | h
  · exact .inl (.inl (e _ _ h))
  · exact .inl (.inr ⟨o, e _ _ h⟩)
  · exact .inr h
theorem Same.rows {K : PySem.W.Frag} {H H' : Hp} {a : Addr} {xss : List (List Int)} (e : Same H H') (h : Rows K H a xss) : Rows K H' a xss := by
  obtain ⟨as, h1, h2, h3⟩ := h
  exact ⟨as, e.seq h1, h2, fun j p ns q1 q2 => e _ _ (h3 j p ns q1 q2)⟩

structure Callee (P : Program) (w : World) (K : PySem.W.Frag) (mg : Str → Option Value) (base : Heap) (CX : CXT) (k : Nat) (x : Str) (ps : List Str) (sp : Sp) : Prop where
  ex : ∃ f fd, FnOk P w K mg base CX k f fd ps sp ∧ mg x = some (.ref f) ∧ PySem.W.keepIn K (.ref f) = true ∧ Binds K fd ps []
section
variable {X : Cx} {CX : CXT} {k : Nat} {ps : List Str} {sp : Sp} {E : XK} {x : Str} {p pos : Pos} {e : Expr} {es : List Expr} {t : TA}
theorem pe_fn (F : Callee X.prog X.w X.K X.mg X.base CX k x ps sp) (hr : Room k X.A) (hg : Gl X x) (hx : Passes CX X E)
    (ha : PA X (e :: es) t) (hdb : (x == ("__debug__" : Str)) = false := by decide) (he : starEach (e :: es) X.env = (false, eval e X.env) :: starEach es X.env := by rfl) (hpl : (backTo pos (starEach es X.env)).any (·.1) = false := by rfl) :
    PE X (.Call (.Name x p) (e :: es) [] pos) (tCall sp [] E t) := by
  obtain ⟨f, fd, G, hm, hk, hb⟩ := F.ex
  exact pe_call G hr hg hm hk hb .nil hx ha hdb he hpl
theorem Callee.mono {P : Program} {w : World} {K : PySem.W.Frag} {mg : Str → Option Value} {base : Heap} {j : Nat} (F : Callee P w K mg base CX j x ps sp) (h : j ≤ k) : Callee P w K mg base CX k x ps sp := by
  obtain ⟨f, fd, G, r⟩ := F.ex
  exact ⟨f, fd, G.mono h, r⟩
end

section
variable {X : Cx} {K : PySem.W.Frag}
theorem call_len_K (hK : X.K = K) : CallR X (.builtin "len") (fun xs H Q => ∃ p ys, xs = [.ref p] ∧ (SqL K H p ys ∨ SqT K H p ys) ∧ Q (.int ys.length) H) := by subst hK; exact call_len_seq
theorem call_list_K (hK : X.K = K) : CallR X (.type "list") (fun xs H Q => ∃ p ys, xs = [.ref p] ∧ (SqL K H p ys ∨ SqT K H p ys) ∧ ∀ l, H l = none → Q (.ref l) (upd H l (.lst ys))) := by subst hK; exact call_list_of
theorem call_isi_K (hK : X.K = K) : CallR X (.builtin "isinstance") (rIsi K) := by subst hK; exact call_isi
theorem ix_list_K (hK : X.K = K) : IxR X (rIxL K) := by subst hK; exact ix_list
theorem ix_tup_K (hK : X.K = K) : IxR X (rIxT K) := by subst hK; exact ix_tup
theorem sl_list_K (hK : X.K = K) : SlR X (rSlL K) := by subst hK; exact sl_list
theorem op_eq_K (hK : X.K = K) (hu : X.A.units + 64 < cLine) : OpR X (compareOp .Eq) (rEqL K false) := by subst hK; exact op_eqL hu
theorem pi_list_K {tg l : Expr} {tl : TE} (hK : X.K = K) (hl : PE X l tl) : PI X tg l (iList K tl) := by subst hK; exact pi_list hl
theorem pi_zip_K {a b : Expr} {ta : TA} {p pos tp : Pos} {elts : List Expr} {x1 : Nat} (hK : X.K = K) (hg : Gl X "zip") (hm : X.mg "zip" = none) (ha : PA X [a, b] ta) (hs : starEach [a, b] X.env = [(false, eval a X.env), (false, eval b X.env)] := by rfl) (hs2 : starEach [b] X.env = [(false, eval b X.env)] := by rfl) :
    PI X (.Tuple elts x1 tp) (.Call (.Name "zip" p) [a, b] [] pos) (iZip K ta) := by subst hK; exact pi_zip hg hm ha hs hs2
theorem pg_tup_K {es : List Expr} {k : Nat} {t : TGs} {n : Nat} {pos : Pos} (hK : X.K = K) (hc : X.calm = true) (h : PGs X es t)
    (hn : (assignEach es X.env).length = n := by rfl) (hst : (assignEach es X.env).findIdx? (·.1) = none := by rfl) : PG X (.Tuple es k pos) (gTup K n t) := by subst hK; exact pg_tup hc h hn hst
theorem pe_append_K {o e : Expr} {to : TE} {t : TA} {apos cpos : Pos} (hK : X.K = K) (ho : PE X o to) (ha : PA X [e] t)
    (hbase : attributeBase o "append" X.env (eval o X.env) = eval o X.env := by rfl)
    (hfew : ((backTo cpos (starEach [e] X.env)).all (fun x => !x.1) && (backToKw cpos (keywordEach [] X.env)).all (fun x => x.1.isSome)
      && decide (([e] : List Expr).length + ([] : List Keyword).length + (if ([] : List Keyword).isEmpty then 0 else 1) < 30)) = true := by rfl)
    (hline : (apos.endLine == cpos.line) = true := by rfl) (hs : starEach [e] X.env = (false, eval e X.env) :: starEach [] X.env := by rfl) (hplain : (backTo cpos (starEach [] X.env)).any (·.1) = false := by rfl) :
    PE X (.Call (.Attribute o "append" apos) [e] [] cpos) (tBM K "list" rAppend to t) := by
  subst hK
  exact pe_bm PySem.F.plainAttrs_list PySem.F.slot_list_append PySem.F.type_list_append mt_append ho ha hbase hfew hline hs hplain
end
end L2

namespace L2
open PySem PySem.Spec PyProof.Rows
theorem sIx_lo {n k : Nat} (h : k ≤ n) : HT.sIx n 0 (some (k : Int)) = k := by rw [HT.sIx_nat]; omega
theorem cut_drop {xs : List V} {j : Nat} (h : j ≤ xs.length) : cutV xs (some (j : Int)) none = xs.drop j := by
  unfold cutV
  rw [HT.sIx_none, sIx_lo h]
  rw [List.take_of_length_le (by simp)]
theorem small_len {n : Nat} (h : n ≤ 10000) : n ≤ sizeLine := Nat.le_trans h (by decide)
end L2

namespace L2
open PySem PySem.Spec PyProof.Rows

theorem dict_mapFields (o : Obj) (f : Array Value → Array Value) : (o.mapFields f).dict = o.dict := by
  obtain ⟨c, d, dt, sl⟩ := o
  cases dt <;> rfl

section
variable {M : Model} {A : Around} {E : Value → Shared → Prop} {s : Shared}
theorem entry_new {base : Heap} {env : Env} {outer : List Env} {L e : Addr} {oe : Obj} {vs : Array Value} {head : Value} {hadNext : Bool} {Q : Unit → Shared → Prop}
    (hfr : A.frames = some (env :: outer)) (hl : s.heap.FunFrames base (env :: outer)) (hf : env.frame = some L) (he : s.heap.get? e = some oe) (hd : oe.data = .fields vs) (hsz : 1 < vs.size)
    (h : ∀ (h' : Heap) (T : Addr) (oT : Obj) (ts : Array Value), (∀ b o, b ∉ frs (env :: outer) → b ≠ e → s.heap.get? b = some o → h'.get? b = some o) → (∀ b o, b ≠ e → s.heap.get? b = some o → ∃ sl, h'.get? b = some { o with slots := sl }) →
      h'.get? e = some (oe.mapFields (·.setIfInBounds 1 (.ref T))) → s.heap.objs.size ≤ T → h'.get? T = some oT → oT.data = .fields ts → ts[3]? = some (rawInt L) → Q () { s with heap := h' }) :
    wpAny M A (do let a ← frameOf env; let pl ← entryPlaceOf L hadNext; let b ← EntryCells.newEntry head a .none (rawInt L) .none pl; setField (.ref e) 1 b) Q E s := by
  have hene : e ∉ (env :: outer).filterMap (·.frame) := fun hm => by
    obtain ⟨_, o, ho, hnf⟩ := hl.mem hm
    rw [he] at ho; injection ho with ho; subst ho; exact hnf vs hd
  refine wpAny_bind (wpAny_frameOf_fun hfr hl hf fun h₁ hs₁ => ?_)
  refine wpAny_bind (wpAny_entryPlaceOf fun pl hpl => ?_)
  unfold EntryCells.newEntry newFields
  refine wpAny_bind (wpAny_newObj_type ?_ (hpl.sizeOk5 _ _ _ _ _))
  have he₁ : h₁.get? e = some oe := (hs₁.2.1 e hene).trans he
  have he₂ := Heap.get?_push_of_some (h := h₁) { cls := .type "traceback", dict := none, data := .fields ([head, .ref L, .none, rawInt L, .none] ++ (if pl.isEmpty then List.replicate 6 Value.none else pl)).toArray } he₁
  refine wpAny_setField he₂ hd hsz ?_
  have hTe : h₁.objs.size ≠ e := Nat.ne_of_gt (Heap.lt_size he₁)
  have hd₃ := Obj.data_mapFields hd (·.setIfInBounds 1 (Value.ref h₁.objs.size))
  have he₃ := Heap.get?_update_self (Obj.mapFields (·.setIfInBounds 1 (Value.ref h₁.objs.size))) he₂ (Obj.isFreed_of_fields hd₃)
  have hT₃ := (Heap.get?_update_other (h₁.push { cls := .type "traceback", dict := none, data := .fields ([head, .ref L, .none, rawInt L, .none] ++ (if pl.isEmpty then List.replicate 6 Value.none else pl)).toArray })
    (Obj.mapFields (·.setIfInBounds 1 (Value.ref h₁.objs.size))) (Ne.symm hTe)).trans (Heap.get?_push_size h₁ rfl)
  refine h _ h₁.objs.size _ _ (fun b o hb hbe e1 => ?_) (fun b o hbe e1 => ?_) he₃ (Nat.le_of_eq hs₁.1.symm) hT₃ rfl (by first | (simp; done) | (rcases hpl with rfl | ⟨_, _, _, _, _, _, _, rfl⟩ <;> simp))
  · rw [Heap.get?_update_other _ _ (Ne.symm hbe)]
    exact Heap.get?_push_of_some _ ((hs₁.2.1 b hb).trans e1)
  · obtain ⟨sl, e2⟩ := hs₁.2.2 b o e1
    exact ⟨sl, by rw [Heap.get?_update_other _ _ (Ne.symm hbe)]; exact Heap.get?_push_of_some _ e2⟩
end

def ExcAt (h : Heap) (H : Hp) (Fz : Addr → Prop) (L e : Addr) (cls : Value) (dct : Option Addr) : Prop :=
  ∃ oe vs a0, h.get? e = some oe ∧ oe.cls = cls ∧ oe.dict = dct ∧ oe.data = .fields vs ∧ vs[0]? = some a0 ∧ 1 < vs.size ∧ H e = none ∧ Fz e ∧
    (vs[1]? = some .none ∨ ∃ T oT ts, vs[1]? = some (.ref T) ∧ T ≠ e ∧ h.get? T = some oT ∧ oT.data = .fields ts ∧ (ts[3]? = some .none ∨ ts[3]? = some (rawInt L)) ∧ H T = none ∧ Fz T)
def ExcMk (h : Heap) (H : Hp) (Fz : Addr → Prop) (fl : Value) (e : Addr) (cls : Value) (dct : Option Addr) : Prop :=
  ∃ oe vs a0, h.get? e = some oe ∧ oe.cls = cls ∧ oe.dict = dct ∧ oe.data = .fields vs ∧ vs[0]? = some a0 ∧ 1 < vs.size ∧ H e = none ∧ Fz e ∧
    ∃ T oT ts, vs[1]? = some (.ref T) ∧ T ≠ e ∧ h.get? T = some oT ∧ oT.data = .fields ts ∧ ts[3]? = some fl ∧ H T = none ∧ Fz T
theorem ExcMk.at {h : Heap} {H : Hp} {Fz : Addr → Prop} {L e : Addr} {cls : Value} {dct : Option Addr} (x : ExcMk h H Fz (rawInt L) e cls dct) : ExcAt h H Fz L e cls dct := by
  obtain ⟨oe, vs, a0, h1, h2, h3, h4, h5, h6, h7, h8, T, oT, ts, t1, t2, t3, t4, t5, t6, t7⟩ := x
  exact ⟨oe, vs, a0, h1, h2, h3, h4, h5, h6, h7, h8, .inr ⟨T, oT, ts, t1, t2, t3, t4, .inr t5, t6, t7⟩⟩
theorem ExcMk.imp {h : Heap} {H : Hp} {Fz Fz' : Addr → Prop} {e : Addr} {fl cls : Value} {dct : Option Addr} (x : ExcMk h H Fz fl e cls dct) (k : ∀ b, Fz b → Fz' b) : ExcMk h H Fz' fl e cls dct := by
  obtain ⟨oe, vs, a0, h1, h2, h3, h4, h5, h6, h7, h8, T, oT, ts, t1, t2, t3, t4, t5, t6, t7⟩ := x
  exact ⟨oe, vs, a0, h1, h2, h3, h4, h5, h6, h7, k _ h8, T, oT, ts, t1, t2, t3, t4, t5, t6, k _ t7⟩

structure Own (X : Cx) : Prop where
  stk : X.stack = X.env :: X.outer
  fr : X.env.frame = some X.env.locals
  ex : X.ex = []

theorem ObjOk.there {P : Program} {w : World} {H : Hp} {h : Heap} {a : Addr} {o : HO} (x : ObjOk P w H h a o) : ∃ ob, h.get? a = some ob := by
  cases o with
  | lst xs => obtain ⟨_, _, _, _, e⟩ := x; exact ⟨_, e⟩
  | tup xs => obtain ⟨_, _, _, o, e, _⟩ := x; exact ⟨_, e⟩
  | dK kvs => obtain ⟨_, _, _, _, o, _, _, e, _⟩ := x; exact ⟨_, e⟩
  | dT kvs => obtain ⟨_, _, _, _, o, _, _, e, _⟩ := x; exact ⟨_, e⟩
  | set S n => obtain ⟨o, _, _, _, e, _⟩ := x; exact ⟨_, e⟩
  | ins C dx fs => obtain ⟨_, _, _, e, _⟩ := x; exact ⟨_, e⟩
  | own y => obtain ⟨_, e⟩ := x; exact ⟨_, e⟩
  | xd fs => obtain ⟨_, ⟨_, _, _, e, _⟩, _⟩ := x; exact ⟨_, e⟩
  | rng lo hi => obtain ⟨_, _, _, e⟩ := x; exact ⟨_, e⟩
  | frz ob u => obtain ⟨e, _⟩ := x; exact ⟨_, e⟩
  | tbl ps => exact ⟨_, (show h.get? a = some _ from x)⟩
  | met f y => exact ⟨_, (show h.get? a = some _ from x)⟩
  | ext φ => obtain ⟨_, e, _⟩ := x; exact e
section
variable {X : Cx} {pins : List (Addr × Obj)} {σ : St} {H : Hp} {s : Shared} {h' : Heap}
theorem Own.fs {X : Cx} (o : Own X) : frs X.stack = X.env.locals :: X.fs := by
  rw [o.stk]
  unfold frs
  rw [List.filterMap_cons, o.fr]
  rfl
theorem Inv.recs {t' : Nat} {ch : List Addr} (I : Inv X pins σ H s) (hch : ∀ b ∈ ch, H b = none ∧ X.s₀.heap.get? b = none ∧ b ≠ X.env.locals ∧ (∀ x c, X.env.cells.lookup x = some c → c ≠ b) ∧ ∀ p ∈ X.pn ++ pins, p.1 ≠ b)
    (hex : X.ex = []) (k : ∀ b o, b ∉ frs X.stack → b ∉ ch → s.heap.get? b = some o → h'.get? b = some o) (ks : ∀ b o, b ∉ ch → s.heap.get? b = some o → ∃ sl, h'.get? b = some { o with slots := sl }) :
    Inv X pins σ H { s with heap := h', toks := t' } := by
  have sub := I.stkSub
  have nfr : ∀ b, b ≠ X.env.locals → b ∉ X.fs → b ∉ frs X.stack := fun b h1 h2 z => by
    rcases List.mem_cons.mp (sub b z) with q | q
    · exact h1 q
    · exact h2 q
  have cl : ∀ x c, X.env.cells.lookup x = some c → c ≠ X.env.locals := I.cne
  refine ⟨I.ok, I.os, I.bare, ⟨fun b o e n hb hx => ?_, fun b o e n hb hx => ?_, I.base.free, fun b o e hx => ?_, I.base.tups, I.base.frzs, I.base.tbls⟩, ?_, fun x c e => ?_, I.free, I.freeC, fun p hp => ?_, fun b u e => ?_, I.len⟩
  · have nc : b ∉ ch := fun z => by rw [(hch b z).2.1] at e; cases e
    exact k b o (nfr b (Nat.ne_of_lt (Nat.lt_of_lt_of_le (Heap.lt_size e) I.ok.above)) hb) nc (I.base.keep b o e n hb hx)
  · have nc : b ∉ ch := fun z => by rw [(hch b z).2.1] at e; cases e
    obtain ⟨sl, e1⟩ := I.base.slot b o e n hb hx
    obtain ⟨sl', e2⟩ := ks b _ nc e1
    exact ⟨sl', e2⟩
  · have nc : b ∉ ch := fun z => by rw [(hch b z).2.1] at e; cases e
    obtain ⟨o', e1⟩ := I.base.there b o e hx
    obtain ⟨sl', e2⟩ := ks b _ nc e1
    exact ⟨_, e2⟩
  · obtain ⟨m, ⟨o, es, ep, ho, hd, r⟩, hl⟩ := I.loc
    have nc : X.env.locals ∉ ch := fun z => (hch _ z).2.2.1 rfl
    obtain ⟨sl, e1⟩ := ks _ _ nc ho
    refine ⟨m, ⟨_, es, ep, e1, hd, r⟩, fun i x v e1 e2 e3 => ?_⟩
    obtain ⟨u, ru, l⟩ := hl i x v e1 e2 e3
    refine ⟨u, ru, ?_⟩
    rcases l with l | ⟨kk, c, e, oc, hoc, hcd⟩
    · exact .inl l
    · obtain ⟨sl', e4⟩ := ks c oc (fun z => (hch c z).2.2.2.1 x c e rfl) hoc
      exact .inr ⟨kk, c, e, _, e4, hcd⟩
  · obtain ⟨v, oc, hoc, hcd⟩ := I.cell x c e
    obtain ⟨sl', e4⟩ := ks c oc (fun z => (hch c z).2.2.2.1 x c e rfl) hoc
    exact ⟨v, _, e4, hcd⟩
  · obtain ⟨e, n, ne, nf, d⟩ := I.pin p hp
    exact ⟨k _ _ (nfr _ ne nf) (fun z => (hch _ z).2.2.2.2 p hp rfl) e, n, ne, nf, d⟩
  · refine (I.hok b u e).stay (fun c v hc q => ?_) (fun _ q => q) fun _ _ q => q
    have trk : ∃ u', H c = some u' := by
      rcases hc with z | z
      · rw [z]; exact ⟨u, e⟩
      · exact ⟨_, z⟩
    obtain ⟨u', hu'⟩ := trk
    refine k c v (fun z => ?_) (fun z => ?_) q
    · rw [I.stkFree c z] at hu'; cases hu'
    · rw [(hch c z).1] at hu'; cases hu'

def Fz (X : Cx) (pins : List (Addr × Obj)) (b : Addr) : Prop := X.s₀.heap.get? b = none ∧ ∀ p ∈ X.pn ++ pins, p.1 ≠ b
theorem Inv.fz (I : Inv X pins σ H s) (hex : X.ex = []) {b : Addr} (h : s.heap.get? b = none) : Fz X pins b := by
  refine ⟨?_, fun p hp z => ?_⟩
  · cases q : X.s₀.heap.get? b with
    | none => rfl
    | some o =>
      obtain ⟨o', e⟩ := I.base.there b o q (by rw [hex]; simp)
      rw [h] at e; cases e
  · rw [← z, (I.pin p hp).1] at h; cases h
theorem Inv.tfree (I : Inv X pins σ H s) {b : Addr} (h : s.heap.get? b = none) : H b = none := by
  cases q : H b with
  | none => rfl
  | some u =>
    have := (I.hok b u q).lt
    cases e : s.heap.get? b with
    | none =>
      obtain ⟨o, e'⟩ := ObjOk.there (I.hok b u q)
      rw [h] at e'; cases e'
    | some o => rw [h] at e; cases e
theorem exc_apart (I : Inv X pins σ H s) {b : Addr} {o : Obj} {vs : Array Value} (e : s.heap.get? b = some o) (hd : o.data = .fields vs) (hn : H b = none) (hF : Fz X pins b) :
    H b = none ∧ X.s₀.heap.get? b = none ∧ b ≠ X.env.locals ∧ (∀ x c, X.env.cells.lookup x = some c → c ≠ b) ∧ ∀ p ∈ X.pn ++ pins, p.1 ≠ b := by
  refine ⟨hn, hF.1, fun z => ?_, fun x c ec z => ?_, hF.2⟩
  · obtain ⟨m, ⟨o', es, ep, ho', hd', _⟩, _⟩ := I.loc
    rw [← z, e] at ho'; cases ho'; rw [hd] at hd'; cases hd'
  · obtain ⟨v, oc, hoc, hcd⟩ := I.cell x c ec
    rw [z, e] at hoc; cases hoc; rw [hd] at hcd; cases hcd

theorem note_exc {M : Model} {E : Value → Shared → Prop} {e : Addr} {cls : Value} {dct : Option Addr} {Q : Unit → Shared → Prop} (O : Own X) (I : Inv X pins σ H s) (x : ExcAt s.heap H (Fz X pins) X.env.locals e cls dct)
    {A : Around} (hA : A.frames = X.A.frames) (hQ : ∀ s', Inv X pins σ H s' → ExcMk s'.heap H (Fz X pins) (rawInt X.env.locals) e cls dct → Q () s') : wpAny M A (noteFrame (.ref e) X.env) Q E s := by
  obtain ⟨oe, vs, a0, h1, h2, h3, h4, h5, h6, h7, h8, h9⟩ := x
  have hfr : A.frames = some (X.env :: X.outer) := by rw [hA, I.ok.frames, O.stk]
  have hfun : s.heap.FunFrames X.base (X.env :: X.outer) := by have := I.stack; rw [O.stk] at this; exact this
  have ae := exc_apart I h1 h4 h7 h8
  -- a new entry from a state s1 that differs in T alone
  have newE : ∀ (s1 : Shared) (head : Value) (hadNext : Bool), Inv X pins σ H s1 → s1.heap.get? e = some oe → (∀ b, b ∈ X.env :: X.outer → True) →
      wpAny M A (do let a ← frameOf X.env; let pl ← entryPlaceOf X.env.locals hadNext; let b ← EntryCells.newEntry head a .none (rawInt X.env.locals) .none pl; setField (.ref e) 1 b) Q E s1 := fun s1 head hadNext I1 e1 _ => by
    have hfun1 : s1.heap.FunFrames X.base (X.env :: X.outer) := by have := I1.stack; rw [O.stk] at this; exact this
    refine entry_new hfr hfun1 O.fr e1 h4 h6 fun h' T oT ts k ks he hT hgT hdT ht3 => ?_
    have hTn : s1.heap.get? T = none := Heap.get?_none_of_le hT
    have I2 : Inv X pins σ H { s1 with heap := h' } := by
      refine I1.recs (t' := s1.toks) (ch := [e]) (fun b hb => ?_) O.ex (fun b o hb hc q => ?_) (fun b o hc q => ?_)
      · rw [List.mem_singleton.mp hb]; exact ae
      · rw [O.stk] at hb
        exact k b o hb (fun z => hc (by rw [z]; exact List.mem_singleton.mpr rfl)) q
      · exact ks b o (fun z => hc (by rw [z]; exact List.mem_singleton.mpr rfl)) q
    refine hQ _ I2 ⟨_, _, a0, he, (Obj.cls_mapFields _ _).trans h2, (dict_mapFields _ _).trans h3, Obj.data_mapFields h4 _, ?_, ?_, h7, h8, T, oT, ts, ?_, ?_, hgT, hdT, ht3, I1.tfree hTn, I1.fz O.ex hTn⟩
    · rw [Array.getElem?_setIfInBounds_ne (by decide)]; exact h5
    · rw [Array.size_setIfInBounds]; exact h6
    · rw [Array.getElem?_setIfInBounds_self_of_lt h6]
    · intro z; rw [z, e1] at hTn; cases hTn
  unfold noteFrame
  simp only [O.fr]
  rcases h9 with h9 | ⟨T, oT, ts, t1, t2, t3, t4, t5, t6, t7⟩
  · refine wpAny_bind (wpAny_field h1 h4 h9 ?_)
    rw [if_neg (by decide)]
    exact newE s _ _ I h1 (fun _ _ => trivial)
  · refine wpAny_bind (wpAny_field h1 h4 t1 ?_)
    rw [if_pos (show (Value.ref T != Value.none) = true from by simp)]
    rcases t5 with t5 | t5
    · refine wpAny_bind (wpAny_field t3 t4 t5 ?_)
      rw [if_neg (show ¬ ((Value.none == rawInt X.env.locals) = true) from by simp [rawInt])]
      refine wpAny_bind (wpAny_setField t3 t4 (Array.getElem?_eq_some_iff.mp t5).1 ?_)
      have aT := exc_apart I t3 t4 t6 t7
      have other : ∀ b, b ≠ T → (s.heap.update T (Obj.mapFields (·.setIfInBounds 3 Value.none))).get? b = s.heap.get? b := fun b hb => Heap.get?_update_other _ _ (Ne.symm hb)
      have I1 : Inv X pins σ H { s with heap := s.heap.update T (Obj.mapFields (·.setIfInBounds 3 Value.none)) } := by
        refine I.recs (t' := s.toks) (ch := [T]) (fun b hb => ?_) O.ex (fun b o _ hc q => ?_) (fun b o hc q => ⟨o.slots, ?_⟩)
        · rw [List.mem_singleton.mp hb]; exact aT
        · exact (other b (fun z => hc (by rw [z]; exact List.mem_singleton.mpr rfl))).trans q
        · exact (other b (fun z => hc (by rw [z]; exact List.mem_singleton.mpr rfl))).trans q
      exact newE _ _ _ I1 ((other e (Ne.symm t2)).trans h1) (fun _ _ => trivial)
    · refine wpAny_bind (wpAny_field t3 t4 t5 ?_)
      rw [if_pos (show (rawInt X.env.locals == rawInt X.env.locals) = true from by simp)]
      exact wpAny_pure (hQ s I ⟨oe, vs, a0, h1, h2, h3, h4, h5, h6, h7, h8, T, oT, ts, t1, t2, t3, t4, t5, t6, t7⟩)
theorem flight_exc {M : Model} {A : Around} {E : Value → Shared → Prop} {e : Addr} {fl cls : Value} {dct : Option Addr} {fr : Option Addr} {Q : Unit → Shared → Prop} (O : Own X) (I : Inv X pins σ H s) (x : ExcMk s.heap H (Fz X pins) fl e cls dct)
    (hQ : ∀ s', Inv X pins σ H s' → ExcMk s'.heap H (Fz X pins) (fr.elim .none fun f => rawInt f) e cls dct → Q () s') : wpAny M A (setFlight (.ref e) fr) Q E s := by
  obtain ⟨oe, vs, a0, h1, h2, h3, h4, h5, h6, h7, h8, T, oT, ts, t1, t2, t3, t4, t5, t6, t7⟩ := x
  have h3s : 3 < ts.size := (Array.getElem?_eq_some_iff.mp t5).1
  have aT := exc_apart I t3 t4 t6 t7
  have other : ∀ b, b ≠ T → (s.heap.update T (Obj.mapFields (·.setIfInBounds 3 (fr.elim Value.none fun f => rawInt f)))).get? b = s.heap.get? b := fun b hb => Heap.get?_update_other _ _ (Ne.symm hb)
  unfold setFlight
  refine wpAny_bind (wpAny_field h1 h4 t1 ?_)
  rw [if_pos (show (Value.ref T != Value.none) = true from by simp)]
  refine wpAny_setField t3 t4 h3s (hQ _ ?_ ?_)
  · refine I.recs (t' := s.toks) (ch := [T]) (fun b hb => ?_) O.ex (fun b o _ hc q => ?_) (fun b o hc q => ⟨o.slots, ?_⟩)
    · rw [List.mem_singleton.mp hb]; exact aT
    · exact (other b (fun z => hc (by rw [z]; exact List.mem_singleton.mpr rfl))).trans q
    · exact (other b (fun z => hc (by rw [z]; exact List.mem_singleton.mpr rfl))).trans q
  · exact ⟨oe, vs, a0, (other e (Ne.symm t2)).trans h1, h2, h3, h4, h5, h6, h7, h8, T, _, _, t1, t2, Heap.get?_update_self _ t3 (Obj.isFreed_of_fields (Obj.data_mapFields t4 _)), Obj.data_mapFields t4 _, by rw [Array.getElem?_setIfInBounds_self_of_lt h3s], t6, t7⟩
end
end L2

namespace L2
open PySem PySem.Spec PyProof.Rows

def XP (X : Cx) (pins : List (Addr × Obj)) (σ : St) (E : XK) (ev : Value) (s' : Shared) : Prop :=
  ∃ e cls dct H', ev = .ref e ∧ Inv X pins σ H' s' ∧ ExcAt s'.heap H' (Fz X pins) X.env.locals e cls dct ∧ E cls dct H'
abbrev XS := St → XK
def XPs (X : Cx) (pins : List (Addr × Obj)) (E : XS) (ev : Value) (s' : Shared) : Prop := ∃ σ', XP X pins σ' (E σ') ev s'
def CXE (P : Program) (w : World) : CXT := fun outer H s E ev s' => ∃ e cls dct H', ev = .ref e ∧ s'.os = s.os ∧ AllBare s'.gens ∧ Un (frs outer) [] H H' s.heap s'.heap ∧ HOk P w H' s'.heap ∧
  ExcMk s'.heap H' (fun b => s.heap.get? b = none) .none e cls dct ∧ E cls dct H'
theorem passE {P : Program} {w : World} {X : Cx} : Passes (CXE P w) X E0 := fun _ _ _ _ _ _ _ h => by
  obtain ⟨_, _, _, _, _, _, _, _, _, _, f⟩ := h
  exact False.elim f

abbrev TSX := Ends → XS → St → Hp → Prop
def PSsX (X : Cx) (st : List Stmt) (t : TSX) : Prop :=
  ∀ (pins : List (Addr × Obj)) (s : Shared) (σ : St) (H : Hp) (D : Ends) (E : XS), Inv X pins σ H s → t D E σ H → wpAny (model X.prog X.w) X.A (execs st X.env) (SP X pins D) (XPs X pins E) s

section
variable {X : Cx} {e : Expr} {st : Stmt} {rest : List Stmt} {pos : Pos}
theorem pssx_lift {sts : List Stmt} {t : TS} (h : PSs X.nox sts t) : PSsX X sts (fun D _ σ H => t D σ H) := fun pins s σ H D E I hw =>
  wpAny_mono (h pins s σ H D (I.wish _) hw) (fun _ _ q => SP.unwish q) fun _ _ f => f.elim
end

section
variable {X : Cx} {k : Nat} {ps : List Str} {sp : Sp} {x : Str} {p pos : Pos} {e : Expr} {es : List Expr} {t : TA}
end

section
variable {P : Program} {w : World} {K : PySem.W.Frag} {mg : Str → Option Value} {base : Heap}
theorem leave_exc {N : List Str} {qual : Str} {scope : Scope} {f : Addr} {cd : Value} {A : Around} {outer : List Env} {s : Shared} {H : Hp} {E : XK} {pins : List (Addr × Obj)} {ev : Value} {s' : Shared}
    (h : XPs (cxOf (CXE P w) P w K mg base N qual scope f cd A outer s H E) pins (fun _ => E) ev s') : (cxOf (CXE P w) P w K mg base N qual scope f cd A outer s H E).xe ev s' := by
  obtain ⟨σ', e, cls, dct, H', rfl, I, x, q⟩ := h
  have O : Own (cxOf (CXE P w) P w K mg base N qual scope f cd A outer s H E) := ⟨rfl, rfl, rfl⟩
  show wpAny _ _ (leaving _ (.ref e)) _ _ s'
  unfold leaving
  refine wpAny_bind (note_exc O I x rfl fun s1 I1 x1 => ?_)
  refine flight_exc (fr := none) O I1 x1 fun s2 I2 x2 => ?_
  exact ⟨e, cls, dct, H', rfl, I2.os, I2.bare, I2.base, I2.hok, x2.imp (fun b hb => hb.1), q⟩
theorem Fun.okX {x qual : Str} {st : Stmt} {f : Addr} {fd : FuncData} {N ps : List Str} {k : Nat} {sp : Sp} (F : Fun K x qual st f fd) (S : FnScope N ps (defScope st)) (len : ∀ vs H Q E, sp vs H Q E → vs.length = ps.length)
    (hbody : ∀ (cdv : Value) (A : Around) (outer : List Env) (s : Shared) (H : Hp) (vs : List V) (Q : VK) (E : XK), Room k (A.deeper (envOfC qual (defScope st) s.heap.objs.size f cdv)) → sp vs H Q E →
      ∃ t, PSsX (cxOf (CXE P w) P w K mg base N qual (defScope st) f cdv A outer s H E) (defBody st) t ∧ t { nx := fun _ H' => Q .non H', rt := Q } (fun _ => E) (start N vs) H) : FnOk P w K mg base (CXE P w) (k + 1) f fd ps sp := by
  obtain ⟨oc, od, kV, doc, pm, an, cdv, ct, osl, rfl, lk, hcd⟩ := F.ex
  refine fn_of lk hcd S len fun A outer s H vs Q E hr hsp => ?_
  obtain ⟨t, h, q⟩ := hbody cdv A outer s H vs Q E hr hsp
  exact ⟨fun D σ H => t D (fun _ => E) σ H, fun pins s1 σ H1 D I hw => wpAny_mono (h pins s1 σ H1 D _ I hw) (fun _ _ q => q) fun _ _ q => leave_exc q, q⟩
end
end L2

namespace L2
open PySem PySem.Spec PyProof.Rows

structure Ds where
  pr : Hp → V → Prop
  up : ∀ {H H' : Hp} {v : V}, Same H H' → pr H v → pr H' v
theorem pr_up {ds : List Ds} {H H' : Hp} (e : Same H H') : ∀ {vs : List V} {ds : List Ds}, Paired (fun v (d : Ds) => d.pr H v) vs ds → Paired (fun v (d : Ds) => d.pr H' v) vs ds
  | _, _, .nil => .nil
  | _, _, .cons (b := d) h t => .cons (d.up e h) (pr_up (ds := []) e t)
theorem paired_imp {α β : Type} {R S : α → β → Prop} (h : ∀ a b, R a b → S a b) : ∀ {xs : List α} {ys : List β}, Paired R xs ys → Paired S xs ys
  | _, _, .nil => .nil
  | _, _, .cons q t => .cons (h _ _ q) (paired_imp h t)
theorem paired_get {α β : Type} {R : α → β → Prop} : ∀ {xs : List α} {ys : List β} {i : Nat} {y : β}, Paired R xs ys → ys[i]? = some y → ∃ x, xs[i]? = some x ∧ R x y
  | _, _, _, _, .nil, e => by simp at e
  | _, _, 0, _, .cons r _, e => by simp at e; subst e; exact ⟨_, rfl, r⟩
  | _, _, i + 1, y, .cons _ t, e => by
    obtain ⟨u, h1, h2⟩ := paired_get (i := i) (y := y) t (by simpa using e)
    exact ⟨u, by simpa using h1, h2⟩
theorem paired_append {α β : Type} {R : α → β → Prop} : ∀ {xs xs' : List α} {ys ys' : List β}, Paired R xs ys → Paired R xs' ys' → Paired R (xs ++ xs') (ys ++ ys')
  | _, _, _, _, .nil, s => s
  | _, _, _, _, .cons r t, s => .cons r (paired_append t s)
theorem paired_set {α β : Type} {R : α → β → Prop} {x : α} {y : β} (r : R x y) : ∀ {xs : List α} {ys : List β} (i : Nat), Paired R xs ys → Paired R (xs.set i x) (ys.set i y)
  | _, _, _, .nil => .nil
  | _, _, 0, .cons _ t => .cons r t
  | _, _, i + 1, .cons q t => .cons q (paired_set r i t)
theorem paired_take {α β : Type} {R : α → β → Prop} : ∀ {xs : List α} {ys : List β} (n : Nat), Paired R xs ys → Paired R (xs.take n) (ys.take n)
  | _, _, 0, _ => .nil
  | _, _, _ + 1, .nil => .nil
  | _, _, n + 1, .cons r t => .cons r (paired_take n t)
theorem paired_drop {α β : Type} {R : α → β → Prop} : ∀ {xs : List α} {ys : List β} (n : Nat), Paired R xs ys → Paired R (xs.drop n) (ys.drop n)
  | _, _, 0, r => r
  | _, _, _ + 1, .nil => .nil
  | _, _, n + 1, .cons _ t => paired_drop n t
abbrev dV (v : V) : Ds := ⟨fun _ u => u = v, fun _ h => h⟩
abbrev dI (n : Int) : Ds := dV (.int n)
abbrev dB (b : Bool) : Ds := dV (.bl b)
abbrev dN : Ds := dV .non
abbrev dS (x : Str) : Ds := dV (.str x)
def dL (ds : List Ds) : Ds := ⟨fun H v => ∃ p vs, v = .ref p ∧ H p = some (.lst vs) ∧ Paired (fun v (d : Ds) => d.pr H v) vs ds, fun e ⟨p, vs, h1, h2, h3⟩ => ⟨p, vs, h1, e _ _ h2, pr_up (ds := []) e h3⟩⟩
def dQ (K : PySem.W.Frag) (ds : List Ds) : Ds := ⟨fun H v => ∃ p vs, v = .ref p ∧ SqL K H p vs ∧ Paired (fun v (d : Ds) => d.pr H v) vs ds, fun e ⟨p, vs, h1, h2, h3⟩ => ⟨p, vs, h1, e.seq h2, pr_up (ds := []) e h3⟩⟩
def dT (ds : List Ds) : Ds := ⟨fun H v => ∃ p vs, v = .ref p ∧ H p = some (.tup vs) ∧ Paired (fun v (d : Ds) => d.pr H v) vs ds, fun e ⟨p, vs, h1, h2, h3⟩ => ⟨p, vs, h1, e _ _ h2, pr_up (ds := []) e h3⟩⟩
def dO (C : Addr) (fs : List (Str × Ds)) : Ds := ⟨fun H v => ∃ p dx vs, v = .ref p ∧ H p = some (.ins C dx vs) ∧ H dx = some (.own p) ∧ Paired (fun (a : Str × V) (b : Str × Ds) => a.1 = b.1 ∧ b.2.pr H a.2) vs fs,
  fun e ⟨p, dx, vs, h1, h2, h3, h4⟩ => ⟨p, dx, vs, h1, e _ _ h2, e _ _ h3, paired_imp (fun _ b q => ⟨q.1, b.2.up e q.2⟩) h4⟩⟩

class Enc (α : Type) where
  d : α → Ds
instance : Enc Int := ⟨dI⟩
instance : Enc Bool := ⟨dB⟩
instance : Enc Unit := ⟨fun _ => dN⟩
instance : Enc Str := ⟨dS⟩
instance {α : Type} [Enc α] : Enc (List α) := ⟨fun xs => dL (xs.map Enc.d)⟩
instance {α β : Type} [Enc α] [Enc β] : Enc (α × β) := ⟨fun p => dT [Enc.d p.1, Enc.d p.2]⟩
instance {α : Type} [Enc α] : Enc (Option α) := ⟨fun o => match o with | none => dN | some x => Enc.d x⟩
structure T3 (α β γ : Type) where
  a : α
  b : β
  c : γ
instance {α β γ : Type} [Enc α] [Enc β] [Enc γ] : Enc (T3 α β γ) := ⟨fun p => dT [Enc.d p.a, Enc.d p.b, Enc.d p.c]⟩

structure Grow (F H F' H' : Hp) : Prop where
  f : Same F F'
  fh : Same F' H'
  h : Same H H'
  no : ∀ a, H a ≠ none → F a = none → F' a = none
theorem Grow.refl {F H : Hp} (e : Same F H) : Grow F H F H := ⟨Same.refl _, e, Same.refl _, fun _ _ h => h⟩
theorem Same.some {H H' : Hp} (e : Same H H') {a : Addr} (h : H a ≠ none) : H' a ≠ none := by
  cases q : H a with
  | none => exact absurd q h
  | some o => rw [e _ _ q]; simp
theorem Grow.trans {F H F' H' F'' H'' : Hp} (g : Grow F H F' H') (k : Grow F' H' F'' H'') : Grow F H F'' H'' :=
  ⟨g.f.trans k.f, k.fh, g.h.trans k.h, fun a h1 h2 => k.no a (g.h.some h1) (g.no a h1 h2)⟩
theorem Grow.new {F H F' H' : Hp} (g : Grow F H F' H') {p : Addr} {o : HO} (hp : H' p = none) : Grow F H (upd F' p o) (upd H' p o) := by
  have hf : F' p = none := by
    cases q : F' p with
    | none => rfl
    | some u => rw [g.fh _ _ q] at hp; cases hp
  refine ⟨g.f.trans (Same.new hf _), fun a u q => ?_, g.h.trans (Same.new hp _), fun a h1 h2 => ?_⟩
  · by_cases e : a = p
    · subst e; rw [upd_same] at q ⊢; exact q
    · rw [upd_ne e] at q ⊢; exact g.fh _ _ q
  · have : a ≠ p := fun e => by subst e; exact (g.h.some h1) hp
    rw [upd_ne this]; exact g.no a h1 h2
theorem Grow.newH {F H F' H' : Hp} (g : Grow F H F' H') {p : Addr} {o : HO} (hp : H' p = none) : Grow F H F' (upd H' p o) :=
  ⟨g.f, g.fh.trans (Same.new hp _), g.h.trans (Same.new hp _), g.no⟩
theorem Grow.setH {F H F' H' : Hp} (g : Grow F H F' H') {p : Addr} {o : HO} (hf : F' p = none) (hp : H p = none) : Grow F H F' (upd H' p o) :=
  ⟨g.f, fun a u q => by rw [upd_ne (ne_of_none q hf)]; exact g.fh _ _ q, fun a u q => by rw [upd_ne (ne_of_none q hp)]; exact g.h _ _ q, g.no⟩
theorem Grow.take {F H F' H' : Hp} (g : Grow F H F' H') {p : Addr} {o : HO} (hp : H p = none) (e : H' p = some o) : Grow F H (upd F' p o) H' := by
  refine ⟨fun a u q => ?_, fun a u q => ?_, g.h, fun a h1 h2 => ?_⟩
  · by_cases z : a = p
    · subst z
      have := g.fh _ _ (g.f _ _ q)
      rw [e] at this; cases this; exact upd_same
    · rw [upd_ne z]; exact g.f _ _ q
  · by_cases z : a = p
    · subst z; rw [upd_same] at q; cases q; exact e
    · rw [upd_ne z] at q; exact g.fh _ _ q
  · have : a ≠ p := fun z => by subst z; exact h1 hp
    rw [upd_ne this]; exact g.no a h1 h2

def off (F Hb : Hp) : Hp := fun a => match Hb a with | none => F a | some _ => none
theorem off_some {F Hb : Hp} {a : Addr} {o : HO} : off F Hb a = some o ↔ Hb a = none ∧ F a = some o := by
  unfold off
  cases q : Hb a with
  | none => simp
  | some u => simp
theorem off_up {F F' Hb : Hp} (e : Same F F') : Same (off F Hb) (off F' Hb) := fun a o q => by
  rw [off_some] at q ⊢; exact ⟨q.1, e _ _ q.2⟩
theorem off_sub {F Hb : Hp} : Same (off F Hb) F := fun a o q => (off_some.mp q).2
theorem off_old {F Hb Hc : Hp} (e : Same Hb Hc) : Same (off F Hc) (off F Hb) := fun a o q => by
  rw [off_some] at q ⊢
  refine ⟨?_, q.2⟩
  cases z : Hb a with
  | none => rfl
  | some u => rw [e _ _ z] at q; cases q.1
def part (m : Bool) (F Hb : Hp) : Hp := match m with | true => off F Hb | false => F
theorem part_up {m : Bool} {F F' Hb : Hp} (e : Same F F') : Same (part m F Hb) (part m F' Hb) := by
  cases m with
  | true => exact off_up e
  | false => exact e
theorem part_sub {m : Bool} {F Hb : Hp} : Same (part m F Hb) F := by
  cases m with
  | true => exact off_sub
  | false => exact Same.refl _
theorem part_new {m : Bool} {F Hb : Hp} {p : Addr} {o : HO} (hb : Hb p = none) (hp : F p = some o) : part m F Hb p = some o := by
  cases m with
  | true => exact off_some.mpr ⟨hb, hp⟩
  | false => exact hp

inductive Slot where
    | no
    | va (m : Bool) (d : Ds)
    | ow (m : Bool) (ds : List Ds)
    | ob (m : Bool) (C p dx : Addr) (fs : List (Str × Ds))
    | tl (d : Ds)
    | ol (p : Addr) (ds : List Ds)
abbrev Ctx := List Slot
def SlotOk (Hb F H : Hp) (own : Nat → Option Addr) (i : Nat) (v : Option V) : Slot → Prop
  | .tl d => ∃ x R, v = some x ∧ Same R H ∧ (∀ a o, R a = some o → F a = none ∧ Hb a = none) ∧ (∀ j p, own j = some p → R p = none) ∧ d.pr R x
  | .no => True
  | .va m d => ∃ x, v = some x ∧ d.pr (part m F Hb) x
  | .ow m ds => ∃ p vs, v = some (.ref p) ∧ own i = some p ∧ F p = none ∧ Hb p = none ∧ H p = some (.lst vs) ∧ Paired (fun v (d : Ds) => d.pr (part m F Hb) v) vs ds
  | .ol p ds => ∃ vs, v = some (.ref p) ∧ own i = some p ∧ F p = none ∧ Hb p = none ∧ H p = some (.lst vs) ∧ Paired (fun v (d : Ds) => d.pr F v) vs ds
  | .ob m C p dx fs => ∃ vs, v = some (.ref p) ∧ own i = some p ∧ (F p = none ∧ F dx = none) ∧ (Hb p = none ∧ Hb dx = none) ∧ (H p = some (.ins C dx vs) ∧ H dx = some (.own p)) ∧ Paired (fun (a : Str × V) (b : Str × Ds) => a.1 = b.1 ∧ b.2.pr (part m F Hb) a.2) vs fs
structure At (F0 Hb F H : Hp) (σ : St) (own : Nat → Option Addr) (Γ : Ctx) : Prop where
  g : Grow F0 Hb F H
  inj : ∀ i j p, own i = some p → own j = some p → i = j
  liv : ∀ i p, own i = some p → H p ≠ none
  sl : ∀ i s, Γ[i]? = some s → SlotOk Hb F H own i (σ[i]?).join s
  len : σ.length = Γ.length
theorem SlotOk.grow {Hb F H F' H' : Hp} {own : Nat → Option Addr} {i : Nat} {v : Option V} {s : Slot} (h : SlotOk Hb F H own i v s) (g : Grow F H F' H') : SlotOk Hb F' H' own i v s := by
  cases s with
  | no => trivial
  | tl d =>
    obtain ⟨x, R, e, h1, h2, h3, h4⟩ := h
    exact ⟨x, R, e, h1.trans g.h, fun a o q => ⟨g.no a (by rw [h1 _ _ q]; simp) (h2 a o q).1, (h2 a o q).2⟩, h3, h4⟩
  | va m d => obtain ⟨x, e, q⟩ := h; exact ⟨x, e, d.up (part_up g.f) q⟩
  | ow m ds =>
    obtain ⟨p, vs, e, ho, hf, hb, hp, q⟩ := h
    exact ⟨p, vs, e, ho, g.no p (by rw [hp]; simp) hf, hb, g.h _ _ hp, pr_up (ds := []) (part_up g.f) q⟩
  | ol p ds =>
    obtain ⟨vs, e, ho, hf, hb, hp, q⟩ := h
    exact ⟨vs, e, ho, g.no p (by rw [hp]; simp) hf, hb, g.h _ _ hp, pr_up (ds := []) g.f q⟩
  | ob m C p dx fs =>
    obtain ⟨vs, e, ho, hf, hb, hp, q⟩ := h
    exact ⟨vs, e, ho, ⟨g.no p (by rw [hp.1]; simp) hf.1, g.no dx (by rw [hp.2]; simp) hf.2⟩, hb, ⟨g.h _ _ hp.1, g.h _ _ hp.2⟩, paired_imp (fun _ b z => ⟨z.1, b.2.up (part_up g.f) z.2⟩) q⟩
theorem At.grow {F0 Hb F H F' H' : Hp} {σ : St} {own : Nat → Option Addr} {Γ : Ctx} (a : At F0 Hb F H σ own Γ) (g : Grow F H F' H') : At F0 Hb F' H' σ own Γ :=
  ⟨a.g.trans g, a.inj, fun i p e => g.h.some (a.liv i p e), fun i s e => (a.sl i s e).grow g, a.len⟩
theorem At.fh {F0 Hb F H : Hp} {σ : St} {own : Nat → Option Addr} {Γ : Ctx} (a : At F0 Hb F H σ own Γ) : Same F H := a.g.fh
theorem join_set_self {σ : St} {i : Nat} {x : Option V} (h : i < σ.length) : ((σ.set i x)[i]?).join = x := by
  rw [List.getElem?_set_self h]; rfl
theorem join_set_ne {σ : St} {i j : Nat} {x : Option V} (h : i ≠ j) : ((σ.set i x)[j]?).join = (σ[j]?).join := by
  rw [List.getElem?_set_ne h]
theorem At.set {F0 Hb F H : Hp} {σ : St} {own : Nat → Option Addr} {Γ : Ctx} (a : At F0 Hb F H σ own Γ) (i : Nat) {m : Bool} {d : Ds} {v : V} (h : d.pr (part m F Hb) v) :
    At F0 Hb F H (σ.set i (some v)) own (Γ.set i (.va m d)) := by
  refine ⟨a.g, a.inj, a.liv, fun j s e => ?_, by simp [a.len]⟩
  by_cases z : i = j
  · subst z
    have hi : i < Γ.length := by
      have := (List.getElem?_eq_some_iff.mp e).1
      simpa using this
    rw [List.getElem?_set_self hi] at e
    cases e
    rw [join_set_self (by rw [a.len]; exact hi)]
    exact ⟨v, rfl, h⟩
  · rw [List.getElem?_set_ne z] at e
    rw [join_set_ne z]
    exact a.sl j s e
theorem At.setOwn {F0 Hb F1 H1 F H : Hp} {σ : St} {own : Nat → Option Addr} {Γ : Ctx} (a1 : At F0 Hb F1 H1 σ own Γ) (g : Grow F1 H1 F H) (i : Nat) {m : Bool} {ds : List Ds} {p : Addr} {vs : List V} (h1 : H1 p = none) (hf : F p = none) (hp : H p = some (.lst vs))
    (h : Paired (fun v (d : Ds) => d.pr (part m F Hb) v) vs ds) : At F0 Hb F H (σ.set i (some (.ref p))) (fun j => if j = i then some p else own j) (Γ.set i (.ow m ds)) := by
  have a := a1.grow g
  have hb : Hb p = none := a1.g.h.free h1
  have ho : ∀ j, own j ≠ some p := fun j e => a1.liv j p e h1
  refine ⟨a.g, fun j k q e1 e2 => ?_, fun j q e => ?_, fun j s e => ?_, by simp [a.len]⟩
  · skip
    split at e1 <;> split at e2
    · omega
    · cases e1; exact absurd e2 (ho k)
    · cases e2; exact absurd e1 (ho j)
    · exact a.inj j k q e1 e2
  · skip
    split at e
    · cases e; rw [hp]; simp
    · exact a.liv j q e
  · by_cases z : i = j
    · subst z
      have hi : i < Γ.length := by
        have := (List.getElem?_eq_some_iff.mp e).1
        simpa using this
      rw [List.getElem?_set_self hi] at e
      cases e
      rw [join_set_self (by rw [a.len]; exact hi)]
      exact ⟨p, vs, rfl, by simp, hf, hb, hp, h⟩
    · rw [List.getElem?_set_ne z] at e
      rw [join_set_ne z]
      have z' : ¬ j = i := Ne.symm z
      cases s with
      | tl d =>
        obtain ⟨x, R, q1, q2, q3, q4, q5⟩ := a1.sl j _ e
        refine ⟨x, R, q1, q2.trans g.h, fun b o w => ⟨g.no b (by rw [q2 _ _ w]; simp) (q3 b o w).1, (q3 b o w).2⟩, fun k q w => ?_, q5⟩
        dsimp only at w
        split at w
        · cases w; exact q2.free h1
        · exact q4 k q w
      | no => trivial
      | va m d => exact a.sl j _ e
      | ow m ds =>
        obtain ⟨q, us, w1, w2, w3⟩ := a.sl j _ e
        exact ⟨q, us, w1, (if_neg z').trans w2, w3⟩
      | ol q ds =>
        obtain ⟨us, w1, w2, w3⟩ := a.sl j _ e
        exact ⟨us, w1, (if_neg z').trans w2, w3⟩
      | ob m C q dx fs =>
        obtain ⟨us, w1, w2, w3⟩ := a.sl j _ e
        exact ⟨us, w1, (if_neg z').trans w2, w3⟩
theorem At.turn {F0 Hb F H : Hp} {σ : St} {own : Nat → Option Addr} {Γ : Ctx} (a : At F0 Hb F H σ own Γ) {i : Nat} {m n : Bool} {ds es : List Ds} {p : Addr} {ws : List V} (e : Γ[i]? = some (.ow m ds)) (ep : σ[i]? = some (some (.ref p)))
    (h : Paired (fun v (d : Ds) => d.pr (part n F Hb) v) ws es) : At F0 Hb F (upd H p (.lst ws)) σ own (Γ.set i (.ow n es)) := by
  obtain ⟨p', vs, e1, e2, hf, hb, hp, _⟩ := a.sl i _ e
  rw [ep] at e1
  have e1' : p = p' := by
    have : some (V.ref p) = some (V.ref p') := e1
    cases this; rfl
  subst e1'
  refine ⟨a.g.setH hf hb, a.inj, fun j q ej => ?_, fun j s es' => ?_, by simp [a.len]⟩
  · by_cases z : q = p
    · subst z; rw [upd_same]; simp
    · rw [upd_ne z]; exact a.liv j q ej
  · by_cases z : i = j
    · subst z
      have hi : i < Γ.length := (List.getElem?_eq_some_iff.mp e).1
      rw [List.getElem?_set_self hi] at es'
      cases es'
      exact ⟨p, ws, by rw [ep]; rfl, e2, hf, hb, upd_same, h⟩
    · rw [List.getElem?_set_ne z] at es'
      have := a.sl j s es'
      cases s with
      | no => trivial
      | tl d =>
        obtain ⟨x, R, q1, q2, q3, q4, q5⟩ := this
        exact ⟨x, R, q1, fun b o w => by rw [upd_ne (ne_of_none w (q4 i p e2))]; exact q2 b o w, q3, q4, q5⟩
      | va m d => exact this
      | ow m ds =>
        obtain ⟨q, us, h1, h2, h3, h4, h5, h6⟩ := this
        have : q ≠ p := fun w => by subst w; exact z (a.inj i j q e2 h2)
        exact ⟨q, us, h1, h2, h3, h4, by rw [upd_ne this]; exact h5, h6⟩
      | ol q ds =>
        obtain ⟨us, h1, h2, h3, h4, h5, h6⟩ := this
        have : q ≠ p := fun w => by subst w; exact z (a.inj i j q e2 h2)
        exact ⟨us, h1, h2, h3, h4, by rw [upd_ne this]; exact h5, h6⟩
      | ob m C q dx fs =>
        obtain ⟨us, h1, h2, h3, h4, h5, h6⟩ := this
        have n1 : q ≠ p := fun w => by subst w; exact z (a.inj i j q e2 h2)
        have n2 : dx ≠ p := ne_of h5.2 hp (by intro z; cases z)
        exact ⟨us, h1, h2, h3, h4, ⟨by rw [upd_ne n1]; exact h5.1, by rw [upd_ne n2]; exact h5.2⟩, h6⟩

theorem At.turnP {F0 Hb F H : Hp} {σ : St} {own : Nat → Option Addr} {Γ : Ctx} (a : At F0 Hb F H σ own Γ) {i : Nat} {ds es : List Ds} {p : Addr} {ws : List V} (e : Γ[i]? = some (.ol p ds))
    (h : Paired (fun v (d : Ds) => d.pr F v) ws es) : At F0 Hb F (upd H p (.lst ws)) σ own (Γ.set i (.ol p es)) := by
  obtain ⟨vs, e1, e2, hf, hb, hp, _⟩ := a.sl i _ e
  refine ⟨a.g.setH hf hb, a.inj, fun j q ej => ?_, fun j s es' => ?_, by simp [a.len]⟩
  · by_cases z : q = p
    · subst z; rw [upd_same]; simp
    · rw [upd_ne z]; exact a.liv j q ej
  · by_cases z : i = j
    · subst z
      have hi : i < Γ.length := (List.getElem?_eq_some_iff.mp e).1
      rw [List.getElem?_set_self hi] at es'
      cases es'
      exact ⟨ws, e1, e2, hf, hb, upd_same, h⟩
    · rw [List.getElem?_set_ne z] at es'
      have := a.sl j s es'
      cases s with
      | no => trivial
      | tl d =>
        obtain ⟨x, R, q1, q2, q3, q4, q5⟩ := this
        exact ⟨x, R, q1, fun b o w => by rw [upd_ne (ne_of_none w (q4 i p e2))]; exact q2 b o w, q3, q4, q5⟩
      | va m d => exact this
      | ow m ds =>
        obtain ⟨q, us, h1, h2, h3, h4, h5, h6⟩ := this
        have : q ≠ p := fun w => by subst w; exact z (a.inj i j q e2 h2)
        exact ⟨q, us, h1, h2, h3, h4, by rw [upd_ne this]; exact h5, h6⟩
      | ol q ds =>
        obtain ⟨us, h1, h2, h3, h4, h5, h6⟩ := this
        have : q ≠ p := fun w => by subst w; exact z (a.inj i j q e2 h2)
        exact ⟨us, h1, h2, h3, h4, by rw [upd_ne this]; exact h5, h6⟩
      | ob m C q dx fs =>
        obtain ⟨us, h1, h2, h3, h4, h5, h6⟩ := this
        have n1 : q ≠ p := fun w => by subst w; exact z (a.inj i j q e2 h2)
        have n2 : dx ≠ p := ne_of h5.2 hp (by intro z; cases z)
        exact ⟨us, h1, h2, h3, h4, ⟨by rw [upd_ne n1]; exact h5.1, by rw [upd_ne n2]; exact h5.2⟩, h6⟩
inductive Wk : Ctx → Ctx → Prop where
  | nil : Wk [] []
  | eq {s Γ Δ} : Wk Γ Δ → Wk (s :: Γ) (s :: Δ)
  | no {s Γ Δ} : Wk Γ Δ → Wk (s :: Γ) (.no :: Δ)
  | old {m d Γ Δ} : Wk Γ Δ → Wk (.va m d :: Γ) (.va false d :: Δ)
  | oldL {m d Γ Δ} : Wk Γ Δ → Wk (.ow m d :: Γ) (.ow false d :: Δ)
theorem Wk.refl : ∀ Γ : Ctx, Wk Γ Γ
  | [] => .nil
  | _ :: Γ => .eq (Wk.refl Γ)
theorem Wk.len {Γ Δ : Ctx} (h : Wk Γ Δ) : Γ.length = Δ.length := by
  induction h <;> simp_all
theorem Wk.slot {Γ Δ : Ctx} (h : Wk Γ Δ) : ∀ {i : Nat} {s : Slot}, Δ[i]? = some s → ∃ r, Γ[i]? = some r ∧ ∀ {Hb F H : Hp} {own : Nat → Option Addr} {j : Nat} {v : Option V}, SlotOk Hb F H own j v r → SlotOk Hb F H own j v s := by
  induction h with
  | nil => intro i s e; simp at e
  | eq _ ih =>
    intro i s e
    cases i with
    | zero => simp at e; subst e; exact ⟨_, rfl, fun h => h⟩
    | succ i => simpa using ih (i := i) (s := s) (by simpa using e)
  | no _ ih =>
    intro i s e
    cases i with
    | zero => simp at e; subst e; exact ⟨_, rfl, fun _ => trivial⟩
    | succ i => simpa using ih (i := i) (s := s) (by simpa using e)
  | old _ ih =>
    intro i s e
    cases i with
    | zero => simp at e; subst e; exact ⟨_, rfl, fun ⟨x, h1, h2⟩ => ⟨x, h1, Ds.up _ part_sub h2⟩⟩
    | succ i => simpa using ih (i := i) (s := s) (by simpa using e)
  | oldL _ ih =>
    intro i s e
    cases i with
    | zero => simp at e; subst e; exact ⟨_, rfl, fun ⟨p, vs, h1, h2, h3, h4, h5, h6⟩ => ⟨p, vs, h1, h2, h3, h4, h5, pr_up (ds := []) part_sub h6⟩⟩
    | succ i => simpa using ih (i := i) (s := s) (by simpa using e)
theorem At.wk {F0 Hb F H : Hp} {σ : St} {own : Nat → Option Addr} {Γ Δ : Ctx} (a : At F0 Hb F H σ own Γ) (w : Wk Γ Δ) : At F0 Hb F H σ own Δ :=
  ⟨a.g, a.inj, a.liv, fun i s e => by
    obtain ⟨r, e1, h⟩ := w.slot e
    exact h (a.sl i r e1), by rw [a.len, w.len]⟩
theorem At.share {F0 Hb F H : Hp} {σ : St} {own : Nat → Option Addr} {Γ : Ctx} (a : At F0 Hb F H σ own Γ) {i : Nat} {m : Bool} {ds : List Ds} (e : Γ[i]? = some (.ow m ds)) :
    ∃ F' own', Grow F0 Hb F' H ∧ At F0 Hb F' H σ own' (Γ.set i (.va m (dL ds))) := by
  obtain ⟨p, vs, e1, e2, hf, hb, hp, hq⟩ := a.sl i _ e
  have g := a.g.take hb hp
  have fs : Same F (upd F p (.lst vs)) := Same.new hf _
  refine ⟨upd F p (.lst vs), fun j => if j = i then none else own j, g, g, fun j k q h1 h2 => ?_, fun j q h1 => ?_, fun j s es => ?_, by simp [a.len]⟩
  · skip
    split at h1
    · cases h1
    · split at h2
      · cases h2
      · exact a.inj j k q h1 h2
  · skip
    split at h1
    · cases h1
    · exact a.liv j q h1
  · by_cases z : i = j
    · subst z
      have hi : i < Γ.length := (List.getElem?_eq_some_iff.mp e).1
      rw [List.getElem?_set_self hi] at es
      cases es
      exact ⟨.ref p, e1, p, vs, rfl, part_new hb upd_same, pr_up (ds := []) (part_up fs) hq⟩
    · rw [List.getElem?_set_ne z] at es
      have z' : ¬ j = i := Ne.symm z
      have := a.sl j s es
      cases s with
      | no => trivial
      | tl d =>
        obtain ⟨x, R, q1, q2, q3, q4, q5⟩ := this
        refine ⟨x, R, q1, q2, fun b o w => ⟨by rw [upd_ne (ne_of_none w (q4 i p e2))]; exact (q3 b o w).1, (q3 b o w).2⟩, fun k q w => ?_, q5⟩
        dsimp only at w
        split at w
        · cases w
        · exact q4 k q w
      | va m d => obtain ⟨x, h1, h2⟩ := this; exact ⟨x, h1, d.up (part_up fs) h2⟩
      | ow m ds =>
        obtain ⟨q, us, h1, h2, h3, h4, h5, h6⟩ := this
        have : q ≠ p := fun w => by subst w; exact z (a.inj i j q e2 h2)
        exact ⟨q, us, h1, (if_neg z').trans h2, by rw [upd_ne this]; exact h3, h4, h5, pr_up (ds := []) (part_up fs) h6⟩
      | ol q ds =>
        obtain ⟨us, h1, h2, h3, h4, h5, h6⟩ := this
        have : q ≠ p := fun w => by subst w; exact z (a.inj i j q e2 h2)
        exact ⟨us, h1, (if_neg z').trans h2, by rw [upd_ne this]; exact h3, h4, h5, pr_up (ds := []) fs h6⟩
      | ob m C q dx gs =>
        obtain ⟨us, h1, h2, h3, h4, h5, h6⟩ := this
        have n1 : q ≠ p := fun w => by subst w; exact z (a.inj i j q e2 h2)
        have n2 : dx ≠ p := ne_of h5.2 hp (by intro z; cases z)
        exact ⟨us, h1, (if_neg z').trans h2, ⟨by rw [upd_ne n1]; exact h3.1, by rw [upd_ne n2]; exact h3.2⟩, h4, h5, paired_imp (fun _ b z => ⟨z.1, b.2.up (part_up fs) z.2⟩) h6⟩
end L2

namespace L2
open PySem PySem.Spec PyProof.Rows

def Ev (Γ : Ctx) (t : TE) (m : Bool) (d : Ds) : Prop := ∀ (F0 Hb F H : Hp) (σ : St) (own : Nat → Option Addr) (Q : VK), At F0 Hb F H σ own Γ →
  (∀ v F' H', Grow F H F' H' → d.pr (part m F' Hb) v → Q v H') → t σ H Q
def EvO (Γ : Ctx) (t : TE) (m : Bool) (ds : List Ds) : Prop := ∀ (F0 Hb F H : Hp) (σ : St) (own : Nat → Option Addr) (Q : VK), At F0 Hb F H σ own Γ →
  (∀ p vs F' H', Grow F H F' H' → H p = none → F' p = none → H' p = some (.lst vs) → Paired (fun v (d : Ds) => d.pr (part m F' Hb) v) vs ds → Q (.ref p) H') → t σ H Q
def EvT (Γ : Ctx) (t : TT) (b : Bool) : Prop := ∀ (F0 Hb F H : Hp) (σ : St) (own : Nat → Option Addr) (Q : Bool → Hp → Prop), At F0 Hb F H σ own Γ →
  (∀ F' H', Grow F H F' H' → Q b H') → t σ H Q
def EvA (Γ : Ctx) (t : TA) (m : Bool) (ds : List Ds) : Prop := ∀ (F0 Hb F H : Hp) (σ : St) (own : Nat → Option Addr) (Q : List V → Hp → Prop), At F0 Hb F H σ own Γ →
  (∀ vs F' H', Grow F H F' H' → Paired (fun v (d : Ds) => d.pr (part m F' Hb) v) vs ds → Q vs H') → t σ H Q
def EvP (Γ : Ctx) (t : TO) (i : Option Int) : Prop := ∀ (F0 Hb F H : Hp) (σ : St) (own : Nat → Option Addr) (Q : Option Int → Hp → Prop), At F0 Hb F H σ own Γ →
  (∀ F' H', Grow F H F' H' → Q i H') → t σ H Q

theorem At.free {F0 Hb F H : Hp} {σ : St} {own : Nat → Option Addr} {Γ : Ctx} (a : At F0 Hb F H σ own Γ) {F' H' : Hp} (g : Grow F H F' H') {p : Addr} (h : H' p = none) : H p = none ∧ F' p = none ∧ Hb p = none := by
  have h1 := g.h.free h
  exact ⟨h1, g.fh.free h, a.g.h.free h1⟩

section
variable {Γ : Ctx} {t ta tb : TE} {m n : Bool} {d e : Ds} {ds es : List Ds} {K : PySem.W.Frag}
theorem Ev.old (h : Ev Γ t m d) : Ev Γ t false d := fun F0 Hb F H σ own Q a k => h F0 Hb F H σ own Q a fun v F' H' g q => k v F' H' g (d.up part_sub q)
theorem EvO.old (h : EvO Γ t m ds) : EvO Γ t false ds := fun F0 Hb F H σ own Q a k => h F0 Hb F H σ own Q a fun p vs F' H' g h1 h2 h3 q => k p vs F' H' g h1 h2 h3 (pr_up (ds := []) part_sub q)
theorem EvA.old {t : TA} (h : EvA Γ t m ds) : EvA Γ t false ds := fun F0 Hb F H σ own Q a k => h F0 Hb F H σ own Q a fun vs F' H' g q => k vs F' H' g (pr_up (ds := []) part_sub q)
theorem Ev.conv (h : Ev Γ t m d) (e' : d = e) : Ev Γ t m e := e' ▸ h
theorem EvO.conv (h : EvO Γ t m ds) (e' : ds = es) : EvO Γ t m es := e' ▸ h
theorem EvT.conv {t : TT} {b c : Bool} (h : EvT Γ t b) (e' : b = c) : EvT Γ t c := e' ▸ h
theorem EvO.ev (h : EvO Γ t m ds) : Ev Γ t m (dL ds) := fun F0 Hb F H σ own Q a k => h F0 Hb F H σ own Q a fun p vs F' H' g h1 h2 h3 q => by
  have fs : Same F' (upd F' p (.lst vs)) := Same.new h2 _
  exact k (.ref p) (upd F' p (.lst vs)) H' (g.take h1 h3) ⟨p, vs, rfl, part_new (a.g.h.free h1) upd_same, pr_up (ds := []) (part_up fs) q⟩
theorem Ev.weak (h : Ev Γ t m (dL ds)) : Ev Γ t m (dQ K ds) := fun F0 Hb F H σ own Q a k => h F0 Hb F H σ own Q a fun v F' H' g ⟨p, vs, h1, h2, h3⟩ => k v F' H' g ⟨p, vs, h1, SqL.of h2, h3⟩
theorem ev_var {i : Nat} (h : Γ[i]? = some (.va m d)) : Ev Γ (tVar i) m d := fun F0 Hb F H σ own Q a k => by
  obtain ⟨x, e, q⟩ := a.sl i _ h
  have hi : i < σ.length := by rw [a.len]; exact (List.getElem?_eq_some_iff.mp h).1
  rw [List.getElem?_eq_getElem hi] at e
  have e' : σ[i] = some x := e
  exact ⟨x, by rw [List.getElem?_eq_getElem hi, e'], k x F H (Grow.refl a.fh) q⟩
theorem ev_c {v : V} : Ev Γ (tC v) m (dV v) := fun F0 Hb F H σ own Q a k => k v F H (Grow.refl a.fh) rfl
theorem ev_op0 {g : Int → Int → V} {x y : Int} (h1 : Ev Γ ta false (dI x)) (h2 : Ev Γ tb false (dI y)) : Ev Γ (tOp (rI0 g) ta tb) m (dV (g x y)) := fun F0 Hb F H σ own Q a k =>
  h1 F0 Hb F H σ own _ a fun u F1 H1 g1 q1 => h2 F0 Hb F1 H1 σ own _ (a.grow g1) fun v F2 H2 g2 q2 => ⟨x, y, q1, q2, k _ F2 H2 (g1.trans g2) rfl⟩
theorem ev_opC {C : Int → Int → Prop} {g : Int → Int → V} {x y : Int} (h1 : Ev Γ ta false (dI x)) (h2 : Ev Γ tb false (dI y)) (c : C x y) : Ev Γ (tOp (rI C g) ta tb) m (dV (g x y)) := fun F0 Hb F H σ own Q a k =>
  h1 F0 Hb F H σ own _ a fun u F1 H1 g1 q1 => h2 F0 Hb F1 H1 σ own _ (a.grow g1) fun v F2 H2 g2 q2 => ⟨x, y, q1, q2, c, k _ F2 H2 (g1.trans g2) rfl⟩
theorem ev_un {g : Int → V} {x : Int} (h1 : Ev Γ ta false (dI x)) : Ev Γ (tUn (rU g) ta) m (dV (g x)) := fun F0 Hb F H σ own Q a k =>
  h1 F0 Hb F H σ own _ a fun u F1 H1 g1 q1 => ⟨x, q1, k _ F1 H1 g1 rfl⟩
theorem ev_eq {v w : V} (h1 : Ev Γ ta false (dV v)) (h2 : Ev Γ tb false (dV w)) (hs : scal v w = true) : Ev Γ (tOp rEq ta tb) m (dB (decide (v = w))) := fun F0 Hb F H σ own Q a k =>
  h1 F0 Hb F H σ own _ a fun u F1 H1 g1 q1 => h2 F0 Hb F1 H1 σ own _ (a.grow g1) fun v F2 H2 g2 q2 => by
    cases q1; cases q2; exact ⟨hs, k _ F2 H2 (g1.trans g2) rfl⟩
theorem ev_ne {v w : V} (h1 : Ev Γ ta false (dV v)) (h2 : Ev Γ tb false (dV w)) (hs : scal v w = true) : Ev Γ (tOp rNe ta tb) m (dB (!decide (v = w))) := fun F0 Hb F H σ own Q a k =>
  h1 F0 Hb F H σ own _ a fun u F1 H1 g1 q1 => h2 F0 Hb F1 H1 σ own _ (a.grow g1) fun v F2 H2 g2 q2 => by
    cases q1; cases q2; exact ⟨hs, k _ F2 H2 (g1.trans g2) rfl⟩
theorem int_dec (x y : Int) : decide (V.int x = V.int y) = decide (x = y) := by simp
theorem ev_eqI {x y : Int} (h1 : Ev Γ ta false (dI x)) (h2 : Ev Γ tb false (dI y)) : Ev Γ (tOp rEq ta tb) m (dB (decide (x = y))) := (ev_eq h1 h2 rfl).conv (by rw [int_dec])
theorem ev_neI {x y : Int} (h1 : Ev Γ ta false (dI x)) (h2 : Ev Γ tb false (dI y)) : Ev Γ (tOp rNe ta tb) m (dB (!decide (x = y))) := (ev_ne h1 h2 rfl).conv (by rw [int_dec])
theorem evt_test {b : Bool} (h : Ev Γ t false (dB b)) : EvT Γ (tTest t) b := fun F0 Hb F H σ own Q a k => h F0 Hb F H σ own _ a fun v F' H' g q => ⟨b, q, k F' H' g⟩
theorem evt_and {t u : TT} {b c : Bool} (h : EvT Γ t b) (h2 : b = true → EvT Γ u c) : EvT Γ (tAnd t u) (b && c) := fun F0 Hb F H σ own Q a k => h F0 Hb F H σ own _ a fun F' H' g => by
  cases b with
  | true => exact h2 rfl F0 Hb F' H' σ own Q (a.grow g) fun F2 H2 g2 => k F2 H2 (g.trans g2)
  | false => exact k F' H' g
theorem evt_or {t u : TT} {b c : Bool} (h : EvT Γ t b) (h2 : b = false → EvT Γ u c) : EvT Γ (tOr t u) (b || c) := fun F0 Hb F H σ own Q a k => h F0 Hb F H σ own _ a fun F' H' g => by
  cases b with
  | false => exact h2 rfl F0 Hb F' H' σ own Q (a.grow g) fun F2 H2 g2 => k F2 H2 (g.trans g2)
  | true => exact k F' H' g
theorem ev_and {b c : Bool} (h : Ev Γ ta false (dB b)) (h2 : b = true → Ev Γ tb false (dB c)) : Ev Γ (tAndV ta tb) m (dB (b && c)) := fun F0 Hb F H σ own Q a k => h F0 Hb F H σ own _ a fun v F' H' g q => ⟨b, q, by
  cases b with
  | true => exact h2 rfl F0 Hb F' H' σ own Q (a.grow g) fun v F2 H2 g2 q2 => k v F2 H2 (g.trans g2) q2
  | false => exact k _ F' H' g rfl⟩
theorem ev_if {tc : TT} {α : Type} {b : Bool} {x y : α} (f : α → Ds) (h : EvT Γ tc b) (h1 : b = true → Ev Γ ta m (f x)) (h2 : b = false → Ev Γ tb m (f y)) : Ev Γ (tIf tc ta tb) m (f (bif b then x else y)) := fun F0 Hb F H σ own Q a k => h F0 Hb F H σ own _ a fun F' H' g => by
  cases b with
  | true => exact h1 rfl F0 Hb F' H' σ own Q (a.grow g) fun v F2 H2 g2 q2 => k v F2 H2 (g.trans g2) q2
  | false => exact h2 rfl F0 Hb F' H' σ own Q (a.grow g) fun v F2 H2 g2 q2 => k v F2 H2 (g.trans g2) q2

theorem eva_nil : EvA Γ tNil m [] := fun F0 Hb F H σ own Q a k => k [] F H (Grow.refl a.fh) .nil
theorem eva_cons {tr : TA} (h : Ev Γ ta m d) (h2 : EvA Γ tr m ds) : EvA Γ (tCons ta tr) m (d :: ds) := fun F0 Hb F H σ own Q a k =>
  h F0 Hb F H σ own _ a fun v F1 H1 g1 q1 => h2 F0 Hb F1 H1 σ own _ (a.grow g1) fun vs F2 H2 g2 q2 => k _ F2 H2 (g1.trans g2) (.cons (d.up (part_up g2.f) q1) q2)
theorem ev_lst {tr : TA} (h : EvA Γ tr m ds) (hz : ds.length ≤ sizeLine) : EvO Γ (tLst tr) m ds := fun F0 Hb F H σ own Q a k =>
  h F0 Hb F H σ own _ a fun vs F1 H1 g1 q1 => ⟨by rw [Paired.length q1]; exact hz, fun p hp => by
    obtain ⟨h1, h2, h3⟩ := a.free g1 hp
    exact k p vs F1 _ (g1.newH hp) h1 h2 upd_same q1⟩
theorem ev_tup {tr : TA} (h : EvA Γ tr m ds) (hz : ds.length ≤ sizeLine) : Ev Γ (tTup tr) m (dT ds) := fun F0 Hb F H σ own Q a k =>
  h F0 Hb F H σ own _ a fun vs F1 H1 g1 q1 => ⟨by rw [Paired.length q1]; exact hz, fun p hp => by
    obtain ⟨h1, h2, h3⟩ := a.free g1 hp
    exact k (.ref p) _ _ (g1.new hp) ⟨p, vs, rfl, part_new h3 upd_same, pr_up (ds := []) (part_up (Same.new h2 _)) q1⟩⟩
theorem ev_nillst {tr : TA} (h : EvA Γ tr m []) : EvO Γ (tLst tr) m [] := ev_lst h (Nat.zero_le _)

theorem atI_paired {R : V → Ds → Prop} {vs : List V} {ds : List Ds} {i : Int} {d : Ds} (h : Paired R vs ds) (e : atI ds i = some d) : ∃ v, atI vs i = some v ∧ R v d := by
  unfold atI at e ⊢
  rw [Paired.length h]
  cases q : ixN ds.length i with
  | none => rw [q] at e; cases e
  | some j =>
    rw [q] at e
    obtain ⟨v, e1, r⟩ := paired_get h (show ds[j]? = some d from e)
    exact ⟨v, e1, r⟩
theorem atI_map {α β : Type} {f : α → β} {xs : List α} {i : Int} {x : α} (e : atI xs i = some x) : atI (xs.map f) i = some (f x) := by
  unfold atI at e ⊢
  rw [List.length_map]
  cases q : ixN xs.length i with
  | none => rw [q] at e; cases e
  | some j =>
    rw [q] at e
    have e' : xs[j]? = some x := e
    show (xs.map f)[j]? = _
    rw [List.getElem?_map, e']
    rfl
theorem ev_ix {i : Int} (h1 : Ev Γ ta m (dQ K ds)) (h2 : Ev Γ tb false (dI i)) (e : atI ds i = some d) : Ev Γ (tOp (rIxL K) ta tb) m d := fun F0 Hb F H σ own Q a k =>
  h1 F0 Hb F H σ own _ a fun u F1 H1 g1 ⟨p, vs, e1, e2, e3⟩ => h2 F0 Hb F1 H1 σ own _ (a.grow g1) fun v F2 H2 g2 q2 => by
    obtain ⟨x, ex, rx⟩ := atI_paired e3 e
    exact ⟨p, vs, i, x, e1, q2, (part_sub.trans (g2.f.trans g2.fh)).seq e2, ex, k x F2 H2 (g1.trans g2) (d.up (part_up g2.f) rx)⟩
theorem ev_ixT {i : Int} (h1 : Ev Γ ta m (dT ds)) (h2 : Ev Γ tb false (dI i)) (e : atI ds i = some d) : Ev Γ (tOp (rIxT K) ta tb) m d := fun F0 Hb F H σ own Q a k =>
  h1 F0 Hb F H σ own _ a fun u F1 H1 g1 ⟨p, vs, e1, e2, e3⟩ => h2 F0 Hb F1 H1 σ own _ (a.grow g1) fun v F2 H2 g2 q2 => by
    obtain ⟨x, ex, rx⟩ := atI_paired e3 e
    exact ⟨p, vs, i, x, e1, q2, .inl (.inl ((part_sub.trans (g2.f.trans g2.fh)) _ _ e2)), ex, k x F2 H2 (g1.trans g2) (d.up (part_up g2.f) rx)⟩
theorem ev_len {t : TE} (h1 : Ev Γ t false (dQ K ds)) : Ev Γ (tCB (fun xs H Q => ∃ p ys, xs = [.ref p] ∧ (SqL K H p ys ∨ SqT K H p ys) ∧ Q (.int ys.length) H) (tCons t tNil)) m (dI ds.length) := fun F0 Hb F H σ own Q a k =>
  h1 F0 Hb F H σ own _ a fun u F1 H1 g1 ⟨p, vs, e1, e2, e3⟩ => ⟨p, vs, by rw [e1], .inl (g1.fh.seq e2), k _ F1 H1 g1 (by show V.int _ = _; rw [Paired.length e3])⟩
theorem ev_list {t : TE} (h1 : Ev Γ t m (dQ K ds)) : EvO Γ (tCB (fun xs H Q => ∃ p ys, xs = [.ref p] ∧ (SqL K H p ys ∨ SqT K H p ys) ∧ ∀ l, H l = none → Q (.ref l) (upd H l (.lst ys))) (tCons t tNil)) m ds := fun F0 Hb F H σ own Q a k =>
  h1 F0 Hb F H σ own _ a fun u F1 H1 g1 ⟨p, vs, e1, e2, e3⟩ => ⟨p, vs, by rw [e1], .inl ((part_sub.trans g1.fh).seq e2), fun l hl => by
    obtain ⟨h1, h2, h3⟩ := a.free g1 hl
    exact k l vs F1 _ (g1.newH hl) h1 h2 upd_same e3⟩
theorem evp_none : EvP Γ tNoPart none := fun F0 Hb F H σ own Q a k => k F H (Grow.refl a.fh)
theorem evp_some {i : Int} (h : Ev Γ t false (dI i)) : EvP Γ (tPart t) (some i) := fun F0 Hb F H σ own Q a k => h F0 Hb F H σ own _ a fun v F' H' g q => ⟨i, q, k F' H' g⟩
def cutD {α : Type} (xs : List α) (lo hi : Option Int) : List α := (xs.drop (HT.sIx xs.length 0 lo)).take (HT.sIx xs.length xs.length hi - HT.sIx xs.length 0 lo)
theorem cutD_map {α β : Type} {f : α → β} {xs : List α} {lo hi : Option Int} : (cutD xs lo hi).map f = cutD (xs.map f) lo hi := by
  unfold cutD; rw [List.map_take, List.map_drop, List.length_map]
theorem ev_cut {tl th : TO} {lo hi : Option Int} (h1 : Ev Γ t m (dQ K ds)) (h2 : EvP Γ tl lo) (h3 : EvP Γ th hi) : EvO Γ (tSl (rSlL K) t tl th) m (cutD ds lo hi) := fun F0 Hb F H σ own Q a k =>
  h1 F0 Hb F H σ own _ a fun u F1 H1 g1 ⟨p, vs, e1, e2, e3⟩ => h2 F0 Hb F1 H1 σ own _ (a.grow g1) fun F2 H2 g2 => h3 F0 Hb F2 H2 σ own _ ((a.grow g1).grow g2) fun F3 H3 g3 =>
    ⟨p, vs, e1, (part_sub.trans (g1.fh.trans (g2.h.trans g3.h))).seq e2, fun l hl => by
      have g := g1.trans (g2.trans g3)
      obtain ⟨h1, h2, h3⟩ := a.free g hl
      refine k l _ F3 _ (g.newH hl) h1 h2 upd_same ?_
      unfold cutV cutD
      rw [Paired.length e3]
      exact paired_take _ (paired_drop _ (pr_up (ds := []) (part_up (g2.f.trans g3.f)) e3))⟩
theorem ev_cat {es : List Ds} (h1 : Ev Γ ta m (dL ds)) (h2 : Ev Γ tb m (dL es)) (hz : ds.length + es.length ≤ sizeLine) : EvO Γ (tOp rCat ta tb) m (ds ++ es) := fun F0 Hb F H σ own Q a k =>
  h1 F0 Hb F H σ own _ a fun u F1 H1 g1 ⟨p, vs, e1, e2, e3⟩ => h2 F0 Hb F1 H1 σ own _ (a.grow g1) fun v F2 H2 g2 ⟨q, ws, f1, f2, f3⟩ =>
    ⟨p, q, vs, ws, e1, f1, (part_sub.trans (g2.f.trans g2.fh)) _ _ e2, (part_sub.trans g2.fh) _ _ f2, by rw [Paired.length e3, Paired.length f3]; exact hz, fun l hl => by
      have g := g1.trans g2
      obtain ⟨h1, h2, h3⟩ := a.free g hl
      exact k l _ F2 _ (g.newH hl) h1 h2 upd_same (paired_append (pr_up (ds := []) (part_up g2.f) e3) f3)⟩
theorem ev_intB {b : Bool} {tr : TA} (h : EvA Γ tr false [dB b]) : Ev Γ (tCB (fun xs H Q => (∃ i, xs = [.int i] ∧ Q (.int i) H) ∨ ∃ k, xs = [.bl k] ∧ Q (.int (if k then 1 else 0)) H) tr) m (dI (if b then 1 else 0)) := fun F0 Hb F H σ own Q a k =>
  h F0 Hb F H σ own _ a fun vs F1 H1 g1 q => by
    cases q with | cons q1 q => cases q; cases q1; exact .inr ⟨b, rfl, k _ F1 H1 g1 rfl⟩
theorem paired_vals {f : α → V} {R : Hp} {xs : List α} : ∀ {vs : List V}, Paired (fun v (d : Ds) => d.pr R v) vs (xs.map fun x => dV (f x)) → vs = xs.map f := by
  induction xs with
  | nil => intro vs h; cases h; rfl
  | cons x xs ih => intro vs h; cases h with | cons h1 h2 => rw [ih h2, h1]; rfl
inductive Rs where
  | va (m : Bool) (d : Ds)
  | ow (m : Bool) (ds : List Ds)
  | ex (C : Addr)
def Spv {ι : Type} (args : ι → List Ds) (pre : ι → Prop) (res : ι → Rs) : Sp := fun vs H Q E => ∃ (x : ι) (F : Hp), Same F H ∧ Paired (fun v (d : Ds) => d.pr F v) vs (args x) ∧ pre x ∧ match res x with
  | .ex C => ∀ dct F' H', Grow F H F' H' → E (.ref C) dct H'
  | .va m d => ∀ v F' H', Grow F H F' H' → d.pr (part m F' H) v → Q v H'
  | .ow m ds => ∀ p ws F' H', Grow F H F' H' → H p = none → F' p = none → H' p = some (.lst ws) → Paired (fun v (d : Ds) => d.pr (part m F' H) v) ws ds → Q (.ref p) H'
theorem part_old {m : Bool} {F Hb H : Hp} (e : Same Hb H) : Same (part m F H) (part m F Hb) := by
  cases m with
  | true => exact off_old e
  | false => exact Same.refl _
theorem ev_call {ι : Type} {args : ι → List Ds} {pre : ι → Prop} {res : ι → Rs} {tr : TA} {E : XK} (x : ι) (h : EvA Γ tr false ds) (ha : ds = args x) (hp : pre x) (hr : res x = .va m d) : Ev Γ (tCall (Spv args pre res) [] E tr) m d := fun F0 Hb F H σ own Q a k => by
  subst ha
  refine h F0 Hb F H σ own _ a fun vs F1 H1 g1 q1 => ⟨x, F1, g1.fh, by rw [List.append_nil]; exact q1, hp, ?_⟩
  rw [hr]
  exact fun v F' H' g q => k v F' H' (g1.trans g) (d.up (part_old (a.g.h.trans g1.h)) q)
theorem ev_callO {ι : Type} {args : ι → List Ds} {pre : ι → Prop} {res : ι → Rs} {tr : TA} {E : XK} (x : ι) (h : EvA Γ tr false es) (ha : es = args x) (hp : pre x) (hr : res x = .ow m ds) : EvO Γ (tCall (Spv args pre res) [] E tr) m ds := fun F0 Hb F H σ own Q a k => by
  subst ha
  refine h F0 Hb F H σ own _ a fun vs F1 H1 g1 q1 => ⟨x, F1, g1.fh, by rw [List.append_nil]; exact q1, hp, ?_⟩
  rw [hr]
  exact fun p ws F' H' g h1 h2 h3 q => k p ws F' H' (g1.trans g) (g1.h.free h1) h2 h3 (pr_up (ds := []) (part_old (a.g.h.trans g1.h)) q)
end
end L2

namespace L2
open PySem PySem.Spec PyProof.Rows

def setV : List Nat → List V → St → St
  | j :: js, v :: vs, σ => setV js vs (σ.set j (some v))
  | _, _, σ => σ
def setC : List Nat → List Ds → Bool → Ctx → Ctx
  | j :: js, d :: ds, m, Γ => setC js ds m (Γ.set j (.va m d))
  | _, _, _, Γ => Γ
theorem At.setMany {F0 Hb F H : Hp} {own : Nat → Option Addr} {m : Bool} : ∀ {js : List Nat} {vs : List V} {ds : List Ds} {σ : St} {Γ : Ctx}, At F0 Hb F H σ own Γ → Paired (fun v (d : Ds) => d.pr (part m F Hb) v) vs ds →
    At F0 Hb F H (setV js vs σ) own (setC js ds m Γ)
  | [], _, _, _, _, a, .nil => a
  | [], _, _, _, _, a, .cons _ _ => a
  | _ :: _, _, _, _, _, a, .nil => a
  | j :: js, _, _, _, _, a, .cons h t => At.setMany (js := js) (a.set j h) t
theorem At.unset {F0 Hb F H : Hp} {own : Nat → Option Addr} {σ : St} {Γ : Ctx} {j : Nat} {s : Slot} (a : At F0 Hb F H σ own (Γ.set j s)) (h : Γ[j]? = some .no) : At F0 Hb F H σ own Γ :=
  ⟨a.g, a.inj, a.liv, fun i r e => by
    by_cases z : j = i
    · subst z; rw [h] at e; cases e; trivial
    · exact a.sl i r (by rw [List.getElem?_set_ne z]; exact e), by rw [a.len]; simp⟩
theorem At.unsetMany {F0 Hb F H : Hp} {own : Nat → Option Addr} {σ : St} {m : Bool} : ∀ {js : List Nat} {ds : List Ds} {Γ : Ctx}, At F0 Hb F H σ own (setC js ds m Γ) → (∀ j ∈ js, Γ[j]? = some .no) → js.Nodup → At F0 Hb F H σ own Γ
  | [], [], _, a, _, _ => a
  | [], _ :: _, _, a, _, _ => a
  | _ :: _, [], _, a, _, _ => a
  | j :: js, d :: ds, Γ, a, h, hn => by
    have hn := List.nodup_cons.mp hn
    refine At.unset (At.unsetMany (js := js) (ds := ds) (Γ := Γ.set j (.va m d)) a (fun i hi => ?_) hn.2) (h j List.mem_cons_self)
    rw [List.getElem?_set_ne (fun (z : j = i) => hn.1 (by rw [z]; exact hi))]
    exact h i (List.mem_cons_of_mem _ hi)

def ItOk {γ : Type} (Hb F : Hp) (J : It) (g : TG) (js : List Nat) (xs : List γ) (bds : γ → List Ds) (m : Bool) : Prop := ∀ H, Same F H → J.stop xs.length H ∧ ∀ i x, xs[i]? = some x → J.go i H ∧
  ∀ v H', J.yld i H v H' → Grow F H F H' ∧ ∀ (σ : St) (Q : St → Hp → Prop), (∀ vs, Paired (fun v (d : Ds) => d.pr (part m F Hb) v) vs (bds x) → Q (setV js vs σ) H') → g v σ H' Q
def Iv {γ : Type} (Γ : Ctx) (wi : TI) (g : TG) (js : List Nat) (xs : List γ) (bds : γ → List Ds) (m : Bool) : Prop := ∀ (F0 Hb F H : Hp) (σ : St) (own : Nat → Option Addr) (R : It → Hp → Prop), At F0 Hb F H σ own Γ →
  (∀ J F' H', Grow F H F' H' → ItOk Hb F' J g js xs bds m → R J H') → wi σ H R

section
variable {Γ : Ctx} {m : Bool} {K : PySem.W.Frag} {γ δ : Type}
theorem ItOk.up {Hb F F' : Hp} {J : It} {g : TG} {js : List Nat} {xs : List γ} {bds : γ → List Ds} (h : ItOk Hb F J g js xs bds m) (e : Same F F') : ItOk Hb F' J g js xs bds m := fun H hs => by
  obtain ⟨h1, h2⟩ := h H (e.trans hs)
  refine ⟨h1, fun i x ex => ?_⟩
  obtain ⟨h3, h4⟩ := h2 i x ex
  refine ⟨h3, fun v H' y => ?_⟩
  obtain ⟨h5, h6⟩ := h4 v H' y
  exact ⟨⟨Same.refl _, hs.trans h5.h, h5.h, fun _ _ z => z⟩, fun σ Q k => h6 σ Q fun vs q => k vs (pr_up (ds := []) (part_up e) q)⟩
theorem iv_list {tl : TE} {j : Nat} {xs : List γ} (f : γ → Ds) (h : Ev Γ tl m (dQ K (xs.map f))) : Iv Γ (iList K tl) (gName j) [j] xs (fun x => [f x]) m := fun F0 Hb F H σ own R a k =>
  h F0 Hb F H σ own _ a fun u F1 H1 g1 ⟨p, vs, e1, e2, e3⟩ => by
    have e2' : SqL K F1 p vs := part_sub.seq e2
    refine ⟨p, e1, ⟨vs, g1.fh.seq e2'⟩, k _ F1 H1 g1 fun H hs => ⟨⟨vs, hs.seq e2', by rw [Paired.length e3, List.length_map]; exact Nat.le_refl _⟩, fun i x ex => ?_⟩⟩
    obtain ⟨v, ev, qv⟩ := paired_get e3 (show (xs.map f)[i]? = some (f x) by rw [List.getElem?_map, ex]; rfl)
    refine ⟨⟨vs, v, hs.seq e2', ev⟩, fun w H' y => ?_⟩
    obtain ⟨rfl, y⟩ := y
    have := y vs (hs.seq e2')
    rw [ev] at this
    cases this
    exact ⟨Grow.refl hs, fun σ Q k => k [v] (.cons qv .nil)⟩
def rngZ (lo : Int) (n : Nat) : List Int := (List.range n).map fun (i : Nat) => lo + (i : Int)
theorem rngZ_len {lo : Int} {n : Nat} : (rngZ lo n).length = n := by simp [rngZ]
theorem rngZ_get {lo : Int} {n i : Nat} {x : Int} (h : (rngZ lo n)[i]? = some x) : i < n ∧ x = lo + i := by
  unfold rngZ at h
  rw [List.getElem?_map] at h
  by_cases z : i < n
  · rw [List.getElem?_range z] at h
    exact ⟨z, (Option.some.inj h).symm⟩
  · rw [List.getElem?_eq_none (by simp; omega)] at h; cases h
theorem it_rng {Hb F : Hp} {lo : Int} {n j : Nat} : ItOk Hb F (Itr lo n) (gName j) [j] (rngZ lo n) (fun x => [dI x]) m := fun H hs =>
  ⟨by show n ≤ _; rw [rngZ_len]; exact Nat.le_refl _, fun i x ex => by
    obtain ⟨hi, rfl⟩ := rngZ_get ex
    refine ⟨hi, fun v H' y => ?_⟩
    obtain ⟨rfl, rfl⟩ := y
    exact ⟨Grow.refl hs, fun σ Q k => k [_] (.cons rfl .nil)⟩⟩
theorem iv_rng1 {t : TE} {j : Nat} {n : Int} (h : Ev Γ t false (dI n)) (hn : -(2 ^ 62) ≤ n ∧ n < 2 ^ 62) : Iv Γ (iRng1 (tCons t tNil)) (gName j) [j] (rngZ 0 n.toNat) (fun x => [dI x]) m := fun F0 Hb F H σ own R a k =>
  h F0 Hb F H σ own _ a fun u F1 H1 g1 q1 => ⟨n, by rw [q1], hn.1, hn.2, k _ F1 H1 g1 it_rng⟩
theorem iv_rng2 {ta tb : TE} {j : Nat} {lo hi : Int} (h1 : Ev Γ ta false (dI lo)) (h2 : Ev Γ tb false (dI hi)) (hn : -(2 ^ 62) ≤ lo ∧ lo < 2 ^ 62 ∧ -(2 ^ 62) ≤ hi ∧ hi < 2 ^ 62) : Iv Γ (iRng2 (tCons ta (tCons tb tNil))) (gName j) [j] (rngZ lo (hi - lo).toNat) (fun x => [dI x]) m := fun F0 Hb F H σ own R a k =>
  h1 F0 Hb F H σ own _ a fun u F1 H1 g1 q1 => h2 F0 Hb F1 H1 σ own _ (a.grow g1) fun v F2 H2 g2 q2 => ⟨lo, hi, by rw [q1, q2], hn, k _ F2 H2 (g1.trans g2) it_rng⟩
theorem zip_get {α β : Type} {xs : List α} {ys : List β} {i : Nat} {p : α × β} (h : (xs.zip ys)[i]? = some p) : xs[i]? = some p.1 ∧ ys[i]? = some p.2 := by
  rw [List.getElem?_zip_eq_some] at h; exact h
theorem iv_zip {ta tb : TE} {j1 j2 : Nat} {xs : List γ} {ys : List δ} (f1 : γ → Ds) (f2 : δ → Ds) (h1 : Ev Γ ta m (dQ K (xs.map f1))) (h2 : Ev Γ tb m (dQ K (ys.map f2))) :
    Iv Γ (iZip K (tCons ta (tCons tb tNil))) (gTup K 2 (gCons (gName j1) (gCons (gName j2) gNil))) [j1, j2] (xs.zip ys) (fun x => [f1 x.1, f2 x.2]) m := fun F0 Hb F H σ own R a k =>
  h1 F0 Hb F H σ own _ a fun u F1 H1 g1 ⟨p, vs, e1, e2, e3⟩ => h2 F0 Hb F1 H1 σ own _ (a.grow g1) fun u' F2 H2 g2 ⟨q, ws, d1, d2, d3⟩ => by
    have e2' : SqL K F2 p vs := g2.f.seq (part_sub.seq e2)
    have d2' : SqL K F2 q ws := part_sub.seq d2
    have e3' := pr_up (ds := []) (part_up (m := m) (Hb := Hb) g2.f) e3
    have le := Paired.length e3
    have ld := Paired.length d3
    rw [List.length_map] at le ld
    refine ⟨p, q, by rw [e1, d1], ⟨vs, g2.fh.seq e2'⟩, ⟨ws, g2.fh.seq d2'⟩, k _ F2 H2 (g1.trans g2) fun H hs => ⟨⟨vs, ws, hs.seq e2', hs.seq d2', by rw [le, ld, List.length_zip]; omega⟩, fun i x ex => ?_⟩⟩
    obtain ⟨x1, x2⟩ := zip_get ex
    obtain ⟨v, ev, qv⟩ := paired_get e3' (show (xs.map f1)[i]? = some (f1 x.1) by rw [List.getElem?_map, x1]; rfl)
    obtain ⟨w, ew, qw⟩ := paired_get d3 (show (ys.map f2)[i]? = some (f2 x.2) by rw [List.getElem?_map, x2]; rfl)
    refine ⟨⟨vs, ws, v, w, hs.seq e2', hs.seq d2', ev, ew⟩, fun z H' y => ?_⟩
    obtain ⟨r, x', y', rfl, hr, rfl, hxy⟩ := y
    obtain ⟨hx, hy⟩ := hxy vs ws (hs.seq e2') (hs.seq d2')
    rw [ev] at hx; rw [ew] at hy
    cases hx; cases hy
    exact ⟨(Grow.refl hs).newH hr, fun σ Q k => ⟨r, _, rfl, .inl (.inl upd_same), rfl, _, _, rfl, _, _, rfl, rfl, k [v, w] (.cons qv (.cons qw .nil))⟩⟩

def blkS : Option Slot → Slot
  | some (.va m d) => .va m d
  | _ => .no
def blkC (own : Nat) (fv : List Nat) (Γ : Ctx) : Ctx := List.replicate own .no ++ fv.map fun i => blkS Γ[i]?
theorem At.block {F0 Hb F H : Hp} {own : Nat → Option Addr} {σ : St} (a : At F0 Hb F H σ own Γ) (k : Nat) (fv : List Nat) : At F0 Hb F H (blkSt k fv σ) (fun _ => none) (blkC k fv Γ) := by
  refine ⟨a.g, fun _ _ _ h => (by cases h), fun _ _ h => (by cases h), fun i s e => ?_, ?_⟩
  · unfold blkC at e
    unfold blkSt
    by_cases hi : i < k
    · rw [List.getElem?_append_left (by simpa using hi), List.getElem?_replicate, if_pos hi] at e
      cases e; trivial
    · rw [List.getElem?_append_right (by simpa using hi), List.length_replicate, List.getElem?_map] at e
      rw [List.getElem?_append_right (by simpa using hi), List.length_replicate, List.getElem?_map]
      cases q : fv[i - k]? with
      | none => rw [q] at e; cases e
      | some j =>
        rw [q] at e
        have e' : blkS Γ[j]? = s := Option.some.inj e
        subst e'
        show SlotOk Hb F H (fun _ => none) _ ((σ[j]?).join) (blkS Γ[j]?)
        cases z : Γ[j]? with
        | none => trivial
        | some r =>
          cases r with
          | no => trivial
          | va m d => exact (show SlotOk Hb F H own j _ (.va m d) from a.sl j _ z)
          | ow m ds => trivial
          | ob m C p dx fs => trivial
          | ol p ds => trivial
          | tl d => trivial
  · unfold blkSt blkC; simp
theorem blkC_tl {k : Nat} {fv : List Nat} {j : Nat} {d : Ds} (e : (blkC k fv Γ)[j]? = some (.tl d)) : False := by
  unfold blkC at e
  have := List.mem_of_getElem? e
  rcases List.mem_append.mp this with q | q
  · cases (List.mem_replicate.mp q).2
  · obtain ⟨l, _, q⟩ := List.mem_map.mp q
    unfold blkS at q
    split at q <;> cases q
theorem evt_noif : EvT Γ tNoIf true := fun F0 Hb F H σ own Q a k => k F H (Grow.refl a.fh)
theorem take_snoc {xs : List γ} {i : Nat} {x : γ} (h : xs[i]? = some x) : xs.take (i + 1) = xs.take i ++ [x] := by
  rw [List.take_succ, h]; rfl
theorem ev_comp {own : Nat} {fv : List Nat} {wi : TI} {tg : TG} {tt : TTs} {te : TE} {js : List Nat} {xs : List γ} {bds : γ → List Ds} {mi : Bool} {c : γ → Bool} {g : γ → Ds} (it : Iv Γ wi tg js xs bds mi) (hz : xs.length ≤ sizeLine) (hj : (∀ j ∈ js, j < own) ∧ js.Nodup)
    (ht : ∀ (i : Nat) (x : γ), xs[i]? = some x → EvT (setC js (bds x) mi (blkC own fv Γ)) tt (c x)) (he : ∀ (i : Nat) (x : γ), xs[i]? = some x → c x = true → Ev (setC js (bds x) mi (blkC own fv Γ)) te m (g x)) : EvO Γ (tComp own fv wi tg tt te) m ((xs.filter c).map g) := fun F0 Hb F H σ ow Q a k =>
  it F0 Hb F H σ ow _ a fun J F1 H1 g1 ok D hD => by
    have hno : ∀ j ∈ js, (blkC own fv Γ)[j]? = some .no := fun j hj' => by
      have := hj.1 j hj'
      unfold blkC
      rw [List.getElem?_append_left (by simpa using this), List.getElem?_replicate, if_pos this]
    obtain ⟨hD0, hDF, hDb⟩ := a.free g1 hD
    refine ⟨fun i mm ys σb H2 => mm = xs.length - i ∧ i ≤ xs.length ∧ ys.length ≤ i ∧ ∃ F2, Grow F1 H1 F2 H2 ∧ F2 D = none ∧ H2 D = some (.lst ys) ∧ Paired (fun v (d : Ds) => d.pr (part m F2 Hb) v) ys (((xs.take i).filter c).map g) ∧ At F0 Hb F2 H2 σb (fun _ => none) (blkC own fv Γ),
      ⟨_, rfl, Nat.zero_le _, Nat.zero_le _, F1, (Grow.refl g1.fh).newH hD, hDF, upd_same, by simpa using Paired.nil, ((a.grow g1).block own fv).grow ((Grow.refl g1.fh).newH hD)⟩, ?_⟩
    rintro i mm ys σb H2 ⟨rfl, hi, hy, F2, g2, hF2, hH2, hP, a2⟩
    refine ⟨hH2, ?_⟩
    obtain ⟨hstop, hitem⟩ := ok.up g2.f H2 g2.fh
    by_cases hlt : i < xs.length
    · obtain ⟨go, yl⟩ := hitem i xs[i] (List.getElem?_eq_getElem hlt)
      refine .inr ⟨go, fun x H' y => ?_⟩
      obtain ⟨g3, bind⟩ := yl x H' y
      refine bind σb _ fun vs hvs => ?_
      have a3 := (a2.grow g3).setMany (js := js) hvs
      have hx : xs[i]? = some xs[i] := List.getElem?_eq_getElem hlt
      refine ht i _ hx F0 Hb F2 H' _ _ _ a3 fun F4 H4 g4 => ?_
      have tk := take_snoc hx
      have gD : ∀ {F5 H5 : Hp}, Grow F2 H2 F5 H5 → F5 D = none ∧ H5 D = some (.lst ys) := fun g => ⟨g.no D (by rw [hH2]; simp) hF2, g.h _ _ hH2⟩
      cases hc : c xs[i] with
      | true =>
        rw [if_pos rfl]
        refine he i _ hx hc F0 Hb F4 H4 _ _ _ (a3.grow g4) fun v F5 H5 g5 q5 => ?_
        have g25 := g3.trans (g4.trans g5)
        obtain ⟨n1, n2⟩ := gD g25
        have sD : Same H5 H5 := Same.refl _
        have n3 : H1 D = none := hD
        refine ⟨n2, by omega, xs.length - (i + 1), by omega, rfl, hlt, by simp; omega, F5, ?_, n1, upd_same, ?_, ?_⟩
        · exact (g2.trans g25).setH n1 n3
        · rw [tk, List.filter_append, List.map_append]
          refine paired_append (pr_up (ds := []) (part_up g25.f) hP) ?_
          rw [List.filter_cons, hc]
          exact .cons q5 .nil
        · have a5 := ((a3.grow g4).grow g5).unsetMany hno hj.2
          refine ⟨a5.g.setH n1 hDb, a5.inj, fun _ _ h => (nomatch h), fun j s es => ?_, a5.len⟩
          · have := a5.sl j s es
            cases s with
            | no => trivial
            | va m d => exact this
            | ow m ds => obtain ⟨_, _, _, h, _⟩ := this; exact (nomatch h)
            | ob m C p dx fs => obtain ⟨_, _, h, _⟩ := this; exact (nomatch h)
            | ol p ds => obtain ⟨_, _, h, _⟩ := this; exact (nomatch h)
            | tl d => exact (blkC_tl es).elim
      | false =>
        rw [if_neg Bool.false_ne_true]
        have g25 := g3.trans g4
        obtain ⟨n1, n2⟩ := gD g25
        refine ⟨xs.length - (i + 1), by omega, rfl, hlt, by omega, F4, g2.trans g25, n1, n2, ?_, (a3.grow g4).unsetMany hno hj.2⟩
        rw [tk, List.filter_append, List.map_append, List.filter_cons, hc]
        simpa using pr_up (ds := []) (part_up g25.f) hP
    · have e : i = xs.length := by omega
      subst e
      rw [List.take_length] at hP
      exact .inl ⟨hstop, k D ys F2 H2 (g1.trans g2) hD0 hF2 hH2 hP⟩
theorem ev_map {own : Nat} {fv : List Nat} {wi : TI} {tg : TG} {te : TE} {js : List Nat} {xs : List γ} {bds : γ → List Ds} {mi : Bool} {g : γ → Ds} (it : Iv Γ wi tg js xs bds mi) (hz : xs.length ≤ sizeLine) (hj : (∀ j ∈ js, j < own) ∧ js.Nodup)
    (he : ∀ (i : Nat) (x : γ), xs[i]? = some x → Ev (setC js (bds x) mi (blkC own fv Γ)) te m (g x)) : EvO Γ (tComp own fv wi tg tNoIf te) m (xs.map g) := by
  have := ev_comp (c := fun _ => true) it hz hj (fun _ _ _ => evt_noif) (fun i x hx _ => he i x hx)
  rwa [show xs.filter (fun _ => true) = xs from List.filter_eq_self.mpr fun _ _ => rfl] at this
end

inductive Oc where
  | nx (Γ : Ctx)
  | rt (m : Bool) (d : Ds)
  | rl (m : Bool) (ds : List Ds)
  | bk (Γ : Ctx)
  | ct (Γ : Ctx)
    | ex (C : Addr) (Γ : Ctx)
    | rw (Γ : Ctx) (d : Ds)
def Meets (E : XS) (F0 Hb : Hp) (D : Ends) : Oc → Prop
  | .ex C Γ => ∀ dct F H σ own, At F0 Hb F H σ own Γ → E σ (.ref C) dct H
  | .rw Γ d => ∀ v F H σ own, At F0 Hb F H σ own Γ → d.pr F v → D.rt v H
  | .nx Γ => ∀ F H σ own, At F0 Hb F H σ own Γ → D.nx σ H
  | .bk Γ => ∀ F H σ own, At F0 Hb F H σ own Γ → D.bk σ H
  | .ct Γ => ∀ F H σ own, At F0 Hb F H σ own Γ → D.ct σ H
  | .rt m d => ∀ v F H, Grow F0 Hb F H → d.pr (part m F Hb) v → D.rt v H
  | .rl m ds => ∀ p vs F H, Grow F0 Hb F H → Hb p = none → F p = none → H p = some (.lst vs) → Paired (fun v (d : Ds) => d.pr (part m F Hb) v) vs ds → D.rt (.ref p) H
def Run (E : XS) (Γ : Ctx) (t : TS) (o : Oc) : Prop := ∀ (F0 Hb F H : Hp) (σ : St) (own : Nat → Option Addr) (D : Ends), At F0 Hb F H σ own Γ → Meets E F0 Hb D o → t D σ H
def Let {α : Type} {β : Type} (a : α) (k : α → β) : β := k a
def loopR {σ : Type} {γ : Type} {β : Type} (f : σ → γ → σ ⊕ β) : σ → List γ → σ ⊕ β
  | s, [] => .inl s
  | s, x :: xs => match f s x with | .inl s' => loopR f s' xs | .inr b => .inr b

section
variable {E : XS} {Γ Δ : Ctx} {m : Bool} {K : PySem.W.Frag} {γ β : Type} {te : TE} {t u : TS} {d : Ds} {ds : List Ds} {o : Oc} {i : Nat}
theorem run_next (w : Wk Γ Δ) : Run E Γ tNext (.nx Δ) := fun F0 Hb F H σ own D a k => k F H σ own (a.wk w)
theorem run_ret (h : Ev Γ te m d) : Run E Γ (tRet te) (.rt m d) := fun F0 Hb F H σ own D a k => h F0 Hb F H σ own _ a fun v F' H' g q => k v F' H' (a.g.trans g) q
theorem run_retO (h : EvO Γ te m ds) : Run E Γ (tRet te) (.rl m ds) := fun F0 Hb F H σ own D a k => h F0 Hb F H σ own _ a fun p vs F' H' g h1 h2 h3 q => k p vs F' H' (a.g.trans g) (a.g.h.free h1) h2 h3 q
theorem run_retOwn (e : Γ[i]? = some (.ow m ds)) : Run E Γ (tRet (tVar i)) (.rl m ds) := fun F0 Hb F H σ own D a k => by
  obtain ⟨p, vs, e1, e2, e3, e4, e5, e6⟩ := a.sl i _ e
  have hi : i < σ.length := by rw [a.len]; exact (List.getElem?_eq_some_iff.mp e).1
  rw [List.getElem?_eq_getElem hi] at e1
  have e' : σ[i] = some (.ref p) := e1
  exact ⟨_, by rw [List.getElem?_eq_getElem hi, e'], k p vs F H a.g e4 e3 e5 e6⟩
theorem run_seq_ret (h : Run E Γ (tRet te) o) (ho : ∀ F0 Hb D D', D.rt = D'.rt → Meets E F0 Hb D o → Meets E F0 Hb D' o) : Run E Γ (tSeq (tRet te) u) o := fun F0 Hb F H σ own D a k => h F0 Hb F H σ own _ a (ho F0 Hb D { D with nx := u D } rfl k)
theorem run_seq_rt (h : Run E Γ (tRet te) (.rt m d)) : Run E Γ (tSeq (tRet te) u) (.rt m d) := run_seq_ret h fun _ _ _ _ e q v F H g p => e ▸ q v F H g p
theorem run_seq_rl (h : Run E Γ (tRet te) (.rl m ds)) : Run E Γ (tSeq (tRet te) u) (.rl m ds) := run_seq_ret h fun _ _ _ _ e q p vs F H g h1 h2 h3 h4 => e ▸ q p vs F H g h1 h2 h3 h4
theorem run_set (h : Ev Γ te m d) (k : Run E (Γ.set i (.va m d)) u o) : Run E Γ (tSeq (tAsg te (gName i)) u) o := fun F0 Hb F H σ own D a q =>
  h F0 Hb F H σ own _ a fun v F' H' g p => k F0 Hb F' H' _ own D ((a.grow g).set i p) q
theorem run_setO (h : EvO Γ te m ds) (k : Run E (Γ.set i (.ow m ds)) u o) : Run E Γ (tSeq (tAsg te (gName i)) u) o := fun F0 Hb F H σ own D a q =>
  h F0 Hb F H σ own _ a fun p vs F' H' g h1 h2 h3 h4 => k F0 Hb F' H' _ _ D (a.setOwn g i h1 h2 h3 h4) q
theorem run_let {α : Type} {x : α} (f : α → Ds) (fo : β → Oc) {kk : α → β} (h : Ev Γ te m (f x)) (k : ∀ y, y = x → Run E (Γ.set i (.va m (f y))) u (fo (kk y))) : Run E Γ (tSeq (tAsg te (gName i)) u) (fo (Let x kk)) := run_set h (k x rfl)
theorem run_letO {α : Type} {x : α} (f : α → List Ds) (fo : β → Oc) {kk : α → β} (h : EvO Γ te m (f x)) (k : ∀ y, y = x → Run E (Γ.set i (.ow m (f y))) u (fo (kk y))) : Run E Γ (tSeq (tAsg te (gName i)) u) (fo (Let x kk)) := run_setO h (k x rfl)
theorem run_drop (h : Ev Γ te m d) (k : Run E Γ u o) : Run E Γ (tSeq (tDrop te) u) o := fun F0 Hb F H σ own D a q =>
  h F0 Hb F H σ own _ a fun v F' H' g p => k F0 Hb F' H' σ own D (a.grow g) q
theorem run_share (e : Γ[i]? = some (.ow m ds)) (k : Run E (Γ.set i (.va m (dL ds))) t o) : Run E Γ t o := fun F0 Hb F H σ own D a q => by
  obtain ⟨F', own', _, a'⟩ := a.share e
  exact k F0 Hb F' H σ own' D a' q
theorem run_if_seq {α : Type} {tc : TT} {b : Bool} {x y : α} {r : TS} (fo : α → Oc) (h : EvT Γ tc b) (h1 : b = true → Run E Γ (tSeq t r) (fo x)) (h2 : b = false → Run E Γ (tSeq u r) (fo y)) : Run E Γ (tSeq (tIfS tc t u) r) (fo (bif b then x else y)) := fun F0 Hb F H σ own D a q =>
  h F0 Hb F H σ own _ a fun F' H' g => by
    cases b with
    | true => rw [if_pos rfl]; exact h1 rfl F0 Hb F' H' σ own D (a.grow g) q
    | false => rw [if_neg Bool.false_ne_true]; exact h2 rfl F0 Hb F' H' σ own D (a.grow g) q
theorem run_if_false {tc : TT} {r : TS} (h : EvT Γ tc false) (h1 : Run E Γ (tSeq u r) o) : Run E Γ (tSeq (tIfS tc t u) r) o := fun F0 Hb F H σ own D a q => h F0 Hb F H σ own _ a fun F' H' g => by
  rw [if_neg Bool.false_ne_true]; exact h1 F0 Hb F' H' σ own D (a.grow g) q
theorem run_join {tc : TT} {b : Bool} {r : TS} (G : Bool → Ctx) (h : EvT Γ tc b) (h1 : b = true → Run E Γ t (.nx (G true))) (h2 : b = false → Run E Γ u (.nx (G false))) (k : Run E (G b) r o) : Run E Γ (tSeq (tIfS tc t u) r) o := fun F0 Hb F H σ own D a q =>
  h F0 Hb F H σ own _ a fun F' H' g => by
    cases b with
    | true => rw [if_pos rfl]; exact h1 rfl F0 Hb F' H' σ own _ (a.grow g) fun F H σ own a' => k F0 Hb F H σ own D a' q
    | false => rw [if_neg Bool.false_ne_true]; exact h2 rfl F0 Hb F' H' σ own _ (a.grow g) fun F H σ own a' => k F0 Hb F H σ own D a' q
theorem run_seq_next (k : Run E Γ u o) : Run E Γ (tSeq tNext u) o := fun F0 Hb F H σ own D a q => k F0 Hb F H σ own D a q
theorem run_seq {Δ : Ctx} (h : Run E Γ t (.nx Δ)) (k : Run E Δ u o) : Run E Γ (tSeq t u) o := fun F0 Hb F H σ own D a q => h F0 Hb F H σ own _ a fun F H σ own a' => k F0 Hb F H σ own D a' q
theorem run_seq_assoc {r : TS} (h : Run E Γ (tSeq t (tSeq u r)) o) : Run E Γ (tSeq (tSeq t u) r) o := fun F0 Hb F H σ own D a q => h F0 Hb F H σ own D a q

theorem own_at {F0 Hb F H : Hp} {σ : St} {own : Nat → Option Addr} (a : At F0 Hb F H σ own Γ) (e : Γ[i]? = some (.ow m ds)) :
    ∃ p vs, σ[i]? = some (some (.ref p)) ∧ own i = some p ∧ F p = none ∧ Hb p = none ∧ H p = some (.lst vs) ∧ Paired (fun v (d : Ds) => d.pr (part m F Hb) v) vs ds := by
  obtain ⟨p, vs, e1, e2, e3, e4, e5, e6⟩ := a.sl i _ e
  have hi : i < σ.length := by rw [a.len]; exact (List.getElem?_eq_some_iff.mp e).1
  rw [List.getElem?_eq_getElem hi] at e1
  have e' : σ[i] = some (.ref p) := e1
  exact ⟨p, vs, by rw [List.getElem?_eq_getElem hi, e'], e2, e3, e4, e5, e6⟩
theorem run_append {te : TE} (e : Γ[i]? = some (.ow m ds)) (h : Ev Γ te m d) (hz : ds.length < sizeLine) (k : Run E (Γ.set i (.ow m (ds ++ [d]))) u o) : Run E Γ (tSeq (tDrop (tBM K "list" rAppend (tVar i) (tCons te tNil))) u) o := fun F0 Hb F H σ own D a q => by
  obtain ⟨p, vs, e1, e2, e3, e4, e5, e6⟩ := own_at a e
  refine ⟨_, e1, .inl ⟨rfl, _, SqL.of e5⟩, ?_⟩
  refine h F0 Hb F H σ own _ a fun v F' H' g qv => ?_
  obtain ⟨p', vs', f1, f2, f3, f4, f5, f6⟩ := own_at (a.grow g) e
  rw [e1] at f1
  cases f1
  exact ⟨p, vs', v, rfl, rfl, f5, by rw [Paired.length f6]; exact hz, k F0 Hb F' _ σ own D ((a.grow g).turn e e1 (paired_append f6 (.cons qv .nil))) q⟩
theorem ev_ownIx {tb : TE} {n : Bool} {j : Int} (e : Γ[i]? = some (.ow m ds)) (h2 : Ev Γ tb false (dI j)) (ej : atI ds j = some d) : Ev Γ (tOp (rIxL K) (tVar i) tb) m d := fun F0 Hb F H σ own Q a k => by
  obtain ⟨p, vs, e1, e2, e3, e4, e5, e6⟩ := own_at a e
  refine ⟨_, e1, h2 F0 Hb F H σ own _ a fun v F' H' g qv => ?_⟩
  obtain ⟨x, ex, rx⟩ := atI_paired e6 ej
  exact ⟨p, vs, j, x, rfl, qv, SqL.of (g.h _ _ e5), ex, k x F' H' g (d.up (part_up g.f) rx)⟩
theorem ev_ownLen {n : Bool} (e : Γ[i]? = some (.ow m ds)) : Ev Γ (tCB (fun xs H Q => ∃ p ys, xs = [.ref p] ∧ (SqL K H p ys ∨ SqT K H p ys) ∧ Q (.int ys.length) H) (tCons (tVar i) tNil)) n (dI ds.length) := fun F0 Hb F H σ own Q a k => by
  obtain ⟨p, vs, e1, e2, e3, e4, e5, e6⟩ := own_at a e
  exact ⟨_, e1, p, vs, rfl, .inl (SqL.of e5), k _ F H (Grow.refl a.fh) (by show V.int _ = _; rw [Paired.length e6])⟩
theorem run_setix {te tj : TE} {j : Int} {n : Nat} (e : Γ[i]? = some (.ow m ds)) (h : Ev Γ te m d) (hj : Ev Γ tj false (dI j)) (ej : ixN ds.length j = some n) (k : Run E (Γ.set i (.ow m (ds.set n d))) u o) : Run E Γ (tSeq (tAsg te (gSub (tVar i) tj rSetL)) u) o := fun F0 Hb F H σ own D a q => by
  refine h F0 Hb F H σ own _ a fun v F' H' g qv => ?_
  obtain ⟨p, vs, e1, e2, e3, e4, e5, e6⟩ := own_at (a.grow g) e
  refine ⟨_, e1, hj F0 Hb F' H' σ own _ (a.grow g) fun w F2 H2 g2 qw => ?_⟩
  obtain ⟨p', vs', f1, f2, f3, f4, f5, f6⟩ := own_at ((a.grow g).grow g2) e
  rw [e1] at f1
  cases f1
  exact ⟨p, vs', j, n, rfl, qw, f5, by rw [Paired.length f6]; exact ej, k F0 Hb F2 _ σ own D (((a.grow g).grow g2).turn e e1 (paired_set (R := fun v (d : Ds) => d.pr (part m F2 Hb) v) (d.up (part_up g2.f) qv) n f6)) q⟩

theorem loopR_take {S : Type} (f : S → γ → S ⊕ β) : ∀ (xs : List γ) (s : S) (i : Nat) (s' : S), loopR f s (xs.take i) = .inl s' → ∀ x, xs[i]? = some x → loopR f s (xs.take (i + 1)) = f s' x
  | [], _, _, _, _, _, h => by simp at h
  | y :: ys, s, 0, s', e, x, h => by
    simp at h; subst h
    have e' : s = s' := by simpa [loopR] using e
    subst e'
    show loopR f s [y] = _
    simp only [loopR]
    cases f s y <;> rfl
  | y :: ys, s, i + 1, s', e, x, h => by
    simp only [List.take_succ_cons, loopR] at e ⊢
    cases q : f s y with
    | inl s1 => rw [q] at e; exact loopR_take f ys s1 i s' e x (by simpa using h)
    | inr b => rw [q] at e; cases e
theorem loopR_more {S : Type} (f : S → γ → S ⊕ β) : ∀ (xs : List γ) (s : S) (i : Nat) (b : β), loopR f s (xs.take i) = .inr b → loopR f s xs = .inr b
  | [], s, i, b, e => by simpa using e
  | y :: ys, s, 0, b, e => by simp [loopR] at e
  | y :: ys, s, i + 1, b, e => by
    simp only [List.take_succ_cons, loopR] at e ⊢
    cases q : f s y with
    | inl s1 => rw [q] at e; exact loopR_more f ys s1 i b e
    | inr b' => rw [q] at e; exact e
def outOf {S : Type} (G : S → Ctx) (res : β → Oc) : S ⊕ β → Oc
  | .inl s => .nx (G s)
  | .inr b => res b
theorem Grow.rebase {F0 Hb F1 H1 F H : Hp} (g1 : Grow F0 Hb F1 H1) (g : Grow F0 Hb F H) (e : Same F1 F) : Grow F1 Hb F H :=
  ⟨e, g.fh, g.h, fun a h1 h2 => g.no a h1 (g1.f.free h2)⟩
theorem Grow.unbase {F0 Hb F1 H1 F H : Hp} (g1 : Grow F0 Hb F1 H1) (g : Grow F1 Hb F H) : Grow F0 Hb F H :=
  ⟨g1.f.trans g.f, g.fh, g.h, fun a h1 h2 => g.no a h1 (g1.no a h1 h2)⟩
theorem At.rebase {F0 Hb F1 H1 F H : Hp} {σ : St} {own : Nat → Option Addr} (g1 : Grow F0 Hb F1 H1) (a : At F0 Hb F H σ own Γ) (e : Same F1 F) : At F1 Hb F H σ own Γ := ⟨g1.rebase a.g e, a.inj, a.liv, a.sl, a.len⟩
theorem At.unbase {F0 Hb F1 H1 F H : Hp} {σ : St} {own : Nat → Option Addr} (g1 : Grow F0 Hb F1 H1) (a : At F1 Hb F H σ own Γ) : At F0 Hb F H σ own Γ := ⟨g1.unbase a.g, a.inj, a.liv, a.sl, a.len⟩
theorem Meets.rebase {F0 Hb F1 H1 : Hp} {D : Ends} (g1 : Grow F0 Hb F1 H1) (h : Meets E F0 Hb D o) : Meets E F1 Hb D o := by
  cases o with
  | nx Γ => exact fun F H σ own a => h F H σ own (a.unbase g1)
  | bk Γ => exact fun F H σ own a => h F H σ own (a.unbase g1)
  | ct Γ => exact fun F H σ own a => h F H σ own (a.unbase g1)
  | rt m d => exact fun v F H g q => h v F H (g1.unbase g) q
  | rl m ds => exact fun p vs F H g h1 h2 h3 q => h p vs F H (g1.unbase g) h1 h2 h3 q
  | ex C Γ => exact fun dct F H σ own a => h dct F H σ own (a.unbase g1)
  | rw Γ d => exact fun v F H σ own a q => h v F H σ own (a.unbase g1) q
theorem run_for {S : Type} {wi : TI} {g : TG} {tb : TS} {js : List Nat} {xs : List γ} {bds : γ → List Ds} {mi : Bool} {s0 : S} (G : S → Ctx) (res : β → Oc) (f : S → γ → S ⊕ β) (I : Nat → S → Prop) (it : Iv Γ wi g js xs bds mi) (w : Wk Γ (G s0)) (h0 : I 0 s0)
    (hres : ∀ (b : β) (F0 Hb : Hp) (D D' : Ends), D.rt = D'.rt → Meets E F0 Hb D (res b) → Meets E F0 Hb D' (res b))
    (body : ∀ (i : Nat) (x : γ) (s : S), xs[i]? = some x → I i s → (∀ s', f s x = .inl s' → I (i + 1) s') ∧ Run E (setC js (bds x) mi (G s)) tb (outOf G res (f s x))) : Run E Γ (tFor wi g tb) (outOf G res (loopR f s0 xs)) := fun F0 Hb F H σ own D a q =>
  it F0 Hb F H σ own _ a fun J F1 H1 g1 ok => by
    have gb : Grow F0 Hb F1 H1 := a.g.trans g1
    refine ⟨fun i mm σ H2 => mm = xs.length - i ∧ i ≤ xs.length ∧ ∃ s F2 own2, loopR f s0 (xs.take i) = .inl s ∧ I i s ∧ At F1 Hb F2 H2 σ own2 (G s), ⟨_, rfl, Nat.zero_le _, s0, F1, own, by simp [loopR], h0, ((a.grow g1).wk w).rebase gb (Same.refl _)⟩, ?_⟩
    rintro i mm σ2 H2 ⟨rfl, hi, s, F2, own2, es, hI, a2⟩
    obtain ⟨hstop, hitem⟩ := ok.up a2.g.f H2 a2.fh
    by_cases hlt : i < xs.length
    · have hx : xs[i]? = some xs[i] := List.getElem?_eq_getElem hlt
      obtain ⟨go, yl⟩ := hitem i xs[i] hx
      obtain ⟨hI', hb⟩ := body i _ s hx hI
      have tk := loopR_take f xs s0 i s es _ hx
      refine .inr ⟨go, fun σ' H' => ∃ s' F3 own3, f s xs[i] = .inl s' ∧ At F1 Hb F3 H' σ' own3 (G s'), fun σ' H' ⟨s', F3, own3, e3, a3⟩ => ⟨xs.length - (i + 1), by omega, rfl, hlt, s', F3, own3, by rw [tk, e3], hI' s' e3, a3⟩, fun x H' y => ?_⟩
      obtain ⟨g3, bind⟩ := yl x H' y
      refine bind σ2 _ fun vs hvs => ?_
      have a3 := (a2.grow g3).setMany (js := js) hvs
      refine hb F1 Hb F2 H' _ own2 _ a3 ?_
      cases e3 : f s xs[i] with
      | inl s' => exact fun F3 H3 σ3 own3 a4 => ⟨s', F3, own3, rfl, a4⟩
      | inr b =>
        have := loopR_more f xs s0 (i + 1) b (by rw [tk, e3])
        rw [this] at q
        exact hres b F1 Hb D _ rfl (Meets.rebase (o := res b) gb q)
    · have e : i = xs.length := by omega
      subst e
      rw [List.take_length] at es
      rw [es] at q
      exact .inl ⟨hstop, q F2 H2 σ2 own2 (a2.unbase gb)⟩
end
end L2

namespace L2
open PySem PySem.Spec PyProof.Rows

structure EqD {α : Type} [DecidableEq α] (K : PySem.W.Frag) (f : α → Ds) (n : Nat) : Prop where
  eq : ∀ H x y v w, (f x).pr H v → (f y).pr H w → EqV K H n v w (decide (x = y))
  inj : ∀ H x y v, (f x).pr H v → (f y).pr H v → x = y
theorem EqD.int {K : PySem.W.Frag} {n : Nat} : EqD K dI n := ⟨fun H x y v w h1 h2 => by
  cases h1; cases h2
  have : decide (x = y) = eqV (.int x) (.int y) := Bool.eq_iff_iff.mpr (by unfold eqV; simp)
  rw [this]; exact .flat rfl rfl, fun H x y v h1 h2 => by cases h1; cases h2; rfl⟩
theorem EqD.bool {K : PySem.W.Frag} {n : Nat} : EqD K dB n := ⟨fun H x y v w h1 h2 => by
  cases h1; cases h2
  have : decide (x = y) = eqV (.bl x) (.bl y) := by cases x <;> cases y <;> rfl
  rw [this]; exact .flat rfl rfl, fun H x y v h1 h2 => by cases h1; cases h2; rfl⟩
theorem EqD.str {K : PySem.W.Frag} {n : Nat} : EqD K dS n := ⟨fun H x y v w h1 h2 => by
  cases h1; cases h2
  have : decide (x = y) = eqV (.str x) (.str y) := Bool.eq_iff_iff.mpr (by unfold eqV; simp)
  rw [this]; exact .flat rfl rfl, fun H x y v h1 h2 => by cases h1; cases h2; rfl⟩
theorem paired_inj {α : Type} {f : α → Ds} {H : Hp} (h : ∀ x y v, (f x).pr H v → (f y).pr H v → x = y) : ∀ {xs ys : List α} {vs : List V}, Paired (fun v (d : Ds) => d.pr H v) vs (xs.map f) → Paired (fun v (d : Ds) => d.pr H v) vs (ys.map f) → xs = ys
  | [], [], _, _, _ => rfl
  | [], _ :: _, _, .nil, h2 => by cases h2
  | _ :: _, [], _, h1, .nil => by cases h1
  | x :: xs, y :: ys, _, .cons a s, .cons b t => by rw [h x y _ a b, paired_inj h s t]
theorem all_get {α : Type} [DecidableEq α] {xs ys : List α} (h : xs.length = ys.length) : ((List.range xs.length).all fun j => decide (xs[j]? = ys[j]?)) = decide (xs = ys) := by
  by_cases e : xs = ys
  · subst e; simp
  · rw [decide_eq_false e]
    by_cases z : ((List.range xs.length).all fun j => decide (xs[j]? = ys[j]?)) = true
    · exfalso
      apply e
      rw [List.all_eq_true] at z
      refine List.ext_getElem? fun j => ?_
      by_cases hj : j < xs.length
      · simpa using z j (List.mem_range.mpr hj)
      · rw [List.getElem?_eq_none (by omega), List.getElem?_eq_none (by omega)]
    · simpa using z
theorem eq_items {α : Type} [DecidableEq α] {K : PySem.W.Frag} {f : α → Ds} {n : Nat} (E : EqD K f n) {H : Hp} {xs ys : List α} {vs ws : List V} (h1 : Paired (fun v (d : Ds) => d.pr H v) vs (xs.map f)) (h2 : Paired (fun v (d : Ds) => d.pr H v) ws (ys.map f)) (hl : xs.length = ys.length) :
    ∀ (j : Nat) (x y : V), vs[j]? = some x → ws[j]? = some y → EqV K H n x y (decide (xs[j]? = ys[j]?)) := fun j x y e1 e2 => by
  have l1 := Paired.length h1
  have l2 := Paired.length h2
  rw [List.length_map] at l1 l2
  have hj : j < vs.length := (List.getElem?_eq_some_iff.mp e1).1
  have q1 : xs[j]? = some (xs[j]'(by omega)) := List.getElem?_eq_getElem (by omega)
  have q2 : ys[j]? = some (ys[j]'(by omega)) := List.getElem?_eq_getElem (by omega)
  obtain ⟨v, ev, rv⟩ := paired_get h1 (show (xs.map f)[j]? = some (f (xs[j]'(by omega))) by rw [List.getElem?_map, q1]; rfl)
  obtain ⟨w, ew, rw'⟩ := paired_get h2 (show (ys.map f)[j]? = some (f (ys[j]'(by omega))) by rw [List.getElem?_map, q2]; rfl)
  rw [e1] at ev; rw [e2] at ew
  cases ev; cases ew
  have := E.eq H _ _ _ _ rv rw'
  rw [q1, q2]
  simpa using this
theorem EqD.list {α : Type} [DecidableEq α] {K : PySem.W.Frag} {f : α → Ds} {n : Nat} (E : EqD K f n) : EqD K (fun xs : List α => dL (xs.map f)) (n + 1) := ⟨fun H xs ys v w h1 h2 => by
  obtain ⟨p, vs, rfl, hp, qp⟩ := h1
  obtain ⟨q, ws, rfl, hq, qq⟩ := h2
  by_cases e : p = q
  · subst e
    rw [hp] at hq
    cases hq
    rw [paired_inj (E.inj H) qp qq, decide_eq_true rfl]
    exact .same
  · have l1 := Paired.length qp
    have l2 := Paired.length qq
    rw [List.length_map] at l1 l2
    by_cases hl : xs.length = ys.length
    · rw [← all_get hl, ← l1]
      exact .lists e (SqL.of hp) (SqL.of hq) (by omega) (eq_items E qp qq hl)
    · have : decide (xs = ys) = false := decide_eq_false fun z => hl (by rw [z])
      rw [this]
      exact .lens e (SqL.of hp) (SqL.of hq) (by omega), fun H xs ys v h1 h2 => by
  obtain ⟨p, vs, rfl, hp, qp⟩ := h1
  obtain ⟨q, ws, e, hq, qq⟩ := h2
  cases e
  rw [hp] at hq
  cases hq
  exact paired_inj (E.inj H) qp qq⟩
theorem ev_eqL {α : Type} [DecidableEq α] {K : PySem.W.Frag} {f : α → Ds} {n : Nat} (E : EqD K f n) {Γ : Ctx} {ta tb : TE} {m neg : Bool} {xs ys : List α} (h1 : Ev Γ ta false (dQ K (xs.map f))) (h2 : Ev Γ tb false (dQ K (ys.map f))) (hn : n ≤ 50 := by decide) :
    Ev Γ (tOp (rEqL K neg) ta tb) m (dB (bif neg then !decide (xs = ys) else decide (xs = ys))) := fun F0 Hb F H σ own Q a k =>
  h1 F0 Hb F H σ own _ a fun u F1 H1 g1 ⟨p, vs, e1, e2, e3⟩ => h2 F0 Hb F1 H1 σ own _ (a.grow g1) fun u' F2 H2 g2 ⟨q, ws, d1, d2, d3⟩ => by
    have e2' : SqL K H2 p vs := (g1.fh.trans g2.h).seq e2
    have d2' : SqL K H2 q ws := g2.fh.seq d2
    have e3' := pr_up (ds := []) (g1.fh.trans g2.h) e3
    have d3' := pr_up (ds := []) g2.fh d3
    have l1 := Paired.length e3'
    have l2 := Paired.length d3'
    rw [List.length_map] at l1 l2
    refine ⟨p, q, n, vs, ws, e1, d1, e2', d2', hn, ?_⟩
    by_cases hl : xs.length = ys.length
    · refine .inr ⟨_, by omega, eq_items E e3' d3' hl, k _ F2 H2 (g1.trans g2) ?_⟩
      rw [l1, all_get hl]
      cases neg <;> rfl
    · refine .inl ⟨by omega, k _ F2 H2 (g1.trans g2) ?_⟩
      rw [show decide (xs = ys) = false from decide_eq_false fun z => hl (by rw [z])]
      cases neg <;> rfl

def startC (N : List Str) (ds : List Ds) : Ctx := ds.map (.va false) ++ List.replicate (N.length - ds.length) .no
def ocOf (n : Nat) : Rs → Oc
  | .va m d => .rt m d
  | .ow m ds => .rl m ds
  | .ex C => .ex C (List.replicate n .no)
theorem start_at {F H : Hp} {N : List Str} {vs : List V} {ds : List Ds} (hF : Same F H) (hv : Paired (fun v (d : Ds) => d.pr F v) vs ds) : At F H F H (start N vs) (fun _ => none) (startC N ds) := by
  have hl := Paired.length hv
  refine ⟨Grow.refl hF, fun _ _ _ h => (nomatch h), fun _ _ h => (nomatch h), fun i s e => ?_, by unfold start startC; simp [hl]⟩
  unfold startC at e
  unfold start
  by_cases hi : i < ds.length
  · rw [List.getElem?_append_left (by simpa using hi), List.getElem?_map] at e
    rw [List.getElem?_append_left (by simpa [hl] using hi), List.getElem?_map]
    obtain ⟨v, ev, rv⟩ := paired_get hv (List.getElem?_eq_getElem hi)
    rw [List.getElem?_eq_getElem hi] at e
    have e' : Slot.va false ds[i] = s := Option.some.inj e
    subst e'
    exact ⟨v, by rw [ev]; rfl, rv⟩
  · rw [List.getElem?_append_right (by simpa using hi), List.getElem?_replicate] at e
    split at e
    · cases e; trivial
    · cases e
def ResOk (H F : Hp) (Q : VK) (E : XK) : Rs → Prop
  | .ex C => ∀ dct F' H', Grow F H F' H' → E (.ref C) dct H'
  | .va m d => ∀ v F' H', Grow F H F' H' → d.pr (part m F' H) v → Q v H'
  | .ow m ds => ∀ p ws F' H', Grow F H F' H' → H p = none → F' p = none → H' p = some (.lst ws) → Paired (fun v (d : Ds) => d.pr (part m F' H) v) ws ds → Q (.ref p) H'
theorem fin_run {E : XK} {F H : Hp} {N : List Str} {vs : List V} {ds : List Ds} {Q : VK} {t : TS} {r : Rs} (hF : Same F H) (hv : Paired (fun v (d : Ds) => d.pr F v) vs ds) (hq : ResOk H F Q E r) (h : Run (fun _ => E) (startC N ds) t (ocOf N.length r)) : t { nx := fun _ H' => Q .non H', rt := Q } (start N vs) H := by
  refine h F H F H _ _ _ (start_at hF hv) ?_
  cases r with
  | va m d => exact fun v F' H' g q => hq v F' H' g q
  | ow m ds => exact fun p ws F' H' g h1 h2 h3 q => hq p ws F' H' g h1 h2 h3 q
  | ex C => exact fun dct F' H' σ own a => hq dct F' H' a.g
theorem fin_runN {E : XK} {F H : Hp} {N : List Str} {vs : List V} {ds : List Ds} {Q : VK} {t : TS} {m : Bool} {Δ : Ctx} (hF : Same F H) (hv : Paired (fun v (d : Ds) => d.pr F v) vs ds) (hq : ResOk H F Q E (.va m dN)) (h : Run (fun _ => E) (startC N ds) t (.nx Δ)) : t { nx := fun _ H' => Q .non H', rt := Q } (start N vs) H :=
  h F H F H _ _ _ (start_at hF hv) fun F' H' σ own a => hq _ F' H' a.g rfl
section
variable {P : Program} {w : World} {K : PySem.W.Frag} {mg : Str → Option Value} {base : Heap} {x qual : Str} {st : Stmt} {f : Addr} {fd : FuncData} {N ps : List Str} {k : Nat}
theorem Fun.okV {ι : Type} {args : ι → List Ds} {pre : ι → Prop} {res : ι → Rs} (F : Fun K x qual st f fd) (S : FnScope N ps (defScope st)) (hl : ∀ i, (args i).length = ps.length)
    (hbody : ∀ (cdv : Value) (A : Around) (outer : List Env) (s : Shared) (H : Hp) (E : XK) (i : ι), Room k (A.deeper (envOfC qual (defScope st) s.heap.objs.size f cdv)) → pre i →
      ∃ t, PSs (cxOf (CXE P w) P w K mg base N qual (defScope st) f cdv A outer s H E).nox (defBody st) t ∧ (Run (fun _ => E) (startC N (args i)) t (ocOf N.length (res i)) ∨ ∃ m Δ, res i = .va m dN ∧ Run (fun _ => E) (startC N (args i)) t (.nx Δ))) : FnOk P w K mg base (CXE P w) (k + 1) f fd ps (Spv args pre res) := by
  refine F.okX S (fun vs H Q E ⟨i, F', _, hv, _⟩ => by rw [Paired.length hv]; exact hl i) fun cdv A outer s H vs Q E hr ⟨i, F', hF, hv, hp, hq⟩ => ?_
  obtain ⟨t, h1, h2⟩ := hbody cdv A outer s H E i hr hp
  have hq' : ResOk H F' Q E (res i) := by
    cases e : res i with
    | va m d => rw [e] at hq; exact hq
    | ow m ds => rw [e] at hq; exact hq
    | ex C => rw [e] at hq; exact hq
  refine ⟨_, pssx_lift h1, ?_⟩
  rcases h2 with h2 | ⟨m, Δ, e, h2⟩
  · exact fin_run hF hv hq' h2
  · rw [e] at hq'
    exact fin_runN hF hv hq' h2
end

section
variable {P : Program} {w : World} {K : PySem.W.Frag} {mg : Str → Option Value} {base : Heap} {x qual : Str} {st : Stmt} {f : Addr} {fd : FuncData} {N ps : List Str} {k : Nat}
end
section
variable {Γ : Ctx} {K : PySem.W.Frag} {ds : List Ds} {tr : TA} {E : XK}
end
end L2

namespace L2
open PySem PySem.Spec PyProof.Rows

def Ite (K : PySem.W.Frag) (a : Addr) : It :=
  ⟨fun i H => ∃ xs x, SqL K H a xs ∧ xs[i]? = some x,
   fun i H v H' => ∃ p x, v = .ref p ∧ H p = none ∧ H' = upd H p (.tup [.int (i : Int), x]) ∧ ∀ xs, SqL K H a xs → xs[i]? = some x,
   fun i H => ∃ xs, SqL K H a xs ∧ xs.length ≤ i⟩
theorem turn_enum {P : Program} {w : World} {K : PySem.W.Frag} {elts : List Expr} {x1 : Nat} {tp : Pos} {a e it : Addr} (hne : e ≠ it) :
    Turn P w K (.Tuple elts x1 tp) (Ite K a) [e, it] e (fun i h => (∃ old, IsEnum h e it (i : Int) old) ∧ h.IsListIter it a i) where
  mem := by simp
  obj := fun i h st c hc => by
    obtain ⟨⟨old, he⟩, ⟨o1, e1, _, d1⟩⟩ := st
    simp only [List.mem_cons, List.not_mem_nil, or_false] at hc
    rcases hc with rfl | rfl
    · exact ⟨_, he, fun v z => by cases z⟩
    · exact ⟨o1, e1, fun v z => by rw [d1] at z; cases z⟩
  keep := fun i h h' st k => by
    obtain ⟨⟨old, he⟩, h1⟩ := st
    exact ⟨⟨old, k e (by simp) _ he⟩, h1.at fun o q => k it (by simp) o q⟩
  item := by
    intro X hP hw hK hc i pins s σ H E I hf st hg
    subst hP hw hK
    obtain ⟨xs, x, hxs, hx⟩ := hg
    obtain ⟨itx, rx, px, hzx⟩ := I.list hxs
    obtain ⟨u, hu, ru⟩ := rx.get hx
    obtain ⟨⟨old, he⟩, h1⟩ := st
    refine wpAny_pyNext_enum_item (x := u) he h1 px.isList (by simpa using hu) hne fun h' a1 a2 a3 a4 hk => ?_
    refine ⟨_, rfl, wpAny_letOwnedTupleGo_enum a1 fun h'' b1 b2 => ?_⟩
    have elt : e < s.heap.objs.size := Heap.lt_size he
    have itl : it < s.heap.objs.size := by obtain ⟨_, q, _⟩ := h1; exact Heap.lt_size q
    have tup : h''.get? s.heap.objs.size = some { cls := .type "tuple", data := .seq #[.int i s.toks, u] } := b2.extBut _ _ (Nat.ne_of_gt elt) a3
    have I1 : Inv X pins σ (upd H s.heap.objs.size (.tup [.int (i : Int), x])) { s with heap := h'', toks := s.toks + 1 } := by
      refine I.turnedNew (t' := s.toks + 1) (ch := [e, it]) (fun c hc => hf c hc) (fun c ob hc q => ?_) (Nat.le_refl _) ?_
      · simp only [List.mem_cons, List.not_mem_nil, or_false, not_or] at hc
        exact b2.extBut _ _ hc.1 (hk c ob hc.1 hc.2 q)
      · exact ⟨by show 2 ≤ sizeLine; decide, [.int i s.toks, u], .cons ⟨_, rfl⟩ (.cons ru .nil), ⟨_, tup, rfl, _, rfl⟩⟩
    refine ⟨.ref s.heap.objs.size, _, I1, rfl, ⟨_, x, rfl, I.hok.fresh (Nat.le_refl _), rfl, fun xs' q1 => ?_⟩, ⟨⟨u, ?_⟩, a2.extBut b2.extBut (Ne.symm hne)⟩, fun c hc => ?_⟩
    · rw [I.list_inj q1 hxs]; exact hx
    · exact b1
    · have : c ≠ s.heap.objs.size := by
        simp only [List.mem_cons, List.not_mem_nil, or_false] at hc
        rcases hc with rfl | rfl
        · exact Nat.ne_of_lt elt
        · exact Nat.ne_of_lt itl
      rw [upd_ne this]; exact (hf c hc).1
  done := by
    intro X hP hw hK hc i pins s σ H E I hf st hg
    subst hP hw hK
    obtain ⟨xs, hxs, hend⟩ := hg
    obtain ⟨itx, rx, px, hzx⟩ := I.list hxs
    obtain ⟨⟨old, he⟩, h1⟩ := st
    have lx := rx.length
    refine wpAny_pyNext_enum_end (I.ok.hd hc) he h1 px.isList (by simp; omega) fun h' hk => ⟨rfl, ?_⟩
    refine I.turnedL (t' := s.toks) (ch := [e, it]) (fun c hc => hf c hc) (fun c ob hc q => ?_)
    simp only [List.mem_cons, List.not_mem_nil, or_false, not_or] at hc
    exact hk c ob hc.2 q
  self := fun _ _ _ _ _ st h => by obtain ⟨⟨old, he⟩, _⟩ := st; exact wpAny_pyIter_enum he h
section
variable {X : Cx} {K : PySem.W.Frag}
def iEnum (K : PySem.W.Frag) (ta : TA) : TI := fun σ H R => ta σ H fun vs H1 => ∃ a, vs = [.ref a] ∧ (∃ xs, SqL K H1 a xs) ∧ R (Ite K a) H1
theorem pi_enum {a : Expr} {ta : TA} {p pos tp : Pos} {elts : List Expr} {x1 : Nat} (hK : X.K = K) (hg : Gl X "enumerate") (hm : X.mg "enumerate" = none) (ha : PA X [a] ta) (hs : starEach [a] X.env = [(false, eval a X.env)] := by rfl) :
    PI X (.Tuple elts x1 tp) (.Call (.Name "enumerate" p) [a] [] pos) (iEnum K ta) := by
  subst hK
  intro pins s σ H R I h
  refine Call_ (ld_blt I hg hm boot_enumerate (PyProof.Rows.callWith_type1 (thn (ha pos pins s σ H _ I h) fun us s1 ⟨vs, H1, I1, r1, q1⟩ => ?_) (by rw [hs]; rfl) rfl))
  obtain ⟨l, e, ⟨xs, hx⟩, q⟩ := q1
  subst e
  cases r1 with
  | cons r rr =>
    cases rr
    cases r
    obtain ⟨itx, rx, px, hzx⟩ := I1.list hx
    refine call_enumerate_list px.isList fun h' he h1 hsz hk => wpAny_pyIter_enum he ?_
    have hne : (s1.heap.objs.size + 1 : Nat) ≠ s1.heap.objs.size := by omega
    refine ⟨s1.heap.objs.size + 1, [s1.heap.objs.size + 1, s1.heap.objs.size], _, Ite X.K l, H1, rfl, I1.kept (t' := s1.toks) hk, turn_enum hne, ⟨⟨_, he⟩, h1⟩, fun c hc => ?_, q⟩
    have hle : @LE.le Nat _ s1.heap.objs.size c := by
      simp only [List.mem_cons, List.not_mem_nil, or_false] at hc
      rcases hc with rfl | rfl <;> omega
    exact I1.fpOk hle (I1.hok.fresh hle)
end

def Itv (K : PySem.W.Frag) (a : Addr) (n : Nat) : It :=
  ⟨fun i H => i < n ∧ ∃ xs x, SqL K H a xs ∧ xs.length = n ∧ xs[n - 1 - i]? = some x, fun i H x H' => H' = H ∧ ∀ xs, SqL K H a xs → xs[n - 1 - i]? = some x, fun i _ => i = n⟩
theorem turn_rev {P : Program} {w : World} {K : PySem.W.Frag} {tg : Expr} (a it : Addr) (n : Nat) : Turn P w K tg (Itv K a n) [it] it (fun i h => h.IsRevIter it a ((n : Int) - 1 - (i : Int))) where
  mem := by simp
  obj := fun i h st b hb => by
    have e : b = it := by simpa using hb
    subst e
    obtain ⟨o, e, c, d⟩ := st
    exact ⟨o, e, fun v z => by rw [d] at z; cases z⟩
  keep := fun i h h' st k => st.at fun o e => k it (by simp) o e
  item := by
    intro X hP hw hK hc i pins s σ H E I hf st hg
    subst hP hw hK
    obtain ⟨hi, xs, x, hq, hn, hx⟩ := hg
    obtain ⟨its, rv, p, hz⟩ := I.list hq
    obtain ⟨u, hu, ru⟩ := rv.get hx
    obtain ⟨f0, f1, f2, f3, f4, f5⟩ := hf it (by simp)
    have e1 : (n : Int) - 1 - (i : Int) = ((n - 1 - i : Nat) : Int) := by omega
    have e2 : ((n - 1 - i : Nat) : Int) - 1 = (n : Int) - 1 - ((i + 1 : Nat) : Int) := by omega
    rw [e1] at st
    refine wpAny_pyNext_rev_item st p.isList (x := u) (by simpa using hu) fun h' st' sb => ?_
    rw [e2] at st'
    have I1 : Inv X pins σ H { s with heap := h' } := I.turned (t' := s.toks) (fun b o hb e => (sb.2 b hb).trans e) f0 f1 f3 f4 f5
    obtain ⟨o, e, c, d⟩ := id st'
    exact ⟨u, rfl, go_of (s := { s with heap := h' }) e c d (by decide) ⟨x, H, I1, ru, ⟨rfl, fun ys hy => by rw [I.list_inj hy hq]; exact hx⟩, st', fun b hb => (hf b hb).1⟩⟩
  done := by
    intro X hP hw hK hc i pins s σ H E I hf st hg
    subst hP hw hK
    have hg : i = n := hg
    subst hg
    obtain ⟨f0, f1, f2, f3, f4, f5⟩ := hf it (by simp)
    have e1 : (i : Int) - 1 - (i : Int) = -1 := by omega
    rw [e1] at st
    exact wpAny_pyNext_rev_end (I.ok.hd hc) st fun h' eb => ⟨rfl, I.turned (t' := s.toks) (fun b o hb e => eb b o hb e) f0 f1 f3 f4 f5⟩
  self := fun _ _ _ _ _ st h => wpAny_pyIter_revIter st h
section
variable {X : Cx} {K : PySem.W.Frag}
def iRev (K : PySem.W.Frag) (ta : TA) : TI := fun σ H R => ta σ H fun vs H1 => ∃ a xs, vs = [.ref a] ∧ SqL K H1 a xs ∧ R (Itv K a xs.length) H1
theorem pi_rev {a tg : Expr} {ta : TA} {p pos : Pos} (hK : X.K = K) (hg : Gl X "reversed") (hm : X.mg "reversed" = none) (ha : PA X [a] ta) (hs : starEach [a] X.env = [(false, eval a X.env)] := by rfl) :
    PI X tg (.Call (.Name "reversed" p) [a] [] pos) (iRev K ta) := by
  subst hK
  intro pins s σ H R I h
  refine Call_ (ld_blt I hg hm boot_reversed (PyProof.Rows.callWith_type1 (thn (ha pos pins s σ H _ I h) fun us s1 ⟨vs, H1, I1, r1, q1⟩ => ?_) (by rw [hs]; rfl) rfl))
  obtain ⟨l, xs, e, hx, q⟩ := q1
  subst e
  cases r1 with
  | cons r rr =>
    cases rr
    cases r
    obtain ⟨itx, rx, px, hzx⟩ := I1.list hx
    have hl := rx.length
    refine call_reversed_list px.isList ?_
    have ho := Heap.get?_push_size s1.heap (o := revObj l ((itx.toArray.size : Int) - 1)) rfl
    have st : (s1.heap.push (revObj l ((itx.toArray.size : Int) - 1))).IsRevIter s1.heap.objs.size l ((xs.length : Int) - 1 - ((0 : Nat) : Int)) := ⟨_, ho, rfl, by rw [List.size_toArray, ← hl]; simp [revObj]⟩
    refine wpAny_pyIter_revIter st ?_
    refine ⟨s1.heap.objs.size, [s1.heap.objs.size], _, Itv X.K l xs.length, H1, rfl, I1.kept (t' := s1.toks) (fun b o e => Heap.get?_push_of_some _ e), turn_rev l s1.heap.objs.size xs.length, st, fun c hc => ?_, q⟩
    have hle : @LE.le Nat _ s1.heap.objs.size c := by
      simp only [List.mem_cons, List.not_mem_nil, or_false] at hc
      rw [hc]; exact Nat.le_refl _
    exact I1.fpOk hle (I1.hok.fresh hle)
end

section
variable {Γ : Ctx} {m : Bool} {K : PySem.W.Frag} {γ : Type}
def enumZ {α : Type} (xs : List α) : List (Int × α) := (rngZ 0 xs.length).zip xs
theorem enumZ_len {α : Type} {xs : List α} : (enumZ xs).length = xs.length := by simp [enumZ, List.length_zip, rngZ_len]
theorem enumZ_get {α : Type} {xs : List α} {i : Nat} {p : Int × α} (h : (enumZ xs)[i]? = some p) : i < xs.length ∧ p.1 = i ∧ xs[i]? = some p.2 := by
  obtain ⟨h1, h2⟩ := zip_get h
  obtain ⟨h3, h4⟩ := rngZ_get h1
  exact ⟨h3, by rw [h4]; omega, h2⟩
theorem iv_enum {tl : TE} {j1 j2 : Nat} {xs : List γ} (f : γ → Ds) (h : Ev Γ tl m (dQ K (xs.map f))) :
    Iv Γ (iEnum K (tCons tl tNil)) (gTup K 2 (gCons (gName j1) (gCons (gName j2) gNil))) [j1, j2] (enumZ xs) (fun x => [dI x.1, f x.2]) m := fun F0 Hb F H σ own R a k =>
  h F0 Hb F H σ own _ a fun u F1 H1 g1 ⟨p, vs, e1, e2, e3⟩ => by
    have e2' : SqL K F1 p vs := part_sub.seq e2
    have le := Paired.length e3
    rw [List.length_map] at le
    refine ⟨p, by rw [e1], ⟨vs, g1.fh.seq e2'⟩, k _ F1 H1 g1 fun H hs => ⟨⟨vs, hs.seq e2', by rw [le, enumZ_len]; exact Nat.le_refl _⟩, fun i x ex => ?_⟩⟩
    obtain ⟨hi, x1, x2⟩ := enumZ_get ex
    obtain ⟨v, ev, qv⟩ := paired_get e3 (show (xs.map f)[i]? = some (f x.2) by rw [List.getElem?_map, x2]; rfl)
    refine ⟨⟨vs, v, hs.seq e2', ev⟩, fun z H' y => ?_⟩
    obtain ⟨r, x', rfl, hr, rfl, hxy⟩ := y
    have hx := hxy vs (hs.seq e2')
    rw [ev] at hx
    cases hx
    exact ⟨(Grow.refl hs).newH hr, fun σ Q k => ⟨r, _, rfl, .inl (.inl upd_same), rfl, _, _, rfl, _, _, rfl, rfl, k [.int i, v] (.cons (by show V.int _ = V.int _; rw [x1]) (.cons qv .nil))⟩⟩
theorem iv_rev {tl : TE} {j : Nat} {xs : List γ} (f : γ → Ds) (h : Ev Γ tl m (dQ K (xs.map f))) : Iv Γ (iRev K (tCons tl tNil)) (gName j) [j] xs.reverse (fun x => [f x]) m := fun F0 Hb F H σ own R a k =>
  h F0 Hb F H σ own _ a fun u F1 H1 g1 ⟨p, vs, e1, e2, e3⟩ => by
    have e2' : SqL K F1 p vs := part_sub.seq e2
    have le := Paired.length e3
    rw [List.length_map] at le
    refine ⟨p, vs, by rw [e1], g1.fh.seq e2', k _ F1 H1 g1 fun H hs => ⟨by show xs.reverse.length = vs.length; rw [List.length_reverse, le], fun i x ex => ?_⟩⟩
    have hi : i < xs.length := by simpa using (List.getElem?_eq_some_iff.mp ex).1
    rw [List.getElem?_reverse hi] at ex
    obtain ⟨v, ev, qv⟩ := paired_get e3 (show (xs.map f)[xs.length - 1 - i]? = some (f x) by rw [List.getElem?_map, ex]; rfl)
    rw [← le] at ev
    refine ⟨⟨by rw [le]; exact hi, vs, v, hs.seq e2', rfl, ev⟩, fun w H' y => ?_⟩
    obtain ⟨rfl, y⟩ := y
    have := y vs (hs.seq e2')
    rw [ev] at this
    cases this
    exact ⟨Grow.refl hs, fun σ Q k => k [v] (.cons qv .nil)⟩
end
end L2

namespace L2
open PySem PySem.Spec PyProof.Rows

theorem Ev.any {Γ : Ctx} {t : TE} {m n : Bool} {v : V} (h : Ev Γ t m (dV v)) : Ev Γ t n (dV v) := fun F0 Hb F H σ own Q a k => h F0 Hb F H σ own Q a fun u F' H' g q => k u F' H' g q
theorem paired_dV {α : Type} {R R' : Hp} {g : α → V} {vs : List V} {xs : List α} (h : Paired (fun v (d : Ds) => d.pr R v) vs (xs.map fun x => dV (g x))) : Paired (fun v (d : Ds) => d.pr R' v) vs (xs.map fun x => dV (g x)) := by
  rw [paired_vals h]
  clear h
  induction xs with
  | nil => exact .nil
  | cons x xs ih => exact .cons rfl ih
theorem EvO.anyV {Γ : Ctx} {t : TE} {m n : Bool} {α : Type} {g : α → V} {xs : List α} (h : EvO Γ t m (xs.map fun x => dV (g x))) : EvO Γ t n (xs.map fun x => dV (g x)) := fun F0 Hb F H σ own Q a k => h F0 Hb F H σ own Q a fun p vs F' H' g h1 h2 h3 q => k p vs F' H' g h1 h2 h3 (paired_dV q)
theorem EvO.anyI {Γ : Ctx} {t : TE} {m n : Bool} {xs : List Int} (h : EvO Γ t m (xs.map dI)) : EvO Γ t n (xs.map dI) := EvO.anyV h
section
variable {X : Cx}
def CMulX (i j : Int) : Prop := (-(2 ^ 64) < i ∧ i < 2 ^ 64) ∨ (-(2 ^ 64) < j ∧ j < 2 ^ 64) ∨ (i.natAbs.log2 < 60000000 ∧ j.natAbs.log2 < 60000000)
theorem mul_great {a b : Int} (ha : Builtin.Int.intBits a ≤ 60000000) (hb : Builtin.Int.intBits b ≤ 60000000) : IntMulOk a b := by
  have h : Builtin.Int.intTooBig (Builtin.Int.intBits a + Builtin.Int.intBits b) = false := by
    unfold Builtin.Int.intTooBig bitsLine
    exact decide_eq_false (by omega)
  unfold IntMulOk
  rw [h]
  simp
theorem op_mulX : OpR X (binaryOp .Mult) (rI CMulX fun i j => .int (i * j)) := opI fun _ _ _ _ _ _ _ hc q => mul_int q (by
  rcases hc with h | h | h
  · exact .of_left (intBits_le_64 h.1 h.2)
  · exact .of_right (intBits_le_64 h.1 h.2)
  · exact mul_great (bits_of h.1) (bits_of h.2))
end

def ixD {α : Type} [Inhabited α] (xs : List α) (i : Int) : α := (atI xs i).getD default
def InB (n : Nat) (i : Int) : Prop := -(n : Int) ≤ i ∧ i < n
theorem ixN_ok {n : Nat} {i : Int} (h : InB n i) : ∃ j, ixN n i = some j ∧ j < n ∧ (0 ≤ i → j = i.toNat) := by
  unfold InB at h
  unfold ixN
  by_cases h0 : 0 ≤ i
  · rw [if_pos h0, if_pos h.2]; exact ⟨_, rfl, by omega, fun _ => rfl⟩
  · rw [if_neg h0, if_pos h.1]; exact ⟨_, rfl, by omega, fun z => absurd z h0⟩
theorem ixD_ok {α : Type} [Inhabited α] {xs : List α} {i : Int} (h : InB xs.length i) : atI xs i = some (ixD xs i) := by
  obtain ⟨j, e, hj, _⟩ := ixN_ok h
  unfold ixD atI
  rw [e]
  show xs[j]? = some (xs[j]?.getD default)
  rw [List.getElem?_eq_getElem hj]; rfl
theorem ixD_nat {α : Type} [Inhabited α] {xs : List α} {n : Nat} {x : α} (h : xs[n]? = some x) : ixD xs (n : Int) = x := by
  have hn : n < xs.length := (List.getElem?_eq_some_iff.mp h).1
  unfold ixD atI ixN
  rw [if_pos (by omega), if_pos (by omega)]
  show (xs[(n : Int).toNat]?).getD default = x
  rw [Int.toNat_natCast, h]; rfl
theorem ixD_mem {α : Type} [Inhabited α] {xs : List α} {i : Int} (h : InB xs.length i) : ixD xs i ∈ xs := by
  have := ixD_ok h
  unfold atI at this
  obtain ⟨j, e, hj, _⟩ := ixN_ok h
  rw [e] at this
  exact List.mem_of_getElem? this
def setZ {α : Type} (xs : List α) (i : Int) (x : α) : List α := match ixN xs.length i with
  | some n => xs.set n x
  | none => xs
theorem setZ_len {α : Type} {xs : List α} {i : Int} {x : α} : (setZ xs i x).length = xs.length := by
  unfold setZ; split <;> simp
def repZ {α : Type} (n : Int) (xs : List α) : List α := (List.replicate n.toNat xs).flatten
def NN {α : Type} (f : α → Ds) : Prop := ∀ x H v, (f x).pr H v → v ≠ .non
theorem NN.lst {α : Type} {f : α → Ds} : NN (fun xs : List α => dL (xs.map f)) := fun _ _ _ ⟨_, _, e, _⟩ => by rw [e]; simp
theorem NN.tup {α : Type} {f : α → List Ds} : NN (fun x => dT (f x)) := fun _ _ _ ⟨_, _, e, _⟩ => by rw [e]; simp
theorem NN.obj {α : Type} {C : Addr} {f : α → List (Str × Ds)} : NN (fun x => dO C (f x)) := fun _ _ _ ⟨_, _, _, e, _⟩ => by rw [e]; simp
theorem NN.int : NN dI := fun _ _ _ e => by rw [show _ = _ from e]; simp

section
variable {E : XS} {Γ : Ctx} {m : Bool} {K : PySem.W.Frag} {α β γ : Type} {f : α → Ds} {t ta tb te : TE} {u r : TS} {o : Oc} {xs ys : List α} {i : Nat}
theorem ev_ixM [Inhabited α] {j : Int} (h1 : Ev Γ ta m (dQ K (xs.map f))) (h2 : Ev Γ tb false (dI j)) (h : InB xs.length j) : Ev Γ (tOp (rIxL K) ta tb) m (f (ixD xs j)) := ev_ix h1 h2 (atI_map (ixD_ok h))
theorem ev_lenM {n : Bool} (h1 : Ev Γ t false (dQ K (xs.map f))) : Ev Γ (tCB (fun xs H Q => ∃ p ys, xs = [.ref p] ∧ (SqL K H p ys ∨ SqT K H p ys) ∧ Q (.int ys.length) H) (tCons t tNil)) n (dI (xs.length : Nat)) := (ev_len h1).conv (by rw [List.length_map])
theorem ev_cutM {tl th : TO} {lo hi : Option Int} (h1 : Ev Γ t m (dQ K (xs.map f))) (h2 : EvP Γ tl lo) (h3 : EvP Γ th hi) : EvO Γ (tSl (rSlL K) t tl th) m ((cutD xs lo hi).map f) := (ev_cut h1 h2 h3).conv cutD_map.symm
theorem ev_catM (h1 : Ev Γ ta m (dL (xs.map f))) (h2 : Ev Γ tb m (dL (ys.map f))) (hz : xs.length + ys.length ≤ sizeLine) : EvO Γ (tOp rCat ta tb) m ((xs ++ ys).map f) := (ev_cat h1 h2 (by rw [List.length_map, List.length_map]; exact hz)).conv (List.map_append ..).symm
theorem ev_ownIxM [Inhabited α] {j : Int} (e : Γ[i]? = some (.ow m (xs.map f))) (h2 : Ev Γ tb false (dI j)) (h : InB xs.length j) : Ev Γ (tOp (rIxL K) (tVar i) tb) m (f (ixD xs j)) := ev_ownIx (n := m) e h2 (atI_map (ixD_ok h))
theorem ev_ownLenM {n : Bool} (e : Γ[i]? = some (.ow m (xs.map f))) : Ev Γ (tCB (fun xs H Q => ∃ p ys, xs = [.ref p] ∧ (SqL K H p ys ∨ SqT K H p ys) ∧ Q (.int ys.length) H) (tCons (tVar i) tNil)) n (dI (xs.length : Nat)) := (ev_ownLen (n := n) e).conv (by rw [List.length_map])
theorem run_appendM {x : α} (e : Γ[i]? = some (.ow m (xs.map f))) (h : Ev Γ te m (f x)) (hz : xs.length < sizeLine) (k : Run E (Γ.set i (.ow m ((xs ++ [x]).map f))) u o) : Run E Γ (tSeq (tDrop (tBM K "list" rAppend (tVar i) (tCons te tNil))) u) o :=
  run_append e h (by rw [List.length_map]; exact hz) (by rw [List.map_append] at k; exact k)
theorem run_setixM {tj : TE} {x : α} {j : Int} (e : Γ[i]? = some (.ow m (xs.map f))) (h : Ev Γ te m (f x)) (hj : Ev Γ tj false (dI j)) (hb : InB xs.length j) (k : Run E (Γ.set i (.ow m ((setZ xs j x).map f))) u o) : Run E Γ (tSeq (tAsg te (gSub (tVar i) tj rSetL)) u) o := by
  obtain ⟨n, en, hn, _⟩ := ixN_ok hb
  refine run_setix (n := n) e h hj (by rw [List.length_map]; exact en) ?_
  unfold setZ at k
  rw [en] at k
  rw [← List.map_set]
  exact k
theorem run_gen {x : α} (G : α → Ctx) (fo : β → Oc) {kk : α → β} (k : ∀ y, y = x → Run E (G y) u (fo (kk y))) : Run E (G x) u (fo (Let x kk)) := k x rfl
def RetOc (o : Oc) : Prop := (∃ m d, o = .rt m d) ∨ (∃ m ds, o = .rl m ds) ∨ ∃ C Γ, o = .ex C Γ
theorem RetOc.meets (h : RetOc o) {F0 Hb : Hp} {D D' : Ends} (e : D.rt = D'.rt) (q : Meets E F0 Hb D o) : Meets E F0 Hb D' o := by
  rcases h with ⟨m, d, rfl⟩ | ⟨m, ds, rfl⟩ | ⟨C, Γ', rfl⟩
  · exact fun v F H g p => e ▸ q v F H g p
  · exact fun p vs F H g h1 h2 h3 h4 => e ▸ q p vs F H g h1 h2 h3 h4
  · exact q
def LetR {S : Type} (x : S ⊕ β) (k : S → α) (w : β → α) : α := match x with
  | .inl s => k s
  | .inr b => w b
theorem loopR_fold {S : Type} (f : S → γ → S) : ∀ (xs : List γ) (s : S), loopR (β := Empty) (fun s x => .inl (f s x)) s xs = .inl (xs.foldl f s)
  | [], _ => rfl
  | x :: xs, s => loopR_fold f xs (f s x)
theorem foldl_inv {S : Type} {f : S → γ → S} {I : Nat → S → Prop} : ∀ {xs : List γ} {s : S} {n : Nat}, I n s → (∀ (i : Nat) (x : γ) (s : S), xs[i]? = some x → I (n + i) s → I (n + i + 1) (f s x)) → I (n + xs.length) (xs.foldl f s)
  | [], s, n, h, _ => h
  | x :: xs, s, n, h, k => by
    have h1 := k 0 x s rfl h
    have := foldl_inv (xs := xs) (s := f s x) (n := n + 1) h1 fun i y s' e q => by
      have := k (i + 1) y s' (by simpa using e) (by rw [show n + (i + 1) = n + 1 + i by omega]; exact q)
      rw [show n + 1 + i + 1 = n + (i + 1) + 1 by omega]; exact this
    rw [List.length_cons, show n + (xs.length + 1) = n + 1 + xs.length by omega]
    exact this
theorem run_fold {S : Type} {wi : TI} {g : TG} {tb : TS} {js : List Nat} {xs : List γ} {bds : γ → List Ds} {mi : Bool} {s0 : S} (G : S → Ctx) (fo : β → Oc) {kk : S → β} (f : S → γ → S) (I : Nat → S → Prop) (it : Iv Γ wi g js xs bds mi) (w : Wk Γ (G s0)) (h0 : I 0 s0)
    (body : ∀ (i : Nat) (x : γ) (s : S), xs[i]? = some x → I i s → I (i + 1) (f s x) ∧ Run E (setC js (bds x) mi (G s)) tb (.nx (G (f s x)))) (k : ∀ s, s = xs.foldl f s0 → I xs.length s → Run E (G s) u (fo (kk s))) : Run E Γ (tSeq (tFor wi g tb) u) (fo (Let (xs.foldl f s0) kk)) := by
  refine run_seq (Δ := G (xs.foldl f s0)) ?_ (k _ rfl (by simpa using foldl_inv (n := 0) (I := I) h0 fun i x s e q => by rw [Nat.zero_add] at q ⊢; exact (body i x s e q).1))
  have := run_for (β := Empty) G (fun z => z.elim) (fun s x => .inl (f s x)) I it w h0 (fun b => b.elim) fun i x s e q => ⟨fun s' z => by cases z; exact (body i x s e q).1, (body i x s e q).2⟩
  rw [loopR_fold] at this
  exact this
theorem loopR_inv {S : Type} {f : S → γ → S ⊕ β} {I : Nat → S → Prop} : ∀ {xs : List γ} {s s' : S} {n : Nat}, I n s → (∀ (i : Nat) (x : γ) (s : S), xs[i]? = some x → I (n + i) s → ∀ s', f s x = .inl s' → I (n + i + 1) s') → loopR f s xs = .inl s' → I (n + xs.length) s'
  | [], s, s', n, h, _, e => by cases e; exact h
  | x :: xs, s, s', n, h, k, e => by
    unfold loopR at e
    cases q : f s x with
    | inr b => rw [q] at e; cases e
    | inl s1 =>
      rw [q] at e
      have h1 := k 0 x s rfl h s1 q
      have := loopR_inv (xs := xs) (s := s1) (n := n + 1) h1 (fun i y s' e q => by
        have := k (i + 1) y s' (by simpa using e) (by rw [show n + (i + 1) = n + 1 + i by omega]; exact q)
        rw [show n + 1 + i + 1 = n + (i + 1) + 1 by omega]; exact this) e
      rw [List.length_cons, show n + (xs.length + 1) = n + 1 + xs.length by omega]
      exact this
theorem run_forR {S : Type} {wi : TI} {g : TG} {tb : TS} {js : List Nat} {xs : List γ} {bds : γ → List Ds} {mi : Bool} {s0 : S} (G : S → Ctx) (fo : α → Oc) (wr : β → α) {kk : S → α} (f : S → γ → S ⊕ β) (I : Nat → S → Prop) (hres : ∀ b, RetOc (fo (wr b))) (it : Iv Γ wi g js xs bds mi) (w : Wk Γ (G s0)) (h0 : I 0 s0)
    (body : ∀ (i : Nat) (x : γ) (s : S), xs[i]? = some x → I i s → (∀ s', f s x = .inl s' → I (i + 1) s') ∧ Run E (setC js (bds x) mi (G s)) tb (outOf G (fun b => fo (wr b)) (f s x))) (k : ∀ s, loopR f s0 xs = .inl s → I xs.length s → Run E (G s) u (fo (kk s))) : Run E Γ (tSeq (tFor wi g tb) u) (fo (LetR (loopR f s0 xs) kk wr)) := by
  have h := run_for G (fun b => fo (wr b)) f I it w h0 (fun b F0 Hb D D' e q => (hres b).meets e q) body
  cases e : loopR f s0 xs with
  | inl s =>
    rw [e] at h
    exact run_seq h (k s e (by simpa using loopR_inv (n := 0) h0 (fun i x s e q => by rw [Nat.zero_add] at q ⊢; exact (body i x s e q).1) e))
  | inr b =>
    rw [e] at h
    exact fun F0 Hb F H σ own D a q => h F0 Hb F H σ own _ a ((hres b).meets (D := D) rfl (show Meets E F0 Hb D (fo (wr b)) from q))
end
end L2

namespace L2
open PySem PySem.Spec PyProof.Rows PySem.Builtin PySem.Builtin.Getset_descriptor

structure XCls (K : PySem.W.Frag) (C : Addr) : Prop where
  ga : PySem.W.findIn K (.ref C) "__getattribute__" = some (some (.builtin "BaseException.__getattribute__"))
  gn : PySem.W.findIn K (.ref C) "__getattr__" = some none
  cl : PySem.W.findIn K (.ref C) "__class__" = some (some (.builtin "object.__class__"))
  ob : PySem.W.mroIn K C (.type "object") = some true
  be : PySem.W.mroIn K C (.type "BaseException") = some true
  gt : PySem.W.specialIn K (.builtin "object.__class__") "__get__" = some (some (.builtin "getset_descriptor.__get__"))
  tk : PySem.W.takesIn K (.builtin "object.__class__") = some true

def XAt (h : Heap) (a C : Addr) : Prop := ∃ o vs, h.get? a = some o ∧ o.cls = .ref C ∧ o.data = .fields vs
section
variable {prog : Program} {w : World} {A : Around} {E : Value → Shared → Prop} {K : PySem.W.Frag} {C a : Addr} {h : Heap} {g : Array GenState} {d : Drawn} {t : Nat} {os : OsState}
theorem XAt.ty {M : Model} (x : XAt h a C) : PySem.W.Looks M h (typeOf (.ref a)) (.ref C) := by
  obtain ⟨o, vs, hx, hc, hd⟩ := x
  exact hc ▸ (PySem.W.Looks.ld hx).andThen .now
theorem exc_cls_get {tp : Value} {R : Result → Shared → Prop} (X : K.In h) (c : XCls K C) (x : XAt h a C) (hr : R (.ok (.ret (.ref C))) ⟨h, g, d, t, os⟩) :
    codeAny (model prog w) A (.call (.builtin "getset_descriptor.__get__") ⟨[.builtin "object.__class__", .ref a, tp], []⟩) R ⟨h, g, d, t, os⟩ := by
  have L0 := x.ty (M := model prog w)
  have L1 := PySem.W.looks_mroIn (M := model prog w) X c.ob
  refine codeAny_call_builtin PySem.W.KF.slot_gs.plain PySem.W.KF.entry_gs (PySem.W.KF.slot_gs.check _ _ _ _ _ _ _ _ PySem.W.KF.type_class (PySem.W.KF.args_gs _ _ _) ?_)
  unfold Builtin.«getset_descriptor.__get__»
  unfold descrGet
  rw [PySem.W.dga_obj]
  refine wpAny_bind (wpAny_pure ?_)
  unfold descrGetter
  unfold descrCheckInstance descrNameAndClass
  unfold isInstance
  simp only [PySem.W.KF.owner_class]
  repeat (any_goals (first | assumption | with_reducible refine wpAny_bind (L0.at ?_) | with_reducible refine wpAny_bind (L1.at ?_) | with_reducible refine L0.at ?_ | with_reducible refine L1.at ?_ | wp_step))
  refine ⟨Code.quiet_builtin _ (by decide +kernel), codeAny_builtin (PySem.W.KF.entry_class) ?_⟩
  unfold Builtin.«object.__class__»
  unfold shownTypeOf
  repeat (any_goals (first | assumption | with_reducible refine wpAny_bind (L0.at ?_) | with_reducible refine L0.at ?_ | wp_step))
theorem exc_entry {tk : Tok} {Q : Fin → Shared → Prop} (X : K.In h) (c : XCls K C) (x : XAt h a C) (hq : Q (.done (.ret (.ref C))) ⟨h, g, d, t, os⟩) :
    wpAny (model prog w) A (Builtin.«object.__getattribute__» ⟨[.ref a, .str "__class__" tk], []⟩) Q E ⟨h, g, d, t, os⟩ := by
  have L0 := x.ty (M := model prog w)
  have L1 := PySem.W.looks_findIn (M := model prog w) X c.cl
  have L2 := PySem.W.looks_specialIn (M := model prog w) X c.gt
  have L3 := PySem.W.looks_takesIn (M := model prog w) X c.tk
  unfold Builtin.«object.__getattribute__»
  repeat (any_goals (first | assumption | with_reducible refine wpAny_bind (L0.at ?_) | with_reducible refine wpAny_bind (L1.at ?_) | with_reducible refine wpAny_bind (L2.at ?_) | with_reducible refine wpAny_bind (L3.at ?_) | wp_step))
  refine exc_cls_get X c x ?_
  repeat (any_goals (first | assumption | wp_step))
theorem exc_check {nameV : Value} {Q : Unit → Shared → Prop} (X : K.In h) (c : XCls K C) (x : XAt h a C) (hq : Q () ⟨h, g, d, t, os⟩) : wpAny (model prog w) A (checkBuiltinCall "BaseException.__getattribute__" ⟨[.ref a, nameV], []⟩) Q E ⟨h, g, d, t, os⟩ := by
  have hk : builtinKind "BaseException.__getattribute__" = some .slot := by decide +kernel
  have hsplit : splitId "BaseException.__getattribute__" = some ("BaseException", "__getattribute__") := by decide +kernel
  have L0 := x.ty (M := model prog w)
  have L1 := PySem.W.looks_mroIn (M := model prog w) X c.be
  have LI : PySem.W.Looks (model prog w) h (isInstance (.ref a) (.type "BaseException")) true := L0.andThen L1
  have ha := F.args_bexc_ga (.ref a) nameV
  simp only [checkBuiltinCall, hk, hsplit]
  refine wpAny_bind (LI.at ?_)
  repeat (any_goals (first | assumption | wp_step))
  all_goals (try exact hq)
theorem exc_by {tk : Tok} {fill expr : Bool} {Q : Value → Shared → Prop} (X : K.In h) (c : XCls K C) (x : XAt h a C) (hq : Q (.ref C) ⟨h, g, d, t, os⟩) :
    wpAny (model prog w) A (getAttrBy (.ref a) (.str "__class__" tk) fill expr) Q E ⟨h, g, d, t, os⟩ := by
  have L0 := x.ty (M := model prog w)
  have L1 := PySem.W.looks_findIn (M := model prog w) X c.ga
  have L2 := PySem.W.looks_findIn (M := model prog w) X c.gn
  have f3 := (PySem.F.attr_ValueError.ga).bind (.ref a)
  have hx0 : (expr && onTheHeap (Value.builtin "BaseException.__getattribute__")) = false := by cases expr <;> rfl
  have hx2 : (Value.builtin "BaseException.__getattribute__" == Value.builtin "object.__getattribute__") = false := by decide +kernel
  have hx1 : (onTheHeap (Value.ref C) && Value.builtin "BaseException.__getattribute__" == Value.builtin "object.__getattribute__") = false := by rw [hx2]; rfl
  unfold getAttrBy
  repeat (any_goals (first | assumption | with_reducible refine wpAny_bind (L0.at ?_) | with_reducible refine wpAny_bind (L1.at ?_) | with_reducible refine wpAny_bind (L2.at ?_) | wp_step))
  refine codeAny_call_builtin PySem.F.attr_ValueError.ga.plain F.entry_bexc_ga (exc_check X c x (exc_entry X c x ?_))
  repeat (any_goals (first | assumption | wp_step))
theorem exc_attr {Q : Option Value → Shared → Prop} (X : K.In h) (c : XCls K C) (x : XAt h a C) (hq : Q (some (.ref C)) ⟨h, g, d, t + 1, os⟩) :
    wpAny (model prog w) A (getAttr? (.ref a) "__class__") Q E ⟨h, g, d, t, os⟩ := by
  unfold getAttr? getAttrBy?
  repeat (any_goals (first | assumption | with_reducible apply exc_by X c x | wp_step))
end
theorem cls_at {K : PySem.W.Frag} {C : Addr} {T : Value} {r : Bool} (e : PySem.W.mroIn K C T = some r) : ∃ c d cd sl, K.lookup C = some ⟨c, d, .cls cd, sl⟩ := by
  obtain ⟨cd, hc, _⟩ := Option.bind_eq_some_iff.mp e
  unfold PySem.W.clsIn at hc
  split at hc
  · exact ⟨_, _, _, _, by assumption⟩
  · cases hc
theorem kitx_exc {K : PySem.W.Frag} {a C : Addr} (c : XCls K C) : PySem.W.KitX K (.ref a) (.ref C) (fun h => XAt h a C) where
  ty := fun _ _ _ x => x.ty
  it := fun M h X _ => by
    obtain ⟨c', d', cd', sl', ho⟩ := cls_at c.ob
    intro A' Q' E' s' k q
    unfold isType loadHead
    exact wpAny_bind (wpAny_loadPart (k _ _ (X _ _ ho)) (wpAny_pure q))
  ne := fun h tp dd its n sl X htp => by
    obtain ⟨c', d', cd', sl', ho⟩ := cls_at c.ob
    refine Bool.eq_false_iff.mpr fun q => ?_
    have e : C = tp := Value.ref.inj (beq_iff_eq.mp q)
    subst e
    have z := (X _ _ ho).symm.trans htp
    cases z
  ca := fun {prog w A E Q s} X x k => by
    obtain ⟨h, g, d, t, os⟩ := s
    exact exc_attr X c x k

def excO (a C : Addr) (fs : List (Str × V)) : HO := .ext fun h => ∃ o vs, h.get? a = some o ∧ o.cls = .ref C ∧ o.data = .fields vs ∧ fs = []
section
variable {X : Cx} {K : PySem.W.Frag}
theorem call_isiX (hK : X.K = K) : CallR X (.builtin "isinstance") (fun xs H Q => ∃ a C c b, (xs = [.ref a, c]) ∧ H a = some (excO a C []) ∧ XCls K C ∧ (∃ u, RelV c u ∧ (∀ u', RelV c u' → u' = u) ∧ PySem.W.kitOne K (.ref C) u = some b) ∧ Q (.bl b) H) := by
  subst hK
  intro pins s σ H xs us Q I r h
  obtain ⟨a, C, c, b, rfl, ha, hc, ⟨u, hu, hu2, hk⟩, q⟩ := h
  obtain ⟨v, w', rfl, rx, ry⟩ := vals2 r
  cases rx
  rw [hu2 w' ry]
  obtain ⟨⟨o, vs, h1, h2, h3, _⟩, _⟩ := (show ObjOk X.prog X.w H s.heap a (excO a C []) from I.hok a _ ha)
  exact PySem.W.kia_one (kitx_exc hc) I.kIn ⟨o, vs, h1, h2, h3⟩ hk (fun z => nomatch z) fun tk => ⟨.bl b, H, I.tok _, rfl, q⟩
end
end L2

namespace L2
open PySem PySem.Spec PyProof.Rows
section
variable {X : Cx} {pins : List (Addr × Obj)} {σ : St} {H : Hp} {s : Shared}
theorem Inv.locals {h' : Heap} {t' : Nat} {m' : Str → Option Value} {σ' : St} (I : Inv X pins σ H s) (hs : Heap.SameBut X.env.locals s.heap h') (hn' : h'.Ns X.env.locals m')
    (hl : ∀ (j : Nat) (y : Str) (v : V), X.N[j]? = some y → σ'[j]? = some (some v) → Vis X.env.scope y → ∃ u, RelV v u ∧ Look X.env h' m' y u) (len : σ'.length = X.N.length) : Inv X pins σ' H { s with heap := h', toks := t' } := by
  have lt : ∀ b o, X.s₀.heap.get? b = some o → b ≠ X.env.locals := fun b o e => Nat.ne_of_lt (Nat.lt_of_lt_of_le (Heap.lt_size e) I.ok.above)
  refine ⟨I.ok, I.os, I.bare, ⟨fun b o e n hb hx => (hs.2 b (lt b o e)).trans (I.base.keep b o e n hb hx), fun b o e n hb hx => ?_, I.base.free, fun b o e hx => ?_, I.base.tups, I.base.frzs, I.base.tbls⟩, ⟨m', hn', hl⟩, fun y c e => ?_, I.free, I.freeC, fun p hp => ?_, fun b u e => ?_, len⟩
  · obtain ⟨sl, q⟩ := I.base.slot b o e n hb hx
    exact ⟨sl, (hs.2 b (lt b o e)).trans q⟩
  · obtain ⟨o', q⟩ := I.base.there b o e hx
    exact ⟨o', (hs.2 b (lt b o e)).trans q⟩
  · obtain ⟨w', z⟩ := I.cell y c e
    exact ⟨w', z.sameBut hs (I.cne y c e)⟩
  · obtain ⟨e, n, ne, nf, d⟩ := I.pin p hp
    exact ⟨(hs.2 p.1 ne).trans e, n, ne, nf, d⟩
  · refine (I.hok b u e).stay (fun c v hc q => (hs.2 c ?_).trans q) (fun _ q => q) fun _ _ q => q
    intro z
    have z' := I.free
    rw [← z] at z'
    rcases hc with hc | hc
    · rw [hc, e] at z'; cases z'
    · rw [hc] at z'; cases z'
end
section
variable {X : Cx} {K : PySem.W.Frag}
end
end L2

namespace L2
open PySem PySem.Spec PyProof.Rows

section
variable {X : Cx} {K : PySem.W.Frag} {e : Expr} {st : Stmt} {rest : List Stmt} {pos : Pos}
end

def rIsiB (K : PySem.W.Frag) : List V → Hp → VK → Prop := fun xs H Q => rIsi K xs H Q ∨ ∃ a C c b, (xs = [.ref a, c]) ∧ H a = some (excO a C []) ∧ XCls K C ∧ (∃ u, RelV c u ∧ (∀ u', RelV c u' → u' = u) ∧ PySem.W.kitOne K (.ref C) u = some b) ∧ Q (.bl b) H
theorem call_isiB {X : Cx} {K : PySem.W.Frag} (hK : X.K = K) : CallR X (.builtin "isinstance") (rIsiB K) := fun pins s σ H xs us Q I r h => by
  rcases h with h | h
  · exact call_isi_K hK pins s σ H xs us Q I r h
  · exact call_isiX hK pins s σ H xs us Q I r h

section
variable {E : XS} {Γ Δ Γx : Ctx} {m : Bool} {K : PySem.W.Frag} {α β ε : Type} {u : TS} {o : Oc} {ds : List Ds}
theorem ev_isiL {ta : TE} {T : String} {b : Bool} (h : Ev Γ ta false (dL ds)) (hk : PySem.W.kitOne K (.type "list") (.type T) = some b) : Ev Γ (tCB (rIsiB K) (tCons ta (tCons (tC (.ty T)) tNil))) m (dB b) := fun F0 Hb F H σ own Q a k =>
  h F0 Hb F H σ own _ a fun v' F1 H1 g1 ⟨p, vs, e1, e2, e3⟩ => by
    subst e1
    exact .inl ⟨.ref p, _, b, .inl ⟨T, rfl, hk⟩, .lst (g1.fh _ _ e2), k _ F1 H1 g1 rfl⟩

end
section
variable {E : XS} {Γ : Ctx} {K : PySem.W.Frag} {α β ε : Type} {u : TS}
end
section
variable {P : Program} {w : World} {K : PySem.W.Frag} {mg : Str → Option Value} {base : Heap} {x qual : Str} {st : Stmt} {f : Addr} {fd : FuncData} {N ps : List Str} {k : Nat}
end
end L2

namespace L2
open PySem PySem.Spec PyProof.Rows

def EvN (Γ : Ctx) (t : TE) (d : Ds) : Prop := ∀ (F0 Hb F H : Hp) (σ : St) (own : Nat → Option Addr) (Q : VK), At F0 Hb F H σ own Γ → (∀ v F' H', Grow F H F' H' → d.pr (off F' H) v → Q v H') → t σ H Q
def oldS : Slot → Slot
  | .va _ d => .va false d
  | _ => .no
def oldC (Γ : Ctx) : Ctx := Γ.map oldS
theorem At.now {F0 Hb F H : Hp} {σ : St} {own : Nat → Option Addr} {Γ : Ctx} (a : At F0 Hb F H σ own Γ) : At F H F H σ (fun _ => none) (oldC Γ) := by
  refine ⟨Grow.refl a.fh, fun _ _ _ h => (nomatch h), fun _ _ h => (nomatch h), fun i s e => ?_, by unfold oldC; rw [List.length_map]; exact a.len⟩
  unfold oldC at e
  rw [List.getElem?_map] at e
  cases q : Γ[i]? with
  | none => rw [q] at e; cases e
  | some r =>
    rw [q] at e
    have e' : oldS r = s := Option.some.inj e
    subst e'
    have h := a.sl i r q
    cases r with
    | va m d =>
      obtain ⟨x, h1, h2⟩ := h
      exact ⟨x, h1, d.up part_sub h2⟩
    | no => trivial
    | ow m ds => trivial
    | ob m C p dx fs => trivial
    | ol p ds => trivial
    | tl d => trivial
theorem evn_of {Γ : Ctx} {t : TE} {d : Ds} (h : Ev (oldC Γ) t true d) : EvN Γ t d := fun F0 Hb F H σ own Q a k => h F H F H σ _ Q a.now fun v F' H' g q => k v F' H' g q

section
variable {E : XS} {Γ : Ctx} {te : TE} {u : TS} {o : Oc} {d d1 d2 : Ds} {K : PySem.W.Frag} {i j : Nat}
end

def noOb (Γ : Ctx) : Bool := Γ.all fun s => match s with | .ob _ _ _ _ _ => false | _ => true
section
variable {E : XS} {Γ : Ctx} {t : TE} {d : Ds} {m n : Bool} {u : TS} {o : Oc}
theorem Grow.only {F H H' : Hp} (e : Same F H) (g : Same H H') : Grow F H F H' := ⟨Same.refl _, e.trans g, g, fun _ _ z => z⟩
theorem EvN.ev (h : EvN Γ t d) : Ev Γ t true d := fun F0 Hb F H σ own Q a k => h F0 Hb F H σ own Q a fun v F' H' g q => k v F' H' g (d.up (off_old a.g.h) q)
def unS : Slot → Slot
  | .tl _ => .no
  | s => s
def unC (Γ : Ctx) : Ctx := Γ.map unS
theorem At.spoil {F0 Hb F H : Hp} {σ : St} {own : Nat → Option Addr} (a : At F0 Hb F H σ own Γ) (hno : noOb Γ = true) {p : Addr} (w : HO) (h1 : F p = none) (h2 : Hb p = none) (h3 : ∀ j, own j ≠ some p) : At F0 Hb F (upd H p w) σ own (unC Γ) := by
  refine ⟨a.g.setH h1 h2, a.inj, fun j q e => ?_, fun i s e => ?_, by unfold unC; rw [List.length_map]; exact a.len⟩
  · have : q ≠ p := fun z => h3 j (z ▸ e)
    rw [upd_ne this]; exact a.liv j q e
  · unfold unC at e
    rw [List.getElem?_map] at e
    cases q : Γ[i]? with
    | none => rw [q] at e; cases e
    | some r =>
      rw [q] at e
      have e' : unS r = s := Option.some.inj e
      subst e'
      have h := a.sl i r q
      cases r with
      | va m d => exact h
      | no => trivial
      | ow m ds =>
        obtain ⟨x, vs, q1, q2, q3, q4, q5, q6⟩ := h
        have : x ≠ p := fun z => h3 i (z ▸ q2)
        exact ⟨x, vs, q1, q2, q3, q4, by rw [upd_ne this]; exact q5, q6⟩
      | ol x ds =>
        obtain ⟨vs, q1, q2, q3, q4, q5, q6⟩ := h
        have : x ≠ p := fun z => h3 i (z ▸ q2)
        exact ⟨vs, q1, q2, q3, q4, by rw [upd_ne this]; exact q5, q6⟩
      | ob m C p dx fs =>
        have := List.all_eq_true.mp hno _ (List.mem_of_getElem? q)
        cases this
      | tl d => trivial
end
section
variable {E : XS} {Γ : Ctx} {te : TE} {u : TS} {K : PySem.W.Frag} {i j : Nat} {α β : Type} {f : α → Ds}
end
section
variable {X : Cx} {K : PySem.W.Frag}
end
end L2

namespace Hd
open PySem PySem.W PyProof.Rows

def runT (p : Program) (w : World) (m : Nat) (a : Option Value) : Nat → SharedT → Thread → Option SharedT
  | 0, _, _ => none
  | n + 1, s, t => match through t with
    | true => some s
    | false => match stepOk m a t with
      | true => (match stepT (denote treeTable) p w s t with
        | some x => runT p w m a n x.1 x.2
        | none => none)
      | false => none
theorem run_of {p : Program} {w : World} {m : Nat} {a : Option Value} : ∀ {n : Nat} {s z : SharedT} {t : Thread}, runT p w m a n s t = some z → topRun treeTable p w m a n s.abs t = some z.abs
  | 0, _, _, _, h => by cases h
  | n + 1, s, z, t, h => by
    rw [runT] at h
    rw [topRun]
    cases h1 : through t <;> rw [h1] at h
    · cases h2 : stepOk m a t <;> rw [h2] at h
      · cases h
      · cases h3 : stepT (denote treeTable) p w s t with
        | none => rw [h3] at h; cases h
        | some x => rw [h3] at h; rw [stepT_spec (s' := x.1) (t' := x.2) h3]; exact run_of h
    · cases h; rfl
def tr : List Obj → Nat → BT → BT
  | [], _, t => t
  | o :: r, n, t => tr r (n + 1) (t.ins n o)
noncomputable def boot (P : Params) (os : OsState) : SharedT := ⟨tr (boot_heap P).objs.toList 0 .nil, 11, (boot_heap P).life, Array.mk [], boot_drawn, boot_toks, os⟩
theorem boot_abs (P : Params) (os : OsState) : (boot P os).abs = ⟨boot_heap P, Array.mk [], boot_drawn, boot_toks, os⟩ := by kernel_rfl
theorem boot_ns (P : Params) : ((boot_heap P).isNs mainGlobals && (Array.mk ([] : List GenState)).size == 0) = true := by kernel_rfl
theorem boot_sz (P : Params) : (boot_heap P).objs.size = 11 := by kernel_rfl
theorem boot_an (P : Params) : (boot_heap P).nsMap mainGlobals "__annotations__" = some (.ref 6) := by kernel_rfl
noncomputable def lk (p : Program) (w : World) (s : Shared) : Bool := staticsOk (importedModules p.main.body) (boot_heap w.params) s.heap && namesBound p s.heap && gensDone s && laidKept (boot_heap w.params) s.heap
theorem left_of {p q : Program} {loose : List Str} {Xt : Shared → Bool} {α : Type} {Yf : Shared → α} {Ya : World → α} {N : Nat} {g0 : Bool}
    (e : opening p = plainProg p.main.scope.names) (hN : Nat.ble 600 N = true) (f : ∀ s, fenceModules? p s = some s)
    (h : ∀ w os, (runT p w 11 (some (.ref 6)) N (boot w.params os) (topStub p)).map (fun s => (lk p w s.abs, openSeen q loose (importedModules p.main.body) Xt g0 s.abs, Yf s.abs)) = some (true, openGood q loose, Ya w)) : LeftO p q loose Xt Yf Ya N g0 := fun w => by
  obtain ⟨s, h1, h2⟩ := Option.map_eq_some_iff.mp (boot_open e hN f w)
  obtain ⟨hp, gs, dr, tk, os⟩ := s
  have h3 : hp = boot_heap w.params ∧ gs = Array.mk [] ∧ dr = boot_drawn ∧ tk = boot_toks := by simpa using h2
  obtain ⟨rfl, rfl, rfl, rfl⟩ := h3
  obtain ⟨z, h4, h5⟩ := Option.map_eq_some_iff.mp (h w os)
  have h6 := run_of h4
  rw [boot_abs] at h6
  obtain ⟨l1, l2, l3⟩ : _ ∧ _ ∧ _ := by simpa only [Prod.mk.injEq] using h5
  unfold openEnds
  rw [h1]
  show (topFrom treeTable p w N _).map _ = _
  have h7 : topFrom treeTable p w N ⟨boot_heap w.params, Array.mk [], boot_drawn, boot_toks, os⟩ = some z.abs := by
    unfold topFrom
    dsimp only
    rw [boot_ns, boot_sz, boot_an, h6]
    show (match lk p w z.abs with | true => _ | false => _) = _
    rw [l1]
  rw [h7]
  exact congrArg some (Prod.ext l2 l3)
end Hd

namespace Lat
abbrev Vc := Nat → Int
inductive Sp (A : Vc → Prop) : Vc → Prop
  | zero : Sp A (fun _ => 0)
  | add {u a : Vc} (x : Int) : Sp A u → A a → Sp A (fun i => u i + x * a i)
section
variable {A B : Vc → Prop} {u v a : Vc}
theorem Sp.conv (h : Sp A u) (e : ∀ i, u i = v i) : Sp A v := (funext e : u = v) ▸ h
theorem Sp.mem (h : A a) : Sp A a := (Sp.add 1 Sp.zero h).conv fun i => by grind
theorem Sp.smul (x : Int) (h : Sp A u) : Sp A (fun i => x * u i) := by
  induction h with
  | zero => exact Sp.zero.conv fun i => by grind
  | @add u a z _ ha ih => exact (Sp.add (x * z) ih ha).conv fun i => by grind
theorem Sp.plus (h : Sp A u) (k : Sp A v) : Sp A (fun i => u i + v i) := by
  induction k with
  | zero => exact h.conv fun i => by grind
  | @add w a z _ ha ih => exact (Sp.add z ih ha).conv fun i => by grind
theorem Sp.lin (x y : Int) (h : Sp A u) (k : Sp A v) : Sp A (fun i => x * u i + y * v i) := (h.smul x).plus (k.smul y)
theorem Sp.sub (k : ∀ a, A a → Sp B a) (h : Sp A u) : Sp B u := by
  induction h with
  | zero => exact Sp.zero
  | @add u a z _ ha ih => exact (ih.plus ((k a ha).smul z)).conv fun i => by grind
theorem Sp.mono (k : ∀ a, A a → B a) (h : Sp A u) : Sp B u := h.sub fun a ha => .mem (k a ha)
theorem Sp.at0 {i : Nat} (k : ∀ a, A a → a i = 0) (h : Sp A u) : u i = 0 := by
  induction h with
  | zero => rfl
  | @add u a z _ ha ih => show u i + z * a i = 0; rw [ih, k a ha]; simp
theorem Sp.split {a : Vc} (h : Sp (fun u => A u ∨ u = a) v) : ∃ w y, Sp A w ∧ ∀ i, v i = w i + y * a i := by
  induction h with
  | zero => exact ⟨_, 0, .zero, fun i => by grind⟩
  | @add u b z _ hb ih =>
    obtain ⟨w, y, hw, e⟩ := ih
    rcases hb with hb | rfl
    · exact ⟨_, y, .add z hw hb, fun i => by grind⟩
    · exact ⟨w, y + z, hw, fun i => by grind⟩
end
def comb : List Int → List Vc → Vc
  | x :: xs, a :: as => fun i => x * a i + comb xs as i
  | _, _ => fun _ => 0
theorem comb_sp {A : Vc → Prop} : ∀ {xs : List Int} {as : List Vc}, (∀ a ∈ as, A a) → Sp A (comb xs as)
  | [], _, _ => .zero
  | _ :: _, [], _ => .zero
  | x :: xs, a :: as, h => (((Sp.mem (h a List.mem_cons_self)).smul x).plus (comb_sp (xs := xs) fun b hb => h b (List.mem_cons_of_mem _ hb))).conv fun i => by simp only [comb]
theorem comb_sub : ∀ {xs ys : List Int} {as : List Vc} (i : Nat), xs.length = ys.length → comb (List.zipWith (· - ·) xs ys) as i = comb xs as i - comb ys as i
  | [], [], _, _, _ => by simp [comb]
  | x :: xs, y :: ys, [], _, _ => by simp [comb]
  | x :: xs, y :: ys, a :: as, i, h => by
    have := comb_sub (xs := xs) (ys := ys) (as := as) i (by simpa using h)
    simp only [comb, List.zipWith_cons_cons, this]
    grind
theorem comb_smul : ∀ {xs : List Int} {as : List Vc} (c : Int) (i : Nat), comb (xs.map (c * ·)) as i = c * comb xs as i
  | [], _, _, _ => by simp [comb]
  | x :: xs, [], _, _ => by simp [comb]
  | x :: xs, a :: as, c, i => by
    have := comb_smul (xs := xs) (as := as) c i
    simp only [comb, List.map_cons, this]
    grind
theorem comb_bd {X B : Nat} {i : Nat} : ∀ {xs : List Int} {as : List Vc}, (∀ x ∈ xs, x.natAbs ≤ X) → (∀ a ∈ as, (a i).natAbs ≤ B) → (comb xs as i).natAbs ≤ as.length * (X * B)
  | [], _, _, _ => by simp [comb]
  | _ :: _, [], _, _ => by simp [comb]
  | x :: xs, a :: as, h, k => by
    have h1 := comb_bd (xs := xs) (as := as) (fun y hy => h y (List.mem_cons_of_mem _ hy)) fun b hb => k b (List.mem_cons_of_mem _ hb)
    have h2 : (x * a i).natAbs ≤ X * B := by rw [Int.natAbs_mul]; exact Nat.mul_le_mul (h x List.mem_cons_self) (k a List.mem_cons_self)
    simp only [comb, List.length_cons, Nat.succ_mul]
    omega
theorem pigeon : ∀ (M N : Nat) (f : Nat → Nat), M < N → (∀ n, n < N → f n < M) → ∃ i j, i < j ∧ j < N ∧ f i = f j
  | 0, N, f, h, k => absurd (k 0 h) (Nat.not_lt_zero _)
  | M + 1, N, f, h, k => by
    by_cases q : ∃ i, i < N - 1 ∧ f i = f (N - 1)
    · obtain ⟨i, h1, h2⟩ := q
      exact ⟨i, N - 1, h1, by omega, h2⟩
    · have q : ∀ i, i < N - 1 → f i ≠ f (N - 1) := fun i h1 h2 => q ⟨i, h1, h2⟩
      obtain ⟨i, j, h1, h2, h3⟩ := pigeon M (N - 1) (fun n => if f (N - 1) < f n then f n - 1 else f n) (by omega) fun n hn => by
        have a := k n (by omega)
        have b := k (N - 1) (by omega)
        have c := q n hn
        show (if f (N - 1) < f n then f n - 1 else f n) < M
        split <;> omega
      refine ⟨i, j, h1, by omega, ?_⟩
      have a := q i (by omega)
      have b := q j h2
      split at h3 <;> split at h3 <;> omega
def digs (b : Nat) : Nat → Nat → List Int
  | 0, _ => []
  | k + 1, n => ((n % b : Nat) : Int) :: digs b k (n / b)
theorem digs_len {b : Nat} : ∀ {k n : Nat}, (digs b k n).length = k
  | 0, _ => rfl
  | k + 1, n => by simp [digs, digs_len]
theorem digs_bd {b : Nat} (hb : 0 < b) : ∀ {k n : Nat}, ∀ x ∈ digs b k n, 0 ≤ x ∧ x < b
  | 0, _, x, h => by simp [digs] at h
  | k + 1, n, x, h => by
    simp only [digs, List.mem_cons] at h
    rcases h with rfl | h
    · have := Nat.mod_lt n hb
      omega
    · exact digs_bd hb x h
theorem digs_inj {b : Nat} (hb : 0 < b) : ∀ {k n m : Nat}, n < b ^ k → m < b ^ k → digs b k n = digs b k m → n = m
  | 0, n, m, h1, h2, _ => by simp at h1 h2; omega
  | k + 1, n, m, h1, h2, e => by
    simp only [digs, List.cons.injEq] at e
    have h3 := digs_inj hb (k := k) (Nat.div_lt_of_lt_mul (by rw [Nat.pow_succ, Nat.mul_comm] at h1; exact h1)) (Nat.div_lt_of_lt_mul (by rw [Nat.pow_succ, Nat.mul_comm] at h2; exact h2)) e.2
    have h4 := Nat.div_add_mod n b
    have h5 := Nat.div_add_mod m b
    rw [h3] at h4
    omega
def enc (W : Nat) (u : Vc) : List Nat → Nat
  | [] => 0
  | h :: hs => (u h + W).toNat + (2 * W + 1) * enc W u hs
theorem enc_bd {W : Nat} {u : Vc} : ∀ {hs : List Nat}, (∀ h ∈ hs, (u h).natAbs ≤ W) → enc W u hs < (2 * W + 1) ^ hs.length
  | [], _ => by simp [enc]
  | h :: hs, k => by
    have h1 := enc_bd (hs := hs) fun g hg => k g (List.mem_cons_of_mem _ hg)
    have h2 := k h List.mem_cons_self
    simp only [enc, List.length_cons, Nat.pow_succ]
    have h3 : (2 * W + 1) * (enc W u hs + 1) ≤ (2 * W + 1) * (2 * W + 1) ^ hs.length := Nat.mul_le_mul_left _ h1
    rw [Nat.mul_comm ((2 * W + 1) ^ hs.length)]
    rw [Nat.mul_add] at h3
    omega
theorem enc_inj {W : Nat} {u v : Vc} : ∀ {hs : List Nat}, (∀ h ∈ hs, (u h).natAbs ≤ W ∧ (v h).natAbs ≤ W) → enc W u hs = enc W v hs → ∀ h ∈ hs, u h = v h
  | [], _, _, h, hh => by simp at hh
  | g :: hs, k, e, h, hh => by
    have h2 := k g List.mem_cons_self
    simp only [enc] at e
    have e1 : ((u g + W).toNat + (2 * W + 1) * enc W u hs) % (2 * W + 1) = ((v g + W).toNat + (2 * W + 1) * enc W v hs) % (2 * W + 1) := by rw [e]
    rw [Nat.add_mul_mod_self_left, Nat.add_mul_mod_self_left, Nat.mod_eq_of_lt (by omega), Nat.mod_eq_of_lt (by omega)] at e1
    have e2 : u g = v g := by omega
    rcases List.mem_cons.mp hh with rfl | hh
    · exact e2
    · refine enc_inj (fun x hx => k x (List.mem_cons_of_mem _ hx)) ?_ h hh
      rw [e1] at e
      exact Nat.eq_of_mul_eq_mul_left (show 0 < 2 * W + 1 by omega) (Nat.add_left_cancel e)
theorem siegel {as : List Vc} {hs : List Nat} {B : Nat} (hl : hs.length < as.length) (hB : ∀ a ∈ as, ∀ h ∈ hs, (a h).natAbs ≤ B) :
    ∃ xs : List Int, xs.length = as.length ∧ (∃ x ∈ xs, x ≠ 0) ∧ (∀ x ∈ xs, x.natAbs ≤ (2 * (as.length * B) + 1) ^ hs.length) ∧ ∀ h ∈ hs, comb xs as h = 0 := by
  generalize hY : 2 * (as.length * B) + 1 = Y
  have hY1 : 1 ≤ Y := by omega
  generalize hX : Y ^ hs.length = X
  have hX1 : 1 ≤ X := by rw [← hX]; exact Nat.one_le_pow _ _ hY1
  have key : ∀ n, ∀ h ∈ hs, (comb (digs (X + 1) as.length n) as h).natAbs ≤ as.length * (X * B) := fun n h hh =>
    comb_bd (fun x hx => by have := digs_bd (by omega) x hx; omega) fun a ha => hB a ha h hh
  obtain ⟨i, j, h1, h2, h3⟩ := pigeon ((2 * (as.length * (X * B)) + 1) ^ hs.length) ((X + 1) ^ as.length) (fun n => enc (as.length * (X * B)) (comb (digs (X + 1) as.length n) as) hs) (by
    have e1 : 2 * (as.length * (X * B)) + 1 ≤ Y * X := by
      rw [← hY, Nat.add_mul, Nat.one_mul, Nat.mul_assoc, Nat.mul_assoc, Nat.mul_comm B X]
      omega
    calc (2 * (as.length * (X * B)) + 1) ^ hs.length ≤ (Y * X) ^ hs.length := Nat.pow_le_pow_left e1 _
      _ = X * X ^ hs.length := by rw [Nat.mul_pow, hX]
      _ = X ^ (hs.length + 1) := by rw [Nat.pow_succ, Nat.mul_comm]
      _ ≤ X ^ as.length := Nat.pow_le_pow_right hX1 hl
      _ < (X + 1) ^ as.length := Nat.pow_lt_pow_left (by omega) (by omega)) fun n _ => enc_bd (key n)
  refine ⟨List.zipWith (· - ·) (digs (X + 1) as.length i) (digs (X + 1) as.length j), by simp [digs_len], ?_, fun x hx => ?_, fun h hh => ?_⟩
  · refine Classical.byContradiction fun q => ?_
    have q : ∀ x ∈ List.zipWith (· - ·) (digs (X + 1) as.length i) (digs (X + 1) as.length j), x = 0 := fun x hx => Classical.byContradiction fun z => q ⟨x, hx, z⟩
    have e : digs (X + 1) as.length i = digs (X + 1) as.length j := by
      refine List.ext_getElem (by simp [digs_len]) fun k k1 k2 => ?_
      have := q _ (List.getElem_mem (l := List.zipWith (· - ·) (digs (X + 1) as.length i) (digs (X + 1) as.length j)) (n := k) (by simp [digs_len] at *; omega))
      rw [List.getElem_zipWith] at this
      omega
    have := digs_inj (by omega) (Nat.lt_trans h1 h2) h2 e
    omega
  · obtain ⟨k, hk, rfl⟩ := List.getElem_of_mem hx
    have hk' : k < as.length := by simpa [digs_len] using hk
    rw [List.getElem_zipWith]
    have := digs_bd (b := X + 1) (by omega) _ (List.getElem_mem (l := digs (X + 1) as.length i) (n := k) (by rw [digs_len]; exact hk'))
    have := digs_bd (b := X + 1) (by omega) _ (List.getElem_mem (l := digs (X + 1) as.length j) (n := k) (by rw [digs_len]; exact hk'))
    omega
  · rw [comb_sub _ (by simp [digs_len])]
    have := enc_inj (fun h hh => ⟨key i h hh, key j h hh⟩) h3 h hh
    omega
theorem first {u : Vc} {c : Nat} (h : u c ≠ 0) : ∃ d, d ≤ c ∧ u d ≠ 0 ∧ ∀ i, i < d → u i = 0 := by
  induction c using Nat.strongRecOn with
  | _ c ih =>
    by_cases q : ∃ i, i < c ∧ u i ≠ 0
    · obtain ⟨i, h1, h2⟩ := q
      obtain ⟨d, h3, h4⟩ := ih i h1 h2
      exact ⟨d, by omega, h4⟩
    · exact ⟨c, Nat.le_refl c, h, fun i hi => Classical.byContradiction fun z => q ⟨i, hi, z⟩⟩
def bnd (k B C : Nat) : Nat := (k + 1) * ((2 * ((k + 1) * C) + 1) ^ k * B)
theorem bnd_mono {k l B C : Nat} (h : k ≤ l) : bnd k B C ≤ bnd l B C := by
  unfold bnd
  refine Nat.mul_le_mul (by omega) (Nat.mul_le_mul_right _ ?_)
  refine Nat.le_trans (Nat.pow_le_pow_right (by omega) h) (Nat.pow_le_pow_left ?_ _)
  have := Nat.mul_le_mul_right C (show k + 1 ≤ l + 1 by omega)
  omega
structure Wit (A : Vc → Prop) (B E : Nat) (hs : List Nat) (as : List Vc) : Prop where
  len : hs.length = as.length
  mem : ∀ a ∈ as, A a
  bd : ∀ a ∈ as, ∀ i, (a i).natAbs ≤ B
  van : ∀ u, Sp A u → (∀ h ∈ hs, u h = 0) → ∀ i, u i = 0
  hd : ∀ h ∈ hs, ∃ v, Sp A v ∧ (∀ i, i < h → v i = 0) ∧ v h ≠ 0 ∧ ∀ i, (v i).natAbs ≤ E
  ind : ∀ xs : List Int, xs.length = as.length → (∀ i, comb xs as i = 0) → ∀ x ∈ xs, x = 0
theorem Wit.nil {B E : Nat} : Wit (fun _ => False) B E [] [] where
  len := rfl
  mem := by simp
  bd := by simp
  van := fun u h _ i => h.at0 fun _ z => z.elim
  hd := by simp
  ind := fun xs h _ x hx => by rw [List.length_eq_zero_iff.mp h] at hx; simp at hx
theorem Wit.rel {A : Vc → Prop} {B C E : Nat} {hs : List Nat} {as : List Vc} {u : Vc} (W : Wit A B E hs as) (hBC : B ≤ C) (hu : ∀ h ∈ hs, (u h).natAbs ≤ C) :
    ∃ (x : Int) (xs : List Int), x ≠ 0 ∧ xs.length = as.length ∧ x.natAbs ≤ (2 * ((as.length + 1) * C) + 1) ^ as.length ∧ (∀ y ∈ xs, y.natAbs ≤ (2 * ((as.length + 1) * C) + 1) ^ as.length) ∧ ∀ h ∈ hs, x * u h + comb xs as h = 0 := by
  obtain ⟨xs, h1, ⟨z, hz, hz0⟩, h3, h4⟩ := siegel (as := u :: as) (hs := hs) (B := C) (by simp [W.len]) fun a ha h hh => by
    rcases List.mem_cons.mp ha with rfl | ha
    · exact hu h hh
    · exact Nat.le_trans (W.bd a ha h) hBC
  rw [W.len, List.length_cons] at h3
  match xs, h1 with
  | x :: xs, h1 =>
    refine ⟨x, xs, fun q => ?_, by simpa using h1, h3 x List.mem_cons_self, fun y hy => h3 y (List.mem_cons_of_mem _ hy), fun h hh => by have := h4 h hh; simpa [comb] using this⟩
    subst q
    have k1 : ∀ i, comb xs as i = 0 := W.van _ (comb_sp W.mem) fun h hh => by have := h4 h hh; simpa [comb] using this
    have k2 := W.ind xs (by simpa using h1) k1
    rcases List.mem_cons.mp hz with rfl | hz
    · exact hz0 rfl
    · exact hz0 (k2 z hz)
theorem Wit.step {A : Vc → Prop} {B E : Nat} {hs : List Nat} {as : List Vc} {a : Vc} (W : Wit A B E hs as) (ha : ∀ i, (a i).natAbs ≤ B) (hE : bnd as.length B B ≤ E) :
    ∃ hs' as', Wit (fun u => A u ∨ u = a) B E hs' as' ∧ as'.length ≤ as.length + 1 := by
  obtain ⟨x, xs, hx, hl, b1, b2, h0⟩ := W.rel (u := a) (Nat.le_refl B) fun h _ => ha h
  have sp1 : Sp A (comb xs as) := comb_sp W.mem
  have up : ∀ u, Sp A u → Sp (fun u => A u ∨ u = a) u := fun u hu => hu.mono fun _ => .inl
  have hva : Sp (fun u => A u ∨ u = a) (fun i => x * a i + comb xs as i) := ((Sp.mem (.inr rfl)).smul x).plus (up _ sp1)
  by_cases q : ∃ i, x * a i + comb xs as i ≠ 0
  · obtain ⟨i, hi⟩ := q
    obtain ⟨c, _, hc, hc0⟩ := first (u := fun i => x * a i + comb xs as i) hi
    refine ⟨c :: hs, a :: as, ⟨by simp [W.len], fun b hb => ?_, fun b hb => ?_, fun u hu hv => ?_, fun h hh => ?_, fun ys hy hys => ?_⟩, by simp⟩
    · rcases List.mem_cons.mp hb with rfl | hb
      · exact .inr rfl
      · exact .inl (W.mem b hb)
    · rcases List.mem_cons.mp hb with rfl | hb
      · exact ha
      · exact W.bd b hb
    · obtain ⟨w, y, hw, e⟩ := hu.split
      have k1 : ∀ i, x * w i - y * comb xs as i = 0 := fun i => by
        have := W.van _ (hw.lin x (-y) sp1) (fun h hh => by
          have e1 := e h
          rw [hv h (List.mem_cons_of_mem _ hh)] at e1
          have e2 := h0 h hh
          grind) i
        grind
      have k2 : y = 0 := by
        have e1 := e c
        rw [hv c List.mem_cons_self] at e1
        have e2 := k1 c
        have e3 : y * (x * a c + comb xs as c) = 0 := by grind
        rcases Int.mul_eq_zero.mp e3 with z | z
        · exact z
        · exact (hc z).elim
      intro i
      have e1 := e i
      have e2 := k1 i
      have e3 : x * u i = 0 := by grind
      exact (Int.mul_eq_zero.mp e3).resolve_left hx
    · rcases List.mem_cons.mp hh with rfl | hh
      · refine ⟨_, hva, hc0, hc, fun i => ?_⟩
        have e1 := comb_bd (i := i) b2 fun b hb => W.bd b hb i
        have e2 : (x * a i).natAbs ≤ (2 * ((as.length + 1) * B) + 1) ^ as.length * B := by rw [Int.natAbs_mul]; exact Nat.mul_le_mul b1 (ha i)
        unfold bnd at hE
        rw [Nat.add_mul, Nat.one_mul] at hE
        show (x * a i + comb xs as i).natAbs ≤ E
        omega
      · obtain ⟨v, q1, q2⟩ := W.hd h hh
        exact ⟨v, up v q1, q2⟩
    · match ys, hy with
      | y :: ys, hy =>
        have k1 : ∀ i, x * comb ys as i - y * comb xs as i = 0 := fun i => by
          have := W.van _ ((comb_sp (xs := ys) W.mem).lin x (-y) sp1) (fun h hh => by
            have e1 := hys h
            simp only [comb] at e1
            have e2 := h0 h hh
            grind) i
          grind
        have k2 : y = 0 := by
          have e1 := hys c
          simp only [comb] at e1
          have e2 := k1 c
          have e3 : y * (x * a c + comb xs as c) = 0 := by grind
          rcases Int.mul_eq_zero.mp e3 with z | z
          · exact z
          · exact (hc z).elim
        subst k2
        have k3 := W.ind ys (by simpa using hy) fun i => by have := hys i; simpa [comb] using this
        intro z hz
        rcases List.mem_cons.mp hz with rfl | hz
        · rfl
        · exact k3 z hz
  · have q : ∀ i, x * a i + comb xs as i = 0 := fun i => Classical.byContradiction fun z => q ⟨i, z⟩
    refine ⟨hs, as, ⟨W.len, fun b hb => .inl (W.mem b hb), W.bd, fun u hu hv => ?_, fun h hh => ?_, W.ind⟩, by omega⟩
    · obtain ⟨w, y, hw, e⟩ := hu.split
      have k1 : ∀ i, x * w i - y * comb xs as i = 0 := fun i => by
        have := W.van _ (hw.lin x (-y) sp1) (fun h hh => by
          have e1 := e h
          rw [hv h hh] at e1
          have e2 := h0 h hh
          grind) i
        grind
      intro i
      have e1 := e i
      have e2 := k1 i
      have e3 := q i
      have e4 : x * u i = 0 := by grind
      exact (Int.mul_eq_zero.mp e4).resolve_left hx
    · obtain ⟨v, q1, q2⟩ := W.hd h hh
      exact ⟨v, up v q1, q2⟩
theorem Wit.small {A : Vc → Prop} {B C E : Nat} {hs : List Nat} {as : List Vc} {u : Vc} (W : Wit A B E hs as) (hBC : B ≤ C) (hs_ : Sp A u) (hu : ∀ h ∈ hs, (u h).natAbs ≤ C) (i : Nat) : (u i).natAbs ≤ bnd as.length B C := by
  obtain ⟨x, xs, hx, hl, b1, b2, h0⟩ := W.rel hBC hu
  have k := W.van _ ((hs_.smul x).plus (comb_sp (xs := xs) W.mem)) h0 i
  have e1 := comb_bd (i := i) b2 fun b hb => W.bd b hb i
  have e2 : (x * u i).natAbs = (comb xs as i).natAbs := by
    have k : x * u i + comb xs as i = 0 := k
    omega
  rw [Int.natAbs_mul] at e2
  have e3 : (u i).natAbs ≤ x.natAbs * (u i).natAbs := Nat.le_mul_of_pos_left _ (Int.natAbs_pos.mpr hx)
  unfold bnd
  rw [Nat.add_mul]
  omega
theorem Wit.head {A : Vc → Prop} {B E : Nat} {hs : List Nat} {as : List Vc} {u : Vc} {h : Nat} (W : Wit A B E hs as) (hu : Sp A u) (h0 : ∀ i, i < h → u i = 0) (h1 : u h ≠ 0) : h ∈ hs := by
  refine Classical.byContradiction fun q => ?_
  have hm : ∃ n, ∀ g ∈ hs, g < n := by
    clear W q
    induction hs with
    | nil => exact ⟨0, by simp⟩
    | cons g hs ih =>
      obtain ⟨n, hn⟩ := ih
      exact ⟨max n (g + 1), fun k hk => by
        rcases List.mem_cons.mp hk with rfl | hk
        · omega
        · have := hn k hk; omega⟩
  obtain ⟨n, hn⟩ := hm
  have main : ∀ (d t : Nat) (u : Vc), n - t = d → h < t → Sp A u → u h ≠ 0 → (∀ g ∈ hs, g < t → u g = 0) → False := by
    intro d
    induction d with
    | zero => exact fun t u e _ hu h1 k => h1 (W.van u hu (fun g hg => k g hg (by have := hn g hg; omega)) h)
    | succ d ih =>
      intro t u e ht hu h1 k
      by_cases z : t ∈ hs
      · obtain ⟨v, v1, v2, v3, _⟩ := W.hd t z
        refine ih (t + 1) _ (by omega) (by omega) (hu.lin (v t) (-(u t)) v1) ?_ fun g hg hgt => ?_
        · show v t * u h + -u t * v h ≠ 0
          rw [v2 h ht]
          intro y
          rcases Int.mul_eq_zero.mp (show v t * u h = 0 by grind) with y | y
          · exact v3 y
          · exact h1 y
        · show v t * u g + -u t * v g = 0
          by_cases y : g = t
          · subst y; grind
          · rw [v2 g (by omega), k g hg (by omega)]; grind
      · exact ih (t + 1) u (by omega) (by omega) hu h1 fun g hg hgt => k g hg (by
          have : g ≠ t := fun y => z (y ▸ hg)
          omega)
  exact main _ (h + 1) u rfl (by omega) hu h1 fun g hg hgt => by
    by_cases y : g = h
    · exact (q (y ▸ hg)).elim
    · exact h0 g (by omega)
end Lat

namespace L2
open PySem PySem.Spec PyProof.Rows
def whl {S : Type} (c : S → Bool) (f : S → S) : Nat → S → S
  | 0, s => s
  | n + 1, s => bif c s then whl c f n (f s) else s
theorem whl_stop {S : Type} {c : S → Bool} {f : S → S} {s : S} (h : c s = false) : ∀ n, whl c f n s = s
  | 0 => rfl
  | n + 1 => by rw [whl, h]; rfl
theorem whl_go {S : Type} {c : S → Bool} {f : S → S} {s : S} (h : c s = true) (n : Nat) : whl c f (n + 1) s = whl c f n (f s) := by rw [whl, h]; rfl
theorem whl_inv {S : Type} {c : S → Bool} {f : S → S} {I : S → Prop} {μ : S → Nat} (hs : ∀ s, I s → c s = true → I (f s) ∧ μ (f s) < μ s) : ∀ {n : Nat} {s : S}, I s → μ s ≤ n → I (whl c f n s) ∧ c (whl c f n s) = false
  | 0, s, h, k => ⟨h, by
    show c s = false
    cases q : c s with
    | false => rfl
    | true => have := (hs s h q).2; omega⟩
  | n + 1, s, h, k => by
    cases q : c s with
    | false => rw [whl_stop q]; exact ⟨h, q⟩
    | true =>
      rw [whl_go q]
      exact whl_inv hs (hs s h q).1 (by have := (hs s h q).2; omega)
section
variable {E : XS} {Γ : Ctx} {β : Type} {u : TS}
theorem run_while {S : Type} {tc : TT} {tb : TS} {s0 : S} (G : S → Ctx) (fo : β → Oc) {kk : S → β} (c : S → Bool) (f : S → S) (I : S → Prop) (μ : S → Nat) (n : Nat) (w : Wk Γ (G s0)) (h0 : I s0) (hn : μ s0 ≤ n)
    (body : ∀ s, I s → EvT (G s) tc (c s) ∧ (c s = true → (I (f s) ∧ μ (f s) < μ s) ∧ Run E (G s) tb (.nx (G (f s)))))
    (k : ∀ s, s = whl c f n s0 → I s → c s = false → Run E (G s) u (fo (kk s))) : Run E Γ (tSeq (tWhile tc tb) u) (fo (Let (whl c f n s0) kk)) := fun F0 Hb F H σ own D a q => by
  obtain ⟨i1, i2⟩ := whl_inv (n := n) (fun s hi hc => ((body s hi).2 hc).1) h0 hn
  have kf := k _ rfl i1 i2
  refine ⟨fun m σ H => ∃ s F own, At F0 Hb F H σ own (G s) ∧ I s ∧ μ s = m ∧ ∃ j, μ s ≤ j ∧ whl c f j s = whl c f n s0, ⟨_, s0, F, own, a.wk w, h0, rfl, n, hn, rfl⟩, ?_⟩
  rintro m σ1 H1 ⟨s, F1, own1, a1, hI, rfl, j, hj, ej⟩
  obtain ⟨b1, b2⟩ := body s hI
  refine b1 F0 Hb F1 H1 σ1 own1 _ a1 fun F2 H2 g => ?_
  cases e : c s with
  | false =>
    rw [if_neg Bool.false_ne_true]
    rw [whl_stop e] at ej
    rw [← ej] at kf
    exact kf F0 Hb F2 H2 σ1 own1 D (a1.grow g) (by rw [ej]; exact q)
  | true =>
    rw [if_pos rfl]
    obtain ⟨⟨c1, c2⟩, c3⟩ := b2 e
    refine ⟨fun σ' H' => ∃ F own, At F0 Hb F H' σ' own (G (f s)), fun σ' H' ⟨F', own', a'⟩ => ⟨_, c2, f s, F', own', a', c1, rfl, j - 1, by omega, ?_⟩, ?_⟩
    · rw [← ej, show j = (j - 1) + 1 by omega, whl_go e]; simp
    · exact c3 F0 Hb F2 H2 σ1 own1 _ (a1.grow g) fun F' H' σ' own' a' => ⟨F', own', a'⟩
end
end L2

namespace Lat
def vec (l : List Int) : Vc := fun i => l.getD i 0
def hd : List Int → Nat
  | [] => 0
  | x :: xs => bif (!decide (x = 0)) then 0 else hd xs + 1
def add (l s : List Int) : List Int := List.map (fun (x : Int × Int) => x.1 + x.2) (List.zip l s)
def sub (l s : List Int) : List Int := List.map (fun (x : Int × Int) => x.1 - x.2) (List.zip l s)
def mul (l : List Int) (c : Int) : List Int := List.map (fun (x : Int) => x * c) l
theorem vec_consS {x : Int} {xs : List Int} {i : Nat} : vec (x :: xs) (i + 1) = vec xs i := by simp [vec]
theorem vec_out {l : List Int} {i : Nat} (h : l.length ≤ i) : vec l i = 0 := by simp [vec, List.getD_eq_getElem?_getD, List.getElem?_eq_none h]
theorem vec_mem {l : List Int} {i : Nat} (h : i < l.length) : vec l i ∈ l := by
  simp only [vec, List.getD_eq_getElem?_getD, List.getElem?_eq_getElem h, Option.getD_some]; exact List.getElem_mem h
theorem mem_vec {l : List Int} {x : Int} (h : x ∈ l) : ∃ i, i < l.length ∧ vec l i = x := by
  obtain ⟨i, hi, e⟩ := List.getElem_of_mem h
  exact ⟨i, hi, by simp [vec, List.getD_eq_getElem?_getD, List.getElem?_eq_getElem hi, e]⟩
theorem vec_ext {l s : List Int} (h : l.length = s.length) (e : ∀ i, vec l i = vec s i) : l = s := by
  refine List.ext_getElem h fun i h1 h2 => ?_
  have := e i
  simpa [vec, List.getD_eq_getElem?_getD, List.getElem?_eq_getElem h1, List.getElem?_eq_getElem h2] using this
theorem vec_bd {l : List Int} {B : Nat} (h : ∀ x ∈ l, x.natAbs ≤ B) (i : Nat) : (vec l i).natAbs ≤ B := by
  by_cases q : i < l.length
  · exact h _ (vec_mem q)
  · rw [vec_out (by omega)]; exact Nat.zero_le _
theorem sub_len {l s : List Int} (h : l.length = s.length) : (sub l s).length = l.length := by simp [sub, h]
theorem add_len {l s : List Int} (h : l.length = s.length) : (add l s).length = l.length := by simp [add, h]
theorem mul_len {l : List Int} {c : Int} : (mul l c).length = l.length := by simp [mul]
theorem vec_sub : ∀ {l s : List Int} {i : Nat}, l.length = s.length → vec (sub l s) i = vec l i - vec s i
  | [], [], i, _ => by simp [sub, vec]
  | x :: l, y :: s, 0, _ => rfl
  | x :: l, y :: s, i + 1, h => by
    have := vec_sub (l := l) (s := s) (i := i) (by simpa using h)
    rw [vec_consS, vec_consS, ← this]
    exact vec_consS
theorem vec_add : ∀ {l s : List Int} {i : Nat}, l.length = s.length → vec (add l s) i = vec l i + vec s i
  | [], [], i, _ => by simp [add, vec]
  | x :: l, y :: s, 0, _ => rfl
  | x :: l, y :: s, i + 1, h => by
    have := vec_add (l := l) (s := s) (i := i) (by simpa using h)
    rw [vec_consS, vec_consS, ← this]
    exact vec_consS
theorem vec_mul : ∀ {l : List Int} {c : Int} {i : Nat}, vec (mul l c) i = vec l i * c
  | [], c, i => by simp [mul, vec]
  | x :: l, c, 0 => rfl
  | x :: l, c, i + 1 => by
    have := vec_mul (l := l) (c := c) (i := i)
    rw [vec_consS, ← this]
    exact vec_consS
theorem hd_le : ∀ {l : List Int}, hd l ≤ l.length
  | [] => Nat.le_refl 0
  | x :: xs => by
    unfold hd
    cases (!decide (x = 0))
    · exact Nat.succ_le_succ hd_le
    · exact Nat.zero_le _
theorem hd_zero : ∀ {l : List Int} {i : Nat}, i < hd l → vec l i = 0
  | [], i, h => absurd h (Nat.not_lt_zero i)
  | x :: xs, i, h => by
    unfold hd at h
    by_cases q : x = 0
    · rw [show (!decide (x = 0)) = false by simp [q]] at h
      have h : i < hd xs + 1 := h
      cases i with
      | zero => exact q
      | succ i => rw [vec_consS]; exact hd_zero (by omega)
    · rw [show (!decide (x = 0)) = true by simp [q]] at h
      exact absurd h (Nat.not_lt_zero i)
theorem hd_ne : ∀ {l : List Int}, hd l < l.length → vec l (hd l) ≠ 0
  | [], h => absurd h (Nat.not_lt_zero _)
  | x :: xs, h => by
    unfold hd at h ⊢
    by_cases q : x = 0
    · rw [show (!decide (x = 0)) = false by simp [q]] at h ⊢
      have h : hd xs + 1 < xs.length + 1 := h
      show vec (x :: xs) (hd xs + 1) ≠ 0
      rw [vec_consS]
      exact hd_ne (by omega)
    · rw [show (!decide (x = 0)) = true by simp [q]]
      exact q
theorem hd_is {l : List Int} {d : Nat} (h : vec l d ≠ 0) (k : ∀ i, i < d → vec l i = 0) : hd l = d := by
  have h1 : ¬ hd l < d := fun q => by
    have hl : d < l.length := Nat.lt_of_not_le fun z => h (vec_out z)
    exact hd_ne (by omega) (k _ q)
  have h2 : ¬ d < hd l := fun q => h (hd_zero q)
  omega
theorem hd_ge {l : List Int} {d : Nat} (hl : d ≤ l.length) (k : ∀ i, i < d → vec l i = 0) : d ≤ hd l := by
  refine Nat.le_of_not_lt fun q => ?_
  exact hd_ne (by omega) (k _ q)
def quo (l s : List Int) : Int := vec l (hd s) / vec s (hd s)
def low1 (l s : List Int) : List Int := bif (!decide (quo l s = 0)) then sub l (mul s (quo l s)) else l
def low (l : List Int) (ss : List (List Int)) : List Int := ss.foldl low1 l
theorem low1_len {l s : List Int} (h : l.length = s.length) : (low1 l s).length = l.length := by
  unfold low1
  cases (!decide (quo l s = 0))
  · rfl
  · show (sub l (mul s (quo l s))).length = _
    rw [sub_len (by rw [mul_len]; exact h)]
theorem vec_low1 {l s : List Int} (h : l.length = s.length) (i : Nat) : vec (low1 l s) i = vec l i - vec s i * quo l s := by
  unfold low1
  by_cases q : quo l s = 0
  · rw [show (!decide (quo l s = 0)) = false by simp [q], q]
    show vec l i = _
    omega
  · rw [show (!decide (quo l s = 0)) = true by simp [q]]
    show vec (sub l (mul s (quo l s))) i = _
    rw [vec_sub (by rw [mul_len]; exact h), vec_mul]
def Ech (n : Nat) : Nat → List (List Int) → Prop
  | _, [] => True
  | lo, s :: ss => s.length = n ∧ lo ≤ hd s ∧ hd s < n ∧ 0 < vec s (hd s) ∧ Ech n (hd s + 1) ss
def SpL (ss : List (List Int)) : Vc → Prop := Sp (fun u => ∃ s ∈ ss, u = vec s)
theorem Ech.mono {n : Nat} : ∀ {ss : List (List Int)} {lo lo' : Nat}, Ech n lo ss → lo' ≤ lo → Ech n lo' ss
  | [], _, _, _, _ => trivial
  | s :: ss, lo, lo', h, k => ⟨h.1, Nat.le_trans k h.2.1, h.2.2⟩
theorem Ech.mem {n : Nat} : ∀ {ss : List (List Int)} {lo : Nat}, Ech n lo ss → ∀ t ∈ ss, t.length = n ∧ lo ≤ hd t ∧ hd t < n ∧ 0 < vec t (hd t)
  | [], _, _, t, h => by simp at h
  | s :: ss, lo, h, t, ht => by
    rcases List.mem_cons.mp ht with rfl | ht
    · exact ⟨h.1, h.2.1, h.2.2.1, h.2.2.2.1⟩
    · obtain ⟨a, b, c, d⟩ := Ech.mem h.2.2.2.2 t ht
      have := h.2.1
      exact ⟨a, by omega, c, d⟩
theorem Ech.before {n lo i : Nat} {ss : List (List Int)} (h : Ech n lo ss) (hi : i < lo) : ∀ t ∈ ss, vec t i = 0 := fun t ht => hd_zero (by have := (h.mem t ht).2.1; omega)
theorem SpL.before {n lo i : Nat} {ss : List (List Int)} {u : Vc} (h : Ech n lo ss) (hi : i < lo) (hu : SpL ss u) : u i = 0 := Sp.at0 (fun a ⟨s, hs, e⟩ => by rw [e]; exact h.before hi s hs) hu
theorem SpL.cons {s : List Int} {ss : List (List Int)} {u : Vc} (h : SpL (s :: ss) u) : ∃ w y, SpL ss w ∧ ∀ i, u i = w i + y * vec s i := by
  have : Sp (fun u => (∃ t ∈ ss, u = vec t) ∨ u = vec s) u := Sp.mono (fun a ⟨t, ht, e⟩ => by
    rcases List.mem_cons.mp ht with rfl | ht
    · exact .inr e
    · exact .inl ⟨t, ht, e⟩) h
  exact this.split
theorem SpL.mem {ss : List (List Int)} {s : List Int} (h : s ∈ ss) : SpL ss (vec s) := Sp.mem ⟨s, h, rfl⟩
theorem SpL.up {s : List Int} {ss : List (List Int)} {u : Vc} (h : SpL ss u) : SpL (s :: ss) u := Sp.mono (fun _ ⟨t, ht, e⟩ => ⟨t, List.mem_cons_of_mem _ ht, e⟩) h
theorem SpL.sub {ss tt : List (List Int)} {u : Vc} (k : ∀ s ∈ ss, SpL tt (vec s)) (h : SpL ss u) : SpL tt u := Sp.sub (fun _ ⟨s, hs, e⟩ => e ▸ k s hs) h
theorem ech_dvd {n : Nat} : ∀ {ss : List (List Int)} {lo : Nat} {u : Vc} {t : List Int}, Ech n lo ss → SpL ss u → t ∈ ss → (∀ i, i < hd t → u i = 0) → vec t (hd t) ∣ u (hd t)
  | [], _, _, t, _, _, h, _ => by simp at h
  | s :: ss, lo, u, t, e, h, ht, k => by
    obtain ⟨w, y, hw, hu⟩ := h.cons
    have e1 := SpL.before e.2.2.2.2 (Nat.lt_succ_self (hd s)) hw
    rcases List.mem_cons.mp ht with rfl | ht
    · rw [hu, e1]; exact ⟨y, by grind⟩
    · have e5 := (Ech.mem e.2.2.2.2 t ht).2.1
      have e6 := hu (hd s)
      rw [k (hd s) (by omega), e1] at e6
      have y0 : y = 0 := (Int.mul_eq_zero.mp (show y * vec s (hd s) = 0 by omega)).resolve_right (by have := e.2.2.2.1; omega)
      have : u = w := funext fun i => by rw [hu i, y0]; omega
      subst this
      exact ech_dvd e.2.2.2.2 hw ht k
theorem ech_head {n : Nat} : ∀ {ss : List (List Int)} {lo : Nat} {u : Vc} {h : Nat}, Ech n lo ss → SpL ss u → (∀ i, i < h → u i = 0) → u h ≠ 0 → ∃ t ∈ ss, hd t = h
  | [], _, u, h, _, hu, _, q => (q (Sp.at0 (fun _ ⟨_, z, _⟩ => by simp at z) hu)).elim
  | s :: ss, lo, u, h, e, hu, k, q => by
    obtain ⟨w, y, hw, hu⟩ := hu.cons
    by_cases z : hd s = h
    · exact ⟨s, List.mem_cons_self, z⟩
    · have e1 := SpL.before e.2.2.2.2 (Nat.lt_succ_self (hd s)) hw
      by_cases y0 : y = 0
      · have : u = w := funext fun i => by rw [hu i, y0]; omega
        subst this
        obtain ⟨t, ht, e⟩ := ech_head e.2.2.2.2 hw k q
        exact ⟨t, List.mem_cons_of_mem _ ht, e⟩
      · have e6 := hu (hd s)
        rw [e1, Int.zero_add] at e6
        have e7 : u (hd s) ≠ 0 := by
          rw [e6]; intro z; rcases Int.mul_eq_zero.mp z with z | z
          · exact y0 z
          · have := e.2.2.2.1; omega
        have e8 : h < hd s := Nat.lt_of_not_le fun z' => e7 (k _ (by omega))
        have e9 : w h = 0 := SpL.before e.2.2.2.2 (Nat.lt_succ_of_lt e8) hw
        rw [hu h, e9, hd_zero e8] at q
        simp at q
theorem low_spec {n : Nat} : ∀ {ss : List (List Int)} {lo : Nat} {l : List Int}, Ech n lo ss → l.length = n →
    (low l ss).length = n ∧ SpL ss (fun i => vec l i - vec (low l ss) i) ∧ (∀ t ∈ ss, 0 ≤ vec (low l ss) (hd t) ∧ vec (low l ss) (hd t) < vec t (hd t)) ∧ ∀ i, i < lo → vec (low l ss) i = vec l i
  | [], lo, l, _, h => ⟨h, Sp.zero.conv fun i => by show (0 : Int) = vec l i - vec l i; omega, by simp, fun _ _ => rfl⟩
  | s :: ss, lo, l, e, h => by
    have hl : l.length = s.length := by rw [h, e.1]
    obtain ⟨a, b, c, d⟩ := low_spec (l := low1 l s) e.2.2.2.2 (by rw [low1_len hl, h])
    refine ⟨a, ?_, fun t ht => ?_, fun i hi => ?_⟩
    · refine ((SpL.up (s := s) b).plus ((SpL.mem (ss := s :: ss) List.mem_cons_self).smul (quo l s))).conv fun i => ?_
      rw [vec_low1 hl]
      show vec l i - vec s i * quo l s - vec (low (low1 l s) ss) i + quo l s * vec s i = vec l i - vec (low (low1 l s) ss) i
      rw [Int.mul_comm (quo l s)]; omega
    · rcases List.mem_cons.mp ht with rfl | ht
      · show 0 ≤ vec (low (low1 l t) ss) (hd t) ∧ vec (low (low1 l t) ss) (hd t) < _
        rw [d (hd t) (Nat.lt_succ_self _), vec_low1 hl]
        have p := e.2.2.2.1
        have e1 := Int.mul_ediv_add_emod (vec l (hd t)) (vec t (hd t))
        have e2 := Int.emod_nonneg (vec l (hd t)) (show vec t (hd t) ≠ 0 by omega)
        have e3 := Int.emod_lt_of_pos (vec l (hd t)) p
        unfold quo
        omega
      · exact c t ht
    · show vec (low (low1 l s) ss) i = _
      have := e.2.1
      rw [d i (by omega), vec_low1 hl, hd_zero (show i < hd s by omega)]; omega
end Lat
namespace Lat
abbrev G4 := Int × Int × Int × Int
def cmC (s : G4) : Bool := !decide (s.2.1 = (0 : Int))
def cmF (s : G4) : G4 := (s.2.1, s.1 - s.1 / s.2.1 * s.2.1, s.2.2.2, s.2.2.1 - s.1 / s.2.1 * s.2.2.2)
structure GI (one other : Int) (s : G4) : Prop where
  g : 0 < s.1
  m : 0 ≤ s.2.1
  gb : s.1 ≤ one + other
  mb : s.2.1 ≤ one + other
  tb : -other ≤ s.2.2.1 ∧ s.2.2.1 ≤ other
  lb : -other ≤ s.2.2.2 ∧ s.2.2.2 ≤ other
  sg : (0 ≤ s.2.2.1 ∧ s.2.2.2 ≤ 0 ∧ s.2.1 * s.2.2.1 - s.1 * s.2.2.2 = other) ∨ (s.2.2.1 ≤ 0 ∧ 0 ≤ s.2.2.2 ∧ s.1 * s.2.2.2 - s.2.1 * s.2.2.1 = other)
  bg : ∃ y, s.1 = s.2.2.1 * one + y * other
  bm : ∃ y, s.2.1 = s.2.2.2 * one + y * other
  d1 : ∃ p q, one = p * s.1 + q * s.2.1
  d2 : ∃ p q, other = p * s.1 + q * s.2.1
theorem GI.start {one other : Int} (h1 : 0 < one) (h2 : 0 < other) : GI one other (one, other, 1, 0) where
  g := h1
  m := by show 0 ≤ other; omega
  gb := by show one ≤ one + other; omega
  mb := by show other ≤ one + other; omega
  tb := by show -other ≤ 1 ∧ 1 ≤ other; omega
  lb := by show -other ≤ 0 ∧ 0 ≤ other; omega
  sg := .inl (by show (0 : Int) ≤ 1 ∧ (0 : Int) ≤ 0 ∧ other * 1 - one * 0 = other; omega)
  bg := ⟨0, by show one = 1 * one + 0 * other; omega⟩
  bm := ⟨1, by show other = 0 * one + 1 * other; omega⟩
  d1 := ⟨1, 0, by show one = 1 * one + 0 * other; omega⟩
  d2 := ⟨0, 1, by show other = 0 * one + 1 * other; omega⟩
theorem GI.step {one other : Int} {s : G4} (I : GI one other s) (hc : cmC s = true) : GI one other (cmF s) ∧ (cmF s).2.1.toNat < s.2.1.toNat := by
  obtain ⟨g, m, t, l⟩ := s
  obtain ⟨h1, h2, h3, h4, h5, h6, h7, ⟨y1, h8⟩, ⟨y2, h9⟩, ⟨p1, q1, hA⟩, ⟨p2, q2, hB⟩⟩ := I
  simp only at h1 h2 h3 h4 h5 h6 h7 h8 h9 hA hB
  have hm : 0 < m := by
    unfold cmC at hc
    simp only [Bool.not_eq_true', decide_eq_false_iff_not] at hc
    omega
  have e1 := Int.mul_ediv_add_emod g m
  have e2 := Int.emod_nonneg g (show m ≠ 0 by omega)
  have e3 := Int.emod_lt_of_pos g hm
  have e4 : 0 ≤ g / m := Int.ediv_nonneg (by omega) (by omega)
  have e5 : g - g / m * m = g % m := by rw [Int.mul_comm]; omega
  show GI one other (m, g - g / m * m, l, t - g / m * l) ∧ (g - g / m * m).toNat < m.toNat
  rw [e5]
  generalize hq : g / m = q at *
  generalize hr : g % m = r at *
  have eg : g = m * q + r := by omega
  -- the signs
  have sg : (0 ≤ l ∧ t - q * l ≤ 0 ∧ r * l - m * (t - q * l) = other) ∨ (l ≤ 0 ∧ 0 ≤ t - q * l ∧ m * (t - q * l) - r * l = other) := by
    rcases h7 with ⟨a, b, c⟩ | ⟨a, b, c⟩
    · refine .inr ⟨b, ?_, by grind⟩
      have := Int.mul_nonneg e4 (show (0 : Int) ≤ -l by omega)
      grind
    · refine .inl ⟨b, ?_, by grind⟩
      have := Int.mul_nonneg e4 b
      omega
  have hl : -other ≤ t - q * l ∧ t - q * l ≤ other := by
    rcases sg with ⟨a, b, c⟩ | ⟨a, b, c⟩
    · have k1 := Int.mul_nonneg e2 a
      have k2 := Int.mul_le_mul_of_nonneg_right (show (1 : Int) ≤ m by omega) (show (0 : Int) ≤ -(t - q * l) by omega)
      have k3 : m * -(t - q * l) = -(m * (t - q * l)) := by grind
      rw [k3] at k2
      omega
    · have k1 := Int.mul_nonneg e2 (show (0 : Int) ≤ -l by omega)
      have k2 := Int.mul_le_mul_of_nonneg_right (show (1 : Int) ≤ m by omega) b
      have k3 : r * -l = -(r * l) := by grind
      rw [k3] at k1
      omega
  refine ⟨⟨hm, e2, h4, by show r ≤ _; omega, h6, hl, sg, ⟨y2, h9⟩, ⟨y1 - q * y2, ?_⟩, ⟨p1 * q + q1, p1, ?_⟩, ⟨p2 * q + q2, p2, ?_⟩⟩, by omega⟩
  · show r = (t - q * l) * one + (y1 - q * y2) * other
    grind
  · show one = (p1 * q + q1) * m + p1 * r
    grind
  · show other = (p2 * q + q2) * m + p2 * r
    grind
structure Cm (one other g x y : Int) : Prop where
  pos : 0 < g
  le : g ≤ one + other
  xb : -other ≤ x ∧ x ≤ other
  eq : g = x * one + y * other
  d1 : one / g * g = one
  d2 : other / g * g = other
theorem GI.done {one other : Int} {s : G4} (h2 : 0 < other) (I : GI one other s) (hc : cmC s = false) : Cm one other s.1 s.2.2.1 ((s.1 - s.2.2.1 * one) / other) := by
  obtain ⟨g, m, t, l⟩ := s
  obtain ⟨h1, _, h3, _, h5, _, _, ⟨y1, h8⟩, _, ⟨p1, q1, hA⟩, ⟨p2, q2, hB⟩⟩ := I
  simp only at h1 h3 h5 h8 hA hB
  have hm : m = 0 := by
    unfold cmC at hc
    simpa using hc
  subst hm
  have e : (g - t * one) / other = y1 := by
    rw [show g - t * one = y1 * other by omega]
    exact Int.mul_ediv_cancel _ (by omega)
  refine ⟨h1, h3, h5, ?_, ?_, ?_⟩
  · show g = t * one + (g - t * one) / other * other
    rw [e]; exact h8
  · exact Int.ediv_mul_cancel ⟨p1, by show one = g * p1; rw [Int.mul_comm]; omega⟩
  · exact Int.ediv_mul_cancel ⟨p2, by show other = g * p2; rw [Int.mul_comm]; omega⟩
def mg1 (s l : List Int) (x y : Int) : List Int := add (mul s x) (mul l y)
def mg2 (s l : List Int) (g : Int) : List Int := sub (mul l (vec s (hd s) / g)) (mul s (vec l (hd s) / g))
theorem mg1_vec {s l : List Int} {x y : Int} (h : s.length = l.length) (i : Nat) : vec (mg1 s l x y) i = x * vec s i + y * vec l i := by
  unfold mg1
  rw [vec_add (by rw [mul_len, mul_len, h]), vec_mul, vec_mul, Int.mul_comm, Int.mul_comm (vec l i)]
theorem mg2_vec {s l : List Int} {g : Int} (h : s.length = l.length) (i : Nat) : vec (mg2 s l g) i = vec s (hd s) / g * vec l i - vec l (hd s) / g * vec s i := by
  unfold mg2
  rw [vec_sub (by rw [mul_len, mul_len, h]), vec_mul, vec_mul, Int.mul_comm, Int.mul_comm (vec s i)]
theorem mg1_len {s l : List Int} {x y : Int} (h : s.length = l.length) : (mg1 s l x y).length = s.length := by unfold mg1; rw [add_len (by rw [mul_len, mul_len, h]), mul_len]
theorem mg2_len {s l : List Int} {g : Int} (h : s.length = l.length) : (mg2 s l g).length = s.length := by unfold mg2; rw [sub_len (by rw [mul_len, mul_len, h]), mul_len, h]
theorem mg_back {s l : List Int} {g x y : Int} (h : s.length = l.length) (C : Cm (vec s (hd s)) (vec l (hd s)) g x y) (i : Nat) :
    vec s i = vec s (hd s) / g * vec (mg1 s l x y) i - y * vec (mg2 s l g) i ∧ vec l i = vec l (hd s) / g * vec (mg1 s l x y) i + x * vec (mg2 s l g) i := by
  rw [mg1_vec h, mg2_vec h]
  have e1 := C.eq
  have e2 := C.d1
  have e3 := C.d2
  have e4 := C.pos
  generalize vec s (hd s) = a at *
  generalize vec l (hd s) = b at *
  generalize a / g = p at *
  generalize b / g = q at *
  have u : x * p + y * q = 1 := by
    have : (x * p + y * q - 1) * g = 0 := by grind
    rcases Int.mul_eq_zero.mp this with z | z <;> omega
  constructor <;> grind
def upr (l : List Int) : List Int := bif decide (vec l (hd l) < (0 : Int)) then mul l (-(1 : Int)) else l
theorem upr_len {l : List Int} : (upr l).length = l.length := by
  unfold upr
  cases decide (vec l (hd l) < (0 : Int))
  · rfl
  · exact mul_len
theorem upr_vec {l : List Int} : ∃ c : Int, c * c = 1 ∧ (∀ i, vec (upr l) i = c * vec l i) ∧ 0 ≤ c * vec l (hd l) := by
  unfold upr
  by_cases q : vec l (hd l) < 0
  · rw [show decide (vec l (hd l) < (0 : Int)) = true by simp [q]]
    exact ⟨-1, by decide, fun i => by show vec (mul l (-(1 : Int))) i = _; rw [vec_mul]; omega, by omega⟩
  · rw [show decide (vec l (hd l) < (0 : Int)) = false by simp [q]]
    exact ⟨1, by decide, fun i => by show vec l i = _; omega, by omega⟩
theorem upr_hd {l : List Int} (h : hd l < l.length) : hd (upr l) = hd l ∧ 0 < vec (upr l) (hd l) := by
  obtain ⟨c, c1, c2, c3⟩ := upr_vec (l := l)
  have e := hd_ne h
  have c0 : c ≠ 0 := by intro z; subst z; simp at c1
  have e1 : c * vec l (hd l) ≠ 0 := fun z => by
    rcases Int.mul_eq_zero.mp z with z | z
    · exact c0 z
    · exact e z
  refine ⟨hd_is (by rw [c2]; exact e1) fun i hi => by rw [c2, hd_zero hi]; simp, by rw [c2]; omega⟩
theorem upr_sp {l : List Int} {ss : List (List Int)} (h : SpL ss (vec l)) : SpL ss (vec (upr l)) := by
  obtain ⟨c, _, c2, _⟩ := upr_vec (l := l)
  exact (Sp.smul c h).conv fun i => (c2 i).symm
theorem upr_sp' {l : List Int} {ss : List (List Int)} (h : SpL ss (vec (upr l))) : SpL ss (vec l) := by
  obtain ⟨c, c1, c2, _⟩ := upr_vec (l := l)
  exact (Sp.smul c h).conv fun i => by rw [c2, ← Int.mul_assoc, c1, Int.one_mul]
structure Mg where
  f : Int → Int → Int × Int × Int
  ok : ∀ a b : Int, 0 < a → 0 < b → Cm a b (f a b).1 (f a b).2.1 (f a b).2.2
def tin (M : Mg) : List (List Int) → List Int → List (List Int)
  | [], l => bif decide (hd l < l.length) then [upr l] else []
  | s :: ss, l => bif decide (hd l < hd s) then upr l :: s :: ss else
      bif decide (hd l = hd s) then mg1 s l (M.f (vec s (hd s)) (vec l (hd s))).2.1 (M.f (vec s (hd s)) (vec l (hd s))).2.2 :: tin M ss (low (mg2 s l (M.f (vec s (hd s)) (vec l (hd s))).1) ss) else s :: tin M ss l
theorem tin_spec (M : Mg) {n : Nat} : ∀ {ss : List (List Int)} {lo : Nat} {l : List Int}, Ech n lo ss → l.length = n → (∀ i, i < lo → vec l i = 0) → (∀ t ∈ ss, 0 ≤ vec l (hd t) ∧ vec l (hd t) < vec t (hd t)) → lo ≤ n →
    Ech n lo (tin M ss l) ∧ (tin M ss l).length ≤ ss.length + 1 ∧ (∀ t ∈ tin M ss l, SpL (l :: ss) (vec t)) ∧ (∀ t ∈ l :: ss, SpL (tin M ss l) (vec t))
  | [], lo, l, _, hl, h0, _, hlo => by
    unfold tin
    by_cases q : hd l < l.length
    · rw [show decide (hd l < l.length) = true by simp [q], cond_true]
      obtain ⟨e1, e2⟩ := upr_hd q
      refine ⟨⟨by rw [upr_len, hl], by rw [e1]; exact hd_ge (by omega) h0, by rw [e1]; omega, by rw [e1]; exact e2, trivial⟩, by simp, fun t ht => ?_, fun t ht => ?_⟩
      · rw [List.mem_singleton.mp ht]; exact upr_sp (SpL.mem List.mem_cons_self)
      · rw [List.mem_singleton.mp ht]; exact upr_sp' (SpL.mem List.mem_cons_self)
    · rw [show decide (hd l < l.length) = false by simp [q], cond_false]
      have hz : hd l = l.length := by have := hd_le (l := l); omega
      refine ⟨trivial, by simp, by simp, fun t ht => ?_⟩
      rw [List.mem_singleton.mp ht]
      exact Sp.zero.conv fun i => by
        by_cases z : i < l.length
        · rw [hd_zero (by omega)]
        · rw [vec_out (by omega)]
  | s :: ss, lo, l, e, hl, h0, hr, hlo => by
    unfold tin
    have hsl : s.length = l.length := by rw [e.1, hl]
    by_cases q : hd l < hd s
    · rw [show decide (hd l < hd s) = true by simp [q], cond_true]
      have hsn := e.2.2.1
      obtain ⟨e1, e2⟩ := upr_hd (l := l) (by omega)
      refine ⟨⟨by rw [upr_len, hl], by rw [e1]; exact hd_ge (by omega) h0, by rw [e1]; omega, by rw [e1]; exact e2, e.1, by rw [e1]; omega, e.2.2⟩, by simp, fun t ht => ?_, fun t ht => ?_⟩
      · rcases List.mem_cons.mp ht with rfl | ht
        · exact upr_sp (SpL.mem List.mem_cons_self)
        · exact SpL.mem (List.mem_cons_of_mem _ ht)
      · rcases List.mem_cons.mp ht with rfl | ht
        · exact upr_sp' (SpL.mem List.mem_cons_self)
        · exact SpL.mem (List.mem_cons_of_mem _ ht)
    · rw [show decide (hd l < hd s) = false by simp [q], cond_false]
      by_cases z : hd l = hd s
      · rw [show decide (hd l = hd s) = true by simp [z], cond_true]
        have hb : 0 < vec l (hd s) := by
          have := (hr s List.mem_cons_self).1
          have := hd_ne (l := l) (by rw [z, hl]; exact e.2.2.1)
          rw [z] at this; omega
        have C := M.ok _ _ e.2.2.2.1 hb
        generalize hg : (M.f (vec s (hd s)) (vec l (hd s))).1 = g at *
        generalize hx : (M.f (vec s (hd s)) (vec l (hd s))).2.1 = x at *
        generalize hy : (M.f (vec s (hd s)) (vec l (hd s))).2.2 = y at *
        have f0 : ∀ i, i < hd s → vec (mg1 s l x y) i = 0 := fun i hi => by rw [mg1_vec hsl, hd_zero hi, hd_zero (show i < hd l by omega)]; omega
        have f1 : vec (mg1 s l x y) (hd s) = g := by rw [mg1_vec hsl]; exact C.eq.symm
        have f2 : hd (mg1 s l x y) = hd s := hd_is (by rw [f1]; have := C.pos; omega) f0
        have g0 : ∀ i, i < hd s + 1 → vec (mg2 s l g) i = 0 := fun i hi => by
          rw [mg2_vec hsl]
          by_cases zi : i = hd s
          · subst zi
            have := C.d1; have := C.d2
            generalize vec s (hd s) / g = p at *
            generalize vec l (hd s) / g = r at *
            generalize vec s (hd s) = a at *
            generalize vec l (hd s) = b at *
            grind
          · rw [hd_zero (show i < hd s by omega), hd_zero (show i < hd l by omega)]; omega
        obtain ⟨k1, k2, k3, k4⟩ := low_spec (l := mg2 s l g) e.2.2.2.2 (by rw [mg2_len hsl, e.1])
        obtain ⟨i1, i2, i3, i4⟩ := tin_spec M (l := low (mg2 s l g) ss) e.2.2.2.2 k1 (fun i hi => by rw [k4 i hi, g0 i hi]) k3 (by have := e.2.2.1; omega)
        have low_in : ∀ {tt : List (List Int)}, (∀ t ∈ ss, SpL tt (vec t)) → SpL tt (vec (mg2 s l g)) → SpL tt (vec (low (mg2 s l g) ss)) := fun h1 h2 => (Sp.lin 1 (-1) h2 (k2.sub h1)).conv fun i => by omega
        have low_out : ∀ {tt : List (List Int)}, (∀ t ∈ ss, SpL tt (vec t)) → SpL tt (vec (low (mg2 s l g) ss)) → SpL tt (vec (mg2 s l g)) := fun h1 h2 => (Sp.plus h2 (k2.sub h1)).conv fun i => by omega
        have hS : SpL (l :: s :: ss) (vec s) := SpL.mem (List.mem_cons_of_mem _ List.mem_cons_self)
        have hL : SpL (l :: s :: ss) (vec l) := SpL.mem List.mem_cons_self
        refine ⟨⟨by rw [mg1_len hsl, e.1], by rw [f2]; exact e.2.1, by rw [f2]; exact e.2.2.1, by rw [f2, f1]; exact C.pos, by rw [f2]; exact i1⟩, by simp only [List.length_cons]; omega, fun t ht => ?_, fun t ht => ?_⟩
        · rcases List.mem_cons.mp ht with rfl | ht
          · exact (Sp.lin x y hS hL).conv fun i => (mg1_vec hsl i).symm
          · refine (i3 t ht).sub fun v hv => ?_
            rcases List.mem_cons.mp hv with rfl | hv
            · refine low_in (fun t ht => SpL.mem (List.mem_cons_of_mem _ (List.mem_cons_of_mem _ ht))) ((Sp.lin (vec s (hd s) / g) (-(vec l (hd s) / g)) hL hS).conv fun i => ?_)
              rw [mg2_vec hsl]; grind
            · exact SpL.mem (List.mem_cons_of_mem _ (List.mem_cons_of_mem _ hv))
        · have u1 : ∀ v ∈ low (mg2 s l g) ss :: ss, SpL (mg1 s l x y :: tin M ss (low (mg2 s l g) ss)) (vec v) := fun v hv => (i4 v hv).up
          have u2 := low_out (fun t ht => u1 t (List.mem_cons_of_mem _ ht)) (u1 _ List.mem_cons_self)
          have u3 : SpL (mg1 s l x y :: tin M ss (low (mg2 s l g) ss)) (vec (mg1 s l x y)) := SpL.mem List.mem_cons_self
          rcases List.mem_cons.mp ht with rfl | ht
          · exact (Sp.lin (vec t (hd s) / g) x u3 u2).conv fun i => ((mg_back hsl C i).2).symm
          · rcases List.mem_cons.mp ht with rfl | ht
            · exact (Sp.lin (vec t (hd t) / g) (-y) u3 u2).conv fun i => by rw [(mg_back hsl C i).1]; grind
            · exact u1 t (List.mem_cons_of_mem _ ht)
      · rw [show decide (hd l = hd s) = false by simp [z], cond_false]
        obtain ⟨i1, i2, i3, i4⟩ := tin_spec M (l := l) e.2.2.2.2 hl (fun i hi => hd_zero (by omega)) (fun t ht => hr t (List.mem_cons_of_mem _ ht)) (by have := e.2.2.1; omega)
        refine ⟨⟨e.1, e.2.1, e.2.2.1, e.2.2.2.1, i1⟩, by simp only [List.length_cons]; omega, fun t ht => ?_, fun t ht => ?_⟩
        · rcases List.mem_cons.mp ht with rfl | ht
          · exact SpL.mem (List.mem_cons_of_mem _ List.mem_cons_self)
          · refine (i3 t ht).sub fun v hv => ?_
            rcases List.mem_cons.mp hv with rfl | hv
            · exact SpL.mem List.mem_cons_self
            · exact SpL.mem (List.mem_cons_of_mem _ (List.mem_cons_of_mem _ hv))
        · rcases List.mem_cons.mp ht with rfl | ht
          · exact (i4 t List.mem_cons_self).up
          · rcases List.mem_cons.mp ht with rfl | ht
            · exact SpL.mem List.mem_cons_self
            · exact (i4 t (List.mem_cons_of_mem _ ht)).up
def stl : List (List Int) → List (List Int)
  | [] => []
  | s :: ss => low s (stl ss) :: stl ss
def Red : List (List Int) → Prop
  | [] => True
  | s :: ss => (∀ t ∈ ss, 0 ≤ vec s (hd t) ∧ vec s (hd t) < vec t (hd t)) ∧ Red ss
theorem stl_spec {n : Nat} : ∀ {ss : List (List Int)} {lo : Nat}, Ech n lo ss → Ech n lo (stl ss) ∧ Red (stl ss) ∧ (stl ss).length = ss.length ∧ (∀ t ∈ stl ss, SpL ss (vec t)) ∧ ∀ t ∈ ss, SpL (stl ss) (vec t)
  | [], _, _ => ⟨trivial, trivial, rfl, by simp [stl], by simp⟩
  | s :: ss, lo, e => by
    obtain ⟨a, b, c, d, f⟩ := stl_spec e.2.2.2.2
    obtain ⟨k1, k2, k3, k4⟩ := low_spec (l := s) a e.1
    have h1 : hd (low s (stl ss)) = hd s := hd_is (by rw [k4 _ (Nat.lt_succ_self _)]; have := e.2.2.2.1; omega) fun i hi => by rw [k4 _ (by omega), hd_zero hi]
    refine ⟨⟨k1, by rw [h1]; exact e.2.1, by rw [h1]; exact e.2.2.1, by rw [h1, k4 _ (Nat.lt_succ_self _)]; exact e.2.2.2.1, by rw [h1]; exact a⟩, ⟨k3, b⟩, by simp [stl, c], fun t ht => ?_, fun t ht => ?_⟩
    · rcases List.mem_cons.mp ht with rfl | ht
      · exact (Sp.lin 1 (-1) (SpL.mem (ss := s :: ss) List.mem_cons_self) (k2.sub fun v hv => (d v hv).up)).conv fun i => by omega
      · exact (d t ht).up
    · rcases List.mem_cons.mp ht with rfl | ht
      · exact (Sp.plus (SpL.mem (ss := stl (t :: ss)) (s := low t (stl ss)) List.mem_cons_self) (k2.sub fun v hv => SpL.mem (List.mem_cons_of_mem _ hv))).conv fun i => by omega
      · exact (f t ht).up
def clm (M : Mg) (rows : List (List Int)) : List (List Int) := rows.foldl (fun ss r => stl (tin M ss (low r ss))) []
structure Stairs (n : Nat) (rows ss : List (List Int)) : Prop where
  ech : Ech n 0 ss
  red : Red ss
  inn : ∀ t ∈ ss, SpL rows (vec t)
  out : ∀ r ∈ rows, SpL ss (vec r)
theorem Stairs.nil {n : Nat} : Stairs n [] [] := ⟨trivial, trivial, by simp, by simp⟩
theorem Stairs.step {n : Nat} {rows ss : List (List Int)} {r : List Int} (M : Mg) (h : Stairs n rows ss) (hr : r.length = n) : Stairs n (rows ++ [r]) (stl (tin M ss (low r ss))) ∧ (stl (tin M ss (low r ss))).length ≤ ss.length + 1 := by
  obtain ⟨k1, k2, k3, _⟩ := low_spec (l := r) h.ech hr
  obtain ⟨t1, t2, t3, t4⟩ := tin_spec M h.ech k1 (fun i hi => absurd hi (Nat.not_lt_zero i)) k3 (Nat.zero_le n)
  obtain ⟨s1, s2, s3, s4, s5⟩ := stl_spec t1
  have inn : ∀ t ∈ ss, SpL (rows ++ [r]) (vec t) := fun t ht => (h.inn t ht).sub fun v hv => SpL.mem (List.mem_append_left _ hv)
  have hr' : SpL (rows ++ [r]) (vec r) := SpL.mem (List.mem_append_right _ List.mem_cons_self)
  have f1 : ∀ t ∈ low r ss :: ss, SpL (stl (tin M ss (low r ss))) (vec t) := fun t ht => (t4 t ht).sub s5
  refine ⟨⟨s1, s2, fun t ht => (s4 t ht).sub fun v hv => (t3 v hv).sub fun w hw => ?_, fun t ht => ?_⟩, by rw [s3]; exact t2⟩
  · rcases List.mem_cons.mp hw with rfl | hw
    · exact (Sp.lin 1 (-1) hr' (k2.sub inn)).conv fun i => by omega
    · exact inn w hw
  · rcases List.mem_append.mp ht with ht | ht
    · exact (h.out t ht).sub fun v hv => f1 v (List.mem_cons_of_mem _ hv)
    · rw [List.mem_singleton.mp ht]
      exact (Sp.plus (f1 _ List.mem_cons_self) (k2.sub fun v hv => f1 v (List.mem_cons_of_mem _ hv))).conv fun i => by omega
end Lat
namespace Lat
theorem ech_red {n : Nat} : ∀ {ss : List (List Int)} {lo : Nat}, Ech n lo ss → Red ss → ∀ t ∈ ss, ∀ t' ∈ ss, hd t' < hd t ∨ t = t' ∨ (0 ≤ vec t (hd t') ∧ vec t (hd t') < vec t' (hd t'))
  | [], _, _, _, t, h, _, _ => by simp at h
  | s :: ss, lo, e, r, t, ht, t', ht' => by
    rcases List.mem_cons.mp ht with h1 | h1
    · rcases List.mem_cons.mp ht' with h2 | h2
      · exact .inr (.inl (h1.trans h2.symm))
      · rw [h1]; exact .inr (.inr (r.1 t' h2))
    · rcases List.mem_cons.mp ht' with h2 | h2
      · rw [h2]
        have := (Ech.mem e.2.2.2.2 t h1).2.1
        exact .inl (by omega)
      · exact ech_red e.2.2.2.2 r.2 t h1 t' h2
theorem ech_len {n : Nat} : ∀ {ss : List (List Int)} {lo : Nat}, Ech n lo ss → lo ≤ n → ss.length + lo ≤ n
  | [], _, _, h => by simpa using h
  | s :: ss, lo, e, h => by
    have := ech_len e.2.2.2.2 (by have := e.2.2.1; omega)
    have := e.2.1
    simp only [List.length_cons]
    omega
abbrev Rw (rows : List (List Int)) : Vc → Prop := fun u => ∃ r ∈ rows, u = vec r
theorem wit_rows {B E R : Nat} (hE : bnd R B B ≤ E) : ∀ (k : Nat) (rows : List (List Int)), rows.length = k → k ≤ R + 1 → (∀ r ∈ rows, ∀ x ∈ r, x.natAbs ≤ B) → ∃ hs as, Wit (Rw rows) B E hs as ∧ as.length ≤ rows.length
  | 0, rows, h, _, _ => by
    rw [List.length_eq_zero_iff.mp h]
    refine ⟨[], [], ?_, by simp⟩
    have e : Rw [] = fun _ => False := funext fun u => propext ⟨fun ⟨_, z, _⟩ => by simp at z, fun z => z.elim⟩
    rw [e]
    exact Wit.nil
  | k + 1, rows, h, hk, hb => by
    have hne : rows ≠ [] := by intro z; rw [z] at h; simp at h
    obtain ⟨rs, r, rfl⟩ : ∃ rs r, rows = rs ++ [r] := ⟨rows.dropLast, rows.getLast hne, (List.dropLast_concat_getLast hne).symm⟩
    have hl : rs.length = k := by simpa using h
    obtain ⟨hs, as, W, h1⟩ := wit_rows hE k rs hl (by omega) fun r hr => hb r (List.mem_append_left _ hr)
    obtain ⟨hs', as', W', h2⟩ := W.step (a := vec r) (fun i => vec_bd (hb r (List.mem_append_right _ List.mem_cons_self)) i) (Nat.le_trans (bnd_mono (by omega)) hE)
    refine ⟨hs', as', ?_, by simp only [List.length_append, List.length_singleton]; omega⟩
    have e : Rw (rs ++ [r]) = fun u => Rw rs u ∨ u = vec r := funext fun u => propext ⟨fun ⟨s, hs, e⟩ => by
      rcases List.mem_append.mp hs with z | z
      · exact .inl ⟨s, z, e⟩
      · rw [List.mem_singleton.mp z] at e; exact .inr e, fun z => by
      rcases z with ⟨s, hs, e⟩ | z
      · exact ⟨s, List.mem_append_left _ hs, e⟩
      · exact ⟨r, List.mem_append_right _ List.mem_cons_self, z⟩⟩
    rw [e]
    exact W'
theorem Stairs.wit {n B E : Nat} {rows ss : List (List Int)} {hs : List Nat} {as : List Vc} (h : Stairs n rows ss) (W : Wit (Rw rows) B E hs as) (hBE : B ≤ E) : ∀ t ∈ ss, (vec t (hd t)).natAbs ≤ E ∧ ∀ i, (vec t i).natAbs ≤ bnd as.length B E := by
  have hd1 : ∀ t ∈ ss, (vec t (hd t)).natAbs ≤ E := fun t ht => by
    obtain ⟨m1, m2, m3, m4⟩ := h.ech.mem t ht
    obtain ⟨v, v1, v2, v3, v4⟩ := W.hd _ (W.head (h.inn t ht) (fun i hi => hd_zero hi) (by omega))
    have d := ech_dvd h.ech (v1.sub fun a ⟨r, hr, e⟩ => e ▸ h.out r hr) ht v2
    exact Nat.le_trans (Nat.le_of_dvd (Int.natAbs_pos.mpr v3) (Int.natAbs_dvd_natAbs.mpr d)) (v4 _)
  refine fun t ht => ⟨hd1 t ht, fun i => W.small hBE (h.inn t ht) (fun g hg => ?_) i⟩
  obtain ⟨v, v1, v2, v3, v4⟩ := W.hd g hg
  obtain ⟨t', ht', rfl⟩ := ech_head h.ech (v1.sub fun a ⟨r, hr, e⟩ => e ▸ h.out r hr) v2 v3
  rcases ech_red h.ech h.red t ht t' ht' with z | rfl | ⟨z1, z2⟩
  · rw [hd_zero z]; exact Nat.zero_le _
  · exact hd1 t ht
  · have := hd1 t' ht'; omega
theorem bnd_bits {k R b c : Nat} (hk : k ≤ R) (hR : R ≤ 31) (hbc : b ≤ c) : bnd k (2 ^ b) (2 ^ c) ≤ 2 ^ ((c + 7) * (R + 1)) := by
  refine Nat.le_trans (bnd_mono hk) ?_
  unfold bnd
  have h1 : R + 1 ≤ 2 ^ 5 := by omega
  have h2 : 2 * ((R + 1) * 2 ^ c) + 1 ≤ 2 ^ (c + 7) := by
    have e1 : (R + 1) * 2 ^ c ≤ 2 ^ 5 * 2 ^ c := Nat.mul_le_mul_right _ h1
    have e2 : 2 ^ (c + 7) = 4 * (2 ^ 5 * 2 ^ c) := by rw [Nat.pow_add]; omega
    have e3 : 0 < 2 ^ c := Nat.pow_pos (by decide)
    omega
  calc (R + 1) * ((2 * ((R + 1) * 2 ^ c) + 1) ^ R * 2 ^ b) ≤ 2 ^ 5 * ((2 ^ (c + 7)) ^ R * 2 ^ b) := Nat.mul_le_mul h1 (Nat.mul_le_mul_right _ (Nat.pow_le_pow_left h2 _))
    _ = 2 ^ (5 + ((c + 7) * R + b)) := by rw [← Nat.pow_mul, ← Nat.pow_add, ← Nat.pow_add]
    _ ≤ 2 ^ ((c + 7) * (R + 1)) := Nat.pow_le_pow_right (by decide) (by rw [Nat.mul_add]; omega)
def Bit (a : Nat) (l : List Int) : Prop := ∀ x ∈ l, x.natAbs ≤ 2 ^ a
theorem Bit.vec {a : Nat} {l : List Int} (h : Bit a l) (i : Nat) : (vec l i).natAbs ≤ 2 ^ a := vec_bd h i
theorem Bit.of {a : Nat} {l : List Int} (h : ∀ i, (Lat.vec l i).natAbs ≤ 2 ^ a) : Bit a l := fun x hx => by
  obtain ⟨i, _, rfl⟩ := mem_vec hx
  exact h i
theorem Bit.mono {a b : Nat} {l : List Int} (h : Bit a l) (k : a ≤ b) : Bit b l := fun x hx => Nat.le_trans (h x hx) (Nat.pow_le_pow_right (by decide) k)
def eB (b R : Nat) : Nat := (b + 7) * (R + 1)
def sB (b R : Nat) : Nat := (eB b R + 7) * (R + 1)
theorem Stairs.bits {n b R : Nat} {rows ss : List (List Int)} (h : Stairs n rows ss) (hR : R ≤ 31) (hr : rows.length ≤ R) (hb : ∀ r ∈ rows, Bit b r) : ∀ t ∈ ss, (vec t (hd t)).natAbs ≤ 2 ^ eB b R ∧ Bit (sB b R) t := by
  obtain ⟨hs, as, W, hl⟩ := wit_rows (B := 2 ^ b) (E := 2 ^ eB b R) (R := R) (bnd_bits (Nat.le_refl _) hR (Nat.le_refl _)) rows.length rows rfl (by omega) hb
  have e : b ≤ eB b R := by unfold eB; exact Nat.le_trans (by omega) (Nat.le_mul_of_pos_right _ (Nat.succ_pos R))
  refine fun t ht => ?_
  obtain ⟨a1, a2⟩ := h.wit W (Nat.pow_le_pow_right (by decide) e) t ht
  exact ⟨a1, Bit.of fun i => Nat.le_trans (a2 i) (bnd_bits (Nat.le_trans hl hr) hR e)⟩
theorem two_mul {x y a b : Nat} (h1 : x ≤ 2 ^ a) (h2 : y ≤ 2 ^ b) : x * y ≤ 2 ^ (a + b) := by rw [Nat.pow_add]; exact Nat.mul_le_mul h1 h2
theorem ediv_abs {x d : Int} (_h : 0 < d) : (x / d).natAbs ≤ x.natAbs := by
  have := Int.natAbs_ediv_le_natAbs x d
  exact this
structure Sd (n s : Nat) (t : List Int) : Prop where
  len : t.length = n
  hd : hd t < n
  pos : 0 < vec t (Lat.hd t)
  top : (vec t (Lat.hd t)).natAbs ≤ 2 ^ 8980
  bit : Bit s t
theorem quo_bd {n s a : Nat} {l t : List Int} (T : Sd n s t) (hb : Bit a l) : (quo l t).natAbs ≤ 2 ^ a := Nat.le_trans (ediv_abs T.pos) (hb.vec _)
theorem low1_bit {n s a : Nat} {l t : List Int} (T : Sd n s t) (hl : l.length = n) (hb : Bit a l) : Bit (a + (s + 1)) (low1 l t) := Bit.of fun i => by
  rw [vec_low1 (by rw [hl, T.len])]
  have e1 := hb.vec i
  have e2 : (vec t i * quo l t).natAbs ≤ 2 ^ (s + a) := by rw [Int.natAbs_mul]; exact two_mul (T.bit.vec i) (quo_bd T hb)
  have e3 : 2 ^ a ≤ 2 ^ (s + a) := Nat.pow_le_pow_right (by decide) (by omega)
  have e4 : 2 ^ (a + (s + 1)) = 2 ^ (s + a) + 2 ^ (s + a) := by rw [show a + (s + 1) = (s + a) + 1 by omega, Nat.pow_succ]; omega
  omega
theorem low_bit {n s : Nat} : ∀ {ss : List (List Int)} {a : Nat} {l : List Int}, (∀ t ∈ ss, Sd n s t) → l.length = n → Bit a l → Bit (a + ss.length * (s + 1)) (low l ss)
  | [], a, l, _, _, h => by simpa [low] using h
  | t :: ss, a, l, T, hl, h => by
    have T1 := T t List.mem_cons_self
    have := low_bit (ss := ss) (fun t ht => T t (List.mem_cons_of_mem _ ht)) (by rw [low1_len (by rw [hl, T1.len]), hl]) (low1_bit T1 hl h)
    refine Bit.mono this ?_
    rw [List.length_cons, Nat.succ_mul]
    omega
theorem Cm.bd {one other g x y : Int} (C : Cm one other g x y) (h2 : 0 < other) (hy : y = (g - x * one) / other) {c : Nat} (b1 : one.natAbs ≤ 2 ^ c) (b2 : other.natAbs ≤ 2 ^ c) : g.natAbs ≤ 2 ^ (c + 1) ∧ x.natAbs ≤ 2 ^ c ∧ y.natAbs ≤ 2 ^ (2 * c + 2) := by
  have e1 := C.le
  have e2 := C.xb
  have e3 := C.pos
  have g1 : g.natAbs ≤ 2 ^ (c + 1) := by
    rw [Nat.pow_succ]
    omega
  have x1 : x.natAbs ≤ 2 ^ c := by omega
  refine ⟨g1, x1, ?_⟩
  rw [hy]
  refine Nat.le_trans (ediv_abs h2) ?_
  have e4 : (x * one).natAbs ≤ 2 ^ (c + c) := by rw [Int.natAbs_mul]; exact two_mul x1 b1
  have e5 : 2 ^ (c + 1) ≤ 2 ^ (c + c + 1) := Nat.pow_le_pow_right (by decide) (by omega)
  have e6 : 2 ^ (2 * c + 2) = 2 ^ (c + c + 1) + 2 ^ (c + c + 1) := by rw [show 2 * c + 2 = (c + c + 1) + 1 by omega, Nat.pow_succ]; omega
  have e7 : 2 ^ (c + c) ≤ 2 ^ (c + c + 1) := Nat.pow_le_pow_right (by decide) (by omega)
  omega
theorem ediv_bd {a g : Int} (hg : 0 < g) {c : Nat} (h : a.natAbs ≤ 2 ^ c) : (a / g).natAbs ≤ 2 ^ c := Nat.le_trans (ediv_abs hg) h
theorem mg2_bit {n s a : Nat} {l t : List Int} {g x y : Int} (T : Sd n s t) (hl : l.length = n) (hb : Bit a l) (C : Cm (vec t (hd t)) (vec l (hd t)) g x y) (hlt : vec l (hd t) < vec t (hd t)) (h0 : 0 ≤ vec l (hd t)) : Bit (a + (s + 8982)) (mg2 t l g) := Bit.of fun i => by
  rw [mg2_vec (by rw [hl, T.len])]
  have e1 : (vec t (hd t) / g * vec l i).natAbs ≤ 2 ^ (8980 + a) := by rw [Int.natAbs_mul]; exact two_mul (ediv_bd C.pos T.top) (hb.vec i)
  have e2 : (vec l (hd t) / g * vec t i).natAbs ≤ 2 ^ (8980 + s) := by rw [Int.natAbs_mul]; exact two_mul (ediv_bd C.pos (by have := T.top; omega)) (T.bit.vec i)
  have e3 : 2 ^ (8980 + a) ≤ 2 ^ (a + (s + 8981)) := Nat.pow_le_pow_right (by decide) (by omega)
  have e4 : 2 ^ (8980 + s) ≤ 2 ^ (a + (s + 8981)) := Nat.pow_le_pow_right (by decide) (by omega)
  have e5 : 2 ^ (a + (s + 8982)) = 2 ^ (a + (s + 8981)) + 2 ^ (a + (s + 8981)) := by rw [show a + (s + 8982) = (a + (s + 8981)) + 1 by omega, Nat.pow_succ]; omega
  omega
theorem mg1_bit {n s a : Nat} {l t : List Int} {x y : Int} (T : Sd n s t) (hl : l.length = n) (hb : Bit a l) (hx : x.natAbs ≤ 2 ^ 8980) (hy : y.natAbs ≤ 2 ^ 17962) : Bit (a + (s + 17964)) (mg1 t l x y) := Bit.of fun i => by
  rw [mg1_vec (by rw [hl, T.len])]
  have e1 : (x * vec t i).natAbs ≤ 2 ^ (8980 + s) := by rw [Int.natAbs_mul]; exact two_mul hx (T.bit.vec i)
  have e2 : (y * vec l i).natAbs ≤ 2 ^ (17962 + a) := by rw [Int.natAbs_mul]; exact two_mul hy (hb.vec i)
  have e3 : 2 ^ (8980 + s) ≤ 2 ^ (a + (s + 17963)) := Nat.pow_le_pow_right (by decide) (by omega)
  have e4 : 2 ^ (17962 + a) ≤ 2 ^ (a + (s + 17963)) := Nat.pow_le_pow_right (by decide) (by omega)
  have e5 : 2 ^ (a + (s + 17964)) = 2 ^ (a + (s + 17963)) + 2 ^ (a + (s + 17963)) := by rw [show a + (s + 17964) = (a + (s + 17963)) + 1 by omega, Nat.pow_succ]; omega
  omega
theorem upr_bit {a : Nat} {l : List Int} (h : Bit a l) : Bit a (upr l) := by
  unfold upr
  cases decide (vec l (hd l) < (0 : Int))
  · exact h
  · exact Bit.of fun i => by
      show (vec (mul l (-(1 : Int))) i).natAbs ≤ _
      rw [vec_mul]
      have := h.vec i
      omega
end Lat

namespace Lat
open L2
theorem ixD_vec (l : List Int) (k : Nat) : ixD l (k : Int) = vec l k := by
  by_cases h : k < l.length
  · rw [ixD_nat (List.getElem?_eq_getElem h)]
    simp [vec, List.getD_eq_getElem?_getD, List.getElem?_eq_getElem h]
  · rw [vec_out (by omega)]
    unfold ixD atI ixN
    rw [if_pos (by omega), if_neg (by omega)]
    rfl
theorem rngZ_cons {lo : Int} {n : Nat} : rngZ lo (n + 1) = lo :: rngZ (lo + 1) n := by
  unfold rngZ
  rw [List.range_succ_eq_map, List.map_cons, List.map_map]
  congr 1
  · simp
  · exact List.map_congr_left fun i _ => by show lo + ((i + 1 : Nat) : Int) = lo + 1 + (i : Int); omega
abbrev hdB : Unit → Int × Int → Unit ⊕ Int := fun _ x => bif (!decide (x.2 = (0 : Int))) then (Sum.inr x.1) else (Sum.inl ())
theorem hd_loop : ∀ (xs : List Int) (lo : Int), LetR (loopR hdB () ((rngZ lo xs.length).zip xs)) (fun (_ : Unit) => lo + (xs.length : Int)) (fun b => b) = lo + (hd xs : Int)
  | [], lo => rfl
  | x :: xs, lo => by
    rw [List.length_cons, rngZ_cons, List.zip_cons_cons]
    unfold loopR hd
    cases q : (!decide (x = (0 : Int))) with
    | true =>
      rw [show hdB () (lo, x) = .inr lo by unfold hdB; dsimp only; rw [q]; rfl]
      show lo = lo + ((0 : Nat) : Int)
      omega
    | false =>
      rw [show hdB () (lo, x) = .inl () by unfold hdB; dsimp only; rw [q]; rfl]
      have := hd_loop xs (lo + 1)
      have e : (fun (_ : Unit) => lo + 1 + (xs.length : Int)) = (fun (_ : Unit) => lo + ((xs.length + 1 : Nat) : Int)) := funext fun _ => by omega
      rw [e] at this
      show LetR (loopR hdB () ((rngZ (lo + 1) xs.length).zip xs)) _ _ = _
      rw [this]
      show lo + 1 + (hd xs : Int) = lo + ((hd xs + 1 : Nat) : Int)
      omega
theorem headL (xs : List Int) : LetR (loopR hdB () (enumZ xs)) (fun (_ : Unit) => ((xs.length : Nat) : Int)) (fun b => b) = (hd xs : Int) := by
  have := hd_loop xs 0
  simp only [Int.zero_add] at this
  exact this
theorem cut_drop {α : Type} {xs : List α} {k : Nat} : cutD xs (some (k : Int)) none = xs.drop k := by
  unfold cutD
  rw [HT.sIx_nat, HT.sIx_none]
  by_cases h : k ≤ xs.length
  · rw [Nat.min_eq_left h, List.take_of_length_le (by rw [List.length_drop]; omega)]
  · rw [Nat.min_eq_right (by omega), List.drop_eq_nil_of_le (by omega), List.drop_eq_nil_of_le (by omega)]; simp
def cmn (a b : Int) : T3 Int Int Int := Let (whl cmC cmF b.toNat (a, b, (1 : Int), (0 : Int))) (fun (r : G4) => T3.mk r.1 r.2.2.1 ((r.1 - (r.2.2.1 * a)) / b))
theorem cmn_ok {a b : Int} (h1 : 0 < a) (h2 : 0 < b) : Cm a b (cmn a b).a (cmn a b).b (cmn a b).c := by
  obtain ⟨i1, i2⟩ := whl_inv (n := b.toNat) (c := cmC) (f := cmF) (I := GI a b) (μ := fun s => s.2.1.toNat) (fun s h c => h.step c) (GI.start h1 h2) (Nat.le_refl _)
  exact i1.done h2 i2
theorem cmn_c {a b : Int} : (cmn a b).c = ((cmn a b).a - (cmn a b).b * a) / b := rfl
def MG : Mg := ⟨fun a b => ((cmn a b).a, (cmn a b).b, (cmn a b).c), fun _ _ h1 h2 => cmn_ok h1 h2⟩
def mrg (s l : List Int) : List Int × List Int := (mg1 s l (cmn (vec s (hd s)) (vec l (hd s))).b (cmn (vec s (hd s)) (vec l (hd s))).c, mg2 s l (cmn (vec s (hd s)) (vec l (hd s))).a)
theorem tin_cons {s : List Int} {ss : List (List Int)} {l : List Int} : tin MG (s :: ss) l = bif decide (hd l < hd s) then upr l :: s :: ss else bif decide (hd l = hd s) then (mrg s l).1 :: tin MG ss (low (mrg s l).2 ss) else s :: tin MG ss l := rfl
abbrev TS2 := List (List Int) × List Int
def tinB (steps : List (List Int)) : TS2 → Int × List Int → TS2 ⊕ List (List Int) := fun s x =>
  bif decide ((hd s.2 : Int) < (hd x.2 : Int)) then (Sum.inr ((s.1 ++ [upr s.2]) ++ (cutD steps (some x.1) none)))
  else Let (bif decide ((hd s.2 : Int) = (hd x.2 : Int)) then (s.1 ++ [(mrg x.2 s.2).1]) else (s.1 ++ [x.2])) (fun (g : List (List Int)) =>
    Let (bif decide ((hd s.2 : Int) = (hd x.2 : Int)) then (low ((mrg x.2 s.2).2) (cutD steps (some (x.1 + (1 : Int))) none)) else s.2) (fun (l : List Int) => Sum.inl (g, l)))
abbrev tinE : TS2 → List (List Int) := fun r => Let (bif decide ((hd r.2 : Int) < ((r.2.length : Nat) : Int)) then (r.1 ++ [upr r.2]) else r.1) (fun (g : List (List Int)) => g)
theorem tin_loop {steps : List (List Int)} : ∀ (ss : List (List Int)) (k : Nat) (g : List (List Int)) (l : List Int), steps.drop k = ss → LetR (loopR (tinB steps) (g, l) ((rngZ (k : Int) ss.length).zip ss)) tinE (fun b => b) = g ++ tin MG ss l
  | [], k, g, l, _ => by
    show tinE (g, l) = _
    unfold tinE Let tin
    dsimp only
    by_cases q : hd l < l.length
    · rw [show decide ((hd l : Int) < ((l.length : Nat) : Int)) = true by simp [q], show decide (hd l < l.length) = true by simp [q]]; rfl
    · rw [show decide ((hd l : Int) < ((l.length : Nat) : Int)) = false by simpa using q, show decide (hd l < l.length) = false by simp [q]]
      simp
  | s :: ss, k, g, l, e => by
    have e' : steps.drop (k + 1) = ss := by rw [← List.drop_drop, e]; rfl
    have e2 : ((k : Int) + (1 : Int)) = ((k + 1 : Nat) : Int) := by omega
    rw [List.length_cons, rngZ_cons, List.zip_cons_cons, tin_cons]
    unfold loopR
    by_cases q : hd l < hd s
    · rw [show tinB steps (g, l) ((k : Int), s) = .inr ((g ++ [upr l]) ++ (s :: ss)) by
        unfold tinB; dsimp only
        rw [show decide ((hd l : Int) < (hd s : Int)) = true by simp [q], cond_true, cut_drop, e]]
      rw [show decide (hd l < hd s) = true by simp [q], cond_true]
      show (g ++ [upr l]) ++ (s :: ss) = _
      simp
    · rw [show decide (hd l < hd s) = false by simp [q], cond_false]
      have q' : decide ((hd l : Int) < (hd s : Int)) = false := by simp; omega
      by_cases z : hd l = hd s
      · rw [show tinB steps (g, l) ((k : Int), s) = .inl (g ++ [(mrg s l).1], low (mrg s l).2 ss) by
          unfold tinB Let; dsimp only
          rw [q', show decide ((hd l : Int) = (hd s : Int)) = true by simp [z], cond_false, cond_true, cond_true, e2, cut_drop, e']]
        rw [show decide (hd l = hd s) = true by simp [z], cond_true]
        show LetR (loopR (tinB steps) _ ((rngZ ((k : Int) + 1) ss.length).zip ss)) _ _ = _
        rw [e2, tin_loop ss (k + 1) _ _ e']
        simp
      · rw [show tinB steps (g, l) ((k : Int), s) = .inl (g ++ [s], l) by
          unfold tinB Let; dsimp only
          rw [q', show decide ((hd l : Int) = (hd s : Int)) = false by simp; omega, cond_false, cond_false, cond_false]]
        rw [show decide (hd l = hd s) = false by simp [z], cond_false]
        show LetR (loopR (tinB steps) _ ((rngZ ((k : Int) + 1) ss.length).zip ss)) _ _ = _
        rw [e2, tin_loop ss (k + 1) _ _ e']
        simp
theorem tinL (steps : List (List Int)) (l : List Int) : LetR (loopR (tinB steps) ([], l) (enumZ steps)) tinE (fun b => b) = tin MG steps l := by
  have := tin_loop (steps := steps) steps 0 [] l rfl
  simp only [List.nil_append] at this
  exact this
theorem stlL : ∀ (ss : List (List Int)), List.foldl (fun (s : List (List Int)) (x : List Int) => [low x s] ++ s) [] ss.reverse = stl ss
  | [] => rfl
  | s :: ss => by
    rw [List.reverse_cons, List.foldl_append, stlL ss]
    rfl
theorem stl_drop : ∀ {ss : List (List Int)} {j : Nat}, stl (ss.drop j) = (stl ss).drop j
  | [], j => by simp [stl]
  | s :: ss, 0 => rfl
  | s :: ss, j + 1 => by rw [List.drop_succ_cons, stl_drop]; rfl
theorem CMulX.of {x y : Int} {a b : Nat} (h1 : x.natAbs ≤ 2 ^ a) (h2 : y.natAbs ≤ 2 ^ b) (ha : a ≤ 50000000) (hb : b ≤ 50000000) : CMulX x y :=
  .inr (.inr ⟨log_of (k := a + 1) (by have : 2 ^ a < 2 ^ (a + 1) := Nat.pow_lt_pow_right (by decide) (Nat.lt_succ_self a); omega) (by omega) (by omega), log_of (k := b + 1) (by have : 2 ^ b < 2 ^ (b + 1) := Nat.pow_lt_pow_right (by decide) (Nat.lt_succ_self b); omega) (by omega) (by omega)⟩)
theorem CDivB.of {x y : Int} {b : Nat} (h : 0 < y) (h2 : y.natAbs ≤ 2 ^ b) (hb : b ≤ 8990) : CDivB x y :=
  ⟨h, log_of (k := b + 1) (by have : 2 ^ b < 2 ^ (b + 1) := Nat.pow_lt_pow_right (by decide) (Nat.lt_succ_self b); omega) (by omega) (by omega)⟩
def ComP (a b : Int) : Prop := 0 < a ∧ 0 < b ∧ a.natAbs ≤ 2 ^ 8980 ∧ b.natAbs ≤ 2 ^ 8980
section
variable {one other : Int} {s : G4}
theorem GI.gn (I : GI one other s) (h : ComP one other) : s.1.natAbs ≤ 2 ^ 8981 := by
  have := I.g; have := I.gb; obtain ⟨h1, h2, h3, h4⟩ := h
  rw [Nat.pow_succ]
  omega
theorem GI.mn (I : GI one other s) (h : ComP one other) : s.2.1.natAbs ≤ 2 ^ 8981 := by
  have := I.m; have := I.mb; obtain ⟨h1, h2, h3, h4⟩ := h
  rw [Nat.pow_succ]
  omega
theorem GI.tn (I : GI one other s) (h : ComP one other) : s.2.2.1.natAbs ≤ 2 ^ 8980 := by
  have := I.tb; obtain ⟨h1, h2, h3, h4⟩ := h
  omega
theorem GI.ln (I : GI one other s) (h : ComP one other) : s.2.2.2.natAbs ≤ 2 ^ 8980 := by
  have := I.lb; obtain ⟨h1, h2, h3, h4⟩ := h
  omega
theorem GI.pos (I : GI one other s) (hc : (!decide (s.2.1 = (0 : Int))) = true) : 0 < s.2.1 := by
  have := I.m
  simp only [Bool.not_eq_true', decide_eq_false_iff_not] at hc
  omega
theorem GI.div (I : GI one other s) (h : ComP one other) (hc : (!decide (s.2.1 = (0 : Int))) = true) : CDivB s.1 s.2.1 := CDivB.of (I.pos hc) (I.mn h) (by decide)
theorem GI.mul1 (I : GI one other s) (h : ComP one other) (hc : (!decide (s.2.1 = (0 : Int))) = true) {p : Int} (e : p = s.1 / s.2.1) : CMulX p s.2.1 := by
  subst e; exact CMulX.of (ediv_bd (I.pos hc) (I.gn h)) (I.mn h) (by decide) (by decide)
theorem GI.mul2 (I : GI one other s) (h : ComP one other) (hc : (!decide (s.2.1 = (0 : Int))) = true) {p : Int} (e : p = s.1 / s.2.1) : CMulX p s.2.2.2 := by
  subst e; exact CMulX.of (ediv_bd (I.pos hc) (I.gn h)) (I.ln h) (by decide) (by decide)
theorem GI.mul3 (I : GI one other s) (h : ComP one other) : CMulX s.2.2.1 one := CMulX.of (I.tn h) h.2.2.1 (by decide) (by decide)
theorem ComP.div (h : ComP one other) {x : Int} : CDivB x other := CDivB.of h.2.1 h.2.2.2 (by decide)
end
def LowP (row : List Int) (steps : List (List Int)) : Prop := ∃ n a s, n ≤ 1000 ∧ row.length = n ∧ steps.length ≤ 1000 ∧ Bit a row ∧ (∀ t ∈ steps, Sd n s t) ∧ a + steps.length * (s + 1) + s ≤ 50000000
section
variable {n s a i : Nat} {l t : List Int} {h q : Int}
theorem low_ix (T : Sd n s t) (e : h = (hd t : Int)) (hl : l.length = n) : InB l.length h := by
  have := T.hd
  unfold InB
  omega
theorem low_div (T : Sd n s t) (e : h = (hd t : Int)) : CDivB (ixD l h) (ixD t h) := by
  subst e
  rw [ixD_vec, ixD_vec]
  exact CDivB.of T.pos T.top (by decide)
theorem low_mul (T : Sd n s t) (e : h = (hd t : Int)) (hb : Bit a l) (eq : q = ixD l h / ixD t h) (ha : a + s ≤ 50000000) : ∀ y ∈ t, CMulX y q := by
  subst e eq
  rw [ixD_vec, ixD_vec]
  exact fun y hy => CMulX.of (T.bit y hy) (quo_bd T hb) (by omega) (by omega)
theorem low_stp (T : Sd n s t) (hl : l.length = n ∧ Bit (a + i * (s + 1)) l) {y : List Int} (e : y = low1 l t) : y.length = n ∧ Bit (a + (i + 1) * (s + 1)) y := by
  subst e
  refine ⟨by rw [low1_len (by rw [hl.1, T.len]), hl.1], (low1_bit T hl.1 hl.2).mono ?_⟩
  rw [Nat.succ_mul]; omega
theorem low_num {k i : Nat} (h : a + k * (s + 1) + s ≤ 50000000) (hi : i < k) : a + i * (s + 1) + s ≤ 50000000 := by
  have := Nat.mul_le_mul_right (s + 1) (show i ≤ k by omega)
  omega
end
def MrgP (t l : List Int) : Prop := ∃ n a s, n ≤ 1000 ∧ Sd n s t ∧ l.length = n ∧ Bit a l ∧ 0 < vec l (hd t) ∧ vec l (hd t) < vec t (hd t) ∧ a + s ≤ 40000000
section
variable {n s a : Nat} {l t : List Int} {h : Int}
theorem mrg_com (T : Sd n s t) (e : h = (hd t : Int)) (h0 : 0 < vec l (hd t)) (h1 : vec l (hd t) < vec t (hd t)) : ComP (ixD t h) (ixD l h) := by
  subst e
  rw [ixD_vec, ixD_vec]
  exact ⟨T.pos, h0, T.top, by have := T.top; omega⟩
theorem cmn_bd {x y : Int} (h : ComP x y) : 0 < (cmn x y).a ∧ (cmn x y).a.natAbs ≤ 2 ^ 8981 ∧ (cmn x y).b.natAbs ≤ 2 ^ 8980 ∧ (cmn x y).c.natAbs ≤ 2 ^ 17962 := by
  have C := cmn_ok h.1 h.2.1
  have := C.bd h.2.1 cmn_c h.2.2.1 h.2.2.2
  exact ⟨C.pos, this⟩
theorem mul_all {x : Int} {a b : Nat} {l : List Int} (h1 : Bit a l) (h2 : x.natAbs ≤ 2 ^ b) (ha : a ≤ 50000000) (hb : b ≤ 50000000) : ∀ y ∈ l, CMulX y x := fun y hy => CMulX.of (h1 y hy) h2 ha hb
end
def TinP (steps : List (List Int)) (row : List Int) : Prop := ∃ n a s, n ≤ 1000 ∧ Ech n 0 steps ∧ (∀ t ∈ steps, Sd n s t) ∧ row.length = n ∧ Bit a row ∧ steps.length ≤ 100 ∧ a + (steps.length + 2) * ((steps.length + 1) * (s + 9000)) + s ≤ 40000000
theorem ech_drop {n : Nat} : ∀ {ss : List (List Int)} {lo j : Nat}, Ech n lo ss → Ech n lo (ss.drop j)
  | [], _, _, _ => by simp [Ech]
  | _ :: _, _, 0, h => h
  | s :: ss, lo, j + 1, h => by
    rw [List.drop_succ_cons]
    exact ech_drop (h.2.2.2.2.mono (by have := h.2.1; omega))
section
variable {n s a i : Nat} {steps : List (List Int)} {st : TS2} {x : Int × List Int}
structure TI (steps : List (List Int)) (n a s i : Nat) (st : TS2) : Prop where
  g : st.1.length ≤ i
  len : st.2.length = n
  bit : Bit (a + steps.length * (s + 1) + i * ((steps.length + 1) * (s + 9000))) st.2
  red : ∀ t ∈ steps.drop i, 0 ≤ vec st.2 (hd t) ∧ vec st.2 (hd t) < vec t (hd t)
theorem TI.start {row : List Int} (e : Ech n 0 steps) (T : ∀ t ∈ steps, Sd n s t) (hl : row.length = n) (hb : Bit a row) : TI steps n a s 0 ([], low row steps) := by
  obtain ⟨k1, k2, k3, k4⟩ := low_spec (l := row) e hl
  exact ⟨Nat.le_refl 0, k1, by simpa using low_bit T hl hb, by simpa using k3⟩
theorem TI.mem (hx : i < steps.length ∧ x.1 = (i : Int) ∧ steps[i]? = some x.2) : x.2 ∈ steps ∧ x.2 ∈ steps.drop i ∧ steps.drop i = x.2 :: steps.drop (i + 1) := by
  have e : steps.drop i = x.2 :: steps.drop (i + 1) := by
    rw [List.drop_eq_getElem_cons hx.1]
    congr 1
    have := hx.2.2
    rw [List.getElem?_eq_getElem hx.1] at this
    exact Option.some.inj this
  exact ⟨List.mem_of_getElem? hx.2.2, by rw [e]; exact List.mem_cons_self, e⟩
theorem TI.num (hi : i ≤ steps.length) (h : a + (steps.length + 2) * ((steps.length + 1) * (s + 9000)) + s ≤ 40000000) : a + steps.length * (s + 1) + i * ((steps.length + 1) * (s + 9000)) + (s + 9000) ≤ 40000000 := by
  have e1 : i * ((steps.length + 1) * (s + 9000)) ≤ steps.length * ((steps.length + 1) * (s + 9000)) := Nat.mul_le_mul_right _ hi
  have e2 : steps.length * (s + 1) ≤ (steps.length + 1) * (s + 9000) := Nat.mul_le_mul (by omega) (by omega)
  have e3 : s + 9000 ≤ (steps.length + 1) * (s + 9000) := Nat.le_mul_of_pos_left _ (by omega)
  rw [Nat.add_mul] at h
  omega
theorem TI.mrg (I : TI steps n a s i st) (hn : n ≤ 1000) (T : ∀ t ∈ steps, Sd n s t) (hx : i < steps.length ∧ x.1 = (i : Int) ∧ steps[i]? = some x.2) (hh : hd st.2 = hd x.2) (hN : a + (steps.length + 2) * ((steps.length + 1) * (s + 9000)) + s ≤ 40000000) : MrgP x.2 st.2 := by
  obtain ⟨m1, m2, m3⟩ := TI.mem hx
  have r := I.red _ m2
  have T1 := T _ m1
  have ne := hd_ne (l := st.2) (by rw [hh, I.len]; exact T1.hd)
  rw [hh] at ne
  exact ⟨n, _, s, hn, T1, I.len, I.bit, by omega, r.2, by have := TI.num (Nat.le_of_lt hx.1) hN; omega⟩
theorem mrg_bit {t l : List Int} {b : Nat} (T : Sd n s t) (hl : l.length = n) (hb : Bit b l) (h0 : 0 < vec l (hd t)) (h1 : vec l (hd t) < vec t (hd t)) : (mrg t l).2.length = n ∧ Bit (b + (s + 8982)) (mrg t l).2 ∧ (mrg t l).1.length = n ∧ Bit (b + (s + 17964)) (mrg t l).1 := by
  have e : t.length = l.length := by rw [hl, T.len]
  have P : ComP (vec t (hd t)) (vec l (hd t)) := ⟨T.pos, h0, T.top, by have := T.top; omega⟩
  have C := cmn_bd P
  exact ⟨by rw [show (mrg t l).2 = mg2 t l _ from rfl, mg2_len e, T.len], mg2_bit T hl hb (cmn_ok T.pos h0) h1 (by omega), by rw [show (mrg t l).1 = mg1 t l _ _ from rfl, mg1_len e, T.len], mg1_bit T hl hb C.2.2.1 C.2.2.2⟩
theorem TI.low (I : TI steps n a s i st) (hn : n ≤ 1000) (hk : steps.length ≤ 100) (T : ∀ t ∈ steps, Sd n s t) (hx : i < steps.length ∧ x.1 = (i : Int) ∧ steps[i]? = some x.2) (hh : hd st.2 = hd x.2) (hN : a + (steps.length + 2) * ((steps.length + 1) * (s + 9000)) + s ≤ 40000000) : LowP (Lat.mrg x.2 st.2).2 (cutD steps (some (x.1 + (1 : Int))) none) := by
  obtain ⟨m1, m2, m3⟩ := TI.mem hx
  have r := I.red _ m2
  have T1 := T _ m1
  have ne := hd_ne (l := st.2) (by rw [hh, I.len]; exact T1.hd)
  rw [hh] at ne
  obtain ⟨b1, b2, _⟩ := mrg_bit T1 I.len I.bit (by omega) r.2
  rw [hx.2.1, show ((i : Int) + (1 : Int)) = ((i + 1 : Nat) : Int) by omega, cut_drop]
  refine ⟨n, _, s, hn, b1, by rw [List.length_drop]; omega, b2, fun t ht => T t (List.mem_of_mem_drop ht), ?_⟩
  have hp : (List.drop (i + 1) steps).length * (s + 1) ≤ steps.length * (s + 9000) := Nat.mul_le_mul (by rw [List.length_drop]; omega) (by omega)
  have hm : steps.length * (s + 1) ≤ (steps.length + 1) * (s + 9000) := Nat.mul_le_mul (by omega) (by omega)
  have ho : i * ((steps.length + 1) * (s + 9000)) ≤ steps.length * ((steps.length + 1) * (s + 9000)) := Nat.mul_le_mul_right _ (by omega)
  have hq : (steps.length + 1) * (s + 9000) = steps.length * (s + 9000) + (s + 9000) := Nat.succ_mul _ _
  rw [Nat.add_mul steps.length 2] at hN
  omega
theorem TI.step (I : TI steps n a s i st) (e : Ech n 0 steps) (T : ∀ t ∈ steps, Sd n s t) (hx : i < steps.length ∧ x.1 = (i : Int) ∧ steps[i]? = some x.2) {st' : TS2} (hf : tinB steps st x = .inl st') : TI steps n a s (i + 1) st' := by
  obtain ⟨m1, m2, m3⟩ := TI.mem hx
  have r := I.red _ m2
  have T1 := T _ m1
  have dd : ∀ t ∈ steps.drop (i + 1), t ∈ steps.drop i := fun t ht => by rw [m3]; exact List.mem_cons_of_mem _ ht
  have mo : a + steps.length * (s + 1) + i * ((steps.length + 1) * (s + 9000)) ≤ a + steps.length * (s + 1) + (i + 1) * ((steps.length + 1) * (s + 9000)) := by
    have := Nat.mul_le_mul_right ((steps.length + 1) * (s + 9000)) (show i ≤ i + 1 by omega)
    omega
  unfold tinB Let at hf
  by_cases q : hd st.2 < hd x.2
  · rw [show decide ((hd st.2 : Int) < (hd x.2 : Int)) = true by simp [q], cond_true] at hf
    cases hf
  · rw [show decide ((hd st.2 : Int) < (hd x.2 : Int)) = false by simp; omega, cond_false] at hf
    by_cases z : hd st.2 = hd x.2
    · rw [show decide ((hd st.2 : Int) = (hd x.2 : Int)) = true by simp [z], cond_true, cond_true] at hf
      cases hf
      have ne := hd_ne (l := st.2) (by rw [z, I.len]; exact T1.hd)
      rw [z] at ne
      obtain ⟨b1, b2, _⟩ := mrg_bit T1 I.len I.bit (by omega) r.2
      rw [hx.2.1, show ((i : Int) + (1 : Int)) = ((i + 1 : Nat) : Int) by omega, cut_drop]
      have ed : Ech n 0 (steps.drop (i + 1)) := ech_drop e
      obtain ⟨k1, k2, k3, k4⟩ := low_spec (l := (Lat.mrg x.2 st.2).2) ed b1
      refine ⟨by have := I.g; simp; omega, k1, (low_bit (fun t ht => T t (List.mem_of_mem_drop ht)) b1 b2).mono ?_, k3⟩
      have e5 : (List.drop (i + 1) steps).length * (s + 1) ≤ steps.length * (s + 9000) := Nat.mul_le_mul (by rw [List.length_drop]; omega) (by omega)
      rw [Nat.succ_mul i, Nat.add_mul steps.length 1]
      omega
    · rw [show decide ((hd st.2 : Int) = (hd x.2 : Int)) = false by simp; omega, cond_false, cond_false] at hf
      cases hf
      exact ⟨by have := I.g; simp; omega, I.len, I.bit.mono mo, fun t ht => I.red t (dd t ht)⟩
end
theorem tin_bit {n s K : Nat} : ∀ {ss : List (List Int)} {lo a : Nat} {l : List Int}, Ech n lo ss → (∀ t ∈ ss, Sd n s t) → l.length = n → (∀ t ∈ ss, 0 ≤ vec l (hd t) ∧ vec l (hd t) < vec t (hd t)) → Bit a l → ss.length ≤ K →
    ∀ t ∈ tin MG ss l, Bit (a + ss.length * ((K + 1) * (s + 9000)) + s + 18000) t
  | [], lo, a, l, _, _, _, _, hb, _, t, ht => by
    unfold tin at ht
    cases q : decide (hd l < l.length) with
    | true => rw [q, cond_true] at ht; rw [List.mem_singleton.mp ht]; exact (upr_bit hb).mono (by omega)
    | false => rw [q, cond_false] at ht; simp at ht
  | s' :: ss, lo, a, l, e, T, hl, r, hb, hK, t, ht => by
    have T1 := T s' List.mem_cons_self
    have hS : ∀ t ∈ s' :: ss, Bit (a + (s' :: ss).length * ((K + 1) * (s + 9000)) + s + 18000) t := fun t ht => (T t ht).bit.mono (by omega)
    rw [tin_cons] at ht
    cases q : decide (hd l < hd s') with
    | true =>
      rw [q, cond_true] at ht
      rcases List.mem_cons.mp ht with rfl | ht
      · exact (upr_bit hb).mono (by omega)
      · exact hS t ht
    | false =>
      rw [q, cond_false] at ht
      by_cases z : hd l = hd s'
      · rw [show decide (hd l = hd s') = true by simp [z], cond_true] at ht
        have ne := hd_ne (l := l) (by rw [z, hl]; exact T1.hd)
        rw [z] at ne
        have r1 := r s' List.mem_cons_self
        obtain ⟨b1, b2, b3, b4⟩ := mrg_bit T1 hl hb (by omega) r1.2
        rcases List.mem_cons.mp ht with rfl | ht
        · exact b4.mono (by omega)
        · obtain ⟨k1, k2, k3, k4⟩ := low_spec (l := (mrg s' l).2) e.2.2.2.2 b1
          have := tin_bit (K := K) e.2.2.2.2 (fun t ht => T t (List.mem_cons_of_mem _ ht)) k1 k3 (low_bit (fun t ht => T t (List.mem_cons_of_mem _ ht)) b1 b2) (by simp at hK; omega) t ht
          refine this.mono ?_
          have e5 : ss.length * (s + 1) ≤ K * (s + 9000) := Nat.mul_le_mul (by simp at hK; omega) (by omega)
          rw [List.length_cons, Nat.succ_mul ss.length ((K + 1) * (s + 9000))]
          have e6 : (K + 1) * (s + 9000) = K * (s + 9000) + (s + 9000) := Nat.succ_mul _ _
          omega
      · rw [show decide (hd l = hd s') = false by simp [z], cond_false] at ht
        rcases List.mem_cons.mp ht with rfl | ht
        · exact hS t List.mem_cons_self
        · refine (tin_bit (K := K) e.2.2.2.2 (fun t ht => T t (List.mem_cons_of_mem _ ht)) hl (fun t ht => r t (List.mem_cons_of_mem _ ht)) hb (by simp at hK; omega) t ht).mono ?_
          have : ss.length * ((K + 1) * (s + 9000)) ≤ (s' :: ss).length * ((K + 1) * (s + 9000)) := Nat.mul_le_mul_right _ (by simp)
          omega
def StlP (steps : List (List Int)) : Prop := steps.length ≤ 1000 ∧ ∀ j x, steps[j]? = some x → LowP x (stl (steps.drop (j + 1)))
section
variable {steps fl : List (List Int)} {i : Nat} {x : List Int}
theorem stl_get (hx : steps.reverse[i]? = some x) : ∃ j, j + 1 + i = steps.length ∧ steps[j]? = some x ∧ steps.drop j = x :: steps.drop (j + 1) := by
  have hi : i < steps.reverse.length := (List.getElem?_eq_some_iff.mp hx).1
  rw [List.length_reverse] at hi
  rw [List.getElem?_reverse hi] at hx
  have hj : steps.length - 1 - i < steps.length := by omega
  refine ⟨steps.length - 1 - i, by omega, hx, ?_⟩
  rw [List.getElem?_eq_getElem hj] at hx
  rw [List.drop_eq_getElem_cons hj, Option.some.inj hx]
theorem stl_low (h : StlP steps) (hx : steps.reverse[i]? = some x) (e : fl = stl (steps.drop (steps.length - i))) : LowP x fl := by
  obtain ⟨j, h1, h2, h3⟩ := stl_get hx
  rw [e, show steps.length - i = j + 1 by omega]
  exact h.2 j x h2
theorem stl_stp (hx : steps.reverse[i]? = some x) (e : fl = stl (steps.drop (steps.length - i))) {y : List (List Int)} (hy : y = [low x fl] ++ fl) : y = stl (steps.drop (steps.length - (i + 1))) := by
  obtain ⟨j, h1, h2, h3⟩ := stl_get hx
  rw [hy, e, show steps.length - i = j + 1 by omega, show steps.length - (i + 1) = j by omega, h3]
  rfl
theorem stl_len : ∀ {ss : List (List Int)}, (stl ss).length = ss.length
  | [] => rfl
  | s :: ss => by simp [stl, stl_len]
theorem stl_fl (h : StlP steps) (hi : i < steps.length) (e : fl = stl (steps.drop (steps.length - i))) : fl.length ≤ 1000 := by
  rw [e, stl_len, List.length_drop]
  have := h.1
  omega
end
def Fit (n b R : Nat) : Prop := n ≤ 1000 ∧ R ≤ 31 ∧ eB b R ≤ 8980 ∧ b + (min n R + 2) * ((min n R + 1) * (sB b R + 9000)) + 3 * sB b R + 18001 + (min n R + 1) * (sB b R + 1) ≤ 40000000
def ClmP (rows : List (List Int)) : Prop := ∃ n b R, Fit n b R ∧ rows.length ≤ R ∧ ∀ r ∈ rows, r.length = n ∧ Bit b r
section
variable {n b R i : Nat} {rows ss : List (List Int)} {r : List Int}
theorem clm_take (hr : rows[i]? = some r) : clm MG (rows.take (i + 1)) = stl (tin MG (clm MG (rows.take i)) (low r (clm MG (rows.take i)))) := by
  have hi := (List.getElem?_eq_some_iff.mp hr).1
  rw [List.take_succ_eq_append_getElem hi]
  unfold clm
  rw [List.foldl_append]
  rw [List.getElem?_eq_getElem hi] at hr
  rw [← Option.some.inj hr]
  rfl
theorem clm_stairs (h : ∀ r ∈ rows, r.length = n) : Stairs n rows (clm MG rows) ∧ (clm MG rows).length ≤ rows.length := by
  have : ∀ i, i ≤ rows.length → Stairs n (rows.take i) (clm MG (rows.take i)) ∧ (clm MG (rows.take i)).length ≤ i := by
    intro i
    induction i with
    | zero => exact fun _ => ⟨by simpa [clm] using Stairs.nil, by simp [clm]⟩
    | succ i ih =>
      intro hi
      obtain ⟨s1, s2⟩ := ih (by omega)
      have e : rows[i]? = some rows[i] := List.getElem?_eq_getElem (by omega)
      obtain ⟨t1, t2⟩ := s1.step MG (r := rows[i]) (h _ (List.getElem_mem _))
      rw [clm_take e, List.take_succ_eq_append_getElem (by omega)]
      exact ⟨t1, by omega⟩
  obtain ⟨t1, t2⟩ := this rows.length (Nat.le_refl _)
  rw [List.take_length] at t1 t2
  exact ⟨t1, t2⟩
theorem clm_sd (F : Fit n b R) (hl : rows.length ≤ R) (h : ∀ r ∈ rows, r.length = n ∧ Bit b r) : Stairs n rows (clm MG rows) ∧ (clm MG rows).length ≤ min n R ∧ ∀ t ∈ clm MG rows, Sd n (sB b R) t := by
  obtain ⟨s1, s2⟩ := clm_stairs (rows := rows) fun r hr => (h r hr).1
  refine ⟨s1, ?_, fun t ht => ?_⟩
  · have := ech_len s1.ech (Nat.zero_le n)
    omega
  · obtain ⟨a1, a2, a3, a4⟩ := s1.ech.mem t ht
    obtain ⟨b1, b2⟩ := s1.bits F.2.1 hl (fun r hr => (h r hr).2) t ht
    exact ⟨a1, a3, a4, Nat.le_trans b1 (Nat.pow_le_pow_right (by decide) F.2.2.1), b2⟩
theorem clm_low (F : Fit n b R) (hl : rows.length ≤ R) (h : ∀ r ∈ rows, r.length = n ∧ Bit b r) (hr : rows[i]? = some r) (e : ss = clm MG (rows.take i)) : LowP r ss ∧ TinP ss r ∧ StlP (tin MG ss (low r ss)) := by
  subst e
  have hi := (List.getElem?_eq_some_iff.mp hr).1
  have hrm := h r (List.mem_of_getElem? hr)
  obtain ⟨s1, s2, s3⟩ := clm_sd F (rows := rows.take i) (by rw [List.length_take]; omega) fun r hr => h r (List.mem_of_mem_take hr)
  obtain ⟨t1, t2, t3⟩ := clm_sd F (rows := rows.take (i + 1)) (by rw [List.length_take]; omega) fun r hr => h r (List.mem_of_mem_take hr)
  rw [clm_take hr] at t1 t2 t3
  obtain ⟨f1, f2, f3, f4⟩ := F
  generalize clm MG (rows.take i) = ss at *
  generalize hs : sB b R = s at *
  generalize hk : min n R = k at *
  obtain ⟨k1, k2, k3, k4⟩ := low_spec (l := r) s1.ech hrm.1
  have m1 : ss.length * (s + 1) ≤ (k + 1) * (s + 1) := Nat.mul_le_mul_right _ (by omega)
  have m2 : (ss.length + 2) * ((ss.length + 1) * (s + 9000)) ≤ (k + 2) * ((k + 1) * (s + 9000)) := Nat.mul_le_mul (by omega) (Nat.mul_le_mul_right _ (by omega))
  have hk32 : k ≤ 31 := by omega
  refine ⟨⟨n, b, s, f1, hrm.1, by omega, hrm.2, s3, by omega⟩, ⟨n, b, s, f1, s1.ech, s3, hrm.1, hrm.2, by omega, by omega⟩, ?_, fun j x hx => ?_⟩
  · rw [stl_len] at t2; omega
  · have hxm := List.mem_of_getElem? hx
    have g1 := tin_bit (K := k) s1.ech s3 k1 k3 (low_bit s3 hrm.1 hrm.2) s2 x hxm
    obtain ⟨e1, _⟩ := tin_spec MG s1.ech k1 (fun i hi => absurd hi (Nat.not_lt_zero i)) k3 (Nat.zero_le n)
    rw [stl_drop]
    refine ⟨n, _, s, f1, (e1.mem x hxm).1, by rw [List.length_drop]; omega, g1, fun t ht => t3 t (List.mem_of_mem_drop ht), ?_⟩
    have m3 : (List.drop (j + 1) (stl (tin MG ss (low r ss)))).length * (s + 1) ≤ (k + 1) * (s + 1) := Nat.mul_le_mul_right _ (by rw [List.length_drop]; omega)
    have m4 : ss.length * ((k + 1) * (s + 9000)) ≤ k * ((k + 1) * (s + 9000)) := Nat.mul_le_mul_right _ s2
    have m5 : (k + 1) * (s + 1) ≤ (k + 1) * (s + 9000) := Nat.mul_le_mul_left _ (by omega)
    rw [Nat.add_mul k 2] at f4
    omega
end
end Lat

namespace L2
open PySem PySem.Spec PyProof.Rows
section
variable {X : Cx} {K : PySem.W.Frag}
def insN {α : Type} (xs : List α) (k : Nat) (x : α) : List α := xs.take k ++ x :: xs.drop k
def rInsert : V → List V → Hp → VK → Prop := fun x vs H Q => ∃ l xs k y, x = .ref l ∧ vs = [.int (k : Nat), y] ∧ H l = some (.lst xs) ∧ k ≤ xs.length ∧ xs.length < sizeLine ∧ Q .non (upd H l (.lst (insN xs k y)))
def insX (xs : Array Value) (x : Int) (y : Value) : Array Value := (xs.extract 0 (if x < 0 then (x + (xs.size : Int)).toNat else min x.toNat xs.size)).push y ++ xs.extract (if x < 0 then (x + (xs.size : Int)).toNat else min x.toNat xs.size)
theorem call_insert {prog : Program} {w : World} {A : Around} {E : Value → Shared → Prop} {s : Shared} {D : Addr} {its : List Value} {n : Nat} {x : Int} {t : Tok} {y : Value} {Q : Value → Shared → Prop} (e : s.heap.get? D = some { cls := .type "list", data := .seq its.toArray n }) (hf : Builtin.List.listFitsIndex x = true) (hz : its.length ≤ sizeLine)
    (h : Q .none { s with heap := s.heap.update D (Obj.mapSeq fun xs => insX xs x y) }) : wpAny (model prog w) A (call (.builtin "list.insert") [.ref D, .int x t, y]) Q E s := by
  refine call_meets PySem.F.slot_list_insert ⟨_, e, rfl⟩ PySem.F.entry_list_insert (PySem.F.args_list_insert_3 _ _ _) (PySem.AutoSeq1.list_insert_list_int_val_1 D _ n x t y (by simp [hf]) (by rw [List.size_toArray]; exact hz)) ⟨e, ?_⟩
  exact h
theorem insX_eq {its : List Value} {k : Nat} {x : Int} {y : Value} (e : x = (k : Int)) (hk : k ≤ its.length) : insX its.toArray x y = (insN its k y).toArray := by
  have e1 : (if x < 0 then (x + (its.toArray.size : Int)).toNat else min x.toNat its.toArray.size) = k := by
    rw [if_neg (by omega), List.size_toArray, e, Int.toNat_natCast]; omega
  unfold insX insN
  rw [e1]
  apply Array.toList_inj.mp
  simp
  exact List.take_of_length_le (by simp)
theorem mt_insert : MtM X "list.insert" rInsert := by
  intro pins s σ H x vs v us Q I rx rv h
  obtain ⟨l, xs, k, y, rfl, rfl, hH, hk, hz, q⟩ := h
  cases rx
  obtain ⟨u1, u, rfl, ⟨t, rfl⟩, ru⟩ := rv.two
  obtain ⟨z, its, n, r, hl, e⟩ := I.lstM hH
  have hk2 : (k : Int) < 2 ^ 63 := by
    refine Int.lt_of_lt_of_le (b := 33554432) ?_ (by decide)
    have : k < 33554432 := Nat.lt_of_le_of_lt hk (Nat.lt_of_lt_of_le hz (show sizeLine ≤ 33554432 by decide +kernel))
    omega
  have hf : Builtin.List.listFitsIndex (k : Int) = true := fitsIndex_both (Int.le_trans (by decide) (Int.natCast_nonneg k)) hk2
  refine call_insert e hf (by rw [← hl]; exact z) ?_
  refine ⟨.non, _, I.lset (its' := insN its k u) hH e (insX_eq rfl (by omega)) ?_ ?_, rfl, q⟩
  · unfold insN
    exact (r.take k).append (.cons ru (r.drop k))
  · unfold insN
    rw [List.length_append, List.length_cons, List.length_take, List.length_drop]
    omega
theorem pe_insert_K {o e1 e2 : Expr} {to : TE} {t : TA} {apos cpos : Pos} (hK : X.K = K) (ho : PE X o to) (ha : PA X [e1, e2] t)
    (hbase : attributeBase o "insert" X.env (eval o X.env) = eval o X.env := by rfl)
    (hfew : ((backTo cpos (starEach [e1, e2] X.env)).all (fun x => !x.1) && (backToKw cpos (keywordEach [] X.env)).all (fun x => x.1.isSome)
      && decide (([e1, e2] : List Expr).length + ([] : List Keyword).length + (if ([] : List Keyword).isEmpty then 0 else 1) < 30)) = true := by rfl)
    (hline : (apos.endLine == cpos.line) = true := by rfl) (hs : starEach [e1, e2] X.env = (false, eval e1 X.env) :: starEach [e2] X.env := by rfl) (hplain : (backTo cpos (starEach [e2] X.env)).any (·.1) = false := by rfl) :
    PE X (.Call (.Attribute o "insert" apos) [e1, e2] [] cpos) (tBM K "list" rInsert to t) := by
  subst hK
  exact pe_bm PySem.F.plainAttrs_list PySem.F.slot_list_insert PySem.F.type_list_insert mt_insert ho ha hbase hfew hline hs hplain
end
def insZ {α : Type} (xs : List α) (k : Int) (x : α) : List α := insN xs k.toNat x
theorem insZ_len {α : Type} {xs : List α} {k : Int} {x : α} : (insZ xs k x).length = xs.length + 1 := by
  unfold insZ insN
  rw [List.length_append, List.length_cons, List.length_take, List.length_drop]
  omega
theorem insZ_mem {α : Type} {xs : List α} {k : Int} {x y : α} (h : y ∈ insZ xs k x) : y = x ∨ y ∈ xs := by
  unfold insZ insN at h
  rcases List.mem_append.mp h with h | h
  · exact .inr (List.mem_of_mem_take h)
  · rcases List.mem_cons.mp h with h | h
    · exact .inl h
    · exact .inr (List.mem_of_mem_drop h)
section
variable {E : XS} {Γ : Ctx} {te tj : TE} {u : TS} {o : Oc} {m : Bool} {K : PySem.W.Frag} {i j : Nat} {α β : Type} {f : α → Ds}
theorem run_insertM {xs : List α} {x : α} {k : Int} (e : Γ[i]? = some (.ow m (xs.map f))) (hj : Ev Γ tj false (dI k)) (h : Ev Γ te m (f x)) (hk : 0 ≤ k ∧ k ≤ (xs.length : Int)) (hz : xs.length < sizeLine) (kk : Run E (Γ.set i (.ow m ((insZ xs k x).map f))) u o) :
    Run E Γ (tSeq (tDrop (tBM K "list" rInsert (tVar i) (tCons tj (tCons te tNil)))) u) o := fun F0 Hb F H σ own D a q => by
  obtain ⟨p, vs, e1, e2, e3, e4, e5, e6⟩ := own_at a e
  refine ⟨_, e1, .inl ⟨rfl, _, SqL.of e5⟩, ?_⟩
  refine hj F0 Hb F H σ own _ a fun vj F1 H1 g1 qj => ?_
  have qj : vj = .int k := qj
  subst qj
  refine h F0 Hb F1 H1 σ own _ (a.grow g1) fun v F' H' g qv => ?_
  obtain ⟨p', vs', f1, f2, f3, f4, f5, f6⟩ := own_at (a.grow (g1.trans g)) e
  rw [e1] at f1
  cases f1
  have hl : vs'.length = xs.length := by rw [Paired.length f6, List.length_map]
  refine ⟨p, vs', k.toNat, v, rfl, by rw [Int.toNat_of_nonneg hk.1], f5, by omega, by omega, kk F0 Hb F' _ σ own D ?_ q⟩
  have em : (insZ xs k x).map f = (xs.map f).take k.toNat ++ f x :: (xs.map f).drop k.toNat := by
    unfold insZ insN
    rw [List.map_append, List.map_cons, List.map_take, List.map_drop]
  rw [em]
  exact (a.grow (g1.trans g)).turn e e1 (paired_append (paired_take _ f6) (.cons qv (paired_drop _ f6)))
end
section
variable {E : XS} {Γ : Ctx} {u : TS} {o : Oc} {K : PySem.W.Frag} {i j : Nat}
end
end L2
namespace L2
open PySem PySem.Spec PyProof.Rows
end L2

namespace Lat
open L2
def RB (w b : Nat) (rows : List (List Int)) : Prop := ∀ r ∈ rows, r.length = w ∧ Bit b r
theorem RB.mono {w b c : Nat} {rows : List (List Int)} (h : RB w b rows) (k : b ≤ c) : RB w c rows := fun r hr => ⟨(h r hr).1, (h r hr).2.mono k⟩
theorem setZ_mem {α : Type} {xs : List α} {i : Int} {x y : α} (h : y ∈ setZ xs i x) : y = x ∨ y ∈ xs := by
  unfold setZ at h
  split at h
  · rcases List.mem_or_eq_of_mem_set h with h | h
    · exact .inr h
    · exact .inl h
  · exact .inr h
theorem RB.setZ {w b : Nat} {rows : List (List Int)} {i : Int} {r : List Int} (h : RB w b rows) (hr : r.length = w ∧ Bit b r) : RB w b (setZ rows i r) := fun y hy => by
  rcases setZ_mem hy with rfl | hy
  · exact hr
  · exact h y hy
theorem RB.insZ {w b : Nat} {rows : List (List Int)} {i : Int} {r : List Int} (h : RB w b rows) (hr : r.length = w ∧ Bit b r) : RB w b (insZ rows i r) := fun y hy => by
  rcases insZ_mem hy with rfl | hy
  · exact hr
  · exact h y hy
theorem bit_mul {b : Nat} {l : List Int} {c : Int} (h : Bit b l) (hc : c.natAbs ≤ 16) : Bit (b + 4) (List.map (fun (x : Int) => x * c) l) := fun y hy => by
  obtain ⟨x, hx, rfl⟩ := List.mem_map.mp hy
  rw [Int.natAbs_mul, Nat.pow_add]
  exact Nat.mul_le_mul (h x hx) hc
theorem bit_two {b : Nat} {l t : List Int} {c d : Int} (h : Bit b l) (k : Bit b t) (hc : c.natAbs ≤ 4) (hd : d.natAbs ≤ 4) : Bit (b + 3) (List.map (fun (x : Int × Int) => (c * x.1) + (d * x.2)) (List.zip l t)) := fun y hy => by
  obtain ⟨x, hx, rfl⟩ := List.mem_map.mp hy
  obtain ⟨h1, h2⟩ := List.of_mem_zip (a := x.1) (b := x.2) hx
  have e1 : (c * x.1).natAbs ≤ 4 * 2 ^ b := by rw [Int.natAbs_mul]; exact Nat.mul_le_mul hc (h _ h1)
  have e2 : (d * x.2).natAbs ≤ 4 * 2 ^ b := by rw [Int.natAbs_mul]; exact Nat.mul_le_mul hd (k _ h2)
  have e3 : 2 ^ (b + 3) = 8 * 2 ^ b := by rw [Nat.pow_add]; omega
  omega
theorem cut_rows {xs : List Int} {a w : Nat} (h : a + w ≤ xs.length) : (cutD xs (some (a : Int)) (some ((a : Int) + (w : Int)))).length = w := by
  rw [show ((a : Int) + (w : Int)) = ((a + w : Nat) : Int) by omega]
  unfold cutD
  rw [HT.sIx_nat, HT.sIx_nat, List.length_take, List.length_drop]
  omega
theorem cut_mem {α : Type} {xs : List α} {lo hi : Option Int} {x : α} (h : x ∈ cutD xs lo hi) : x ∈ xs := List.mem_of_mem_drop (List.mem_of_mem_take h)
theorem bit_cut {b : Nat} {xs : List Int} {lo hi : Option Int} (h : Bit b xs) : Bit b (cutD xs lo hi) := fun x hx => h x (cut_mem hx)
theorem fold_app {α β : Type} (g : α → β) : ∀ (xs : List α) (acc : List β), List.foldl (fun s x => s ++ [g x]) acc xs = acc ++ xs.map g
  | [], acc => by simp
  | x :: xs, acc => by rw [List.foldl_cons, fold_app g xs]; simp
end Lat

namespace Lat
theorem ech_zero2 {n : Nat} : ∀ {ss : List (List Int)} {lo : Nat} {u : Vc}, Ech n lo ss → SpL ss u → (∀ t ∈ ss, -vec t (hd t) < u (hd t) ∧ u (hd t) < vec t (hd t)) → ∀ i, u i = 0
  | [], _, u, _, h, _, i => Sp.at0 (fun _ ⟨_, z, _⟩ => by simp at z) h
  | s :: ss, lo, u, e, h, k, i => by
    obtain ⟨w, y, hw, hu⟩ := h.cons
    have e1 := SpL.before e.2.2.2.2 (Nat.lt_succ_self (hd s)) hw
    have e2 := hu (hd s)
    have e3 := k s List.mem_cons_self
    have e4 := e.2.2.2.1
    rw [e1] at e2
    have y0 : y = 0 := by
      rw [e2, Int.zero_add] at e3
      refine Classical.byContradiction fun q => ?_
      rcases Int.lt_or_gt_of_ne q with q | q
      · have := Int.mul_le_mul_of_nonneg_right (show y ≤ (-1 : Int) by omega) (Int.le_of_lt e4)
        omega
      · have := Int.mul_le_mul_of_nonneg_right (show (1 : Int) ≤ y by omega) (Int.le_of_lt e4)
        omega
    have hu' : ∀ i, u i = w i := fun i => by rw [hu i, y0]; omega
    have : u = w := funext hu'
    subst this
    exact ech_zero2 e.2.2.2.2 hw (fun t ht => k t (List.mem_cons_of_mem _ ht)) i
theorem SpL.tail {n lo : Nat} {s : List Int} {ss : List (List Int)} {u : Vc} (e : Ech n lo (s :: ss)) (h : SpL (s :: ss) u) (h0 : u (hd s) = 0) : SpL ss u := by
  obtain ⟨w, y, hw, hu⟩ := h.cons
  have e1 := SpL.before e.2.2.2.2 (Nat.lt_succ_self (hd s)) hw
  have e2 := hu (hd s)
  rw [e1, h0, Int.zero_add] at e2
  have y0 : y = 0 := (Int.mul_eq_zero.mp e2.symm).resolve_right (by have := e.2.2.2.1; omega)
  exact hw.conv fun i => by rw [hu i, y0]; omega
theorem ech_one {n : Nat} : ∀ {ss tt : List (List Int)} {lo lo' : Nat}, Ech n lo ss → Red ss → Ech n lo' tt → Red tt → (∀ t ∈ ss, SpL tt (vec t)) → (∀ t ∈ tt, SpL ss (vec t)) → ss = tt
  | [], [], _, _, _, _, _, _, _, _ => rfl
  | [], t :: tt, _, _, _, _, e, _, _, k => by
    have := Sp.at0 (i := hd t) (fun _ ⟨_, z, _⟩ => by simp at z) (k t List.mem_cons_self)
    have := e.2.2.2.1
    omega
  | s :: ss, [], _, _, e, _, _, _, k, _ => by
    have := Sp.at0 (i := hd s) (fun _ ⟨_, z, _⟩ => by simp at z) (k s List.mem_cons_self)
    have := e.2.2.2.1
    omega
  | s :: ss, t :: tt, lo, lo', e, r, e', r', k, k' => by
    have ks := k s List.mem_cons_self
    have kt := k' t List.mem_cons_self
    have ps := e.2.2.2.1
    have pt := e'.2.2.2.1
    have hh : hd s = hd t := by
      obtain ⟨x, hx, ex⟩ := ech_head e' ks (fun i hi => hd_zero hi) (by omega)
      obtain ⟨y, hy, ey⟩ := ech_head e kt (fun i hi => hd_zero hi) (by omega)
      have h1 : hd t ≤ hd s := by
        rcases List.mem_cons.mp hx with rfl | hx
        · omega
        · have := (Ech.mem e'.2.2.2.2 x hx).2.1; omega
      have h2 : hd s ≤ hd t := by
        rcases List.mem_cons.mp hy with rfl | hy
        · omega
        · have := (Ech.mem e.2.2.2.2 y hy).2.1; omega
      omega
    have hn : vec s (hd s) = vec t (hd t) := by
      have d1 := ech_dvd e' ks List.mem_cons_self (fun i hi => hd_zero (by omega))
      have d2 := ech_dvd e kt List.mem_cons_self (fun i hi => hd_zero (by omega))
      rw [← hh] at d1
      rw [hh] at d2
      have d1' : vec t (hd t) ∣ vec s (hd s) := by rw [← hh]; exact d1
      have d2' : vec s (hd s) ∣ vec t (hd t) := by rw [hh] at ps ⊢; exact d2
      exact Int.dvd_antisymm (by omega) (by omega) d2' d1'
    have tails : ss = tt := ech_one e.2.2.2.2 r.2 e'.2.2.2.2 r'.2 (fun x hx => by
      refine SpL.tail e' (k x (List.mem_cons_of_mem _ hx)) ?_
      exact hd_zero (by have := (Ech.mem e.2.2.2.2 x hx).2.1; omega)) fun x hx => by
      refine SpL.tail e (k' x (List.mem_cons_of_mem _ hx)) ?_
      exact hd_zero (by have := (Ech.mem e'.2.2.2.2 x hx).2.1; omega)
    subst tails
    have hst : s = t := by
      refine vec_ext (by rw [e.1, e'.1]) fun i => ?_
      have := ech_zero2 (u := fun i => vec s i - vec t i) e'.2.2.2.2 (SpL.tail e' ((Sp.lin 1 (-1) ks (SpL.mem List.mem_cons_self)).conv fun i => by omega) (by rw [← hh] at hn ⊢; omega)) (fun x hx => by
        have h1 := r.1 x hx
        have h2 := r'.1 x hx
        show -vec x (hd x) < vec s (hd x) - vec t (hd x) ∧ vec s (hd x) - vec t (hd x) < vec x (hd x)
        omega) i
      have this : vec s i - vec t i = 0 := this
      omega
    rw [hst]
theorem Stairs.one {n : Nat} {rows rows' ss tt : List (List Int)} (h : Stairs n rows ss) (h' : Stairs n rows' tt) (k : ∀ r ∈ rows, SpL rows' (vec r)) (k' : ∀ r ∈ rows', SpL rows (vec r)) : ss = tt :=
  ech_one h.ech h.red h'.ech h'.red (fun t ht => ((h.inn t ht).sub k).sub h'.out) fun t ht => ((h'.inn t ht).sub k').sub h.out
theorem vec_take {l : List Int} {n i : Nat} : vec (l.take n) i = if i < n then vec l i else 0 := by
  unfold vec
  rw [List.getD_eq_getElem?_getD, List.getD_eq_getElem?_getD, List.getElem?_take]
  split <;> rfl
theorem hd_take {l : List Int} {n : Nat} (h : hd l < n) (hl : hd l < l.length) : hd (l.take n) = hd l := hd_is (by rw [vec_take, if_pos h]; exact hd_ne hl) fun i hi => by
  rw [vec_take]
  split
  · exact hd_zero hi
  · rfl
def cutS (n : Nat) (ss : List (List Int)) : List (List Int) := List.map (fun (x : List Int) => x.take n) (List.filter (fun (x : List Int) => decide (hd x < n)) ss)
def Led (n k : Nat) (rows : List (List Int)) (u : Vc) : Prop := ∀ j, j < n → u j = comb (List.map (fun i => u (n + i)) (List.range k)) (rows.map vec) j
theorem Led.sp {n k : Nat} {rows : List (List Int)} {A : Vc → Prop} {u : Vc} (hk : rows.length = k) (hA : ∀ a, A a → Led n k rows a) (h : Sp A u) : Led n k rows u := by
  induction h with
  | zero =>
    intro j _
    have := comb_smul (xs := List.map (fun i => (0 : Int)) (List.range k)) (as := rows.map vec) 0 j
    rw [List.map_map] at this
    have e : (List.map ((fun x => (0 : Int) * x) ∘ fun (i : Nat) => (0 : Int)) (List.range k)) = List.map (fun _ => (0 : Int)) (List.range k) := List.map_congr_left fun _ _ => rfl
    rw [e] at this
    show (0 : Int) = comb (List.map (fun (_ : Nat) => (0 : Int)) (List.range k)) (rows.map vec) j
    omega
  | @add u a z _ ha ih =>
    intro j hj
    have e1 := ih j hj
    have e2 := hA a ha j hj
    have e3 : ∀ (xs : List Nat) (as : List Vc), comb (List.map (fun i => u (n + i) + z * a (n + i)) xs) as j = comb (List.map (fun i => u (n + i)) xs) as j + z * comb (List.map (fun i => a (n + i)) xs) as j := by
      intro xs
      induction xs with
      | nil => intro as; simp [comb]
      | cons x xs ihx =>
        intro as
        match as with
        | [] => simp [comb]
        | b :: as =>
          simp only [List.map_cons, comb, ihx as]
          grind
    show u j + z * a j = comb (List.map (fun i => u (n + i) + z * a (n + i)) (List.range k)) (rows.map vec) j
    rw [e3, ← e1, ← e2]
end Lat
namespace L2
open PySem PySem.Spec PyProof.Rows
end L2
namespace Lat
open L2
def unit (k : Nat) (i : Int) : List Int := setZ (repZ (k : Int) [(0 : Int)]) i (1 : Int)
def mark (rows : List (List Int)) : List (List Int) := List.map (fun (x : Int × List Int) => x.2 ++ unit rows.length x.1) (enumZ rows)
structure Tr (n : Nat) (rows ss : List (List Int)) : Prop where
  st : Stairs (n + rows.length) (mark rows) ss
  sw : Stairs n rows (cutS n ss)
  led : ∀ t ∈ ss, Led n rows.length rows (vec t)
end Lat
namespace Lat
theorem vec_lin : ∀ {l t : List Int} {q : Int} {i : Nat}, l.length = t.length → vec (List.map (fun (x : Int × Int) => x.1 + (q * x.2)) (List.zip l t)) i = vec l i + q * vec t i
  | [], [], q, i, _ => by simp [vec]
  | a :: l, b :: t, q, 0, _ => rfl
  | a :: l, b :: t, q, i + 1, h => by
    rw [vec_consS, vec_consS, ← vec_lin (l := l) (t := t) (by simpa using h)]
    exact vec_consS
end Lat
namespace Lat
theorem Sd.take {m n s : Nat} {t : List Int} (h : Sd m s t) (hn : Lat.hd t < n) (hm : n ≤ m) : Sd n s (t.take n) := by
  have e := hd_take hn (by rw [h.len]; exact h.hd)
  exact ⟨by rw [List.length_take, h.len]; omega, by rw [e]; exact hn, by rw [e, vec_take, if_pos hn]; exact h.pos, by rw [e, vec_take, if_pos hn]; exact h.top, fun x hx => h.bit x (List.mem_of_mem_take hx)⟩
end Lat

namespace L2
open PySem PySem.Spec PyProof.Rows
section
variable {X : Cx} {K : PySem.W.Frag} {pos : Pos}
end
section
variable {E : XS} {Γ : Ctx} {te ta tb : TE} {u : TS} {o : Oc} {m : Bool} {K : PySem.W.Frag} {i j l : Nat} {α β : Type} {f : α → Ds}
end
end L2

namespace Lat
open L2
end Lat

namespace L2
open PySem PySem.Spec PyProof.Rows
section
variable {X : Cx}
theorem ExcAt.imp {h : Heap} {H : Hp} {Fz Fz' : Addr → Prop} {L e : Addr} {cls : Value} {dct : Option Addr} (x : ExcAt h H Fz L e cls dct) (k : ∀ b, Fz b → Fz' b) : ExcAt h H Fz' L e cls dct := by
  obtain ⟨oe, vs, a0, h1, h2, h3, h4, h5, h6, h7, h8, h9⟩ := x
  refine ⟨oe, vs, a0, h1, h2, h3, h4, h5, h6, h7, k _ h8, ?_⟩
  rcases h9 with h9 | ⟨T, oT, ts, t1, t2, t3, t4, t5, t6, t7⟩
  · exact .inl h9
  · exact .inr ⟨T, oT, ts, t1, t2, t3, t4, t5, t6, k _ t7⟩
end
end L2
namespace L2
open PySem PySem.Spec PyProof.Rows
section
variable {E : XS} {Γ Γx : Ctx} {m : Bool} {α β ε S : Type} {u : TS} {ds : List Ds}
end
end L2

namespace L2
open PySem PySem.Spec PyProof.Rows
def RowIn (R : Hp) (v : V) (ns : List Int) : Prop := ∃ r, v = .ref r ∧ R r = some (.lst (List.map V.int ns))
def dRI (nss : List (List Int)) : Ds := ⟨fun R v => ∃ p vs, v = .ref p ∧ R p = some (.lst vs) ∧ vs.Nodup ∧ V.ref p ∉ vs ∧ Paired (RowIn R) vs nss, fun e ⟨p, vs, h1, h2, h3, h4, h5⟩ => ⟨p, vs, h1, e _ _ h2, h3, h4, paired_imp (fun _ _ ⟨r, q1, q2⟩ => ⟨r, q1, e _ _ q2⟩) h5⟩⟩
section
variable {Γ : Ctx} {m : Bool} {K : PySem.W.Frag} {γ : Type} {te tj : TE} {i : Nat} {nss : List (List Int)}
end
section
variable {E : XS} {Γ : Ctx} {m : Bool} {K : PySem.W.Frag} {te tj : TE} {u : TS} {o : Oc} {i : Nat} {nss : List (List Int)}
theorem rows_set {R : Hp} {r : Addr} {new : List Int} : ∀ {vs : List V} {nss : List (List Int)} {j : Nat}, Paired (RowIn R) vs nss → vs.Nodup → vs[j]? = some (.ref r) → Paired (RowIn (upd R r (.lst (new.map V.int)))) vs (nss.set j new)
  | _, _, _, .nil, _, h => by simp at h
  | v :: vs, ns :: nss, 0, .cons q t, hN, h => by
    have h : v = .ref r := by simpa using h
    subst h
    refine .cons ⟨r, rfl, upd_same⟩ ?_
    have hn1 := (List.nodup_cons.mp hN).1
    clear q h hN
    induction t with
    | nil => exact .nil
    | @cons a b as bs q t ih =>
      obtain ⟨r', rfl, q2⟩ := q
      have hne : r' ≠ r := fun z => hn1 (by rw [z]; exact List.mem_cons_self)
      exact .cons ⟨r', rfl, by rw [upd_ne hne]; exact q2⟩ (ih fun z => hn1 (List.mem_cons_of_mem _ z))
  | v :: vs, ns :: nss, j + 1, .cons q t, hN, h => by
    have hN := List.nodup_cons.mp hN
    have h : vs[j]? = some (.ref r) := by simpa using h
    obtain ⟨r', rfl, q2⟩ := q
    have hne : r' ≠ r := fun z => hN.1 (by rw [z]; exact List.mem_of_getElem? h)
    exact .cons ⟨r', rfl, by rw [upd_ne hne]; exact q2⟩ (rows_set t hN.2 h)
theorem At.row {F0 Hb F H : Hp} {σ : St} {own : Nat → Option Addr} (a : At F0 Hb F H σ own Γ) (e : Γ[i]? = some (.tl (dRI nss))) (hno : noOb Γ = true) {k : Int} (hk : InB nss.length k) :
    ∃ p vs r, σ[i]? = some (some (.ref p)) ∧ H p = some (.lst vs) ∧ atI vs k = some (.ref r) ∧ H r = some (.lst ((ixD nss k).map V.int)) ∧ ∀ (H' : Hp) (new : List Int), Same H H' → At F0 Hb F (upd H' r (.lst (new.map V.int))) σ own ((unC Γ).set i (.tl (dRI (setZ nss k new)))) := by
  obtain ⟨x, R, h1, h2, h3, h4, p, vs, rfl, h6, h7, h8, h9⟩ := a.sl i _ e
  have hi : i < σ.length := by rw [a.len]; exact (List.getElem?_eq_some_iff.mp e).1
  have e' : σ[i]? = some (some (.ref p)) := by
    rw [List.getElem?_eq_getElem hi] at h1 ⊢
    exact congrArg some h1
  have hl := Paired.length h9
  obtain ⟨j, ej, hj, _⟩ := ixN_ok hk
  obtain ⟨v, ev, ⟨r, rfl, hr⟩⟩ := paired_get h9 (List.getElem?_eq_getElem (l := nss) (i := j) hj)
  have ex : ixD nss k = nss[j] := by
    unfold ixD atI
    rw [ej]
    show (nss[j]?).getD default = _
    rw [List.getElem?_eq_getElem hj]; rfl
  have es : ∀ new, setZ nss k new = nss.set j new := fun new => by unfold setZ; rw [ej]
  have rF := h3 r _ hr
  have rO : ∀ l, own l ≠ some r := fun l z => by rw [h4 l r z] at hr; cases hr
  have rp : p ≠ r := fun z => h8 (by rw [z]; exact List.mem_of_getElem? ev)
  refine ⟨p, vs, r, e', h2 _ _ h6, ?_, by rw [ex]; exact h2 _ _ hr, fun H' new hs => ?_⟩
  · unfold atI
    rw [hl, ej]
    exact ev
  · have a1 := (a.grow (Grow.only a.fh hs)).spoil hno (.lst (new.map V.int)) rF.1 rF.2 rO
    refine ⟨a1.g, a1.inj, a1.liv, fun l s es' => ?_, by rw [List.length_set]; exact a1.len⟩
    by_cases z : i = l
    · subst z
      rw [List.getElem?_set_self (by rw [← a1.len]; exact hi)] at es'
      cases es'
      rw [e']
      refine ⟨.ref p, upd R r (.lst (new.map V.int)), rfl, fun b w q => ?_, fun b w q => ?_, fun l' b q => ?_, p, vs, rfl, by rw [upd_ne rp]; exact h6, h7, h8, by rw [es]; exact rows_set h9 h7 ev⟩
      · by_cases y : b = r
        · subst y; rw [upd_same] at q ⊢; exact q
        · rw [upd_ne y] at q ⊢; exact hs _ _ (h2 _ _ q)
      · by_cases y : b = r
        · subst y; exact rF
        · rw [upd_ne y] at q; exact h3 b w q
      · have y : b ≠ r := fun y => rO l' (y ▸ q)
        rw [upd_ne y]; exact h4 l' b q
    · rw [List.getElem?_set_ne z] at es'
      exact a1.sl l s es'
end
end L2

namespace L2
open PySem PySem.Spec PyProof.Rows

section
variable {E : XS} {Γ Δ : Ctx} {m : Bool} {K : PySem.W.Frag} {te ta tb : TE} {t u : TS} {d : Ds} {ds es : List Ds} {o : Oc} {i j : Nat}
theorem run_seq_rw (h : Ev Γ te false d) (w : Wk Γ Δ) : Run E Γ (tSeq (tRet te) u) (.rw Δ d) := fun F0 Hb F H σ own D a k =>
  h F0 Hb F H σ own _ a fun v F' H' g q => k v F' H' σ own ((a.grow g).wk w) q
def SpvW {ι : Type} (ow : ι → List Ds) (args : ι → List Ds) (pre : ι → Prop) (res : ι → Ds) (ow' : ι → List Ds) : Sp := fun vs H Q _ => ∃ (i : ι) (p : Addr) (us ws : List V) (H1 F : Hp), vs = .ref p :: ws ∧ H1 p = none ∧ H = upd H1 p (.lst us) ∧ Same F H1 ∧
  Paired (fun v (d : Ds) => d.pr F v) us (ow i) ∧ Paired (fun v (d : Ds) => d.pr F v) ws (args i) ∧ pre i ∧ ∀ v us' F' H', Grow F H1 F' H' → F' p = none → H' p = some (.lst us') → Paired (fun v (d : Ds) => d.pr F' v) us' (ow' i) → (res i).pr F' v → Q v H'
def startW (p : Addr) (N : List Str) (ds es : List Ds) : Ctx := .ol p ds :: (es.map (.va false) ++ List.replicate (N.length - (es.length + 1)) .no)
theorem startW_at {F H1 : Hp} {p : Addr} {N : List Str} {us ws : List V} {ds es : List Ds} (hF : Same F H1) (hu : Paired (fun v (d : Ds) => d.pr F v) us ds) (hv : Paired (fun v (d : Ds) => d.pr F v) ws es) (h1 : H1 p = none) :
    At F H1 F (upd H1 p (.lst us)) (start N (.ref p :: ws)) (fun i => if i = 0 then some p else none) (startW p N ds es) := by
  have hl := Paired.length hv
  have g : Grow F H1 F (upd H1 p (.lst us)) := (Grow.refl hF).newH h1
  refine ⟨g, fun i j q e1 e2 => ?_, fun i q e => ?_, fun i s e => ?_, ?_⟩
  · split at e1
    · split at e2
      · omega
      · cases e2
    · cases e1
  · split at e
    · cases e; rw [upd_same]; simp
    · cases e
  · cases i with
    | zero =>
      have e' : Slot.ol p ds = s := Option.some.inj e
      subst e'
      exact ⟨us, rfl, rfl, hF.free h1, h1, upd_same, hu⟩
    | succ i =>
      have e : (es.map (Slot.va false) ++ List.replicate (N.length - (es.length + 1)) Slot.no)[i]? = some s := e
      show SlotOk H1 F _ _ _ ((ws.map some ++ List.replicate (N.length - (ws.length + 1)) none)[i]?).join s
      by_cases hi : i < es.length
      · rw [List.getElem?_append_left (by simpa using hi), List.getElem?_map] at e
        rw [List.getElem?_append_left (by simpa [hl] using hi), List.getElem?_map]
        obtain ⟨v, ev, rv⟩ := paired_get hv (List.getElem?_eq_getElem hi)
        rw [List.getElem?_eq_getElem hi] at e
        have e' : Slot.va false es[i] = s := Option.some.inj e
        subst e'
        exact ⟨v, by rw [ev]; rfl, rv⟩
      · rw [List.getElem?_append_right (by simpa using hi), List.getElem?_replicate] at e
        split at e
        · cases e; trivial
        · cases e
  · unfold start startW; simp [hl]
end
section
variable {P : Program} {w : World} {K : PySem.W.Frag} {mg : Str → Option Value} {base : Heap} {x qual : Str} {st : Stmt} {f : Addr} {fd : FuncData} {N ps : List Str} {k : Nat}
theorem Fun.okW {ι : Type} {ow args : ι → List Ds} {pre : ι → Prop} {res : ι → Ds} {ow' : ι → List Ds} (F : Fun K x qual st f fd) (S : FnScope N ps (defScope st)) (hl : ∀ i, (args i).length + 1 = ps.length)
    (hbody : ∀ (cdv : Value) (A : Around) (outer : List Env) (s : Shared) (H : Hp) (E : XK) (i : ι), Room k (A.deeper (envOfC qual (defScope st) s.heap.objs.size f cdv)) → pre i →
      ∃ t, PSs (cxOf (CXE P w) P w K mg base N qual (defScope st) f cdv A outer s H E).nox (defBody st) t ∧ ∀ p, ∃ Δ, Run (fun _ => E) (startW p N (ow i) (args i)) t (.rw Δ (res i)) ∧ Δ[0]? = some (.ol p (ow' i))) : FnOk P w K mg base (CXE P w) (k + 1) f fd ps (SpvW ow args pre res ow') := by
  refine F.okX S (fun vs H Q E ⟨i, p, us, ws, H1, F', e, _, _, _, _, hv, _⟩ => by rw [e, List.length_cons, Paired.length hv]; exact hl i) fun cdv A outer s H vs Q E hr ⟨i, p, us, ws, H1, F', e, h1, h4, hF, hu, hv, hp, hq⟩ => ?_
  subst e h4
  obtain ⟨t, t1, t2⟩ := hbody cdv A outer s _ E i hr hp
  obtain ⟨Δ, t2, t3⟩ := t2 p
  refine ⟨_, pssx_lift t1, ?_⟩
  refine t2 F' H1 F' _ _ _ _ (startW_at hF hu hv h1) fun v F2 H2 σ2 own2 a2 q2 => ?_
  obtain ⟨us', e1, e2, e3, e4, e5, e6⟩ := a2.sl 0 _ t3
  exact hq v us' F2 H2 a2.g e3 e5 e6 q2
end

section
variable {E : XS} {Γ Δ : Ctx} {m : Bool} {K : PySem.W.Frag} {te ta tb tj : TE} {t u : TS} {d : Ds} {ds es : List Ds} {o : Oc} {i j : Nat} {p : Addr} {α β : Type} {f : α → Ds} {xs : List α}
theorem ol_at {F0 Hb F H : Hp} {σ : St} {own : Nat → Option Addr} (a : At F0 Hb F H σ own Γ) (e : Γ[i]? = some (.ol p ds)) :
    ∃ vs, σ[i]? = some (some (.ref p)) ∧ own i = some p ∧ F p = none ∧ Hb p = none ∧ H p = some (.lst vs) ∧ Paired (fun v (d : Ds) => d.pr F v) vs ds := by
  obtain ⟨vs, e1, e2, e3, e4, e5, e6⟩ := a.sl i _ e
  have hi : i < σ.length := by rw [a.len]; exact (List.getElem?_eq_some_iff.mp e).1
  rw [List.getElem?_eq_getElem hi] at e1
  have e' : σ[i] = some (.ref p) := e1
  exact ⟨vs, by rw [List.getElem?_eq_getElem hi, e'], e2, e3, e4, e5, e6⟩
theorem run_appendP {x : α} (e : Γ[i]? = some (.ol p (xs.map f))) (h : Ev Γ te false (f x)) (hz : xs.length < sizeLine) (k : Run E (Γ.set i (.ol p ((xs ++ [x]).map f))) u o) : Run E Γ (tSeq (tDrop (tBM K "list" rAppend (tVar i) (tCons te tNil))) u) o := fun F0 Hb F H σ own D a q => by
  obtain ⟨vs, e1, e2, e3, e4, e5, e6⟩ := ol_at a e
  refine ⟨_, e1, .inl ⟨rfl, _, SqL.of e5⟩, ?_⟩
  refine h F0 Hb F H σ own _ a fun v F' H' g qv => ?_
  obtain ⟨vs', f1, f2, f3, f4, f5, f6⟩ := ol_at (a.grow g) e
  refine ⟨p, vs', v, rfl, rfl, f5, by rw [Paired.length f6, List.length_map]; exact hz, k F0 Hb F' _ σ own D ((a.grow g).turnP e ?_) q⟩
  rw [List.map_append]
  exact paired_append f6 (.cons qv .nil)
theorem ev_olIx {j : Int} [Inhabited α] (e : Γ[i]? = some (.ol p (xs.map f))) (h2 : Ev Γ tb false (dI j)) (hb : InB xs.length j) : Ev Γ (tOp (rIxL K) (tVar i) tb) false (f (ixD xs j)) := fun F0 Hb F H σ own Q a k => by
  obtain ⟨vs, e1, e2, e3, e4, e5, e6⟩ := ol_at a e
  refine ⟨_, e1, h2 F0 Hb F H σ own _ a fun v F' H' g qv => ?_⟩
  obtain ⟨x, ex, rx⟩ := atI_paired e6 (atI_map (f := f) (ixD_ok hb))
  exact ⟨p, vs, j, x, rfl, qv, SqL.of (g.h _ _ e5), ex, k x F' H' g ((f (ixD xs j)).up g.f rx)⟩
theorem ev_olLen {n : Bool} (e : Γ[i]? = some (.ol p (xs.map f))) : Ev Γ (tCB (fun xs H Q => ∃ p ys, xs = [.ref p] ∧ (SqL K H p ys ∨ SqT K H p ys) ∧ Q (.int ys.length) H) (tCons (tVar i) tNil)) n (dI xs.length) := fun F0 Hb F H σ own Q a k => by
  obtain ⟨vs, e1, e2, e3, e4, e5, e6⟩ := ol_at a e
  exact ⟨_, e1, p, vs, rfl, .inl (SqL.of e5), k _ F H (Grow.refl a.fh) (by show V.int _ = _; rw [Paired.length e6, List.length_map])⟩
theorem run_setixP {x : α} {j : Int} (e : Γ[i]? = some (.ol p (xs.map f))) (h : Ev Γ te false (f x)) (hj : Ev Γ tj false (dI j)) (hb : InB xs.length j) (k : Run E (Γ.set i (.ol p ((setZ xs j x).map f))) u o) : Run E Γ (tSeq (tAsg te (gSub (tVar i) tj rSetL)) u) o := fun F0 Hb F H σ own D a q => by
  obtain ⟨n, en, hn, _⟩ := ixN_ok hb
  unfold setZ at k
  rw [en] at k
  have k : Run E (Γ.set i (.ol p ((xs.set n x).map f))) u o := k
  refine h F0 Hb F H σ own _ a fun v F' H' g qv => ?_
  obtain ⟨vs, e1, e2, e3, e4, e5, e6⟩ := ol_at (a.grow g) e
  refine ⟨_, e1, hj F0 Hb F' H' σ own _ (a.grow g) fun w F2 H2 g2 qw => ?_⟩
  obtain ⟨vs', f1, f2, f3, f4, f5, f6⟩ := ol_at ((a.grow g).grow g2) e
  refine ⟨p, vs', j, n, rfl, qw, f5, by rw [Paired.length f6, List.length_map]; exact en, k F0 Hb F2 _ σ own D (((a.grow g).grow g2).turnP e ?_) q⟩
  rw [List.map_set]
  exact paired_set (R := fun v (d : Ds) => d.pr F2 v) ((f x).up g2.f qv) n f6
def EvM (Γ Δ : Ctx) (t : TE) (d : Ds) : Prop := ∀ (F0 Hb F H : Hp) (σ : St) (own : Nat → Option Addr) (Q : VK), At F0 Hb F H σ own Γ → (∀ v F' H', At F0 Hb F' H' σ own Δ → d.pr F' v → Q v H') → t σ H Q
def hole (H : Hp) (p : Addr) : Hp := fun a => if a = p then none else H a
theorem hole_same {H : Hp} {p : Addr} : hole H p p = none := if_pos rfl
theorem hole_ne {H : Hp} {p a : Addr} (h : a ≠ p) : hole H p a = H a := if_neg h
theorem hole_upd {H : Hp} {p : Addr} {o : HO} (h : H p = some o) : H = upd (hole H p) p o := funext fun a => by
  by_cases z : a = p
  · subst z; rw [upd_same]; exact h
  · rw [upd_ne z, hole_ne z]
theorem hole_sub {F H : Hp} {p : Addr} (e : Same F H) (h : F p = none) : Same F (hole H p) := fun a o q => by
  rw [hole_ne (ne_of_none q h)]; exact e a o q
theorem At.deed {F0 Hb F H F' H' : Hp} {σ : St} {own : Nat → Option Addr} (a : At F0 Hb F H σ own Γ) (e : Γ[i]? = some (.ow m ds)) (eo : own i = some p) (hf : F p = none) (hb : Hb p = none) {us vs : List V} (ep : (σ[i]?).join = some (.ref p)) (hp : H p = some (.lst vs)) (g : Grow F (hole H p) F' H') (h1 : F' p = none) (h2 : H' p = some (.lst us)) (h3 : Paired (fun v (d : Ds) => d.pr F' v) us es) :
    At F0 Hb F' H' σ own (Γ.set i (.ow false es)) := by
  have hh : ∀ b o, H b = some o → b ≠ p → H' b = some o := fun b o q z => g.h _ _ (by rw [hole_ne z]; exact q)
  have hn : ∀ b, H b ≠ none → b ≠ p → F b = none → F' b = none := fun b q z w => g.no b (by rw [hole_ne z]; exact q) w
  refine ⟨⟨a.g.f.trans g.f, g.fh, fun b o q => hh b o (a.g.h _ _ q) (ne_of_none q hb), fun b z1 z2 => ?_⟩, a.inj, fun k q ek => ?_, fun k s es' => ?_, by simp [a.len]⟩
  · have nb : b ≠ p := fun z => by subst z; exact z1 hb
    exact hn b (a.g.h.some z1) nb (a.g.no b z1 z2)
  · by_cases z : q = p
    · subst z; rw [h2]; simp
    · cases w : H q with
      | none => exact absurd w (a.liv k q ek)
      | some o => rw [hh q o w z]; simp
  · by_cases z : i = k
    · subst z
      have hi : i < Γ.length := (List.getElem?_eq_some_iff.mp e).1
      rw [List.getElem?_set_self hi] at es'
      cases es'
      exact ⟨p, us, ep, eo, h1, hb, h2, h3⟩
    · rw [List.getElem?_set_ne z] at es'
      have := a.sl k s es'
      cases s with
      | no => trivial
      | tl d =>
        obtain ⟨x, R, q1, q2, q3, q4, q5⟩ := this
        refine ⟨x, R, q1, fun b o w => hh b o (q2 b o w) (ne_of_none w (q4 i p eo)), fun b o w => ⟨hn b (by rw [q2 b o w]; simp) (ne_of_none w (q4 i p eo)) (q3 b o w).1, (q3 b o w).2⟩, q4, q5⟩
      | va m d =>
        obtain ⟨x, q1, q2⟩ := this
        exact ⟨x, q1, d.up (part_up g.f) q2⟩
      | ow m ds =>
        obtain ⟨q, ws, q1, q2, q3, q4, q5, q6⟩ := this
        have nq : q ≠ p := fun w => by subst w; exact z (a.inj i k q eo q2)
        exact ⟨q, ws, q1, q2, hn q (by rw [q5]; simp) nq q3, q4, hh q _ q5 nq, pr_up (ds := []) (part_up g.f) q6⟩
      | ol q ds =>
        obtain ⟨ws, q1, q2, q3, q4, q5, q6⟩ := this
        have nq : q ≠ p := fun w => by subst w; exact z (a.inj i k q eo q2)
        exact ⟨ws, q1, q2, hn q (by rw [q5]; simp) nq q3, q4, hh q _ q5 nq, pr_up (ds := []) g.f q6⟩
      | ob m C q dx fs =>
        obtain ⟨ws, q1, q2, q3, q4, q5, q6⟩ := this
        have nq : q ≠ p := fun w => by subst w; exact z (a.inj i k q eo q2)
        have nd : dx ≠ p := ne_of q5.2 hp (by intro z; cases z)
        exact ⟨ws, q1, q2, ⟨hn q (by rw [q5.1]; simp) nq q3.1, hn dx (by rw [q5.2]; simp) nd q3.2⟩, q4, ⟨hh q _ q5.1 nq, hh dx _ q5.2 nd⟩, paired_imp (fun _ b z => ⟨z.1, b.2.up (part_up g.f) z.2⟩) q6⟩
theorem evm_call {ι : Type} {ow args : ι → List Ds} {pre : ι → Prop} {res : ι → Ds} {ow' : ι → List Ds} {tr : TA} {E : XK} (x : ι) (e : Γ[i]? = some (.ow m ds)) (h : EvA Γ tr false es) {es' : List Ds} (hd : ds = ow x) (ha : es = args x) (hp : pre x) (hr : res x = d) (ho : ow' x = es') :
    EvM Γ (Γ.set i (.ow false es')) (tCall (SpvW ow args pre res ow') [] E (tCons (tVar i) tr)) d := fun F0 Hb F H σ own Q a k => by
  subst hd ha hr ho
  obtain ⟨p, vs, e1, e2, e3, e4, e5, e6⟩ := own_at a e
  refine ⟨_, e1, h F0 Hb F H σ own _ a fun ws F1 H1 g1 q1 => ?_⟩
  have a1 := a.grow g1
  obtain ⟨p', us, f1, f2, f3, f4, f5, f6⟩ := own_at a1 e
  rw [e1] at f1
  cases f1
  refine ⟨x, p, us, ws, hole H1 p, F1, by rw [List.append_nil], hole_same, hole_upd f5, hole_sub g1.fh f3, pr_up (ds := []) part_sub f6, q1, hp, fun v us' F' H' g h1 h2 h3 h4 => ?_⟩
  exact k v F' H' (a1.deed e f2 f3 f4 (by rw [e1]; rfl) f5 g h1 h2 h3) h4
theorem evm_op0 {g : Int → Int → V} {x y : Int} (h1 : Ev Γ ta false (dI x)) (h2 : EvM Γ Δ tb (dI y)) : EvM Γ Δ (tOp (rI0 g) ta tb) (dV (g x y)) := fun F0 Hb F H σ own Q a k =>
  h1 F0 Hb F H σ own _ a fun u F1 H1 g1 q1 => h2 F0 Hb F1 H1 σ own _ (a.grow g1) fun v F2 H2 a2 q2 => ⟨x, y, q1, q2, k _ F2 H2 a2 rfl⟩
theorem run_setML {x : α} (O : α → List Ds) (D : α → Ds) (fo : β → Oc) {kk : α → β} (h : EvM Γ (Γ.set i (.ow false (O x))) te (D x)) (k : ∀ y, y = x → Run E ((Γ.set i (.ow false (O y))).set j (.va false (D y))) u (fo (kk y))) : Run E Γ (tSeq (tAsg te (gName j)) u) (fo (Let x kk)) := fun F0 Hb F H σ own D a q =>
  h F0 Hb F H σ own _ a fun v F' H' a' p => k x rfl F0 Hb F' H' _ own D (a'.set j p) q

theorem run_foldI {γ S : Type} {wi : TI} {g : TG} {tb : TS} {js : List Nat} {xs : List γ} {bds : γ → List Ds} {mi : Bool} {s0 : S} (G : S → Ctx) (f : S → γ → S) (I : Nat → S → Prop) (it : Iv Γ wi g js xs bds mi) (w : Wk Γ (G s0)) (h0 : I 0 s0)
    (body : ∀ (i : Nat) (x : γ) (s : S), xs[i]? = some x → I i s → I (i + 1) (f s x) ∧ Run E (setC js (bds x) mi (G s)) tb (.nx (G (f s x)))) (k : Run E (G (xs.foldl f s0)) u o) : Run E Γ (tSeq (tFor wi g tb) u) o :=
  run_fold (β := Unit) (kk := fun _ => ()) G (fun _ => o) f I it w h0 body fun s e _ => e ▸ k

theorem EvN.borrowO (e : Γ[i]? = some (.ow m ds)) (h : EvN (Γ.set i (.va m (dL ds))) te d) : EvN Γ te d := fun F0 Hb F H σ own Q a k => by
  obtain ⟨F1, own1, _, a1⟩ := a.share e
  refine h F0 Hb F1 H σ own1 Q a1 fun x F' H' g q => ?_
  have e : ∀ b o, off F' H b = some o → H b = none ∧ F' b = some o := fun b o z => off_some.mp z
  refine k x (fun b => match H b with | some _ => F b | none => F' b) H' ⟨fun b o z => ?_, fun b o z => ?_, g.h, fun b z1 z2 => ?_⟩ (d.up (fun b o z => ?_) q)
  · show (match H b with | some _ => F b | none => F' b) = some o
    rw [a.fh _ _ z]; exact z
  · have z : (match H b with | some _ => F b | none => F' b) = some o := z
    cases w : H b with
    | some o' => rw [w] at z; exact g.h _ _ (a.fh _ _ z)
    | none => rw [w] at z; exact g.fh _ _ z
  · show (match H b with | some _ => F b | none => F' b) = none
    cases w : H b with
    | some o' => exact z2
    | none => exact absurd w z1
  · obtain ⟨h1, h2⟩ := e b o z
    refine off_some.mpr ⟨h1, ?_⟩
    show (match H b with | some _ => F b | none => F' b) = some o
    rw [h1]; exact h2
end
end L2

set_option maxHeartbeats 4000000
namespace My
open PySem L2
def top (i : Nat) : Stmt := PySem.Challenge.pw_swapbook_k13_whole_one_stairs_for_all.main.body.getD i (.Pass ⟨0, 0, 0, 0⟩)
abbrev s_refuse_unlike : Stmt := top 4
abbrev s_plus : Stmt := top 5
abbrev s_less : Stmt := top 6
abbrev s_times : Stmt := top 7
abbrev s_head_of : Stmt := top 9
abbrev s_common : Stmt := top 10
abbrev s_upright : Stmt := top 11
abbrev s_lowered : Stmt := top 12
abbrev s_merged : Stmt := top 13
abbrev s_taken_in : Stmt := top 14
abbrev s_settled : Stmt := top 15
abbrev s_climbed : Stmt := top 16
abbrev s_stairs_of : Stmt := top 18
abbrev s_law_cell : Stmt := top 20
abbrev s_law_numbers : Stmt := top 21
abbrev s_law_shape : Stmt := top 22
abbrev s_law_swaps : Stmt := top 23
abbrev s_law_deed : Stmt := top 25
abbrev s_law : Stmt := top 26
structure Adr where
  no : Unit := ()

structure Txt (K : PySem.W.Frag) (mg : Str → Option Value) (A : Adr) : Prop where
  enumerate : mg "enumerate" = none
  int : mg "int" = none
  isinstance : mg "isinstance" = none
  len : mg "len" = none
  list : mg "list" = none
  range : mg "range" = none
  reversed : mg "reversed" = none
  zip : mg "zip" = none
  kit_list_list : PySem.W.kitOne K (.type "list") (.type "list") = some true
section
variable {P : Program} {w : World} {K : PySem.W.Frag} {mg : Str → Option Value} {base : Heap} {f : Addr} {fd : FuncData} {A : Adr}
def m_refuse_unlike (a0_one : (List Int)) (a1_other : (List Int)) : Unit := ()
def pre_refuse_unlike (a0_one : (List Int)) (a1_other : (List Int)) : Prop := a0_one.length = a1_other.length
def sp_refuse_unlike (K : PySem.W.Frag) (A : Adr) : Sp := Spv (ι := (List Int) × (List Int)) (fun x => [dQ K (List.map dI x.1), dQ K (List.map dI x.2)]) (fun x => pre_refuse_unlike x.1 x.2) (fun x => .va true (dN))
theorem sc_refuse_unlike : FnScope ["one", "other"] ["one", "other"] (defScope s_refuse_unlike) := ⟨rfl, rfl, rfl, by decide +kernel, rfl, by decide +kernel, by decide +kernel⟩
theorem ok_refuse_unlike (F : Fun K "refuse_unlike" "refuse_unlike" s_refuse_unlike f fd) (T : Txt K mg A)  : FnOk P w K mg base (CXE P w) 1 f fd ["one", "other"] (sp_refuse_unlike K A) := by
  refine F.okV sc_refuse_unlike (fun _ => rfl) (fun cdv Ar outer s H E x hr hp => ?_)
  obtain ⟨a0_one, a1_other⟩ := x
  have hu := hr.units
  replace hp : pre_refuse_unlike a0_one a1_other := hp
  unfold pre_refuse_unlike at hp
  refine ⟨_, (pss_cons (ps_if (pt_cmpR op_ne (pe_callB (call_len_K (K := K) rfl) rfl T.len PySem.boot_len (pa_cons (pv 0) pa_nil)) (pe_callB (call_len_K (K := K) rfl) rfl T.len PySem.boot_len (pa_cons (pv 1) pa_nil)) (nomark _))
 (pss_cons ps_never pss_nil)
 pss_nil)
  pss_nil), .inr ⟨_, ([.va false (dQ K (List.map dI a0_one)), .va false (dQ K (List.map dI a1_other))] : L2.Ctx), rfl, ?_⟩⟩
  show L2.Run _ ([.va false (dQ K (List.map dI a0_one)), .va false (dQ K (List.map dI a1_other))] : L2.Ctx) _ _
  exact (run_if_false (EvT.conv (evt_test (ev_neI (x := ((a0_one.length : Nat) : Int)) (y := ((a1_other.length : Nat) : Int)) (ev_lenM (f := dI) (xs := a0_one) (ev_var (i := 0) rfl)) (ev_lenM (f := dI) (xs := a1_other) (ev_var (i := 1) rfl)))) (by ((try simp only [decide_eq_true_eq, decide_eq_false_iff_not, Bool.not_eq_true', Bool.not_eq_false', Bool.and_eq_true, Bool.or_eq_false_iff, Bool.or_eq_true, Bool.and_eq_false_iff, Bool.cond_eq_ite] at *) <;> omega))) (run_seq_next
 (run_next (Wk.refl _))))
def m_plus (a0_one : (List Int)) (a1_other : (List Int)) : (List Int) :=
 (List.map (fun (x2 : (Int × Int)) => (x2.1 + x2.2)) (List.zip a0_one a1_other))
def pre_plus (a0_one : (List Int)) (a1_other : (List Int)) : Prop := a0_one.length = a1_other.length ∧ a0_one.length ≤ 1000
def sp_plus (K : PySem.W.Frag) (A : Adr) : Sp := Spv (ι := (List Int) × (List Int)) (fun x => [dQ K (List.map dI x.1), dQ K (List.map dI x.2)]) (fun x => pre_plus x.1 x.2) (fun x => .ow true (List.map dI (m_plus x.1 x.2)))
theorem sc_plus : FnScope ["one", "other"] ["one", "other"] (defScope s_plus) := ⟨rfl, rfl, rfl, by decide +kernel, rfl, by decide +kernel, by decide +kernel⟩
theorem ok_plus (F : Fun K "plus" "plus" s_plus f fd) (T : Txt K mg A) (G_refuse_unlike : Callee P w K mg base (CXE P w) 1 "refuse_unlike" ["one", "other"] (sp_refuse_unlike K A)) : FnOk P w K mg base (CXE P w) 2 f fd ["one", "other"] (sp_plus K A) := by
  refine F.okV sc_plus (fun _ => rfl) (fun cdv Ar outer s H E x hr hp => ?_)
  obtain ⟨a0_one, a1_other⟩ := x
  have hu := hr.units
  replace hp : pre_plus a0_one a1_other := hp
  unfold pre_plus at hp
  refine ⟨_, (pss_cons (ps_expr (pe_fn G_refuse_unlike (hr.mono (by decide)) rfl passE (pa_cons (pv 0) (pa_cons (pv 1) pa_nil))))
  (pss_cons (ps_ret (pe_comp rfl (.of (osc := (defScope s_plus)) (N := ["one", "other"]) (own := ["a", "b"]) (fvn := []) (fv := []) rfl rfl (by decide +kernel)) (pi_zip_K (K := K) rfl rfl T.zip (pa_cons (pv 0) (pa_cons (pv 1) pa_nil))) (fun _ _ _ _ _ => ⟨(pg_tup_K (K := K) (n := 2) rfl rfl (pgs_cons (pg_name (i := 0) (show (["a", "b"] : List Str).Nodup by decide +kernel) rfl (Or.inl rfl) (Or.inr rfl)) (pgs_cons (pg_name (i := 1) (show (["a", "b"] : List Str).Nodup by decide +kernel) rfl (Or.inl rfl) (Or.inr rfl)) pgs_nil))), pts_nil, (pe_op op_add (pv 0) (pv 1))⟩)))
  pss_nil)), .inl ?_⟩
  show L2.Run _ ([.va false (dQ K (List.map dI a0_one)), .va false (dQ K (List.map dI a1_other))] : L2.Ctx) _ ((fun r => Oc.rl true (List.map dI r)) (m_plus a0_one a1_other))
  unfold m_plus
  exact (run_drop (m := true) (Ev.any (m := true) (ev_call (x := (a0_one, a1_other)) (eva_cons (ev_var (i := 0) rfl) (eva_cons (ev_var (i := 1) rfl) eva_nil)) rfl (by show pre_refuse_unlike a0_one a1_other; exact hp.1) rfl))
 (run_seq_rl (run_retO (EvO.conv (ev_map (g := (fun (x2 : (Int × Int)) => dI (x2.1 + x2.2))) (iv_zip (m := false) dI dI (xs := a0_one) (ys := a1_other) (ev_var (i := 0) rfl) (ev_var (i := 1) rfl)) (by exact small_len (by rw [List.length_zip]; omega)) ⟨by decide, by decide⟩ (fun i3 x2 hx4 => have qhx4 := zip_get hx4; (ev_op0 (x := x2.1) (y := x2.2) (Ev.any (m := false) (ev_var (i := 0) rfl)) (Ev.any (m := false) (ev_var (i := 1) rfl))))) (by first | (rw [List.map_map]; rfl) | (simp only [cond_true, cond_false]; rw [List.map_map]; rfl))))))
def m_less (a0_one : (List Int)) (a1_other : (List Int)) : (List Int) :=
 (List.map (fun (x5 : (Int × Int)) => (x5.1 - x5.2)) (List.zip a0_one a1_other))
def pre_less (a0_one : (List Int)) (a1_other : (List Int)) : Prop := a0_one.length = a1_other.length ∧ a0_one.length ≤ 1000
def sp_less (K : PySem.W.Frag) (A : Adr) : Sp := Spv (ι := (List Int) × (List Int)) (fun x => [dQ K (List.map dI x.1), dQ K (List.map dI x.2)]) (fun x => pre_less x.1 x.2) (fun x => .ow true (List.map dI (m_less x.1 x.2)))
theorem sc_less : FnScope ["one", "other"] ["one", "other"] (defScope s_less) := ⟨rfl, rfl, rfl, by decide +kernel, rfl, by decide +kernel, by decide +kernel⟩
theorem ok_less (F : Fun K "less" "less" s_less f fd) (T : Txt K mg A) (G_refuse_unlike : Callee P w K mg base (CXE P w) 1 "refuse_unlike" ["one", "other"] (sp_refuse_unlike K A)) : FnOk P w K mg base (CXE P w) 2 f fd ["one", "other"] (sp_less K A) := by
  refine F.okV sc_less (fun _ => rfl) (fun cdv Ar outer s H E x hr hp => ?_)
  obtain ⟨a0_one, a1_other⟩ := x
  have hu := hr.units
  replace hp : pre_less a0_one a1_other := hp
  unfold pre_less at hp
  refine ⟨_, (pss_cons (ps_expr (pe_fn G_refuse_unlike (hr.mono (by decide)) rfl passE (pa_cons (pv 0) (pa_cons (pv 1) pa_nil))))
  (pss_cons (ps_ret (pe_comp rfl (.of (osc := (defScope s_less)) (N := ["one", "other"]) (own := ["a", "b"]) (fvn := []) (fv := []) rfl rfl (by decide +kernel)) (pi_zip_K (K := K) rfl rfl T.zip (pa_cons (pv 0) (pa_cons (pv 1) pa_nil))) (fun _ _ _ _ _ => ⟨(pg_tup_K (K := K) (n := 2) rfl rfl (pgs_cons (pg_name (i := 0) (show (["a", "b"] : List Str).Nodup by decide +kernel) rfl (Or.inl rfl) (Or.inr rfl)) (pgs_cons (pg_name (i := 1) (show (["a", "b"] : List Str).Nodup by decide +kernel) rfl (Or.inl rfl) (Or.inr rfl)) pgs_nil))), pts_nil, (pe_op op_sub (pv 0) (pv 1))⟩)))
  pss_nil)), .inl ?_⟩
  show L2.Run _ ([.va false (dQ K (List.map dI a0_one)), .va false (dQ K (List.map dI a1_other))] : L2.Ctx) _ ((fun r => Oc.rl true (List.map dI r)) (m_less a0_one a1_other))
  unfold m_less
  exact (run_drop (m := true) (Ev.any (m := true) (ev_call (x := (a0_one, a1_other)) (eva_cons (ev_var (i := 0) rfl) (eva_cons (ev_var (i := 1) rfl) eva_nil)) rfl (by show pre_refuse_unlike a0_one a1_other; exact hp.1) rfl))
 (run_seq_rl (run_retO (EvO.conv (ev_map (g := (fun (x5 : (Int × Int)) => dI (x5.1 - x5.2))) (iv_zip (m := false) dI dI (xs := a0_one) (ys := a1_other) (ev_var (i := 0) rfl) (ev_var (i := 1) rfl)) (by exact small_len (by rw [List.length_zip]; omega)) ⟨by decide, by decide⟩ (fun i6 x5 hx7 => have qhx7 := zip_get hx7; (ev_op0 (x := x5.1) (y := x5.2) (Ev.any (m := false) (ev_var (i := 0) rfl)) (Ev.any (m := false) (ev_var (i := 1) rfl))))) (by first | (rw [List.map_map]; rfl) | (simp only [cond_true, cond_false]; rw [List.map_map]; rfl))))))
def m_times (a0_some : (List Int)) (a1_many : Int) : (List Int) :=
 (List.map (fun (x8 : Int) => (x8 * a1_many)) a0_some)
def pre_times (a0_some : (List Int)) (a1_many : Int) : Prop := a0_some.length ≤ 1000 ∧ ∀ x ∈ a0_some, CMulX x a1_many
def sp_times (K : PySem.W.Frag) (A : Adr) : Sp := Spv (ι := (List Int) × Int) (fun x => [dQ K (List.map dI x.1), dI x.2]) (fun x => pre_times x.1 x.2) (fun x => .ow true (List.map dI (m_times x.1 x.2)))
theorem sc_times : FnScope ["some", "many"] ["some", "many"] (defScope s_times) := ⟨rfl, rfl, rfl, by decide +kernel, rfl, by decide +kernel, by decide +kernel⟩
theorem ok_times (F : Fun K "times" "times" s_times f fd) (T : Txt K mg A)  : FnOk P w K mg base (CXE P w) 1 f fd ["some", "many"] (sp_times K A) := by
  refine F.okV sc_times (fun _ => rfl) (fun cdv Ar outer s H E x hr hp => ?_)
  obtain ⟨a0_some, a1_many⟩ := x
  have hu := hr.units
  replace hp : pre_times a0_some a1_many := hp
  unfold pre_times at hp
  refine ⟨_, (pss_cons (ps_ret (pe_comp rfl (.of (osc := (defScope s_times)) (N := ["some", "many"]) (own := ["number"]) (fvn := ["many"]) (fv := [1]) rfl rfl (by decide +kernel)) (pi_list_K (K := K) rfl (pv 0)) (fun _ _ _ _ _ => ⟨(pg_name (i := 0) (show (["number", "many"] : List Str).Nodup by decide +kernel) rfl (Or.inl rfl) (Or.inr rfl)), pts_nil, (pe_op op_mulX (pv 0) (pv 1))⟩)))
  pss_nil), .inl ?_⟩
  show L2.Run _ ([.va false (dQ K (List.map dI a0_some)), .va false (dI a1_many)] : L2.Ctx) _ ((fun r => Oc.rl true (List.map dI r)) (m_times a0_some a1_many))
  unfold m_times
  exact (run_seq_rl (run_retO (EvO.conv (ev_map (g := (fun (x8 : Int) => dI (x8 * a1_many))) (iv_list (m := false) dI (xs := a0_some) (ev_var (i := 0) rfl)) (by exact small_len (by omega)) ⟨by decide, by decide⟩ (fun i9 x8 hx10 => have qhx10 := List.mem_of_getElem? hx10; (ev_opC (x := x8) (y := a1_many) (Ev.any (m := false) (ev_var (i := 0) rfl)) (Ev.any (m := false) (ev_var (i := 1) rfl)) (by exact hp.2 _ (List.mem_of_getElem? (by assumption)))))) (by first | (rw [List.map_map]; rfl) | (simp only [cond_true, cond_false]; rw [List.map_map]; rfl)))))
def m_head_of (a0_row : (List Int)) : Int :=
 (LetR (loopR (fun (s11 : Unit) (x12 : (Int × Int)) => (((bif (!decide (x12.2 = (0 : Int))) then (Sum.inr x12.1)
 else (Sum.inl ()))) : (Unit) ⊕ Int)) () (enumZ a0_row)) (fun (r17 : Unit) =>
 ((a0_row.length : Nat) : Int)) (fun b => b))
def pre_head_of (a0_row : (List Int)) : Prop := True
def sp_head_of (K : PySem.W.Frag) (A : Adr) : Sp := Spv (ι := (List Int)) (fun x => [dQ K (List.map dI x)]) (fun x => pre_head_of x) (fun x => .va true (dI (m_head_of x)))
theorem sc_head_of : FnScope ["row", "place", "number"] ["row"] (defScope s_head_of) := ⟨rfl, rfl, rfl, by decide +kernel, rfl, by decide +kernel, by decide +kernel⟩
theorem ok_head_of (F : Fun K "head_of" "head_of" s_head_of f fd) (T : Txt K mg A)  : FnOk P w K mg base (CXE P w) 1 f fd ["row"] (sp_head_of K A) := by
  refine F.okV sc_head_of (fun _ => rfl) (fun cdv Ar outer s H E a0_row hr hp => ?_)
  have hu := hr.units
  replace hp : pre_head_of a0_row := hp
  unfold pre_head_of at hp
  refine ⟨_, (pss_cons (ps_for PassesOwn.never rfl (pi_enum rfl rfl T.enumerate (pa_cons (pv 0) pa_nil)) (pg_tup_K (K := K) (n := 2) rfl rfl (pgs_cons (pg_name (i := 1) sc_head_of.nd rfl (Or.inl rfl) (Or.inl rfl)) (pgs_cons (pg_name (i := 2) sc_head_of.nd rfl (Or.inl rfl) (Or.inl rfl)) pgs_nil)))
 (pss_cons (ps_if (pt_cmpR op_ne (pv 2) pe_int (nomark _))
 (pss_cons (ps_ret (pv 1))
  pss_nil)
 pss_nil)
  pss_nil))
  (pss_cons (ps_ret (pe_callB (call_len_K (K := K) rfl) rfl T.len PySem.boot_len (pa_cons (pv 0) pa_nil)))
  pss_nil)), .inl ?_⟩
  show L2.Run _ ([.va false (dQ K (List.map dI a0_row)), .no, .no] : L2.Ctx) _ ((fun (r : Int) => Oc.rt true (dI r)) (m_head_of a0_row))
  unfold m_head_of
  exact (run_forR (s0 := ()) (fun (s11 : Unit) => ([.va false (dQ K (List.map dI a0_row)), .no, .no] : L2.Ctx)) (fun (r : Int) => Oc.rt true (dI r)) (fun b => b) (fun (s11 : Unit) (x12 : (Int × Int)) => (((bif (!decide (x12.2 = (0 : Int))) then (Sum.inr x12.1)
 else (Sum.inl ()))) : (Unit) ⊕ Int)) (fun _ _ => True) (fun b => .inl ⟨_, _, rfl⟩) (iv_enum (m := false) dI (xs := a0_row) (ev_var (i := 0) rfl)) (.eq (.eq (.eq .nil))) trivial (fun i13 x12 s11 hx14 hI15 => have qhx14 := enumZ_get hx14; ⟨(fun _ _ => trivial),
 (run_if_seq (b := (!decide (x12.2 = (0 : Int)))) (outOf (fun (s11 : Unit) => ([.va false (dQ K (List.map dI a0_row)), .no, .no] : L2.Ctx)) (fun (r : Int) => Oc.rt true (dI r))) (evt_test (ev_neI (x := x12.2) (y := (0 : Int)) (Ev.any (m := false) (ev_var (i := 2) rfl)) ev_c)) (fun h16 => (run_seq_assoc (run_seq_rt (run_ret (Ev.any (m := false) (ev_var (i := 1) rfl)))))) (fun h16 =>
 (run_seq_next (run_next (.eq (.no (.no .nil)))))))⟩) (fun r17 hr17 hI =>
 (run_seq_rt (run_ret (ev_lenM (f := dI) (xs := a0_row) (ev_var (i := 0) rfl))))))
theorem head_eq (r : List Int) : m_head_of r = (Lat.hd r : Int) := Lat.headL r
def m_common (a0_one : Int) (a1_other : Int) : (T3 Int Int Int) :=
 (Let (whl (fun (s18 : Int × Int × Int × Int) => (!decide (s18.2.1 = (0 : Int)))) (fun (s18 : Int × Int × Int × Int) => (Let (s18.1 / s18.2.1) (fun (part21 : Int) =>
 (Let (s18.1 - (part21 * s18.2.1)) (fun (left22 : Int) =>
 (Let s18.2.1 (fun (great23 : Int) =>
 (Let (s18.2.2.1 - (part21 * s18.2.2.2)) (fun (left24 : Int) =>
 (Let s18.2.2.2 (fun (taken25 : Int) =>
 (great23, left22, taken25, left24)))))))))))) (a1_other.toNat) (a0_one, a1_other, (1 : Int), (0 : Int))) (fun (r26 : Int × Int × Int × Int) =>
 (T3.mk r26.1 r26.2.2.1 ((r26.1 - (r26.2.2.1 * a0_one)) / a1_other))))
def pre_common (a0_one : Int) (a1_other : Int) : Prop := Lat.ComP a0_one a1_other
def sp_common (K : PySem.W.Frag) (A : Adr) : Sp := Spv (ι := Int × Int) (fun x => [dI x.1, dI x.2]) (fun x => pre_common x.1 x.2) (fun x => .va true (dT [dI ((m_common x.1 x.2).a), dI ((m_common x.1 x.2).b), dI ((m_common x.1 x.2).c)]))
theorem sc_common : FnScope ["one", "other", "great", "small", "taken", "later", "part", "left"] ["one", "other"] (defScope s_common) := ⟨rfl, rfl, rfl, by decide +kernel, rfl, by decide +kernel, by decide +kernel⟩
theorem ok_common (F : Fun K "common" "common" s_common f fd) (T : Txt K mg A)  : FnOk P w K mg base (CXE P w) 1 f fd ["one", "other"] (sp_common K A) := by
  refine F.okV sc_common (fun _ => rfl) (fun cdv Ar outer s H E x hr hp => ?_)
  obtain ⟨a0_one, a1_other⟩ := x
  have hu := hr.units
  replace hp : pre_common a0_one a1_other := hp
  unfold pre_common at hp
  refine ⟨_, (pss_cons (ps_set (i := 2) sc_common.nd rfl (Or.inl rfl) (pv 0))
  (pss_cons (ps_set (i := 3) sc_common.nd rfl (Or.inl rfl) (pv 1))
  (pss_cons (ps_set (i := 4) sc_common.nd rfl (Or.inl rfl) pe_int)
  (pss_cons (ps_set (i := 5) sc_common.nd rfl (Or.inl rfl) pe_int)
  (pss_cons (ps_while PassesOwn.never (pt_cmpR op_ne (pv 3) pe_int (nomark _))
 (pss_cons (ps_set (i := 6) sc_common.nd rfl (Or.inl rfl) (pe_op op_fdivB (pv 2) (pv 3)))
  (pss_cons (ps_set (i := 7) sc_common.nd rfl (Or.inl rfl) (pe_op op_sub (pv 2) (pe_op op_mulX (pv 6) (pv 3))))
  (pss_cons (ps_set (i := 2) sc_common.nd rfl (Or.inl rfl) (pv 3))
  (pss_cons (ps_set (i := 3) sc_common.nd rfl (Or.inl rfl) (pv 7))
  (pss_cons (ps_set (i := 7) sc_common.nd rfl (Or.inl rfl) (pe_op op_sub (pv 4) (pe_op op_mulX (pv 6) (pv 5))))
  (pss_cons (ps_set (i := 4) sc_common.nd rfl (Or.inl rfl) (pv 5))
  (pss_cons (ps_set (i := 5) sc_common.nd rfl (Or.inl rfl) (pv 7))
  pss_nil))))))))
  (pss_cons (ps_ret (pe_tup (pa_cons (pv 2) (pa_cons (pv 4) (pa_cons (pe_op op_fdivB (pe_op op_sub (pv 2) (pe_op op_mulX (pv 4) (pv 0))) (pv 1)) pa_nil)))))
  pss_nil)))))), .inl ?_⟩
  show L2.Run _ ([.va false (dI a0_one), .va false (dI a1_other), .no, .no, .no, .no, .no, .no] : L2.Ctx) _ ((fun (r : (T3 Int Int Int)) => Oc.rt true (dT [dI r.a, dI r.b, dI r.c])) (m_common a0_one a1_other))
  unfold m_common
  exact (run_set (m := true) (Ev.any (m := false) (ev_var (i := 0) rfl))
 (run_set (m := true) (Ev.any (m := false) (ev_var (i := 1) rfl))
 (run_set (m := true) ev_c
 (run_set (m := true) ev_c
 (run_while (s0 := (a0_one, a1_other, (1 : Int), (0 : Int))) (fun (s18 : Int × Int × Int × Int) => ([.va false (dI a0_one), .va false (dI a1_other), .va true (dI s18.1), .va true (dI s18.2.1), .va true (dI s18.2.2.1), .va true (dI s18.2.2.2), .no, .no] : L2.Ctx)) (fun (r : (T3 Int Int Int)) => Oc.rt true (dT [dI r.a, dI r.b, dI r.c])) (fun (s18 : Int × Int × Int × Int) => (!decide (s18.2.1 = (0 : Int)))) (fun (s18 : Int × Int × Int × Int) => (Let (s18.1 / s18.2.1) (fun (part21 : Int) =>
 (Let (s18.1 - (part21 * s18.2.1)) (fun (left22 : Int) =>
 (Let s18.2.1 (fun (great23 : Int) =>
 (Let (s18.2.2.1 - (part21 * s18.2.2.2)) (fun (left24 : Int) =>
 (Let s18.2.2.2 (fun (taken25 : Int) =>
 (great23, left22, taken25, left24)))))))))))) (fun (s18 : Int × Int × Int × Int) => Lat.GI a0_one a1_other s18) (fun (s18 : Int × Int × Int × Int) => (s18.2.1).toNat) (a1_other.toNat) (.eq (.eq (.eq (.eq (.eq (.eq (.eq (.eq .nil)))))))) (by exact Lat.GI.start hp.1 hp.2.1) (by exact Nat.le_refl _) (fun s18 hI19 => ⟨(evt_test (ev_neI (x := s18.2.1) (y := (0 : Int)) (Ev.any (m := true) (ev_var (i := 3) rfl)) ev_c)), fun hc20 => ⟨(by exact Lat.GI.step (by assumption) (by assumption)),
 (run_let (m := true) (x := (s18.1 / s18.2.1)) dI (fun z => Oc.nx ((fun (s18 : Int × Int × Int × Int) => ([.va false (dI a0_one), .va false (dI a1_other), .va true (dI s18.1), .va true (dI s18.2.1), .va true (dI s18.2.2.1), .va true (dI s18.2.2.2), .no, .no] : L2.Ctx)) z)) (ev_opC (x := s18.1) (y := s18.2.1) (Ev.any (m := true) (ev_var (i := 2) rfl)) (Ev.any (m := true) (ev_var (i := 3) rfl)) (by exact Lat.GI.div (by assumption) hp (by assumption))) (fun part21 hpart21 =>
 (run_let (m := true) (x := (s18.1 - (part21 * s18.2.1))) dI (fun z => Oc.nx ((fun (s18 : Int × Int × Int × Int) => ([.va false (dI a0_one), .va false (dI a1_other), .va true (dI s18.1), .va true (dI s18.2.1), .va true (dI s18.2.2.1), .va true (dI s18.2.2.2), .no, .no] : L2.Ctx)) z)) (ev_op0 (x := s18.1) (y := (part21 * s18.2.1)) (Ev.any (m := true) (ev_var (i := 2) rfl)) (ev_opC (x := part21) (y := s18.2.1) (Ev.any (m := true) (ev_var (i := 6) rfl)) (Ev.any (m := true) (ev_var (i := 3) rfl)) (by exact Lat.GI.mul1 (by assumption) hp (by assumption) (by assumption)))) (fun left22 hleft22 =>
 (run_let (m := true) (x := s18.2.1) dI (fun z => Oc.nx ((fun (s18 : Int × Int × Int × Int) => ([.va false (dI a0_one), .va false (dI a1_other), .va true (dI s18.1), .va true (dI s18.2.1), .va true (dI s18.2.2.1), .va true (dI s18.2.2.2), .no, .no] : L2.Ctx)) z)) (Ev.any (m := true) (ev_var (i := 3) rfl)) (fun great23 hgreat23 =>
 (run_set (m := true) (Ev.any (m := true) (ev_var (i := 7) rfl))
 (run_let (m := true) (x := (s18.2.2.1 - (part21 * s18.2.2.2))) dI (fun z => Oc.nx ((fun (s18 : Int × Int × Int × Int) => ([.va false (dI a0_one), .va false (dI a1_other), .va true (dI s18.1), .va true (dI s18.2.1), .va true (dI s18.2.2.1), .va true (dI s18.2.2.2), .no, .no] : L2.Ctx)) z)) (ev_op0 (x := s18.2.2.1) (y := (part21 * s18.2.2.2)) (Ev.any (m := true) (ev_var (i := 4) rfl)) (ev_opC (x := part21) (y := s18.2.2.2) (Ev.any (m := true) (ev_var (i := 6) rfl)) (Ev.any (m := true) (ev_var (i := 5) rfl)) (by exact Lat.GI.mul2 (by assumption) hp (by assumption) (by assumption)))) (fun left24 hleft24 =>
 (run_let (m := true) (x := s18.2.2.2) dI (fun z => Oc.nx ((fun (s18 : Int × Int × Int × Int) => ([.va false (dI a0_one), .va false (dI a1_other), .va true (dI s18.1), .va true (dI s18.2.1), .va true (dI s18.2.2.1), .va true (dI s18.2.2.2), .no, .no] : L2.Ctx)) z)) (Ev.any (m := true) (ev_var (i := 5) rfl)) (fun taken25 htaken25 =>
 (run_set (m := true) (Ev.any (m := true) (ev_var (i := 7) rfl))
 (run_next (.eq (.eq (.eq (.eq (.eq (.eq (.no (.no .nil)))))))))))))))))))))⟩⟩) (fun r26 hr26 hI hc =>
 (run_seq_rt (run_ret (ev_tup (eva_cons (Ev.any (m := true) (ev_var (i := 2) rfl)) (eva_cons (Ev.any (m := true) (ev_var (i := 4) rfl)) (eva_cons (ev_opC (x := (r26.1 - (r26.2.2.1 * a0_one))) (y := a1_other) (ev_op0 (x := r26.1) (y := (r26.2.2.1 * a0_one)) (Ev.any (m := true) (ev_var (i := 2) rfl)) (ev_opC (x := r26.2.2.1) (y := a0_one) (Ev.any (m := true) (ev_var (i := 4) rfl)) (Ev.any (m := false) (ev_var (i := 0) rfl)) (by exact Lat.GI.mul3 (by assumption) hp))) (Ev.any (m := false) (ev_var (i := 1) rfl)) (by exact Lat.ComP.div hp)) eva_nil))) (by show 3 ≤ sizeLine; decide))))))))))
theorem common_eq (a b : Int) : m_common a b = Lat.cmn a b := rfl
def m_upright (a0_row : (List Int)) : (List Int) :=
 (bif (decide ((ixD a0_row (m_head_of a0_row)) < (0 : Int))) then (m_times a0_row (-(1 : Int))) else a0_row)
def pre_upright (a0_row : (List Int)) : Prop := a0_row.length ≤ 1000 ∧ Lat.hd a0_row < a0_row.length
def sp_upright (K : PySem.W.Frag) (A : Adr) : Sp := Spv (ι := (List Int)) (fun x => [dL (List.map dI x)]) (fun x => pre_upright x) (fun x => .va false (dL (List.map dI (m_upright x))))
theorem sc_upright : FnScope ["row"] ["row"] (defScope s_upright) := ⟨rfl, rfl, rfl, by decide +kernel, rfl, by decide +kernel, by decide +kernel⟩
theorem ok_upright (F : Fun K "upright" "upright" s_upright f fd) (T : Txt K mg A) (G_head_of : Callee P w K mg base (CXE P w) 1 "head_of" ["row"] (sp_head_of K A)) (G_times : Callee P w K mg base (CXE P w) 1 "times" ["some", "many"] (sp_times K A)) : FnOk P w K mg base (CXE P w) 2 f fd ["row"] (sp_upright K A) := by
  refine F.okV sc_upright (fun _ => rfl) (fun cdv Ar outer s H E a0_row hr hp => ?_)
  have hu := hr.units
  replace hp : pre_upright a0_row := hp
  unfold pre_upright at hp
  refine ⟨_, (pss_cons (ps_ret (pe_ifExp (pt_cmpR op_lt (pe_ix (ix_list_K (K := K) rfl) (pv 0) (pe_fn G_head_of (hr.mono (by decide)) rfl passE (pa_cons (pv 0) pa_nil)) (fun _ _ => rfl)) pe_int (nomark _)) (pe_fn G_times (hr.mono (by decide)) rfl passE (pa_cons (pv 0) (pa_cons (pe_un un_neg pe_int) pa_nil))) (pv 0)))
  pss_nil), .inl ?_⟩
  show L2.Run _ ([.va false (dL (List.map dI a0_row))] : L2.Ctx) _ ((fun (r : (List Int)) => Oc.rt false (dL (List.map dI r))) (m_upright a0_row))
  unfold m_upright
  exact (run_seq_rt (run_ret (ev_if (fun (xs : (List Int)) => dL (List.map dI xs)) (b := (decide ((ixD a0_row (m_head_of a0_row)) < (0 : Int)))) (x := (m_times a0_row (-(1 : Int)))) (y := a0_row) (evt_test (ev_op0 (x := (ixD a0_row (m_head_of a0_row))) (y := (0 : Int)) (Ev.any (m := false) (ev_ixM (f := dI) (xs := a0_row) (Ev.weak (K := K) (ev_var (i := 0) rfl)) (Ev.any (m := true) (ev_call (x := a0_row) (eva_cons (Ev.weak (K := K) (ev_var (i := 0) rfl)) eva_nil) rfl (by show pre_head_of a0_row; exact trivial) rfl)) (by have := hp.2; rw [head_eq]; unfold InB; omega))) ev_c)) (fun hb => (EvO.ev (EvO.anyI (m := true) (ev_callO (x := (a0_row, (-(1 : Int)))) (eva_cons (Ev.weak (K := K) (ev_var (i := 0) rfl)) (eva_cons (ev_un (x := (1 : Int)) ev_c) eva_nil)) rfl (by show pre_times a0_row (-(1 : Int)); exact ⟨hp.1, fun _ _ => .inr (.inl ⟨by decide, by decide⟩)⟩) rfl)))) (fun hb => (ev_var (i := 0) rfl)))))
theorem upright_eq (l : List Int) : m_upright l = Lat.upr l := by unfold m_upright; rw [head_eq, Lat.ixD_vec]; rfl
theorem low_body (s x : List Int) : Let (m_head_of x) (fun (h : Int) => Let ((ixD s h) / (ixD x h)) (fun (q : Int) => Let (bif (!decide (q = (0 : Int))) then (m_less s (m_times x q)) else s) (fun (y : List Int) => y))) = Lat.low1 s x := by
  unfold Let
  dsimp only
  rw [head_eq, Lat.ixD_vec, Lat.ixD_vec]; rfl
section
variable {n s a b i : Nat} {l t : List Int} {h q : Int} {steps : List (List Int)}
theorem lw_ix (T : Lat.Sd n s t) (e : h = (Lat.hd t : Int)) (hl : l.length = n ∧ Lat.Bit b l) : InB l.length h := Lat.low_ix T e hl.1
theorem lw_ix2 (T : Lat.Sd n s t) (e : h = (Lat.hd t : Int)) : InB t.length h := Lat.low_ix T e T.len
theorem lw_pre (p1 : n ≤ 1000) (p6 : a + steps.length * (s + 1) + s ≤ 50000000) (hx : steps[i]? = some t) (T : ∀ t ∈ steps, Lat.Sd n s t) (hl : l.length = n ∧ Lat.Bit (a + i * (s + 1)) l) (e : h = (Lat.hd t : Int)) (eq : q = ixD l h / ixD t h) : pre_times t q := by
  have T1 := T t (List.mem_of_getElem? hx)
  exact ⟨by rw [T1.len]; exact p1, Lat.low_mul T1 e hl.2 eq (Lat.low_num p6 (List.getElem?_eq_some_iff.mp hx).1)⟩
theorem lw_less (p1 : n ≤ 1000) (T : Lat.Sd n s t) (hl : l.length = n ∧ Lat.Bit b l) : pre_less l (m_times t q) := ⟨by rw [hl.1, show (m_times t q).length = t.length from Lat.mul_len, T.len], by omega⟩
theorem sh_bd {sh : T3 Int Int Int} (e : h = (Lat.hd t : Int)) (T : Lat.Sd n s t) (h0 : 0 < Lat.vec l (Lat.hd t)) (h1 : Lat.vec l (Lat.hd t) < Lat.vec t (Lat.hd t)) (hs : sh = m_common (ixD t h) (ixD l h)) : 0 < sh.a ∧ sh.a.natAbs ≤ 2 ^ 8981 ∧ sh.b.natAbs ≤ 2 ^ 8980 ∧ sh.c.natAbs ≤ 2 ^ 17962 := by
  subst hs
  exact Lat.cmn_bd (Lat.mrg_com T e h0 h1)
theorem two_len {x y : Int} (p1 : n ≤ 1000) (h1 : t.length = n) (h2 : l.length = n) : pre_plus (m_times t x) (m_times l y) := ⟨by rw [show (m_times t x).length = t.length from Lat.mul_len, show (m_times l y).length = l.length from Lat.mul_len, h1, h2], by rw [show (m_times t x).length = t.length from Lat.mul_len, h1]; exact p1⟩
theorem two_len2 {x y : Int} (p1 : n ≤ 1000) (h1 : t.length = n) (h2 : l.length = n) : pre_less (m_times l x) (m_times t y) := ⟨by rw [show (m_times t y).length = t.length from Lat.mul_len, show (m_times l x).length = l.length from Lat.mul_len, h1, h2], by rw [show (m_times l x).length = l.length from Lat.mul_len, h2]; exact p1⟩
theorem ix_top (e : h = (Lat.hd t : Int)) (T : Lat.Sd n s t) : (ixD t h).natAbs ≤ 2 ^ 8980 := by subst e; rw [Lat.ixD_vec]; exact T.top
theorem ix_top2 (e : h = (Lat.hd t : Int)) (T : Lat.Sd n s t) (h0 : 0 < Lat.vec l (Lat.hd t)) (h1 : Lat.vec l (Lat.hd t) < Lat.vec t (Lat.hd t)) : (ixD l h).natAbs ≤ 2 ^ 8980 := by subst e; rw [Lat.ixD_vec]; have := T.top; omega
end
def m_lowered (a0_row : (List Int)) (a1_steps : (List (List Int))) : (List Int) :=
 (Let (List.foldl (fun (s27 : (List Int)) (x28 : (List Int)) => (Let (m_head_of x28) (fun (head32 : Int) =>
 (Let ((ixD s27 head32) / (ixD x28 head32)) (fun (many33 : Int) =>
 (Let (bif (!decide (many33 = (0 : Int))) then (m_less s27 (m_times x28 many33)) else s27) (fun (left35 : (List Int)) =>
 left35))))))) a0_row a1_steps) (fun (r36 : (List Int)) =>
 r36))
def pre_lowered (a0_row : (List Int)) (a1_steps : (List (List Int))) : Prop := Lat.LowP a0_row a1_steps
def sp_lowered (K : PySem.W.Frag) (A : Adr) : Sp := Spv (ι := (List Int) × (List (List Int))) (fun x => [dQ K (List.map dI x.1), dQ K (List.map (fun (xs : (List Int)) => dL (List.map dI xs)) x.2)]) (fun x => pre_lowered x.1 x.2) (fun x => .va true (dL (List.map dI (m_lowered x.1 x.2))))
theorem sc_lowered : FnScope ["row", "steps", "left", "step", "head", "many"] ["row", "steps"] (defScope s_lowered) := ⟨rfl, rfl, rfl, by decide +kernel, rfl, by decide +kernel, by decide +kernel⟩
theorem ok_lowered (F : Fun K "lowered" "lowered" s_lowered f fd) (T : Txt K mg A) (G_head_of : Callee P w K mg base (CXE P w) 1 "head_of" ["row"] (sp_head_of K A)) (G_less : Callee P w K mg base (CXE P w) 2 "less" ["one", "other"] (sp_less K A)) (G_times : Callee P w K mg base (CXE P w) 1 "times" ["some", "many"] (sp_times K A)) : FnOk P w K mg base (CXE P w) 3 f fd ["row", "steps"] (sp_lowered K A) := by
  refine F.okV sc_lowered (fun _ => rfl) (fun cdv Ar outer s H E x hr hp => ?_)
  obtain ⟨a0_row, a1_steps⟩ := x
  have hu := hr.units
  replace hp : pre_lowered a0_row a1_steps := hp
  unfold pre_lowered at hp
  obtain ⟨N0, A0, S0, p1, p2, p3, p4, p5, p6⟩ := hp
  refine ⟨_, (pss_cons (ps_set (i := 2) sc_lowered.nd rfl (Or.inl rfl) (pe_callTy (call_list_K (K := K) rfl) rfl T.list PyProof.Rows.boot_list (pa_cons (pv 0) pa_nil)))
  (pss_cons (ps_for PassesOwn.never rfl (pi_list_K (K := K) rfl (pv 1)) (pg_name (i := 3) sc_lowered.nd rfl (Or.inl rfl) (Or.inl rfl))
 (pss_cons (ps_set (i := 4) sc_lowered.nd rfl (Or.inl rfl) (pe_fn G_head_of (hr.mono (by decide)) rfl passE (pa_cons (pv 3) pa_nil)))
  (pss_cons (ps_set (i := 5) sc_lowered.nd rfl (Or.inl rfl) (pe_op op_fdivB (pe_ix (ix_list_K (K := K) rfl) (pv 2) (pv 4) (fun _ _ => rfl)) (pe_ix (ix_list_K (K := K) rfl) (pv 3) (pv 4) (fun _ _ => rfl))))
  (pss_cons (ps_if (pt_cmpR op_ne (pv 5) pe_int (nomark _))
 (pss_cons (ps_set (i := 2) sc_lowered.nd rfl (Or.inl rfl) (pe_fn G_less (hr.mono (by decide)) rfl passE (pa_cons (pv 2) (pa_cons (pe_fn G_times (hr.mono (by decide)) rfl passE (pa_cons (pv 3) (pa_cons (pv 5) pa_nil))) pa_nil))))
  pss_nil)
 pss_nil)
  pss_nil))))
  (pss_cons (ps_ret (pv 2))
  pss_nil))), .inl ?_⟩
  show L2.Run _ ([.va false (dQ K (List.map dI a0_row)), .va false (dQ K (List.map (fun (xs : (List Int)) => dL (List.map dI xs)) a1_steps)), .no, .no, .no, .no] : L2.Ctx) _ ((fun (r : (List Int)) => Oc.rt true (dL (List.map dI r))) (m_lowered a0_row a1_steps))
  unfold m_lowered
  exact (run_set (m := true) (EvO.ev (EvO.anyI (m := false) (ev_list (ev_var (i := 0) rfl))))
 (run_fold (s0 := a0_row) (fun (s27 : (List Int)) => ([.va false (dQ K (List.map dI a0_row)), .va false (dQ K (List.map (fun (xs : (List Int)) => dL (List.map dI xs)) a1_steps)), .va true (dL (List.map dI s27)), .no, .no, .no] : L2.Ctx)) (fun (r : (List Int)) => Oc.rt true (dL (List.map dI r))) (fun (s27 : (List Int)) (x28 : (List Int)) => (Let (m_head_of x28) (fun (head32 : Int) =>
 (Let ((ixD s27 head32) / (ixD x28 head32)) (fun (many33 : Int) =>
 (Let (bif (!decide (many33 = (0 : Int))) then (m_less s27 (m_times x28 many33)) else s27) (fun (left35 : (List Int)) =>
 left35))))))) (fun (i : Nat) (s27 : (List Int)) => s27.length = N0 ∧ Lat.Bit (A0 + i * (S0 + 1)) s27) (iv_list (m := false) (fun (xs : (List Int)) => dL (List.map dI xs)) (xs := a1_steps) (ev_var (i := 1) rfl)) (.eq (.eq (.eq (.eq (.eq (.eq .nil)))))) (by exact ⟨p2, by simpa using p4⟩) (fun i29 x28 s27 hx30 hI31 => have qhx30 := List.mem_of_getElem? hx30; ⟨(by exact Lat.low_stp (p5 _ (by assumption)) (by assumption) (low_body _ _)),
 (run_let (m := true) (x := (m_head_of x28)) dI (fun z => Oc.nx ((fun (s27 : (List Int)) => ([.va false (dQ K (List.map dI a0_row)), .va false (dQ K (List.map (fun (xs : (List Int)) => dL (List.map dI xs)) a1_steps)), .va true (dL (List.map dI s27)), .no, .no, .no] : L2.Ctx)) z)) (Ev.any (m := true) (ev_call (x := x28) (eva_cons (Ev.weak (K := K) (ev_var (i := 3) rfl)) eva_nil) rfl (by show pre_head_of x28; exact trivial) rfl)) (fun head32 hhead32 =>
 have hH := (hhead32).trans (head_eq _); (run_let (m := true) (x := ((ixD s27 head32) / (ixD x28 head32))) dI (fun z => Oc.nx ((fun (s27 : (List Int)) => ([.va false (dQ K (List.map dI a0_row)), .va false (dQ K (List.map (fun (xs : (List Int)) => dL (List.map dI xs)) a1_steps)), .va true (dL (List.map dI s27)), .no, .no, .no] : L2.Ctx)) z)) (ev_opC (x := (ixD s27 head32)) (y := (ixD x28 head32)) (Ev.any (m := true) (ev_ixM (f := dI) (xs := s27) (Ev.weak (K := K) (ev_var (i := 2) rfl)) (Ev.any (m := true) (ev_var (i := 4) rfl)) (by exact lw_ix (p5 _ (by assumption)) hH (by assumption)))) (Ev.any (m := false) (ev_ixM (f := dI) (xs := x28) (Ev.weak (K := K) (ev_var (i := 3) rfl)) (Ev.any (m := true) (ev_var (i := 4) rfl)) (by exact lw_ix2 (p5 _ (by assumption)) hH))) (by exact Lat.low_div (p5 _ (by assumption)) hH)) (fun many33 hmany33 =>
 (run_join (b := (!decide (many33 = (0 : Int)))) (fun bb => ([.va false (dQ K (List.map dI a0_row)), .va false (dQ K (List.map (fun (xs : (List Int)) => dL (List.map dI xs)) a1_steps)), .va true (dL (List.map dI (bif bb then (m_less s27 (m_times x28 many33)) else s27))), .va false (dL (List.map dI x28)), .va true (dI head32), .va true (dI many33)] : L2.Ctx)) (evt_test (ev_neI (x := many33) (y := (0 : Int)) (Ev.any (m := true) (ev_var (i := 5) rfl)) ev_c)) (fun h34 => (run_set (m := true) (EvO.ev (EvO.anyI (m := true) (ev_callO (x := (s27, (m_times x28 many33))) (eva_cons (Ev.old (Ev.weak (K := K) (ev_var (i := 2) rfl))) (eva_cons (Ev.weak (K := K) (EvO.ev (EvO.anyI (m := true) (ev_callO (x := (x28, many33)) (eva_cons (Ev.weak (K := K) (ev_var (i := 3) rfl)) (eva_cons (Ev.any (m := true) (ev_var (i := 5) rfl)) eva_nil)) rfl (by show pre_times x28 many33; exact lw_pre p1 p6 (by assumption) p5 (by assumption) hH (by assumption)) rfl)))) eva_nil)) rfl (by show pre_less s27 (m_times x28 many33); exact lw_less p1 (p5 _ (by assumption)) (by assumption)) rfl)))
 (run_next (.eq (.eq (.eq (.eq (.eq (.eq .nil))))))))) (fun h34 => (run_next (.eq (.eq (.eq (.eq (.eq (.eq .nil))))))))
 (run_gen (x := (bif (!decide (many33 = (0 : Int))) then (m_less s27 (m_times x28 many33)) else s27)) (fun left35 => ([.va false (dQ K (List.map dI a0_row)), .va false (dQ K (List.map (fun (xs : (List Int)) => dL (List.map dI xs)) a1_steps)), .va true (dL (List.map dI left35)), .va false (dL (List.map dI x28)), .va true (dI head32), .va true (dI many33)] : L2.Ctx)) (fun z => Oc.nx ((fun (s27 : (List Int)) => ([.va false (dQ K (List.map dI a0_row)), .va false (dQ K (List.map (fun (xs : (List Int)) => dL (List.map dI xs)) a1_steps)), .va true (dL (List.map dI s27)), .no, .no, .no] : L2.Ctx)) z)) (fun left35 hleft35 =>
 (run_next (.eq (.eq (.eq (.no (.no (.no .nil))))))))))))))⟩) (fun r36 hr36 hI =>
 (run_seq_rt (run_ret (ev_var (i := 2) rfl))))))
theorem lowered_eq (l : List Int) (ss : List (List Int)) : m_lowered l ss = Lat.low l ss := by
  unfold m_lowered
  show List.foldl _ l ss = List.foldl Lat.low1 l ss
  congr 1
  funext s x
  exact low_body s x
def m_merged (a0_step : (List Int)) (a1_row : (List Int)) : ((List Int) × (List Int)) :=
 (Let (m_head_of a0_step) (fun (head37 : Int) =>
 (Let (m_common (ixD a0_step head37) (ixD a1_row head37)) (fun (shared38 : (T3 Int Int Int)) =>
 (Let (m_plus (m_times a0_step shared38.b) (m_times a1_row shared38.c)) (fun (first39 : (List Int)) =>
 (Let (m_less (m_times a1_row ((ixD a0_step head37) / shared38.a)) (m_times a0_step ((ixD a1_row head37) / shared38.a))) (fun (second40 : (List Int)) =>
 (first39, second40)))))))))
def pre_merged (a0_step : (List Int)) (a1_row : (List Int)) : Prop := Lat.MrgP a0_step a1_row
def sp_merged (K : PySem.W.Frag) (A : Adr) : Sp := Spv (ι := (List Int) × (List Int)) (fun x => [dQ K (List.map dI x.1), dQ K (List.map dI x.2)]) (fun x => pre_merged x.1 x.2) (fun x => .va true (dT [dL (List.map dI ((m_merged x.1 x.2).1)), dL (List.map dI ((m_merged x.1 x.2).2))]))
theorem sc_merged : FnScope ["step", "row", "head", "shared", "first", "second"] ["step", "row"] (defScope s_merged) := ⟨rfl, rfl, rfl, by decide +kernel, rfl, by decide +kernel, by decide +kernel⟩
theorem ok_merged (F : Fun K "merged" "merged" s_merged f fd) (T : Txt K mg A) (G_common : Callee P w K mg base (CXE P w) 1 "common" ["one", "other"] (sp_common K A)) (G_head_of : Callee P w K mg base (CXE P w) 1 "head_of" ["row"] (sp_head_of K A)) (G_less : Callee P w K mg base (CXE P w) 2 "less" ["one", "other"] (sp_less K A)) (G_plus : Callee P w K mg base (CXE P w) 2 "plus" ["one", "other"] (sp_plus K A)) (G_times : Callee P w K mg base (CXE P w) 1 "times" ["some", "many"] (sp_times K A)) : FnOk P w K mg base (CXE P w) 3 f fd ["step", "row"] (sp_merged K A) := by
  refine F.okV sc_merged (fun _ => rfl) (fun cdv Ar outer s H E x hr hp => ?_)
  obtain ⟨a0_step, a1_row⟩ := x
  have hu := hr.units
  replace hp : pre_merged a0_step a1_row := hp
  unfold pre_merged at hp
  obtain ⟨N0, A0, S0, p1, p2, p3, p4, p5, p6, p7⟩ := hp
  refine ⟨_, (pss_cons (ps_set (i := 2) sc_merged.nd rfl (Or.inl rfl) (pe_fn G_head_of (hr.mono (by decide)) rfl passE (pa_cons (pv 0) pa_nil)))
  (pss_cons (ps_set (i := 3) sc_merged.nd rfl (Or.inl rfl) (pe_fn G_common (hr.mono (by decide)) rfl passE (pa_cons (pe_ix (ix_list_K (K := K) rfl) (pv 0) (pv 2) (fun _ _ => rfl)) (pa_cons (pe_ix (ix_list_K (K := K) rfl) (pv 1) (pv 2) (fun _ _ => rfl)) pa_nil))))
  (pss_cons (ps_set (i := 4) sc_merged.nd rfl (Or.inl rfl) (pe_fn G_plus (hr.mono (by decide)) rfl passE (pa_cons (pe_fn G_times (hr.mono (by decide)) rfl passE (pa_cons (pv 0) (pa_cons (pe_ix (ix_tup_K (K := K) rfl) (pv 3) pe_int (fun _ _ => rfl)) pa_nil))) (pa_cons (pe_fn G_times (hr.mono (by decide)) rfl passE (pa_cons (pv 1) (pa_cons (pe_ix (ix_tup_K (K := K) rfl) (pv 3) pe_int (fun _ _ => rfl)) pa_nil))) pa_nil))))
  (pss_cons (ps_set (i := 5) sc_merged.nd rfl (Or.inl rfl) (pe_fn G_less (hr.mono (by decide)) rfl passE (pa_cons (pe_fn G_times (hr.mono (by decide)) rfl passE (pa_cons (pv 1) (pa_cons (pe_op op_fdivB (pe_ix (ix_list_K (K := K) rfl) (pv 0) (pv 2) (fun _ _ => rfl)) (pe_ix (ix_tup_K (K := K) rfl) (pv 3) pe_int (fun _ _ => rfl))) pa_nil))) (pa_cons (pe_fn G_times (hr.mono (by decide)) rfl passE (pa_cons (pv 0) (pa_cons (pe_op op_fdivB (pe_ix (ix_list_K (K := K) rfl) (pv 1) (pv 2) (fun _ _ => rfl)) (pe_ix (ix_tup_K (K := K) rfl) (pv 3) pe_int (fun _ _ => rfl))) pa_nil))) pa_nil))))
  (pss_cons (ps_ret (pe_tup (pa_cons (pv 4) (pa_cons (pv 5) pa_nil))))
  pss_nil))))), .inl ?_⟩
  show L2.Run _ ([.va false (dQ K (List.map dI a0_step)), .va false (dQ K (List.map dI a1_row)), .no, .no, .no, .no] : L2.Ctx) _ ((fun (r : ((List Int) × (List Int))) => Oc.rt true (dT [dL (List.map dI r.1), dL (List.map dI r.2)])) (m_merged a0_step a1_row))
  unfold m_merged
  exact (run_let (m := true) (x := (m_head_of a0_step)) dI (fun (r : ((List Int) × (List Int))) => Oc.rt true (dT [dL (List.map dI r.1), dL (List.map dI r.2)])) (Ev.any (m := true) (ev_call (x := a0_step) (eva_cons (ev_var (i := 0) rfl) eva_nil) rfl (by show pre_head_of a0_step; exact trivial) rfl)) (fun head37 hhead37 =>
 have hH := (hhead37).trans (head_eq _); (run_let (m := true) (x := (m_common (ixD a0_step head37) (ixD a1_row head37))) (fun (p : (T3 Int Int Int)) => dT [dI p.a, dI p.b, dI p.c]) (fun (r : ((List Int) × (List Int))) => Oc.rt true (dT [dL (List.map dI r.1), dL (List.map dI r.2)])) (ev_call (x := ((ixD a0_step head37), (ixD a1_row head37))) (eva_cons (Ev.any (m := false) (ev_ixM (f := dI) (xs := a0_step) (ev_var (i := 0) rfl) (Ev.any (m := true) (ev_var (i := 2) rfl)) (by exact lw_ix2 p2 hH))) (eva_cons (Ev.any (m := false) (ev_ixM (f := dI) (xs := a1_row) (ev_var (i := 1) rfl) (Ev.any (m := true) (ev_var (i := 2) rfl)) (by exact Lat.low_ix p2 hH p3))) eva_nil)) rfl (by show pre_common (ixD a0_step head37) (ixD a1_row head37); exact Lat.mrg_com p2 hH p5 p6) rfl) (fun shared38 hshared38 =>
 have hC := sh_bd hH p2 p5 p6 hshared38; (run_let (m := true) (x := (m_plus (m_times a0_step shared38.b) (m_times a1_row shared38.c))) (fun (xs : (List Int)) => dL (List.map dI xs)) (fun (r : ((List Int) × (List Int))) => Oc.rt true (dT [dL (List.map dI r.1), dL (List.map dI r.2)])) (EvO.ev (EvO.anyI (m := true) (ev_callO (x := ((m_times a0_step shared38.b), (m_times a1_row shared38.c))) (eva_cons (Ev.weak (K := K) (EvO.ev (EvO.anyI (m := true) (ev_callO (x := (a0_step, shared38.b)) (eva_cons (ev_var (i := 0) rfl) (eva_cons (Ev.any (m := true) (ev_ixT (ev_var (i := 3) rfl) ev_c rfl)) eva_nil)) rfl (by show pre_times a0_step shared38.b; exact ⟨by rw [p2.len]; exact p1, Lat.mul_all p2.bit hC.2.2.1 (by omega) (by decide)⟩) rfl)))) (eva_cons (Ev.weak (K := K) (EvO.ev (EvO.anyI (m := true) (ev_callO (x := (a1_row, shared38.c)) (eva_cons (ev_var (i := 1) rfl) (eva_cons (Ev.any (m := true) (ev_ixT (ev_var (i := 3) rfl) ev_c rfl)) eva_nil)) rfl (by show pre_times a1_row shared38.c; exact ⟨by rw [p3]; exact p1, Lat.mul_all p4 hC.2.2.2 (by omega) (by decide)⟩) rfl)))) eva_nil)) rfl (by show pre_plus (m_times a0_step shared38.b) (m_times a1_row shared38.c); exact two_len p1 p2.len p3) rfl))) (fun first39 hfirst39 =>
 (run_let (m := true) (x := (m_less (m_times a1_row ((ixD a0_step head37) / shared38.a)) (m_times a0_step ((ixD a1_row head37) / shared38.a)))) (fun (xs : (List Int)) => dL (List.map dI xs)) (fun (r : ((List Int) × (List Int))) => Oc.rt true (dT [dL (List.map dI r.1), dL (List.map dI r.2)])) (EvO.ev (EvO.anyI (m := true) (ev_callO (x := ((m_times a1_row ((ixD a0_step head37) / shared38.a)), (m_times a0_step ((ixD a1_row head37) / shared38.a)))) (eva_cons (Ev.weak (K := K) (EvO.ev (EvO.anyI (m := true) (ev_callO (x := (a1_row, ((ixD a0_step head37) / shared38.a))) (eva_cons (ev_var (i := 1) rfl) (eva_cons (ev_opC (x := (ixD a0_step head37)) (y := shared38.a) (Ev.any (m := false) (ev_ixM (f := dI) (xs := a0_step) (ev_var (i := 0) rfl) (Ev.any (m := true) (ev_var (i := 2) rfl)) (by exact lw_ix2 p2 hH))) (Ev.any (m := true) (ev_ixT (ev_var (i := 3) rfl) ev_c rfl)) (by exact Lat.CDivB.of hC.1 hC.2.1 (by decide))) eva_nil)) rfl (by show pre_times a1_row ((ixD a0_step head37) / shared38.a); exact ⟨by rw [p3]; exact p1, Lat.mul_all p4 (Lat.ediv_bd hC.1 (ix_top hH p2)) (by omega) (by decide)⟩) rfl)))) (eva_cons (Ev.weak (K := K) (EvO.ev (EvO.anyI (m := true) (ev_callO (x := (a0_step, ((ixD a1_row head37) / shared38.a))) (eva_cons (ev_var (i := 0) rfl) (eva_cons (ev_opC (x := (ixD a1_row head37)) (y := shared38.a) (Ev.any (m := false) (ev_ixM (f := dI) (xs := a1_row) (ev_var (i := 1) rfl) (Ev.any (m := true) (ev_var (i := 2) rfl)) (by exact Lat.low_ix p2 hH p3))) (Ev.any (m := true) (ev_ixT (ev_var (i := 3) rfl) ev_c rfl)) (by exact Lat.CDivB.of hC.1 hC.2.1 (by decide))) eva_nil)) rfl (by show pre_times a0_step ((ixD a1_row head37) / shared38.a); exact ⟨by rw [p2.len]; exact p1, Lat.mul_all p2.bit (Lat.ediv_bd hC.1 (ix_top2 hH p2 p5 p6)) (by omega) (by decide)⟩) rfl)))) eva_nil)) rfl (by show pre_less (m_times a1_row ((ixD a0_step head37) / shared38.a)) (m_times a0_step ((ixD a1_row head37) / shared38.a)); exact two_len2 p1 p2.len p3) rfl))) (fun second40 hsecond40 =>
 (run_seq_rt (run_ret (ev_tup (eva_cons (ev_var (i := 4) rfl) (eva_cons (ev_var (i := 5) rfl) eva_nil)) (by show 2 ≤ sizeLine; decide))))))))))))
theorem merged_eq (s l : List Int) : m_merged s l = Lat.mrg s l := by
  unfold m_merged Let
  dsimp only
  rw [head_eq, Lat.ixD_vec, Lat.ixD_vec, common_eq]; rfl
section
variable {n s a i : Nat} {l row : List Int} {steps : List (List Int)} {st : Lat.TS2} {x : Int × List Int}
theorem tk_low (p1 : n ≤ 1000) (p2 : Lat.Ech n 0 steps) (p3 : ∀ t ∈ steps, Lat.Sd n s t) (p4 : row.length = n) (p5 : Lat.Bit a row) (p6 : steps.length ≤ 100) (p7 : a + (steps.length + 2) * ((steps.length + 1) * (s + 9000)) + s ≤ 40000000) : Lat.LowP row steps := by
  refine ⟨n, a, s, p1, p4, by omega, p5, p3, ?_⟩
  have e2 : steps.length * (s + 1) ≤ (steps.length + 1) * (s + 9000) := Nat.mul_le_mul (by omega) (by omega)
  rw [Nat.add_mul steps.length 2] at p7
  omega
theorem tk_up1 (p1 : n ≤ 1000) (I : Lat.TI steps n a s i st) (T : Lat.Sd n s x.2) (h : decide (m_head_of st.2 < m_head_of x.2) = true) : pre_upright st.2 := by
  rw [head_eq, head_eq] at h
  simp only [decide_eq_true_eq] at h
  have := T.hd; have := I.len
  exact ⟨by omega, by omega⟩
theorem tk_up2 (p1 : n ≤ 1000) (I : Lat.TI steps n a s i st) (h : decide (m_head_of st.2 < ((st.2.length : Nat) : Int)) = true) : pre_upright st.2 := by
  rw [head_eq] at h
  simp only [decide_eq_true_eq] at h
  have := I.len
  exact ⟨by omega, by omega⟩
theorem tk_hh (h : decide (m_head_of st.2 = m_head_of x.2) = true) : Lat.hd st.2 = Lat.hd x.2 := by
  rw [head_eq, head_eq] at h
  simp only [decide_eq_true_eq] at h
  omega
theorem tk_lt (I : Lat.TI steps n a s i st) (hx : i < steps.length ∧ x.1 = (i : Int) ∧ steps[i]? = some x.2) (p6 : steps.length ≤ 100) : st.1.length < PySem.sizeLine := Nat.lt_of_le_of_lt (show _ ≤ 1000 by have := I.g; omega) (by decide)
theorem tk_lt2 (I : Lat.TI steps n a s (enumZ steps).length st) (p6 : steps.length ≤ 100) : st.1.length < PySem.sizeLine := Nat.lt_of_le_of_lt (show _ ≤ 1000 by have := I.g; rw [enumZ_len] at this; omega) (by decide)
theorem tk_len1 {y : List Int} (I : Lat.TI steps n a s i st) (hx : i < steps.length ∧ x.1 = (i : Int) ∧ steps[i]? = some x.2) (p6 : steps.length ≤ 100) : st.1.length + [y].length ≤ PySem.sizeLine := by
  apply small_len
  have := I.g
  simp; omega
theorem cut_len {lo hi : Option Int} : (cutD steps lo hi).length ≤ steps.length := by
  unfold cutD; rw [List.length_take, List.length_drop]; omega
theorem tk_len2 {y : List Int} {lo hi : Option Int} (I : Lat.TI steps n a s i st) (hx : i < steps.length ∧ x.1 = (i : Int) ∧ steps[i]? = some x.2) (p6 : steps.length ≤ 100) : (st.1 ++ [y]).length + (cutD steps lo hi).length ≤ PySem.sizeLine := by
  apply small_len
  have := I.g
  have := cut_len (steps := steps) (lo := lo) (hi := hi)
  simp; omega
end
def m_taken_in (a0_steps : (List (List Int))) (a1_row : (List Int)) : (List (List Int)) :=
 (Let (m_lowered a1_row a0_steps) (fun (loose41 : (List Int)) =>
 (LetR (loopR (fun (s51 : (List (List Int)) × (List Int)) (x52 : (Int × (List Int))) => (((bif (decide ((m_head_of s51.2) < (m_head_of x52.2))) then (Sum.inr ((s51.1 ++ [(m_upright s51.2)]) ++ (cutD a0_steps (some x52.1) none)))
 else (Let (bif (decide ((m_head_of s51.2) = (m_head_of x52.2))) then (s51.1 ++ [(m_merged x52.2 s51.2).1]) else (s51.1 ++ [x52.2])) (fun (grown58 : (List (List Int))) =>
 (Let (bif (decide ((m_head_of s51.2) = (m_head_of x52.2))) then (m_lowered ((m_merged x52.2 s51.2).2) (cutD a0_steps (some (x52.1 + (1 : Int))) none)) else s51.2) (fun (loose59 : (List Int)) =>
 (Sum.inl (grown58, loose59)))))))) : ((List (List Int)) × (List Int)) ⊕ (List (List Int)))) ([], loose41) (enumZ a0_steps)) (fun (r60 : (List (List Int)) × (List Int)) =>
 (Let (bif (decide ((m_head_of r60.2) < ((r60.2.length : Nat) : Int))) then (r60.1 ++ [(m_upright r60.2)]) else r60.1) (fun (grown62 : (List (List Int))) =>
 grown62))) (fun b => b))))
def pre_taken_in (a0_steps : (List (List Int))) (a1_row : (List Int)) : Prop := Lat.TinP a0_steps a1_row
def sp_taken_in (K : PySem.W.Frag) (A : Adr) : Sp := Spv (ι := (List (List Int)) × (List Int)) (fun x => [dQ K (List.map (fun (xs : (List Int)) => dL (List.map dI xs)) x.1), dQ K (List.map dI x.2)]) (fun x => pre_taken_in x.1 x.2) (fun x => .va false (dL (List.map (fun (xs : (List Int)) => dL (List.map dI xs)) (m_taken_in x.1 x.2))))
theorem sc_taken_in : FnScope ["steps", "row", "loose", "grown", "place", "step", "pair"] ["steps", "row"] (defScope s_taken_in) := ⟨rfl, rfl, rfl, by decide +kernel, rfl, by decide +kernel, by decide +kernel⟩
theorem ok_taken_in (F : Fun K "taken_in" "taken_in" s_taken_in f fd) (T : Txt K mg A) (G_head_of : Callee P w K mg base (CXE P w) 1 "head_of" ["row"] (sp_head_of K A)) (G_lowered : Callee P w K mg base (CXE P w) 3 "lowered" ["row", "steps"] (sp_lowered K A)) (G_merged : Callee P w K mg base (CXE P w) 3 "merged" ["step", "row"] (sp_merged K A)) (G_upright : Callee P w K mg base (CXE P w) 2 "upright" ["row"] (sp_upright K A)) : FnOk P w K mg base (CXE P w) 4 f fd ["steps", "row"] (sp_taken_in K A) := by
  refine F.okV sc_taken_in (fun _ => rfl) (fun cdv Ar outer s H E x hr hp => ?_)
  obtain ⟨a0_steps, a1_row⟩ := x
  have hu := hr.units
  replace hp : pre_taken_in a0_steps a1_row := hp
  unfold pre_taken_in at hp
  obtain ⟨N0, A0, S0, p1, p2, p3, p4, p5, p6, p7⟩ := hp
  refine ⟨_, (pss_cons (ps_set (i := 2) sc_taken_in.nd rfl (Or.inl rfl) (pe_fn G_lowered (hr.mono (by decide)) rfl passE (pa_cons (pv 1) (pa_cons (pv 0) pa_nil))))
  (pss_cons (ps_set (i := 3) sc_taken_in.nd rfl (Or.inl rfl) (pe_lst pa_nil))
  (pss_cons (ps_for PassesOwn.never rfl (pi_enum rfl rfl T.enumerate (pa_cons (pv 0) pa_nil)) (pg_tup_K (K := K) (n := 2) rfl rfl (pgs_cons (pg_name (i := 4) sc_taken_in.nd rfl (Or.inl rfl) (Or.inl rfl)) (pgs_cons (pg_name (i := 5) sc_taken_in.nd rfl (Or.inl rfl) (Or.inl rfl)) pgs_nil)))
 (pss_cons (ps_if (pt_cmpR op_lt (pe_fn G_head_of (hr.mono (by decide)) rfl passE (pa_cons (pv 2) pa_nil)) (pe_fn G_head_of (hr.mono (by decide)) rfl passE (pa_cons (pv 5) pa_nil)) (nomark _))
 (pss_cons (ps_ret (pe_op op_cat (pe_op op_cat (pv 3) (pe_lst (pa_cons (pe_fn G_upright (hr.mono (by decide)) rfl passE (pa_cons (pv 2) pa_nil)) pa_nil))) (pe_slice (sl_list_K (K := K) rfl) (pv 0) (po_some (pv 4)) po_none)))
  pss_nil)
 pss_nil)
  (pss_cons (ps_if (pt_cmpR op_eq (pe_fn G_head_of (hr.mono (by decide)) rfl passE (pa_cons (pv 2) pa_nil)) (pe_fn G_head_of (hr.mono (by decide)) rfl passE (pa_cons (pv 5) pa_nil)) (nomark _))
 (pss_cons (ps_set (i := 6) sc_taken_in.nd rfl (Or.inl rfl) (pe_fn G_merged (hr.mono (by decide)) rfl passE (pa_cons (pv 5) (pa_cons (pv 2) pa_nil))))
  (pss_cons (ps_expr (pe_append_K (K := K) rfl (pv 3) (pa_cons (pe_ix (ix_tup_K (K := K) rfl) (pv 6) pe_int (fun _ _ => rfl)) pa_nil)))
  (pss_cons (ps_set (i := 2) sc_taken_in.nd rfl (Or.inl rfl) (pe_fn G_lowered (hr.mono (by decide)) rfl passE (pa_cons (pe_ix (ix_tup_K (K := K) rfl) (pv 6) pe_int (fun _ _ => rfl)) (pa_cons (pe_slice (sl_list_K (K := K) rfl) (pv 0) (po_some (pe_op op_add (pv 4) pe_int)) po_none) pa_nil))))
  pss_nil)))
 (pss_cons (ps_expr (pe_append_K (K := K) rfl (pv 3) (pa_cons (pv 5) pa_nil)))
  pss_nil))
  pss_nil)))
  (pss_cons (ps_if (pt_cmpR op_lt (pe_fn G_head_of (hr.mono (by decide)) rfl passE (pa_cons (pv 2) pa_nil)) (pe_callB (call_len_K (K := K) rfl) rfl T.len PySem.boot_len (pa_cons (pv 2) pa_nil)) (nomark _))
 (pss_cons (ps_expr (pe_append_K (K := K) rfl (pv 3) (pa_cons (pe_fn G_upright (hr.mono (by decide)) rfl passE (pa_cons (pv 2) pa_nil)) pa_nil)))
  pss_nil)
 pss_nil)
  (pss_cons (ps_ret (pv 3))
  pss_nil))))), .inl ?_⟩
  show L2.Run _ ([.va false (dQ K (List.map (fun (xs : (List Int)) => dL (List.map dI xs)) a0_steps)), .va false (dQ K (List.map dI a1_row)), .no, .no, .no, .no, .no] : L2.Ctx) _ ((fun (r : (List (List Int))) => Oc.rt false (dL (List.map (fun (xs : (List Int)) => dL (List.map dI xs)) r))) (m_taken_in a0_steps a1_row))
  unfold m_taken_in
  exact (run_let (m := true) (x := (m_lowered a1_row a0_steps)) (fun (xs : (List Int)) => dL (List.map dI xs)) (fun (r : (List (List Int))) => Oc.rt false (dL (List.map (fun (xs : (List Int)) => dL (List.map dI xs)) r))) (ev_call (x := (a1_row, a0_steps)) (eva_cons (ev_var (i := 1) rfl) (eva_cons (ev_var (i := 0) rfl) eva_nil)) rfl (by show pre_lowered a1_row a0_steps; exact tk_low p1 p2 p3 p4 p5 p6 p7) rfl) (fun loose41 hloose41 =>
 have hL := (hloose41).trans (lowered_eq _ _); (run_setO (m := true) (ds := List.map (fun (xs : (List Int)) => dL (List.map dI xs)) []) (ev_nillst (m := true) eva_nil)
 (run_forR (s0 := ([], loose41)) (fun (s51 : (List (List Int)) × (List Int)) => ([.va false (dQ K (List.map (fun (xs : (List Int)) => dL (List.map dI xs)) a0_steps)), .va false (dQ K (List.map dI a1_row)), .va true (dL (List.map dI s51.2)), .ow false (List.map (fun (xs : (List Int)) => dL (List.map dI xs)) s51.1), .no, .no, .no] : L2.Ctx)) (fun (r : (List (List Int))) => Oc.rt false (dL (List.map (fun (xs : (List Int)) => dL (List.map dI xs)) r))) (fun b => b) (fun (s51 : (List (List Int)) × (List Int)) (x52 : (Int × (List Int))) => (((bif (decide ((m_head_of s51.2) < (m_head_of x52.2))) then (Sum.inr ((s51.1 ++ [(m_upright s51.2)]) ++ (cutD a0_steps (some x52.1) none)))
 else (Let (bif (decide ((m_head_of s51.2) = (m_head_of x52.2))) then (s51.1 ++ [(m_merged x52.2 s51.2).1]) else (s51.1 ++ [x52.2])) (fun (grown58 : (List (List Int))) =>
 (Let (bif (decide ((m_head_of s51.2) = (m_head_of x52.2))) then (m_lowered ((m_merged x52.2 s51.2).2) (cutD a0_steps (some (x52.1 + (1 : Int))) none)) else s51.2) (fun (loose59 : (List Int)) =>
 (Sum.inl (grown58, loose59)))))))) : ((List (List Int)) × (List Int)) ⊕ (List (List Int)))) (fun (i : Nat) (s51 : (List (List Int)) × (List Int)) => Lat.TI a0_steps N0 A0 S0 i s51) (fun b => .inl ⟨_, _, rfl⟩) (iv_enum (m := false) (fun (xs : (List Int)) => dL (List.map dI xs)) (xs := a0_steps) (ev_var (i := 0) rfl)) (.eq (.eq (.eq (.oldL (.eq (.eq (.eq .nil))))))) (by rw [hL]; exact Lat.TI.start p2 p3 p4 p5) (fun i53 x52 s51 hx54 hI55 => have qhx54 := enumZ_get hx54; ⟨(by intro z hz; simp only [head_eq, upright_eq, merged_eq, lowered_eq] at hz; exact Lat.TI.step (by assumption) p2 p3 (by assumption) hz),
 (run_if_seq (b := (decide ((m_head_of s51.2) < (m_head_of x52.2)))) (outOf (fun (s51 : (List (List Int)) × (List Int)) => ([.va false (dQ K (List.map (fun (xs : (List Int)) => dL (List.map dI xs)) a0_steps)), .va false (dQ K (List.map dI a1_row)), .va true (dL (List.map dI s51.2)), .ow false (List.map (fun (xs : (List Int)) => dL (List.map dI xs)) s51.1), .no, .no, .no] : L2.Ctx)) (fun (r : (List (List Int))) => Oc.rt false (dL (List.map (fun (xs : (List Int)) => dL (List.map dI xs)) r)))) (evt_test (ev_op0 (x := (m_head_of s51.2)) (y := (m_head_of x52.2)) (Ev.any (m := true) (ev_call (x := s51.2) (eva_cons (Ev.old (Ev.weak (K := K) (ev_var (i := 2) rfl))) eva_nil) rfl (by show pre_head_of s51.2; exact trivial) rfl)) (Ev.any (m := true) (ev_call (x := x52.2) (eva_cons (Ev.weak (K := K) (ev_var (i := 5) rfl)) eva_nil) rfl (by show pre_head_of x52.2; exact trivial) rfl)))) (fun h56 => (run_seq_assoc (run_share (i := 3) rfl (run_seq_rt (run_ret (EvO.ev (ev_catM (f := (fun (xs : (List Int)) => dL (List.map dI xs))) (xs := (s51.1 ++ [(m_upright s51.2)])) (ys := (cutD a0_steps (some x52.1) none)) (EvO.ev (ev_catM (f := (fun (xs : (List Int)) => dL (List.map dI xs))) (xs := s51.1) (ys := [(m_upright s51.2)]) (ev_var (i := 3) rfl) (EvO.ev (ev_lst (eva_cons (ev_call (x := s51.2) (eva_cons (Ev.old (ev_var (i := 2) rfl)) eva_nil) rfl (by show pre_upright s51.2; first | exact tk_up1 p1 (by assumption) (p3 _ (Lat.TI.mem (by assumption)).1) (by assumption) | exact tk_up2 p1 (by assumption) (by assumption)) rfl) eva_nil) (by show 1 ≤ sizeLine; decide))) (by exact tk_len1 (by assumption) (by assumption) p6))) (EvO.ev (ev_cutM (f := (fun (xs : (List Int)) => dL (List.map dI xs))) (xs := a0_steps) (ev_var (i := 0) rfl) (evp_some (Ev.any (m := false) (ev_var (i := 4) rfl))) evp_none)) (by exact tk_len2 (by assumption) (by assumption) p6)))))))) (fun h56 =>
 (run_seq_next (run_join (b := (decide ((m_head_of s51.2) = (m_head_of x52.2)))) (fun bb => ([.va false (dQ K (List.map (fun (xs : (List Int)) => dL (List.map dI xs)) a0_steps)), .va false (dQ K (List.map dI a1_row)), .va true (dL (List.map dI (bif bb then (m_lowered ((m_merged x52.2 s51.2).2) (cutD a0_steps (some (x52.1 + (1 : Int))) none)) else s51.2))), .ow false (List.map (fun (xs : (List Int)) => dL (List.map dI xs)) (bif bb then (s51.1 ++ [(m_merged x52.2 s51.2).1]) else (s51.1 ++ [x52.2]))), .va false (dI x52.1), .va false (dL (List.map dI x52.2)), .no] : L2.Ctx)) (evt_test (ev_eqI (x := (m_head_of s51.2)) (y := (m_head_of x52.2)) (Ev.any (m := true) (ev_call (x := s51.2) (eva_cons (Ev.old (Ev.weak (K := K) (ev_var (i := 2) rfl))) eva_nil) rfl (by show pre_head_of s51.2; exact trivial) rfl)) (Ev.any (m := true) (ev_call (x := x52.2) (eva_cons (Ev.weak (K := K) (ev_var (i := 5) rfl)) eva_nil) rfl (by show pre_head_of x52.2; exact trivial) rfl)))) (fun h57 => (run_set (m := true) (ev_call (x := (x52.2, s51.2)) (eva_cons (Ev.weak (K := K) (ev_var (i := 5) rfl)) (eva_cons (Ev.old (Ev.weak (K := K) (ev_var (i := 2) rfl))) eva_nil)) rfl (by show pre_merged x52.2 s51.2; exact Lat.TI.mrg (by assumption) p1 p3 (by assumption) (tk_hh (by assumption)) p7) rfl)
 (run_appendM (f := (fun (xs : (List Int)) => dL (List.map dI xs))) (xs := s51.1) (x := (m_merged x52.2 s51.2).1) rfl (Ev.old (ev_ixT (ev_var (i := 6) rfl) ev_c rfl)) (by exact tk_lt (by assumption) (by assumption) p6)
 (run_set (m := true) (ev_call (x := ((m_merged x52.2 s51.2).2, (cutD a0_steps (some (x52.1 + (1 : Int))) none))) (eva_cons (Ev.old (Ev.weak (K := K) (ev_ixT (ev_var (i := 6) rfl) ev_c rfl))) (eva_cons (Ev.weak (K := K) (EvO.ev (ev_cutM (f := (fun (xs : (List Int)) => dL (List.map dI xs))) (xs := a0_steps) (ev_var (i := 0) rfl) (evp_some (ev_op0 (x := x52.1) (y := (1 : Int)) (Ev.any (m := false) (ev_var (i := 4) rfl)) ev_c)) evp_none))) eva_nil)) rfl (by show pre_lowered ((m_merged x52.2 s51.2).2) (cutD a0_steps (some (x52.1 + (1 : Int))) none); unfold pre_lowered; rw [merged_eq]; exact Lat.TI.low (by assumption) p1 p6 p3 (by assumption) (tk_hh (by assumption)) p7) rfl)
 (run_next (.eq (.eq (.eq (.eq (.eq (.eq (.no .nil)))))))))))) (fun h57 => (run_appendM (f := (fun (xs : (List Int)) => dL (List.map dI xs))) (xs := s51.1) (x := x52.2) rfl (ev_var (i := 5) rfl) (by exact tk_lt (by assumption) (by assumption) p6)
 (run_next (.eq (.eq (.eq (.eq (.eq (.eq (.eq .nil))))))))))
 (run_gen (x := (bif (decide ((m_head_of s51.2) = (m_head_of x52.2))) then (s51.1 ++ [(m_merged x52.2 s51.2).1]) else (s51.1 ++ [x52.2]))) (fun grown58 => ([.va false (dQ K (List.map (fun (xs : (List Int)) => dL (List.map dI xs)) a0_steps)), .va false (dQ K (List.map dI a1_row)), .va true (dL (List.map dI (bif (decide ((m_head_of s51.2) = (m_head_of x52.2))) then (m_lowered ((m_merged x52.2 s51.2).2) (cutD a0_steps (some (x52.1 + (1 : Int))) none)) else s51.2))), .ow false (List.map (fun (xs : (List Int)) => dL (List.map dI xs)) grown58), .va false (dI x52.1), .va false (dL (List.map dI x52.2)), .no] : L2.Ctx)) (outOf (fun (s51 : (List (List Int)) × (List Int)) => ([.va false (dQ K (List.map (fun (xs : (List Int)) => dL (List.map dI xs)) a0_steps)), .va false (dQ K (List.map dI a1_row)), .va true (dL (List.map dI s51.2)), .ow false (List.map (fun (xs : (List Int)) => dL (List.map dI xs)) s51.1), .no, .no, .no] : L2.Ctx)) (fun (r : (List (List Int))) => Oc.rt false (dL (List.map (fun (xs : (List Int)) => dL (List.map dI xs)) r)))) (fun grown58 hgrown58 =>
 (run_gen (x := (bif (decide ((m_head_of s51.2) = (m_head_of x52.2))) then (m_lowered ((m_merged x52.2 s51.2).2) (cutD a0_steps (some (x52.1 + (1 : Int))) none)) else s51.2)) (fun loose59 => ([.va false (dQ K (List.map (fun (xs : (List Int)) => dL (List.map dI xs)) a0_steps)), .va false (dQ K (List.map dI a1_row)), .va true (dL (List.map dI loose59)), .ow false (List.map (fun (xs : (List Int)) => dL (List.map dI xs)) grown58), .va false (dI x52.1), .va false (dL (List.map dI x52.2)), .no] : L2.Ctx)) (outOf (fun (s51 : (List (List Int)) × (List Int)) => ([.va false (dQ K (List.map (fun (xs : (List Int)) => dL (List.map dI xs)) a0_steps)), .va false (dQ K (List.map dI a1_row)), .va true (dL (List.map dI s51.2)), .ow false (List.map (fun (xs : (List Int)) => dL (List.map dI xs)) s51.1), .no, .no, .no] : L2.Ctx)) (fun (r : (List (List Int))) => Oc.rt false (dL (List.map (fun (xs : (List Int)) => dL (List.map dI xs)) r)))) (fun loose59 hloose59 =>
 (run_next (.eq (.eq (.eq (.eq (.no (.no (.eq .nil))))))))))))))))⟩) (fun r60 hr60 hI =>
 (run_join (b := (decide ((m_head_of r60.2) < ((r60.2.length : Nat) : Int)))) (fun bb => ([.va false (dQ K (List.map (fun (xs : (List Int)) => dL (List.map dI xs)) a0_steps)), .va false (dQ K (List.map dI a1_row)), .va true (dL (List.map dI r60.2)), .ow false (List.map (fun (xs : (List Int)) => dL (List.map dI xs)) (bif bb then (r60.1 ++ [(m_upright r60.2)]) else r60.1)), .no, .no, .no] : L2.Ctx)) (evt_test (ev_op0 (x := (m_head_of r60.2)) (y := ((r60.2.length : Nat) : Int)) (Ev.any (m := true) (ev_call (x := r60.2) (eva_cons (Ev.old (Ev.weak (K := K) (ev_var (i := 2) rfl))) eva_nil) rfl (by show pre_head_of r60.2; exact trivial) rfl)) (ev_lenM (f := dI) (xs := r60.2) (Ev.old (Ev.weak (K := K) (ev_var (i := 2) rfl)))))) (fun h61 => (run_appendM (f := (fun (xs : (List Int)) => dL (List.map dI xs))) (xs := r60.1) (x := (m_upright r60.2)) rfl (ev_call (x := r60.2) (eva_cons (Ev.old (ev_var (i := 2) rfl)) eva_nil) rfl (by show pre_upright r60.2; first | exact tk_up1 p1 (by assumption) (p3 _ (Lat.TI.mem (by assumption)).1) (by assumption) | exact tk_up2 p1 (by assumption) (by assumption)) rfl) (by exact tk_lt2 (by assumption) p6)
 (run_next (.eq (.eq (.eq (.eq (.eq (.eq (.eq .nil)))))))))) (fun h61 => (run_next (.eq (.eq (.eq (.eq (.eq (.eq (.eq .nil)))))))))
 (run_gen (x := (bif (decide ((m_head_of r60.2) < ((r60.2.length : Nat) : Int))) then (r60.1 ++ [(m_upright r60.2)]) else r60.1)) (fun grown62 => ([.va false (dQ K (List.map (fun (xs : (List Int)) => dL (List.map dI xs)) a0_steps)), .va false (dQ K (List.map dI a1_row)), .va true (dL (List.map dI r60.2)), .ow false (List.map (fun (xs : (List Int)) => dL (List.map dI xs)) grown62), .no, .no, .no] : L2.Ctx)) (fun (r : (List (List Int))) => Oc.rt false (dL (List.map (fun (xs : (List Int)) => dL (List.map dI xs)) r))) (fun grown62 hgrown62 =>
 (run_share (i := 3) rfl (run_seq_rt (run_ret (ev_var (i := 3) rfl))))))))))))
theorem taken_eq (ss : List (List Int)) (l : List Int) : m_taken_in ss l = Lat.tin Lat.MG ss (Lat.low l ss) := by
  unfold m_taken_in
  simp only [head_eq, upright_eq, merged_eq, lowered_eq]
  exact Lat.tinL ss _
theorem st_body (x : List Int) (fl : List (List Int)) : Let ([(m_lowered x fl)] ++ fl) (fun (y : List (List Int)) => y) = [Lat.low x fl] ++ fl := by unfold Let; rw [lowered_eq]
theorem st_len {steps fl : List (List Int)} {i : Nat} {x y : List Int} (h : Lat.StlP steps) (hx : steps.reverse[i]? = some x) (e : fl = Lat.stl (steps.drop (steps.length - i))) : [y].length + fl.length ≤ PySem.sizeLine := by
  obtain ⟨j, h1, _⟩ := Lat.stl_get hx
  have := Lat.stl_fl h (by omega) e
  apply small_len
  simp; omega
def m_settled (a0_steps : (List (List Int))) : (List (List Int)) :=
 (Let (List.foldl (fun (s63 : (List (List Int))) (x64 : (List Int)) => (Let ([(m_lowered x64 s63)] ++ s63) (fun (flat68 : (List (List Int))) =>
 flat68))) [] (List.reverse a0_steps)) (fun (r69 : (List (List Int))) =>
 r69))
def pre_settled (a0_steps : (List (List Int))) : Prop := Lat.StlP a0_steps
def sp_settled (K : PySem.W.Frag) (A : Adr) : Sp := Spv (ι := (List (List Int))) (fun x => [dQ K (List.map (fun (xs : (List Int)) => dL (List.map dI xs)) x)]) (fun x => pre_settled x) (fun x => .va true (dL (List.map (fun (xs : (List Int)) => dL (List.map dI xs)) (m_settled x))))
theorem sc_settled : FnScope ["steps", "flat", "step"] ["steps"] (defScope s_settled) := ⟨rfl, rfl, rfl, by decide +kernel, rfl, by decide +kernel, by decide +kernel⟩
theorem ok_settled (F : Fun K "settled" "settled" s_settled f fd) (T : Txt K mg A) (G_lowered : Callee P w K mg base (CXE P w) 3 "lowered" ["row", "steps"] (sp_lowered K A)) : FnOk P w K mg base (CXE P w) 4 f fd ["steps"] (sp_settled K A) := by
  refine F.okV sc_settled (fun _ => rfl) (fun cdv Ar outer s H E a0_steps hr hp => ?_)
  have hu := hr.units
  replace hp : pre_settled a0_steps := hp
  unfold pre_settled at hp
  refine ⟨_, (pss_cons (ps_set (i := 1) sc_settled.nd rfl (Or.inl rfl) (pe_lst pa_nil))
  (pss_cons (ps_for PassesOwn.never rfl (pi_rev rfl rfl T.reversed (pa_cons (pv 0) pa_nil)) (pg_name (i := 2) sc_settled.nd rfl (Or.inl rfl) (Or.inl rfl))
 (pss_cons (ps_set (i := 1) sc_settled.nd rfl (Or.inl rfl) (pe_op op_cat (pe_lst (pa_cons (pe_fn G_lowered (hr.mono (by decide)) rfl passE (pa_cons (pv 2) (pa_cons (pv 1) pa_nil))) pa_nil)) (pv 1)))
  pss_nil))
  (pss_cons (ps_ret (pv 1))
  pss_nil))), .inl ?_⟩
  show L2.Run _ ([.va false (dQ K (List.map (fun (xs : (List Int)) => dL (List.map dI xs)) a0_steps)), .no, .no] : L2.Ctx) _ ((fun (r : (List (List Int))) => Oc.rt true (dL (List.map (fun (xs : (List Int)) => dL (List.map dI xs)) r))) (m_settled a0_steps))
  unfold m_settled
  exact (run_set (m := true) (EvO.ev (ev_nillst (m := true) eva_nil))
 (run_fold (s0 := []) (fun (s63 : (List (List Int))) => ([.va false (dQ K (List.map (fun (xs : (List Int)) => dL (List.map dI xs)) a0_steps)), .va true (dL (List.map (fun (xs : (List Int)) => dL (List.map dI xs)) s63)), .no] : L2.Ctx)) (fun (r : (List (List Int))) => Oc.rt true (dL (List.map (fun (xs : (List Int)) => dL (List.map dI xs)) r))) (fun (s63 : (List (List Int))) (x64 : (List Int)) => (Let ([(m_lowered x64 s63)] ++ s63) (fun (flat68 : (List (List Int))) =>
 flat68))) (fun (i : Nat) (s63 : (List (List Int))) => s63 = Lat.stl (a0_steps.drop (a0_steps.length - i))) (iv_rev (m := false) (fun (xs : (List Int)) => dL (List.map dI xs)) (xs := a0_steps) (ev_var (i := 0) rfl)) (.eq (.eq (.eq .nil))) (by simp [Lat.stl]) (fun i65 x64 s63 hx66 hI67 => have qhx66 := List.mem_of_getElem? hx66; ⟨(by exact Lat.stl_stp (by assumption) (by assumption) (st_body _ _)),
 (run_let (m := true) (x := ([(m_lowered x64 s63)] ++ s63)) (fun (xs : (List (List Int))) => dL (List.map (fun (xs : (List Int)) => dL (List.map dI xs)) xs)) (fun z => Oc.nx ((fun (s63 : (List (List Int))) => ([.va false (dQ K (List.map (fun (xs : (List Int)) => dL (List.map dI xs)) a0_steps)), .va true (dL (List.map (fun (xs : (List Int)) => dL (List.map dI xs)) s63)), .no] : L2.Ctx)) z)) (EvO.ev (ev_catM (f := (fun (xs : (List Int)) => dL (List.map dI xs))) (xs := [(m_lowered x64 s63)]) (ys := s63) (EvO.ev (ev_lst (eva_cons (ev_call (x := (x64, s63)) (eva_cons (Ev.weak (K := K) (ev_var (i := 2) rfl)) (eva_cons (Ev.old (Ev.weak (K := K) (ev_var (i := 1) rfl))) eva_nil)) rfl (by show pre_lowered x64 s63; exact Lat.stl_low hp (by assumption) (by assumption)) rfl) eva_nil) (by show 1 ≤ sizeLine; decide))) (ev_var (i := 1) rfl) (by exact st_len hp (by assumption) (by assumption)))) (fun flat68 hflat68 =>
 (run_next (.eq (.eq (.no .nil))))))⟩) (fun r69 hr69 hI =>
 (run_seq_rt (run_ret (ev_var (i := 1) rfl))))))
theorem settled_eq (ss : List (List Int)) : m_settled ss = Lat.stl ss := by
  unfold m_settled
  simp only [lowered_eq]
  exact Lat.stlL ss
theorem cl_body {rows ss : List (List Int)} {r : List Int} {i : Nat} (hr : rows[i]? = some r) (e : ss = Lat.clm Lat.MG (rows.take i)) : Let (m_settled (m_taken_in ss r)) (fun (y : List (List Int)) => y) = Lat.clm Lat.MG (rows.take (i + 1)) := by
  unfold Let
  rw [settled_eq, taken_eq, Lat.clm_take hr, e]
def m_climbed (a0_rows : (List (List Int))) : (List (List Int)) :=
 (Let (List.foldl (fun (s70 : (List (List Int))) (x71 : (List Int)) => (Let (m_settled (m_taken_in s70 x71)) (fun (steps75 : (List (List Int))) =>
 steps75))) [] a0_rows) (fun (r76 : (List (List Int))) =>
 r76))
def pre_climbed (a0_rows : (List (List Int))) : Prop := Lat.ClmP a0_rows
def sp_climbed (K : PySem.W.Frag) (A : Adr) : Sp := Spv (ι := (List (List Int))) (fun x => [dQ K (List.map (fun (xs : (List Int)) => dL (List.map dI xs)) x)]) (fun x => pre_climbed x) (fun x => .va true (dL (List.map (fun (xs : (List Int)) => dL (List.map dI xs)) (m_climbed x))))
theorem sc_climbed : FnScope ["rows", "steps", "row"] ["rows"] (defScope s_climbed) := ⟨rfl, rfl, rfl, by decide +kernel, rfl, by decide +kernel, by decide +kernel⟩
theorem ok_climbed (F : Fun K "climbed" "climbed" s_climbed f fd) (T : Txt K mg A) (G_settled : Callee P w K mg base (CXE P w) 4 "settled" ["steps"] (sp_settled K A)) (G_taken_in : Callee P w K mg base (CXE P w) 4 "taken_in" ["steps", "row"] (sp_taken_in K A)) : FnOk P w K mg base (CXE P w) 5 f fd ["rows"] (sp_climbed K A) := by
  refine F.okV sc_climbed (fun _ => rfl) (fun cdv Ar outer s H E a0_rows hr hp => ?_)
  have hu := hr.units
  replace hp : pre_climbed a0_rows := hp
  unfold pre_climbed at hp
  obtain ⟨N0, B0, R0, p1, p2, p3⟩ := hp
  refine ⟨_, (pss_cons (ps_set (i := 1) sc_climbed.nd rfl (Or.inl rfl) (pe_lst pa_nil))
  (pss_cons (ps_for PassesOwn.never rfl (pi_list_K (K := K) rfl (pv 0)) (pg_name (i := 2) sc_climbed.nd rfl (Or.inl rfl) (Or.inl rfl))
 (pss_cons (ps_set (i := 1) sc_climbed.nd rfl (Or.inl rfl) (pe_fn G_settled (hr.mono (by decide)) rfl passE (pa_cons (pe_fn G_taken_in (hr.mono (by decide)) rfl passE (pa_cons (pv 1) (pa_cons (pv 2) pa_nil))) pa_nil)))
  pss_nil))
  (pss_cons (ps_ret (pv 1))
  pss_nil))), .inl ?_⟩
  show L2.Run _ ([.va false (dQ K (List.map (fun (xs : (List Int)) => dL (List.map dI xs)) a0_rows)), .no, .no] : L2.Ctx) _ ((fun (r : (List (List Int))) => Oc.rt true (dL (List.map (fun (xs : (List Int)) => dL (List.map dI xs)) r))) (m_climbed a0_rows))
  unfold m_climbed
  exact (run_set (m := true) (EvO.ev (ev_nillst (m := true) eva_nil))
 (run_fold (s0 := []) (fun (s70 : (List (List Int))) => ([.va false (dQ K (List.map (fun (xs : (List Int)) => dL (List.map dI xs)) a0_rows)), .va true (dL (List.map (fun (xs : (List Int)) => dL (List.map dI xs)) s70)), .no] : L2.Ctx)) (fun (r : (List (List Int))) => Oc.rt true (dL (List.map (fun (xs : (List Int)) => dL (List.map dI xs)) r))) (fun (s70 : (List (List Int))) (x71 : (List Int)) => (Let (m_settled (m_taken_in s70 x71)) (fun (steps75 : (List (List Int))) =>
 steps75))) (fun (i : Nat) (s70 : (List (List Int))) => s70 = Lat.clm Lat.MG (a0_rows.take i)) (iv_list (m := false) (fun (xs : (List Int)) => dL (List.map dI xs)) (xs := a0_rows) (ev_var (i := 0) rfl)) (.eq (.eq (.eq .nil))) (by rfl) (fun i72 x71 s70 hx73 hI74 => have qhx73 := List.mem_of_getElem? hx73; ⟨(by exact cl_body (by assumption) (by assumption)),
 (run_let (m := true) (x := (m_settled (m_taken_in s70 x71))) (fun (xs : (List (List Int))) => dL (List.map (fun (xs : (List Int)) => dL (List.map dI xs)) xs)) (fun z => Oc.nx ((fun (s70 : (List (List Int))) => ([.va false (dQ K (List.map (fun (xs : (List Int)) => dL (List.map dI xs)) a0_rows)), .va true (dL (List.map (fun (xs : (List Int)) => dL (List.map dI xs)) s70)), .no] : L2.Ctx)) z)) (ev_call (x := (m_taken_in s70 x71)) (eva_cons (Ev.weak (K := K) (ev_call (x := (s70, x71)) (eva_cons (Ev.old (Ev.weak (K := K) (ev_var (i := 1) rfl))) (eva_cons (Ev.weak (K := K) (ev_var (i := 2) rfl)) eva_nil)) rfl (by show pre_taken_in s70 x71; exact (Lat.clm_low p1 p2 p3 (by assumption) (by assumption)).2.1) rfl)) eva_nil) rfl (by show pre_settled (m_taken_in s70 x71); unfold pre_settled; rw [taken_eq]; exact (Lat.clm_low p1 p2 p3 (by assumption) (by assumption)).2.2) rfl) (fun steps75 hsteps75 =>
 (run_next (.eq (.eq (.no .nil))))))⟩) (fun r76 hr76 hI =>
 (run_seq_rt (run_ret (ev_var (i := 1) rfl))))))
theorem climbed_eq (rows : List (List Int)) : m_climbed rows = Lat.clm Lat.MG rows := by
  unfold m_climbed Lat.clm
  simp only [settled_eq, taken_eq]
  rfl
theorem so_ix {rows : List (List Int)} {r : List Int} (h : r ∈ rows) : InB rows.length (0 : Int) := by
  have := List.length_pos_of_mem h
  unfold InB; omega
theorem so_like {rows : List (List Int)} {r : List Int} (hp : Lat.ClmP rows) (h : r ∈ rows) : pre_refuse_unlike (ixD rows (0 : Int)) r := by
  obtain ⟨n, b, R, _, _, p⟩ := hp
  show (ixD rows (0 : Int)).length = r.length
  rw [(p _ (ixD_mem (so_ix h))).1, (p _ h).1]
def m_stairs_of (a0_rows : (List (List Int))) : (List (List Int)) :=
 (Let (List.foldl (fun (s77 : Unit) (x78 : (List Int)) => ()) () a0_rows) (fun (r82 : Unit) =>
 (m_climbed a0_rows)))
def pre_stairs_of (a0_rows : (List (List Int))) : Prop := Lat.ClmP a0_rows
def sp_stairs_of (K : PySem.W.Frag) (A : Adr) : Sp := Spv (ι := (List (List Int))) (fun x => [dQ K (List.map (fun (xs : (List Int)) => dL (List.map dI xs)) x)]) (fun x => pre_stairs_of x) (fun x => .va true (dL (List.map (fun (xs : (List Int)) => dL (List.map dI xs)) (m_stairs_of x))))
theorem sc_stairs_of : FnScope ["rows", "row"] ["rows"] (defScope s_stairs_of) := ⟨rfl, rfl, rfl, by decide +kernel, rfl, by decide +kernel, by decide +kernel⟩
theorem ok_stairs_of (F : Fun K "stairs_of" "stairs_of" s_stairs_of f fd) (T : Txt K mg A) (G_climbed : Callee P w K mg base (CXE P w) 5 "climbed" ["rows"] (sp_climbed K A)) (G_refuse_unlike : Callee P w K mg base (CXE P w) 1 "refuse_unlike" ["one", "other"] (sp_refuse_unlike K A)) : FnOk P w K mg base (CXE P w) 6 f fd ["rows"] (sp_stairs_of K A) := by
  refine F.okV sc_stairs_of (fun _ => rfl) (fun cdv Ar outer s H E a0_rows hr hp => ?_)
  have hu := hr.units
  replace hp : pre_stairs_of a0_rows := hp
  unfold pre_stairs_of at hp
  refine ⟨_, (pss_cons (ps_for PassesOwn.never rfl (pi_list_K (K := K) rfl (pv 0)) (pg_name (i := 1) sc_stairs_of.nd rfl (Or.inl rfl) (Or.inl rfl))
 (pss_cons (ps_expr (pe_fn G_refuse_unlike (hr.mono (by decide)) rfl passE (pa_cons (pe_ix (ix_list_K (K := K) rfl) (pv 0) pe_int (fun _ _ => rfl)) (pa_cons (pv 1) pa_nil))))
  pss_nil))
  (pss_cons (ps_ret (pe_fn G_climbed (hr.mono (by decide)) rfl passE (pa_cons (pv 0) pa_nil)))
  pss_nil)), .inl ?_⟩
  show L2.Run _ ([.va false (dQ K (List.map (fun (xs : (List Int)) => dL (List.map dI xs)) a0_rows)), .no] : L2.Ctx) _ ((fun (r : (List (List Int))) => Oc.rt true (dL (List.map (fun (xs : (List Int)) => dL (List.map dI xs)) r))) (m_stairs_of a0_rows))
  unfold m_stairs_of
  exact (run_fold (s0 := ()) (fun (s77 : Unit) => ([.va false (dQ K (List.map (fun (xs : (List Int)) => dL (List.map dI xs)) a0_rows)), .no] : L2.Ctx)) (fun (r : (List (List Int))) => Oc.rt true (dL (List.map (fun (xs : (List Int)) => dL (List.map dI xs)) r))) (fun (s77 : Unit) (x78 : (List Int)) => ()) (fun _ _ => True) (iv_list (m := false) (fun (xs : (List Int)) => dL (List.map dI xs)) (xs := a0_rows) (ev_var (i := 0) rfl)) (.eq (.eq .nil)) trivial (fun i79 x78 s77 hx80 hI81 => have qhx80 := List.mem_of_getElem? hx80; ⟨trivial,
 (run_drop (m := true) (Ev.any (m := true) (ev_call (x := ((ixD a0_rows (0 : Int)), x78)) (eva_cons (Ev.weak (K := K) (ev_ixM (f := (fun (xs : (List Int)) => dL (List.map dI xs))) (xs := a0_rows) (ev_var (i := 0) rfl) ev_c (by exact so_ix (by assumption)))) (eva_cons (Ev.weak (K := K) (ev_var (i := 1) rfl)) eva_nil)) rfl (by show pre_refuse_unlike (ixD a0_rows (0 : Int)) x78; exact so_like hp (by assumption)) rfl))
 (run_next (.eq (.no .nil))))⟩) (fun r82 hr82 hI =>
 (run_seq_rt (run_ret (ev_call (x := a0_rows) (eva_cons (ev_var (i := 0) rfl) eva_nil) rfl (by show pre_climbed a0_rows; exact hp) rfl)))))
theorem stairs_eq (rows : List (List Int)) : m_stairs_of rows = Lat.clm Lat.MG rows := climbed_eq rows
def m_law_cell (a0_script : (List Int)) (a1_k : Int) : Int :=
 (bif (decide (a1_k < ((a0_script.length : Nat) : Int))) then ((ixD a0_script a1_k) % (2147483647 : Int))
 else (0 : Int))
def pre_law_cell (a0_script : (List Int)) (a1_k : Int) : Prop := 0 ≤ a1_k
def sp_law_cell (K : PySem.W.Frag) (A : Adr) : Sp := Spv (ι := (List Int) × Int) (fun x => [dQ K (List.map dI x.1), dI x.2]) (fun x => pre_law_cell x.1 x.2) (fun x => .va true (dI (m_law_cell x.1 x.2)))
theorem sc_law_cell : FnScope ["_law_script", "_law_k"] ["_law_script", "_law_k"] (defScope s_law_cell) := ⟨rfl, rfl, rfl, by decide +kernel, rfl, by decide +kernel, by decide +kernel⟩
theorem ok_law_cell (F : Fun K "_law_cell" "_law_cell" s_law_cell f fd) (T : Txt K mg A)  : FnOk P w K mg base (CXE P w) 1 f fd ["_law_script", "_law_k"] (sp_law_cell K A) := by
  refine F.okV sc_law_cell (fun _ => rfl) (fun cdv Ar outer s H E x hr hp => ?_)
  obtain ⟨a0_script, a1_k⟩ := x
  have hu := hr.units
  replace hp : pre_law_cell a0_script a1_k := hp
  unfold pre_law_cell at hp
  refine ⟨_, (pss_cons (ps_if (pt_cmpR op_lt (pv 1) (pe_callB (call_len_K (K := K) rfl) rfl T.len PySem.boot_len (pa_cons (pv 0) pa_nil)) (nomark _))
 (pss_cons (ps_ret (pe_op op_mod (pe_ix (ix_list_K (K := K) rfl) (pv 0) (pv 1) (fun _ _ => rfl)) pe_int))
  pss_nil)
 pss_nil)
  (pss_cons (ps_ret pe_int)
  pss_nil)), .inl ?_⟩
  show L2.Run _ ([.va false (dQ K (List.map dI a0_script)), .va false (dI a1_k)] : L2.Ctx) _ ((fun (r : Int) => Oc.rt true (dI r)) (m_law_cell a0_script a1_k))
  unfold m_law_cell
  exact (run_if_seq (b := (decide (a1_k < ((a0_script.length : Nat) : Int)))) (fun (r : Int) => Oc.rt true (dI r)) (evt_test (ev_op0 (x := a1_k) (y := ((a0_script.length : Nat) : Int)) (Ev.any (m := false) (ev_var (i := 1) rfl)) (ev_lenM (f := dI) (xs := a0_script) (ev_var (i := 0) rfl)))) (fun h83 => (run_seq_assoc (run_seq_rt (run_ret (ev_opC (x := (ixD a0_script a1_k)) (y := (2147483647 : Int)) (Ev.any (m := false) (ev_ixM (f := dI) (xs := a0_script) (ev_var (i := 0) rfl) (Ev.any (m := false) (ev_var (i := 1) rfl)) (by unfold InB; constructor <;> ((try simp only [decide_eq_true_eq, decide_eq_false_iff_not, Bool.not_eq_true', Bool.not_eq_false', Bool.and_eq_true, Bool.or_eq_false_iff, Bool.or_eq_true, Bool.and_eq_false_iff, Bool.cond_eq_ite] at *) <;> omega)))) ev_c (by decide)))))) (fun h83 =>
 (run_seq_next (run_seq_rt (run_ret ev_c)))))
theorem app_len {s : List Int} {i : Nat} {y : Int} (h : s.length ≤ i) : (s ++ [y]).length ≤ i + 1 := by simp; omega
theorem app_lt {s : List Int} {i n : Nat} {x lo : Int} (h : s.length ≤ i) (hx : i < n ∧ x = lo + (i : Int)) (hn : n ≤ 400) : s.length < PySem.sizeLine := Nat.lt_of_le_of_lt (show _ ≤ 10000 by omega) (by decide)
def m_law_numbers (a0_script : (List Int)) (a1_at : Int) (a2_many : Int) (a3_size : Int) : (List Int) :=
 (Let (List.foldl (fun (s84 : (List Int)) (x85 : Int) => (Let ((x85 * x85) + ((3 : Int) * x85)) (fun (number89 : Int) =>
 (Let (bif (decide (x85 < ((a0_script.length : Nat) : Int))) then (ixD a0_script x85) else number89) (fun (number91 : Int) =>
 (s84 ++ [((number91 % (((2 : Int) * a3_size) + (1 : Int))) - a3_size)])))))) [] (rngZ a1_at ((a1_at + a2_many) - a1_at).toNat)) (fun (r92 : (List Int)) =>
 r92))
def pre_law_numbers (a0_script : (List Int)) (a1_at : Int) (a2_many : Int) (a3_size : Int) : Prop := 0 ≤ a1_at ∧ a1_at ≤ 200 ∧ 0 ≤ a2_many ∧ a2_many ≤ 400 ∧ 0 ≤ a3_size
def sp_law_numbers (K : PySem.W.Frag) (A : Adr) : Sp := Spv (ι := (List Int) × Int × Int × Int) (fun x => [dQ K (List.map dI x.1), dI x.2.1, dI x.2.2.1, dI x.2.2.2]) (fun x => pre_law_numbers x.1 x.2.1 x.2.2.1 x.2.2.2) (fun x => .ow true (List.map dI (m_law_numbers x.1 x.2.1 x.2.2.1 x.2.2.2)))
theorem sc_law_numbers : FnScope ["_law_script", "_law_at", "_law_many", "_law_size", "_law_found", "_law_k", "_law_number"] ["_law_script", "_law_at", "_law_many", "_law_size"] (defScope s_law_numbers) := ⟨rfl, rfl, rfl, by decide +kernel, rfl, by decide +kernel, by decide +kernel⟩
theorem ok_law_numbers (F : Fun K "_law_numbers" "_law_numbers" s_law_numbers f fd) (T : Txt K mg A)  : FnOk P w K mg base (CXE P w) 1 f fd ["_law_script", "_law_at", "_law_many", "_law_size"] (sp_law_numbers K A) := by
  refine F.okV sc_law_numbers (fun _ => rfl) (fun cdv Ar outer s H E x hr hp => ?_)
  obtain ⟨a0_script, a1_at, a2_many, a3_size⟩ := x
  have hu := hr.units
  replace hp : pre_law_numbers a0_script a1_at a2_many a3_size := hp
  unfold pre_law_numbers at hp
  refine ⟨_, (pss_cons (ps_set (i := 4) sc_law_numbers.nd rfl (Or.inl rfl) (pe_lst pa_nil))
  (pss_cons (ps_for PassesOwn.never rfl (pi_range2 rfl T.range (pa_cons (pv 1) (pa_cons (pe_op op_add (pv 1) (pv 2)) pa_nil))) (pg_name (i := 5) sc_law_numbers.nd rfl (Or.inl rfl) (Or.inl rfl))
 (pss_cons (ps_set (i := 6) sc_law_numbers.nd rfl (Or.inl rfl) (pe_op op_add (pe_op op_mulX (pv 5) (pv 5)) (pe_op op_mulX pe_int (pv 5))))
  (pss_cons (ps_if (pt_cmpR op_lt (pv 5) (pe_callB (call_len_K (K := K) rfl) rfl T.len PySem.boot_len (pa_cons (pv 0) pa_nil)) (nomark _))
 (pss_cons (ps_set (i := 6) sc_law_numbers.nd rfl (Or.inl rfl) (pe_ix (ix_list_K (K := K) rfl) (pv 0) (pv 5) (fun _ _ => rfl)))
  pss_nil)
 pss_nil)
  (pss_cons (ps_expr (pe_append_K (K := K) rfl (pv 4) (pa_cons (pe_op op_sub (pe_op op_mod (pv 6) (pe_op op_add (pe_op op_mulX pe_int (pv 3)) pe_int)) (pv 3)) pa_nil)))
  pss_nil))))
  (pss_cons (ps_ret (pv 4))
  pss_nil))), .inl ?_⟩
  show L2.Run _ ([.va false (dQ K (List.map dI a0_script)), .va false (dI a1_at), .va false (dI a2_many), .va false (dI a3_size), .no, .no, .no] : L2.Ctx) _ ((fun r => Oc.rl true (List.map dI r)) (m_law_numbers a0_script a1_at a2_many a3_size))
  unfold m_law_numbers
  exact (run_setO (m := true) (ds := List.map dI []) (ev_nillst (m := true) eva_nil)
 (run_fold (s0 := []) (fun (s84 : (List Int)) => ([.va false (dQ K (List.map dI a0_script)), .va false (dI a1_at), .va false (dI a2_many), .va false (dI a3_size), .ow true (List.map dI s84), .no, .no] : L2.Ctx)) (fun r => Oc.rl true (List.map dI r)) (fun (s84 : (List Int)) (x85 : Int) => (Let ((x85 * x85) + ((3 : Int) * x85)) (fun (number89 : Int) =>
 (Let (bif (decide (x85 < ((a0_script.length : Nat) : Int))) then (ixD a0_script x85) else number89) (fun (number91 : Int) =>
 (s84 ++ [((number91 % (((2 : Int) * a3_size) + (1 : Int))) - a3_size)])))))) (fun (i : Nat) (s84 : (List Int)) => s84.length ≤ i) (iv_rng2 (m := true) (lo := a1_at) (hi := (a1_at + a2_many)) (Ev.any (m := false) (ev_var (i := 1) rfl)) (ev_op0 (x := a1_at) (y := a2_many) (Ev.any (m := false) (ev_var (i := 1) rfl)) (Ev.any (m := false) (ev_var (i := 2) rfl))) (by refine ⟨?_, ?_, ?_, ?_⟩ <;> omega)) (.eq (.eq (.eq (.eq (.eq (.eq (.eq .nil))))))) (by exact Nat.le_refl 0) (fun i86 x85 s84 hx87 hI88 => have qhx87 := rngZ_get hx87; ⟨(by exact app_len (by assumption)),
 (run_let (m := true) (x := ((x85 * x85) + ((3 : Int) * x85))) dI (fun z => Oc.nx ((fun (s84 : (List Int)) => ([.va false (dQ K (List.map dI a0_script)), .va false (dI a1_at), .va false (dI a2_many), .va false (dI a3_size), .ow true (List.map dI s84), .no, .no] : L2.Ctx)) z)) (ev_op0 (x := (x85 * x85)) (y := ((3 : Int) * x85)) (ev_opC (x := x85) (y := x85) (Ev.any (m := true) (ev_var (i := 5) rfl)) (Ev.any (m := true) (ev_var (i := 5) rfl)) (by exact .inl ⟨by omega, by omega⟩)) (ev_opC (x := (3 : Int)) (y := x85) ev_c (Ev.any (m := true) (ev_var (i := 5) rfl)) (by exact .inl ⟨by omega, by omega⟩))) (fun number89 hnumber89 =>
 (run_join (b := (decide (x85 < ((a0_script.length : Nat) : Int)))) (fun bb => ([.va false (dQ K (List.map dI a0_script)), .va false (dI a1_at), .va false (dI a2_many), .va false (dI a3_size), .ow true (List.map dI s84), .va true (dI x85), .va true (dI (bif bb then (ixD a0_script x85) else number89))] : L2.Ctx)) (evt_test (ev_op0 (x := x85) (y := ((a0_script.length : Nat) : Int)) (Ev.any (m := true) (ev_var (i := 5) rfl)) (ev_lenM (f := dI) (xs := a0_script) (ev_var (i := 0) rfl)))) (fun h90 => (run_set (m := true) (Ev.any (m := false) (ev_ixM (f := dI) (xs := a0_script) (ev_var (i := 0) rfl) (Ev.any (m := true) (ev_var (i := 5) rfl)) (by unfold InB; constructor <;> ((try simp only [decide_eq_true_eq, decide_eq_false_iff_not, Bool.not_eq_true', Bool.not_eq_false', Bool.and_eq_true, Bool.or_eq_false_iff, Bool.or_eq_true, Bool.and_eq_false_iff, Bool.cond_eq_ite] at *) <;> omega))))
 (run_next (.eq (.eq (.eq (.eq (.eq (.eq (.eq .nil)))))))))) (fun h90 => (run_next (.eq (.eq (.eq (.eq (.eq (.eq (.eq .nil)))))))))
 (run_gen (x := (bif (decide (x85 < ((a0_script.length : Nat) : Int))) then (ixD a0_script x85) else number89)) (fun number91 => ([.va false (dQ K (List.map dI a0_script)), .va false (dI a1_at), .va false (dI a2_many), .va false (dI a3_size), .ow true (List.map dI s84), .va true (dI x85), .va true (dI number91)] : L2.Ctx)) (fun z => Oc.nx ((fun (s84 : (List Int)) => ([.va false (dQ K (List.map dI a0_script)), .va false (dI a1_at), .va false (dI a2_many), .va false (dI a3_size), .ow true (List.map dI s84), .no, .no] : L2.Ctx)) z)) (fun number91 hnumber91 =>
 (run_appendM (f := dI) (xs := s84) (x := ((number91 % (((2 : Int) * a3_size) + (1 : Int))) - a3_size)) rfl (ev_op0 (x := (number91 % (((2 : Int) * a3_size) + (1 : Int)))) (y := a3_size) (ev_opC (x := number91) (y := (((2 : Int) * a3_size) + (1 : Int))) (Ev.any (m := true) (ev_var (i := 6) rfl)) (ev_op0 (x := ((2 : Int) * a3_size)) (y := (1 : Int)) (ev_opC (x := (2 : Int)) (y := a3_size) ev_c (Ev.any (m := false) (ev_var (i := 3) rfl)) (by exact .inl ⟨by omega, by omega⟩)) ev_c) (by show (0 : Int) < _; omega)) (Ev.any (m := false) (ev_var (i := 3) rfl))) (by exact app_lt (by assumption) (by assumption) (by omega))
 (run_next (.eq (.eq (.eq (.eq (.eq (.no (.no .nil))))))))))))))⟩) (fun r92 hr92 hI =>
 (run_seq_rl (run_retOwn (i := 4) rfl)))))
def m_law_shape (a0_script : (List Int)) : (List Int) :=
 (Let (m_law_cell a0_script (0 : Int)) (fun (cell93 : Int) =>
 (Let ((1 : Int) + (cell93 % (4 : Int))) (fun (wide94 : Int) =>
 (Let ((cell93 / (4 : Int)) % (6 : Int)) (fun (many95 : Int) =>
 (Let (bif (decide (((cell93 / (24 : Int)) % (16 : Int)) = (7 : Int))) then ((5 : Int) + ((cell93 / (384 : Int)) % (4 : Int))) else wide94) (fun (wide97 : Int) =>
 (Let (bif (decide (((cell93 / (24 : Int)) % (16 : Int)) = (7 : Int))) then ((6 : Int) + ((cell93 / (1536 : Int)) % (7 : Int))) else many95) (fun (many98 : Int) =>
 (Let (ixD [(9 : Int), (2 : Int), ((10 : Int) ^ (9 : Int).toNat), (9 : Int), (60 : Int), ((10 : Int) ^ (56 : Int).toNat), (9 : Int), (3 : Int)] ((m_law_cell a0_script (1 : Int)) % (8 : Int))) (fun (size99 : Int) =>
 (Let (bif ((decide ((60 : Int) < size99)) && (decide ((4 : Int) < wide97))) then (9 : Int) else size99) (fun (size101 : Int) =>
 (Let (bif ((decide (((10 : Int) ^ (9 : Int).toNat) < size101)) && ((decide ((3 : Int) < wide97)) || (decide ((4 : Int) < many98)))) then ((10 : Int) ^ (9 : Int).toNat) else size101) (fun (size103 : Int) =>
 [wide97, many98, size103]))))))))))))))))
def pre_law_shape (a0_script : (List Int)) : Prop := True
def sp_law_shape (K : PySem.W.Frag) (A : Adr) : Sp := Spv (ι := (List Int)) (fun x => [dQ K (List.map dI x)]) (fun x => pre_law_shape x) (fun x => .va true (dL (List.map dI (m_law_shape x))))
theorem sc_law_shape : FnScope ["_law_script", "_law_cell_here", "_law_wide", "_law_many", "_law_size"] ["_law_script"] (defScope s_law_shape) := ⟨rfl, rfl, rfl, by decide +kernel, rfl, by decide +kernel, by decide +kernel⟩
theorem ok_law_shape (F : Fun K "_law_shape" "_law_shape" s_law_shape f fd) (T : Txt K mg A) (G_law_cell : Callee P w K mg base (CXE P w) 1 "_law_cell" ["_law_script", "_law_k"] (sp_law_cell K A)) : FnOk P w K mg base (CXE P w) 2 f fd ["_law_script"] (sp_law_shape K A) := by
  refine F.okV sc_law_shape (fun _ => rfl) (fun cdv Ar outer s H E a0_script hr hp => ?_)
  have hu := hr.units
  replace hp : pre_law_shape a0_script := hp
  unfold pre_law_shape at hp
  refine ⟨_, (pss_cons (ps_set (i := 1) sc_law_shape.nd rfl (Or.inl rfl) (pe_fn G_law_cell (hr.mono (by decide)) rfl passE (pa_cons (pv 0) (pa_cons pe_int pa_nil))))
  (pss_cons (ps_set (i := 2) sc_law_shape.nd rfl (Or.inl rfl) (pe_op op_add pe_int (pe_op op_mod (pv 1) pe_int)))
  (pss_cons (ps_set (i := 3) sc_law_shape.nd rfl (Or.inl rfl) (pe_op op_mod (pe_op op_fdivB (pv 1) pe_int) pe_int))
  (pss_cons (ps_if (pt_cmpR op_eq (pe_op op_mod (pe_op op_fdivB (pv 1) pe_int) pe_int) pe_int (nomark _))
 (pss_cons (ps_set (i := 2) sc_law_shape.nd rfl (Or.inl rfl) (pe_op op_add pe_int (pe_op op_mod (pe_op op_fdivB (pv 1) pe_int) pe_int)))
  (pss_cons (ps_set (i := 3) sc_law_shape.nd rfl (Or.inl rfl) (pe_op op_add pe_int (pe_op op_mod (pe_op op_fdivB (pv 1) pe_int) pe_int)))
  pss_nil))
 pss_nil)
  (pss_cons (ps_set (i := 4) sc_law_shape.nd rfl (Or.inl rfl) (pe_ix (ix_list_K (K := K) rfl) (pe_lst (pa_cons pe_int (pa_cons pe_int (pa_cons (pe_op op_pow pe_int pe_int) (pa_cons pe_int (pa_cons pe_int (pa_cons (pe_op op_pow pe_int pe_int) (pa_cons pe_int (pa_cons pe_int pa_nil))))))))) (pe_op op_mod (pe_fn G_law_cell (hr.mono (by decide)) rfl passE (pa_cons (pv 0) (pa_cons pe_int pa_nil))) pe_int) (fun _ _ => rfl)))
  (pss_cons (ps_if (PW.pt (pw_and (pt_cmpR op_gt (pv 4) pe_int (nomark _)) (pw_and1 (pt_cmpR op_gt (pv 2) pe_int (nomark _)))))
 (pss_cons (ps_set (i := 4) sc_law_shape.nd rfl (Or.inl rfl) pe_int)
  pss_nil)
 pss_nil)
  (pss_cons (ps_if (PW.pt (pw_and (pt_cmpR op_gt (pv 4) (pe_op op_pow pe_int pe_int) (nomark _)) (pw_and1 (PW.pt (pw_or (pt_cmpR op_gt (pv 2) pe_int (nomark _)) (pw_or1 (pt_cmpR op_gt (pv 3) pe_int (nomark _))))))))
 (pss_cons (ps_set (i := 4) sc_law_shape.nd rfl (Or.inl rfl) (pe_op op_pow pe_int pe_int))
  pss_nil)
 pss_nil)
  (pss_cons (ps_ret (pe_lst (pa_cons (pv 2) (pa_cons (pv 3) (pa_cons (pv 4) pa_nil)))))
  pss_nil)))))))), .inl ?_⟩
  show L2.Run _ ([.va false (dQ K (List.map dI a0_script)), .no, .no, .no, .no] : L2.Ctx) _ ((fun (r : (List Int)) => Oc.rt true (dL (List.map dI r))) (m_law_shape a0_script))
  unfold m_law_shape
  exact (run_let (m := true) (x := (m_law_cell a0_script (0 : Int))) dI (fun (r : (List Int)) => Oc.rt true (dL (List.map dI r))) (Ev.any (m := true) (ev_call (x := (a0_script, (0 : Int))) (eva_cons (ev_var (i := 0) rfl) (eva_cons ev_c eva_nil)) rfl (by show pre_law_cell a0_script (0 : Int); unfold pre_law_cell; decide) rfl)) (fun cell93 hcell93 =>
 (run_let (m := true) (x := ((1 : Int) + (cell93 % (4 : Int)))) dI (fun (r : (List Int)) => Oc.rt true (dL (List.map dI r))) (ev_op0 (x := (1 : Int)) (y := (cell93 % (4 : Int))) ev_c (ev_opC (x := cell93) (y := (4 : Int)) (Ev.any (m := true) (ev_var (i := 1) rfl)) ev_c (by decide))) (fun wide94 hwide94 =>
 (run_let (m := true) (x := ((cell93 / (4 : Int)) % (6 : Int))) dI (fun (r : (List Int)) => Oc.rt true (dL (List.map dI r))) (ev_opC (x := (cell93 / (4 : Int))) (y := (6 : Int)) (ev_opC (x := cell93) (y := (4 : Int)) (Ev.any (m := true) (ev_var (i := 1) rfl)) ev_c (by exact ⟨by decide, by decide⟩)) ev_c (by decide)) (fun many95 hmany95 =>
 (run_join (b := (decide (((cell93 / (24 : Int)) % (16 : Int)) = (7 : Int)))) (fun bb => ([.va false (dQ K (List.map dI a0_script)), .va true (dI cell93), .va true (dI (bif bb then ((5 : Int) + ((cell93 / (384 : Int)) % (4 : Int))) else wide94)), .va true (dI (bif bb then ((6 : Int) + ((cell93 / (1536 : Int)) % (7 : Int))) else many95)), .no] : L2.Ctx)) (evt_test (ev_eqI (x := ((cell93 / (24 : Int)) % (16 : Int))) (y := (7 : Int)) (ev_opC (x := (cell93 / (24 : Int))) (y := (16 : Int)) (ev_opC (x := cell93) (y := (24 : Int)) (Ev.any (m := true) (ev_var (i := 1) rfl)) ev_c (by exact ⟨by decide, by decide⟩)) ev_c (by decide)) ev_c)) (fun h96 => (run_set (m := true) (ev_op0 (x := (5 : Int)) (y := ((cell93 / (384 : Int)) % (4 : Int))) ev_c (ev_opC (x := (cell93 / (384 : Int))) (y := (4 : Int)) (ev_opC (x := cell93) (y := (384 : Int)) (Ev.any (m := true) (ev_var (i := 1) rfl)) ev_c (by exact ⟨by decide, by decide⟩)) ev_c (by decide)))
 (run_set (m := true) (ev_op0 (x := (6 : Int)) (y := ((cell93 / (1536 : Int)) % (7 : Int))) ev_c (ev_opC (x := (cell93 / (1536 : Int))) (y := (7 : Int)) (ev_opC (x := cell93) (y := (1536 : Int)) (Ev.any (m := true) (ev_var (i := 1) rfl)) ev_c (by exact ⟨by decide, by decide⟩)) ev_c (by decide)))
 (run_next (.eq (.eq (.eq (.eq (.eq .nil))))))))) (fun h96 => (run_next (.eq (.eq (.eq (.eq (.eq .nil)))))))
 (run_gen (x := (bif (decide (((cell93 / (24 : Int)) % (16 : Int)) = (7 : Int))) then ((5 : Int) + ((cell93 / (384 : Int)) % (4 : Int))) else wide94)) (fun wide97 => ([.va false (dQ K (List.map dI a0_script)), .va true (dI cell93), .va true (dI wide97), .va true (dI (bif (decide (((cell93 / (24 : Int)) % (16 : Int)) = (7 : Int))) then ((6 : Int) + ((cell93 / (1536 : Int)) % (7 : Int))) else many95)), .no] : L2.Ctx)) (fun (r : (List Int)) => Oc.rt true (dL (List.map dI r))) (fun wide97 hwide97 =>
 (run_gen (x := (bif (decide (((cell93 / (24 : Int)) % (16 : Int)) = (7 : Int))) then ((6 : Int) + ((cell93 / (1536 : Int)) % (7 : Int))) else many95)) (fun many98 => ([.va false (dQ K (List.map dI a0_script)), .va true (dI cell93), .va true (dI wide97), .va true (dI many98), .no] : L2.Ctx)) (fun (r : (List Int)) => Oc.rt true (dL (List.map dI r))) (fun many98 hmany98 =>
 (run_let (m := true) (x := (ixD [(9 : Int), (2 : Int), ((10 : Int) ^ (9 : Int).toNat), (9 : Int), (60 : Int), ((10 : Int) ^ (56 : Int).toNat), (9 : Int), (3 : Int)] ((m_law_cell a0_script (1 : Int)) % (8 : Int)))) dI (fun (r : (List Int)) => Oc.rt true (dL (List.map dI r))) (ev_ixM (f := dI) (xs := [(9 : Int), (2 : Int), ((10 : Int) ^ (9 : Int).toNat), (9 : Int), (60 : Int), ((10 : Int) ^ (56 : Int).toNat), (9 : Int), (3 : Int)]) (Ev.weak (K := K) (EvO.ev (ev_lst (eva_cons ev_c (eva_cons ev_c (eva_cons (ev_opC (x := (10 : Int)) (y := (9 : Int)) ev_c ev_c (by exact ⟨by decide, by decide, by decide⟩)) (eva_cons ev_c (eva_cons ev_c (eva_cons (ev_opC (x := (10 : Int)) (y := (56 : Int)) ev_c ev_c (by exact ⟨by decide, by decide, by decide⟩)) (eva_cons ev_c (eva_cons ev_c eva_nil)))))))) (by show 8 ≤ sizeLine; decide)))) (ev_opC (x := (m_law_cell a0_script (1 : Int))) (y := (8 : Int)) (Ev.any (m := true) (ev_call (x := (a0_script, (1 : Int))) (eva_cons (ev_var (i := 0) rfl) (eva_cons ev_c eva_nil)) rfl (by show pre_law_cell a0_script (1 : Int); unfold pre_law_cell; decide) rfl)) ev_c (by decide)) (by unfold InB; simp only [List.length_cons, List.length_nil]; omega)) (fun size99 hsize99 =>
 (run_join (b := ((decide ((60 : Int) < size99)) && (decide ((4 : Int) < wide97)))) (fun bb => ([.va false (dQ K (List.map dI a0_script)), .va true (dI cell93), .va true (dI wide97), .va true (dI many98), .va true (dI (bif bb then (9 : Int) else size99))] : L2.Ctx)) (evt_and (b := (decide ((60 : Int) < size99))) (evt_test (ev_op0 (x := size99) (y := (60 : Int)) (Ev.any (m := true) (ev_var (i := 4) rfl)) ev_c)) (fun hb => (evt_test (ev_op0 (x := wide97) (y := (4 : Int)) (Ev.any (m := true) (ev_var (i := 2) rfl)) ev_c)))) (fun h100 => (run_set (m := true) ev_c
 (run_next (.eq (.eq (.eq (.eq (.eq .nil)))))))) (fun h100 => (run_next (.eq (.eq (.eq (.eq (.eq .nil)))))))
 (run_gen (x := (bif ((decide ((60 : Int) < size99)) && (decide ((4 : Int) < wide97))) then (9 : Int) else size99)) (fun size101 => ([.va false (dQ K (List.map dI a0_script)), .va true (dI cell93), .va true (dI wide97), .va true (dI many98), .va true (dI size101)] : L2.Ctx)) (fun (r : (List Int)) => Oc.rt true (dL (List.map dI r))) (fun size101 hsize101 =>
 (run_join (b := ((decide (((10 : Int) ^ (9 : Int).toNat) < size101)) && ((decide ((3 : Int) < wide97)) || (decide ((4 : Int) < many98))))) (fun bb => ([.va false (dQ K (List.map dI a0_script)), .va true (dI cell93), .va true (dI wide97), .va true (dI many98), .va true (dI (bif bb then ((10 : Int) ^ (9 : Int).toNat) else size101))] : L2.Ctx)) (evt_and (b := (decide (((10 : Int) ^ (9 : Int).toNat) < size101))) (evt_test (ev_op0 (x := size101) (y := ((10 : Int) ^ (9 : Int).toNat)) (Ev.any (m := true) (ev_var (i := 4) rfl)) (ev_opC (x := (10 : Int)) (y := (9 : Int)) ev_c ev_c (by exact ⟨by decide, by decide, by decide⟩)))) (fun hb => (evt_or (b := (decide ((3 : Int) < wide97))) (evt_test (ev_op0 (x := wide97) (y := (3 : Int)) (Ev.any (m := true) (ev_var (i := 2) rfl)) ev_c)) (fun hb => (evt_test (ev_op0 (x := many98) (y := (4 : Int)) (Ev.any (m := true) (ev_var (i := 3) rfl)) ev_c)))))) (fun h102 => (run_set (m := true) (ev_opC (x := (10 : Int)) (y := (9 : Int)) ev_c ev_c (by exact ⟨by decide, by decide, by decide⟩))
 (run_next (.eq (.eq (.eq (.eq (.eq .nil)))))))) (fun h102 => (run_next (.eq (.eq (.eq (.eq (.eq .nil)))))))
 (run_gen (x := (bif ((decide (((10 : Int) ^ (9 : Int).toNat) < size101)) && ((decide ((3 : Int) < wide97)) || (decide ((4 : Int) < many98)))) then ((10 : Int) ^ (9 : Int).toNat) else size101)) (fun size103 => ([.va false (dQ K (List.map dI a0_script)), .va true (dI cell93), .va true (dI wide97), .va true (dI many98), .va true (dI size103)] : L2.Ctx)) (fun (r : (List Int)) => Oc.rt true (dL (List.map dI r))) (fun size103 hsize103 =>
 (run_seq_rt (run_ret (EvO.ev (ev_lst (eva_cons (Ev.any (m := true) (ev_var (i := 2) rfl)) (eva_cons (Ev.any (m := true) (ev_var (i := 3) rfl)) (eva_cons (Ev.any (m := true) (ev_var (i := 4) rfl)) eva_nil))) (by show 3 ≤ sizeLine; decide))))))))))))))))))))))))
def ShpOk (sh : List Int) : Prop := sh.length = 3 ∧ 1 ≤ ixD sh (0 : Int) ∧ ixD sh (0 : Int) ≤ 24 ∧ 0 ≤ ixD sh (1 : Int) ∧ ixD sh (1 : Int) ≤ 12 ∧ 0 ≤ ixD sh (2 : Int) ∧ ixD sh (2 : Int) ≤ 2 ^ 187
theorem shape_ok (xs : List Int) : ShpOk (m_law_shape xs) ∧ ixD (m_law_shape xs) (0 : Int) ≤ 8 := by
  unfold m_law_shape Let
  dsimp only
  generalize m_law_cell xs 0 = c
  have hsz : ∀ k : Int, 0 ≤ ixD [(9 : Int), (2 : Int), ((10 : Int) ^ (9 : Int).toNat), (9 : Int), (60 : Int), ((10 : Int) ^ (56 : Int).toNat), (9 : Int), (3 : Int)] (k % (8 : Int)) ∧ ixD [(9 : Int), (2 : Int), ((10 : Int) ^ (9 : Int).toNat), (9 : Int), (60 : Int), ((10 : Int) ^ (56 : Int).toNat), (9 : Int), (3 : Int)] (k % (8 : Int)) ≤ 2 ^ 187 := fun k => by
    have h : ∀ x ∈ [(9 : Int), (2 : Int), ((10 : Int) ^ (9 : Int).toNat), (9 : Int), (60 : Int), ((10 : Int) ^ (56 : Int).toNat), (9 : Int), (3 : Int)], 0 ≤ x ∧ x ≤ 2 ^ 187 := by decide +kernel
    exact h _ (ixD_mem (by unfold InB; simp only [List.length_cons, List.length_nil]; omega))
  generalize m_law_cell xs 1 = d
  have h0 := hsz d
  generalize ixD [(9 : Int), (2 : Int), ((10 : Int) ^ (9 : Int).toNat), (9 : Int), (60 : Int), ((10 : Int) ^ (56 : Int).toNat), (9 : Int), (3 : Int)] (d % (8 : Int)) = z at *
  have h1 : ∀ b1 : Bool, 1 ≤ (bif b1 then ((5 : Int) + ((c / (384 : Int)) % (4 : Int))) else ((1 : Int) + (c % (4 : Int)))) ∧ (bif b1 then ((5 : Int) + ((c / (384 : Int)) % (4 : Int))) else ((1 : Int) + (c % (4 : Int)))) ≤ 8 := fun b1 => by
    cases b1
    · rw [cond_false]; omega
    · rw [cond_true]; omega
  have h2 : ∀ b1 : Bool, 0 ≤ (bif b1 then ((6 : Int) + ((c / (1536 : Int)) % (7 : Int))) else ((c / (4 : Int)) % (6 : Int))) ∧ (bif b1 then ((6 : Int) + ((c / (1536 : Int)) % (7 : Int))) else ((c / (4 : Int)) % (6 : Int))) ≤ 12 := fun b1 => by
    cases b1
    · rw [cond_false]; omega
    · rw [cond_true]; omega
  have h3 : ∀ (b1 : Bool), 0 ≤ (bif b1 then (9 : Int) else z) ∧ (bif b1 then (9 : Int) else z) ≤ 2 ^ 187 := fun b1 => by
    cases b1
    · exact h0
    · rw [cond_true]; exact ⟨by decide, by decide +kernel⟩
  have h4 : ∀ (b1 : Bool) (z : Int), (0 ≤ z ∧ z ≤ 2 ^ 187) → 0 ≤ (bif b1 then ((10 : Int) ^ (9 : Int).toNat) else z) ∧ (bif b1 then ((10 : Int) ^ (9 : Int).toNat) else z) ≤ 2 ^ 187 := fun b1 z h => by
    cases b1
    · exact h
    · rw [cond_true]; exact ⟨by decide, by decide +kernel⟩
  refine ⟨⟨rfl, (h1 _).1, Int.le_trans (h1 _).2 (by decide), (h2 _).1, (h2 _).2, (h4 _ _ (h3 _)).1, (h4 _ _ (h3 _)).2⟩, (h1 _).2⟩
def numG (xs : List Int) (z x : Int) : Int := ((bif (decide (x < ((xs.length : Nat) : Int))) then (ixD xs x) else ((x * x) + ((3 : Int) * x))) % (((2 : Int) * z) + (1 : Int))) - z
theorem num_eq (xs : List Int) (a m z : Int) : m_law_numbers xs a m z = List.map (numG xs z) (rngZ a m.toNat) := by
  unfold m_law_numbers
  show List.foldl (fun s x => s ++ [numG xs z x]) [] (rngZ a ((a + m) - a).toNat) = _
  rw [Lat.fold_app, show a + m - a = m by omega]
  rfl
theorem numG_bd {xs : List Int} {z x : Int} (h0 : 0 ≤ z) (h1 : z ≤ 2 ^ 187) : (numG xs z x).natAbs ≤ 2 ^ 187 := by
  unfold numG
  generalize (bif (decide (x < ((xs.length : Nat) : Int))) then (ixD xs x) else ((x * x) + ((3 : Int) * x))) = y
  have e1 := Int.emod_nonneg y (show (2 : Int) * z + 1 ≠ 0 by omega)
  have e2 := Int.emod_lt_of_pos y (show 0 < (2 : Int) * z + 1 by omega)
  have e3 : ((2 : Nat) ^ 187 : Nat) = ((2 : Int) ^ 187).natAbs := by decide +kernel
  rw [e3]
  generalize (2 : Int) ^ 187 = q at *
  omega
theorem num_ok {xs : List Int} {a m z : Int} (h0 : 0 ≤ z) (h1 : z ≤ 2 ^ 187) : (m_law_numbers xs a m z).length = m.toNat ∧ Lat.Bit 187 (m_law_numbers xs a m z) := by
  rw [num_eq]
  refine ⟨by rw [List.length_map, rngZ_len], fun y hy => ?_⟩
  obtain ⟨x, _, rfl⟩ := List.mem_map.mp hy
  exact numG_bd h0 h1
theorem num2_ok {b : Bool} {ns ys : List Int} {k : Nat} (h : ns.length = k ∧ Lat.Bit 187 ns) (e : ys = bif b then (List.map (fun (x : (Int × Int)) => (x.2 * (((x.2 / (3 : Int)) + (x.1 * x.1)) % (2 : Int)))) (enumZ ns)) else ns) : ys.length = k ∧ Lat.Bit 187 ys := by
  subst e
  cases b
  · exact h
  · refine ⟨by rw [cond_true, List.length_map, enumZ_len, h.1], fun y hy => ?_⟩
    rw [cond_true] at hy
    obtain ⟨x, hx, rfl⟩ := List.mem_map.mp hy
    have hm : x.2 ∈ ns := by
      unfold enumZ at hx
      exact (List.of_mem_zip (a := x.1) (b := x.2) hx).2
    have h1 := h.2 _ hm
    have h2 : (((x.2 / (3 : Int)) + (x.1 * x.1)) % (2 : Int)).natAbs ≤ 1 := by omega
    rw [Int.natAbs_mul]
    exact Nat.le_trans (Nat.mul_le_mul_left _ h2) (by rw [Nat.mul_one]; exact h1)
theorem rows_ok {ns : List Int} {w m : Int} {rows : List (List Int)} (hw : 1 ≤ w) (hm : 0 ≤ m) (h : ns.length = (w * m).toNat ∧ Lat.Bit 187 ns) (e : rows = List.map (fun (x : Int) => (cutD ns (some (x * w)) (some ((x * w) + w)))) (rngZ 0 m.toNat)) : rows.length = m.toNat ∧ Lat.RB w.toNat 187 rows := by
  subst e
  refine ⟨by rw [List.length_map, rngZ_len], fun r hr => ?_⟩
  obtain ⟨x, hx, rfl⟩ := List.mem_map.mp hr
  obtain ⟨i, hi⟩ := List.getElem?_of_mem hx
  obtain ⟨h1, h2⟩ := rngZ_get hi
  refine ⟨?_, Lat.bit_cut h.2⟩
  obtain ⟨wn, rfl⟩ : ∃ wn : Nat, w = (wn : Int) := ⟨w.toNat, by omega⟩
  obtain ⟨mn, rfl⟩ : ∃ mn : Nat, m = (mn : Int) := ⟨m.toNat, by omega⟩
  have e1 : x * (wn : Int) = ((i * wn : Nat) : Int) := by rw [h2]; simp
  have e2 : ((wn : Int) * (mn : Int)).toNat = wn * mn := by rw [← Int.natCast_mul, Int.toNat_natCast]
  rw [e1, Int.toNat_natCast]
  refine Lat.cut_rows ?_
  rw [h.1, e2]
  simp only [Int.toNat_natCast] at h1
  have := Nat.mul_le_mul_right wn (show i + 1 ≤ mn by omega)
  rw [Nat.add_mul, Nat.mul_comm mn] at this
  omega
theorem sw1_ok {rows ys : List (List Int)} {w : Nat} {b : Bool} {i c d : Int} (h : Lat.RB w 187 rows) (hb : b = true → 2 < rows.length) (hc : c.natAbs ≤ 4) (hd : d.natAbs ≤ 4)
    (e : ys = bif b then (setZ rows i (List.map (fun (x : (Int × Int)) => ((c * x.1) + (d * x.2))) (List.zip (ixD rows (0 : Int)) (ixD rows (-(1 : Int)))))) else rows) : ys.length = rows.length ∧ Lat.RB w 190 ys := by
  subst e
  cases b
  · exact ⟨rfl, h.mono (by decide)⟩
  · have hb := hb rfl
    rw [cond_true]
    have h1 := h _ (ixD_mem (xs := rows) (i := (0 : Int)) (by unfold InB; omega))
    have h2 := h _ (ixD_mem (xs := rows) (i := (-(1 : Int))) (by unfold InB; omega))
    refine ⟨setZ_len, (h.mono (by decide)).setZ ⟨by rw [List.length_map, List.length_zip, h1.1, h2.1]; omega, Lat.bit_two h1.2 h2.2 hc hd⟩⟩
theorem sw2_ok {rows ys : List (List Int)} {w : Nat} {b : Bool} {c : Int} (h : Lat.RB w 190 rows) (hc : c.natAbs ≤ 16) (e : ys = bif b then (List.map (fun (x : (List Int)) => (List.map (fun (x : Int) => (x * c)) x)) rows) else rows) : ys.length = rows.length ∧ Lat.RB w 194 ys := by
  subst e
  cases b
  · exact ⟨rfl, h.mono (by decide)⟩
  · rw [cond_true]
    refine ⟨by rw [List.length_map], fun r hr => ?_⟩
    obtain ⟨x, hx, rfl⟩ := List.mem_map.mp hr
    exact ⟨by rw [List.length_map, (h x hx).1], Lat.bit_mul (h x hx).2 hc⟩
theorem sw3_ok {rows ys : List (List Int)} {w : Nat} {b : Bool} {c : Int} (h : Lat.RB w 194 rows) (hb : b = true → 0 < rows.length) (hc : c.natAbs ≤ 16) (e : ys = bif b then (setZ rows (0 : Int) (List.map (fun (x : Int) => (x * c)) (ixD rows (0 : Int)))) else rows) : ys.length = rows.length ∧ Lat.RB w 198 ys := by
  subst e
  cases b
  · exact ⟨rfl, h.mono (by decide)⟩
  · have hb := hb rfl
    rw [cond_true]
    have h1 := h _ (ixD_mem (xs := rows) (i := (0 : Int)) (by unfold InB; omega))
    exact ⟨setZ_len, (h.mono (by decide)).setZ ⟨by rw [List.length_map, h1.1], Lat.bit_mul h1.2 hc⟩⟩
theorem sw4_ok {rows ys : List (List Int)} {w i : Int} {b : Bool} (h : Lat.RB w.toNat 198 rows) (e : ys = bif b then (insZ rows i (List.map (fun (x : Int) => (0 : Int)) (rngZ 0 w.toNat))) else rows) : ys.length ≤ rows.length + 1 ∧ Lat.RB w.toNat 198 ys := by
  subst e
  cases b
  · exact ⟨Nat.le_succ _, h⟩
  · rw [cond_true]
    refine ⟨by rw [insZ_len]; exact Nat.le_refl _, h.insZ ⟨by rw [List.length_map, rngZ_len], fun x hx => ?_⟩⟩
    obtain ⟨_, _, rfl⟩ := List.mem_map.mp hx
    exact Nat.zero_le _
def RS (n : Nat) (rows : List (List Int)) : Prop := rows.length ≤ n ∧ ∀ r ∈ rows, r.length ≤ 24
def NL (ns : List Int) : Prop := ns.length ≤ 400
theorem mod_in {n : Nat} {x : Int} (h : 0 < n) : InB n (x % (n : Int)) := by
  have h1 := Int.emod_nonneg x (show (n : Int) ≠ 0 by omega)
  have h2 := Int.emod_lt_of_pos x (show 0 < (n : Int) by omega)
  unfold InB; omega
theorem ixD_len {n : Nat} {rows : List (List Int)} {i : Int} (h : RS n rows) : (ixD rows i).length ≤ 24 := by
  by_cases q : InB rows.length i
  · exact h.2 _ (ixD_mem q)
  · unfold ixD atI ixN
    unfold InB at q
    by_cases h0 : 0 ≤ i
    · rw [if_pos h0, if_neg (by omega)]; exact Nat.zero_le _
    · rw [if_neg h0, if_neg (by omega)]; exact Nat.zero_le _
theorem sh_ix {sh : List Int} (h : ShpOk sh) {k : Int} (h0 : 0 ≤ k) (h1 : k ≤ 2) : InB sh.length k := by
  have := h.1
  unfold InB; omega
theorem wm_le {sh : List Int} {w : Int} (h : ShpOk sh) (hw : w = ixD sh (0 : Int)) : 0 ≤ w * ixD sh (1 : Int) ∧ w * ixD sh (1 : Int) ≤ 288 := by
  obtain ⟨_, h1, h2, h3, h4, _⟩ := h
  exact ⟨Int.mul_nonneg (by omega) h3, Int.mul_le_mul (a := w) (c := 24) (b := ixD sh (1 : Int)) (d := 12) (by omega) (by omega) h3 (by decide)⟩
theorem wm_mul {sh : List Int} {w : Int} (h : ShpOk sh) (hw : w = ixD sh (0 : Int)) : CMulX w (ixD sh (1 : Int)) := by
  obtain ⟨_, h1, h2, h3, h4, _⟩ := h
  exact .inl ⟨by omega, by omega⟩
theorem nm_pre {xs sh : List Int} {a w : Int} (ha : a = 3) (h : ShpOk sh) (hw : w = ixD sh (0 : Int)) : pre_law_numbers xs a (w * ixD sh (1 : Int)) (ixD sh (2 : Int)) := by
  have := wm_le h hw
  obtain ⟨_, h1, h2, h3, h4, h5, h6⟩ := h
  exact ⟨by omega, by omega, this.1, by omega, h5⟩
theorem nm_len {xs sh ns : List Int} {a w : Int} (h : ShpOk sh) (hw : w = ixD sh (0 : Int)) (e : ns = m_law_numbers xs a (w * ixD sh (1 : Int)) (ixD sh (2 : Int))) : NL ns := by
  have := wm_le h hw
  subst e
  unfold NL
  rw [(num_ok h.2.2.2.2.2.1 h.2.2.2.2.2.2).1]
  omega
theorem nm2_len {b : Bool} {ns ys zs : List Int} {f : Int × Int → Int} (h : NL ns) (e : ys = bif b then (List.map f (enumZ ns)) else ns) : NL ys := by
  subst e
  cases b
  · exact h
  · unfold NL at *; rw [cond_true, List.length_map, enumZ_len]; exact h
theorem kk_mul {ns : List Int} {i : Nat} {p : Int × Int} (h : NL ns) (q : i < ns.length ∧ p.1 = (i : Int) ∧ ns[i]? = some p.2) : CMulX p.1 p.1 := by
  unfold NL at h
  exact .inl ⟨by omega, by omega⟩
theorem rs_rows {sh ns : List Int} {w : Int} {rows : List (List Int)} (h : ShpOk sh) (hw : w = ixD sh (0 : Int)) (e : rows = List.map (fun (x : Int) => (cutD ns (some (x * w)) (some ((x * w) + w)))) (rngZ 0 (ixD sh (1 : Int)).toNat)) : RS 12 rows := by
  obtain ⟨_, h1, h2, h3, h4, _⟩ := h
  subst e
  refine ⟨by rw [List.length_map, rngZ_len]; omega, fun r hr => ?_⟩
  obtain ⟨x, hx, rfl⟩ := List.mem_map.mp hr
  obtain ⟨i, hi⟩ := List.getElem?_of_mem hx
  obtain ⟨_, h2'⟩ := rngZ_get hi
  obtain ⟨wn, hwn⟩ : ∃ wn : Nat, w = (wn : Int) := ⟨w.toNat, by omega⟩
  have e1 : x * w = ((i * wn : Nat) : Int) := by rw [h2', hwn]; simp
  rw [e1, hwn, show (((i * wn : Nat) : Int) + (wn : Int)) = ((i * wn + wn : Nat) : Int) by omega]
  unfold cutD
  rw [HT.sIx_nat, HT.sIx_nat, List.length_take]
  omega
theorem rs1 {n : Nat} {b : Bool} {rows ys : List (List Int)} {i : Int} {f : Int × Int → Int} (h : RS n rows) (e : ys = bif b then (setZ rows i (List.map f (List.zip (ixD rows (0 : Int)) (ixD rows (-(1 : Int)))))) else rows) : RS n ys := by
  subst e
  cases b
  · exact h
  · rw [cond_true]
    refine ⟨by rw [setZ_len]; exact h.1, fun r hr => ?_⟩
    rcases Lat.setZ_mem hr with rfl | hr
    · rw [List.length_map, List.length_zip]; have := ixD_len (i := (0 : Int)) h; omega
    · exact h.2 r hr
theorem rs2 {n : Nat} {b : Bool} {rows ys : List (List Int)} {f : Int → Int} (h : RS n rows) (e : ys = bif b then (List.map (fun (x : (List Int)) => (List.map f x)) rows) else rows) : RS n ys := by
  subst e
  cases b
  · exact h
  · rw [cond_true]
    refine ⟨by rw [List.length_map]; exact h.1, fun r hr => ?_⟩
    obtain ⟨x, hx, rfl⟩ := List.mem_map.mp hr
    rw [List.length_map]; exact h.2 x hx
theorem rs3 {n : Nat} {b : Bool} {rows ys : List (List Int)} {f : Int → Int} (h : RS n rows) (e : ys = bif b then (setZ rows (0 : Int) (List.map f (ixD rows (0 : Int)))) else rows) : RS n ys := by
  subst e
  cases b
  · exact h
  · rw [cond_true]
    refine ⟨by rw [setZ_len]; exact h.1, fun r hr => ?_⟩
    rcases Lat.setZ_mem hr with rfl | hr
    · rw [List.length_map]; exact ixD_len h
    · exact h.2 r hr
theorem rs_len {n : Nat} {rows : List (List Int)} (h : RS n rows) (hn : n ≤ 1000) : rows.length ≤ PySem.sizeLine := small_len (by have := h.1; omega)
theorem rs_row {n : Nat} {rows : List (List Int)} {r : List Int} (h : RS n rows) (hr : r ∈ rows) : r.length ≤ PySem.sizeLine := small_len (by have := h.2 r hr; omega)
theorem rs_ix {n : Nat} {rows : List (List Int)} {i : Int} (h : RS n rows) : (ixD rows i).length ≤ PySem.sizeLine := small_len (by have := ixD_len (i := i) h; omega)
theorem rs_zip {n : Nat} {rows : List (List Int)} {i j : Int} (h : RS n rows) : (List.zip (ixD rows i) (ixD rows j)).length ≤ PySem.sizeLine := small_len (by have := ixD_len (i := i) h; rw [List.length_zip]; omega)
theorem nl_len {ns : List Int} (h : NL ns) : (enumZ ns).length ≤ PySem.sizeLine := small_len (by unfold NL at h; rw [enumZ_len]; omega)
theorem ins_ok {n : Nat} {x : Int} : 0 ≤ x % ((n : Int) + (1 : Int)) ∧ x % ((n : Int) + (1 : Int)) ≤ (n : Int) := by
  have h1 := Int.emod_nonneg x (show ((n : Int) + 1) ≠ 0 by omega)
  have h2 := Int.emod_lt_of_pos x (show 0 < ((n : Int) + 1) by omega)
  omega
theorem w_ok {sh : List Int} {w : Int} (h : ShpOk sh) (hw : w = ixD sh (0 : Int)) : 1 ≤ w ∧ w ≤ 24 := by
  obtain ⟨_, h1, h2, _⟩ := h; omega
def m_law_swaps (a0_script : (List Int)) (a1_at : Int) (a2_shape : (List Int)) : (List (List Int)) :=
 (Let (ixD a2_shape (0 : Int)) (fun (wide104 : Int) =>
 (Let (m_law_cell a0_script (2 : Int)) (fun (cell105 : Int) =>
 (Let (m_law_numbers a0_script a1_at (wide104 * (ixD a2_shape (1 : Int))) (ixD a2_shape (2 : Int))) (fun (numbers106 : (List Int)) =>
 (Let (bif (decide ((((m_law_cell a0_script (1 : Int)) / (8 : Int)) % (3 : Int)) = (1 : Int))) then (List.map (fun (x108 : (Int × Int)) => (x108.2 * (((x108.2 / (3 : Int)) + (x108.1 * x108.1)) % (2 : Int)))) (enumZ numbers106)) else numbers106) (fun (numbers111 : (List Int)) =>
 (Let (List.map (fun (x112 : Int) => (cutD numbers111 (some (x112 * wide104)) (some ((x112 * wide104) + wide104)))) (rngZ 0 (ixD a2_shape (1 : Int)).toNat)) (fun (swaps115 : (List (List Int))) =>
 (Let (cell105 % (5 : Int)) (fun (way116 : Int) =>
 (Let (bif ((decide (way116 = (1 : Int))) && (decide ((2 : Int) < ((swaps115.length : Nat) : Int)))) then (setZ swaps115 ((cell105 / (245 : Int)) % ((swaps115.length : Nat) : Int)) (List.map (fun (x118 : (Int × Int)) => (((((cell105 / (5 : Int)) % (7 : Int)) - (3 : Int)) * x118.1) + ((((cell105 / (35 : Int)) % (7 : Int)) - (3 : Int)) * x118.2))) (List.zip (ixD swaps115 (0 : Int)) (ixD swaps115 (-(1 : Int)))))) else swaps115) (fun (swaps121 : (List (List Int))) =>
 (Let (bif (decide (way116 = (2 : Int))) then (List.map (fun (x123 : (List Int)) => (List.map (fun (x126 : Int) => (x126 * ((2 : Int) + ((cell105 / (5 : Int)) % (11 : Int))))) x123)) swaps121) else swaps121) (fun (swaps129 : (List (List Int))) =>
 (Let (bif ((decide (way116 = (3 : Int))) && (decide ((0 : Int) < ((swaps129.length : Nat) : Int)))) then (setZ swaps129 (0 : Int) (List.map (fun (x131 : Int) => (x131 * ((2 : Int) + ((cell105 / (5 : Int)) % (11 : Int))))) (ixD swaps129 (0 : Int)))) else swaps129) (fun (swaps134 : (List (List Int))) =>
 (Let (bif ((decide (way116 = (4 : Int))) && (decide (((swaps134.length : Nat) : Int) < (12 : Int)))) then (insZ swaps134 ((cell105 / (5 : Int)) % (((swaps134.length : Nat) : Int) + (1 : Int))) (List.map (fun (x136 : Int) => (0 : Int)) (rngZ 0 wide104.toNat))) else swaps134) (fun (swaps139 : (List (List Int))) =>
 swaps139))))))))))))))))))))
def pre_law_swaps (a0_script : (List Int)) (a1_at : Int) (a2_shape : (List Int)) : Prop := a1_at = 3 ∧ ShpOk a2_shape
def sp_law_swaps (K : PySem.W.Frag) (A : Adr) : Sp := Spv (ι := (List Int) × Int × (List Int)) (fun x => [dQ K (List.map dI x.1), dI x.2.1, dQ K (List.map dI x.2.2)]) (fun x => pre_law_swaps x.1 x.2.1 x.2.2) (fun x => .ow true (List.map (fun (xs : (List Int)) => dL (List.map dI xs)) (m_law_swaps x.1 x.2.1 x.2.2)))
theorem sc_law_swaps : FnScope ["_law_script", "_law_at", "_law_shape_here", "_law_wide", "_law_cell_here", "_law_numbers_here", "_law_swaps_here", "_law_way", "_law_one", "_law_two"] ["_law_script", "_law_at", "_law_shape_here"] (defScope s_law_swaps) := ⟨rfl, rfl, rfl, by decide +kernel, rfl, by decide +kernel, by decide +kernel⟩
theorem ok_law_swaps (F : Fun K "_law_swaps" "_law_swaps" s_law_swaps f fd) (T : Txt K mg A) (G_law_cell : Callee P w K mg base (CXE P w) 1 "_law_cell" ["_law_script", "_law_k"] (sp_law_cell K A)) (G_law_numbers : Callee P w K mg base (CXE P w) 1 "_law_numbers" ["_law_script", "_law_at", "_law_many", "_law_size"] (sp_law_numbers K A)) : FnOk P w K mg base (CXE P w) 2 f fd ["_law_script", "_law_at", "_law_shape_here"] (sp_law_swaps K A) := by
  refine F.okV sc_law_swaps (fun _ => rfl) (fun cdv Ar outer s H E x hr hp => ?_)
  obtain ⟨a0_script, a1_at, a2_shape⟩ := x
  have hu := hr.units
  replace hp : pre_law_swaps a0_script a1_at a2_shape := hp
  unfold pre_law_swaps at hp
  refine ⟨_, (pss_cons (ps_set (i := 3) sc_law_swaps.nd rfl (Or.inr rfl) (pe_ix (ix_list_K (K := K) rfl) (pv 2) pe_int (fun _ _ => rfl)))
  (pss_cons (ps_set (i := 4) sc_law_swaps.nd rfl (Or.inr rfl) (pe_fn G_law_cell (hr.mono (by decide)) rfl passE (pa_cons (pv 0) (pa_cons pe_int pa_nil))))
  (pss_cons (ps_set (i := 5) sc_law_swaps.nd rfl (Or.inr rfl) (pe_fn G_law_numbers (hr.mono (by decide)) rfl passE (pa_cons (pv 0) (pa_cons (pv 1) (pa_cons (pe_op op_mulX (pv 3) (pe_ix (ix_list_K (K := K) rfl) (pv 2) pe_int (fun _ _ => rfl))) (pa_cons (pe_ix (ix_list_K (K := K) rfl) (pv 2) pe_int (fun _ _ => rfl)) pa_nil))))))
  (pss_cons (ps_if (pt_cmpR op_eq (pe_op op_mod (pe_op op_fdivB (pe_fn G_law_cell (hr.mono (by decide)) rfl passE (pa_cons (pv 0) (pa_cons pe_int pa_nil))) pe_int) pe_int) pe_int (nomark _))
 (pss_cons (ps_set (i := 5) sc_law_swaps.nd rfl (Or.inr rfl) (pe_comp rfl (.of (osc := (defScope s_law_swaps)) (N := ["_law_script", "_law_at", "_law_shape_here", "_law_wide", "_law_cell_here", "_law_numbers_here", "_law_swaps_here", "_law_way", "_law_one", "_law_two"]) (own := ["_law_k", "_law_number"]) (fvn := []) (fv := []) rfl rfl (by decide +kernel)) (pi_enum rfl rfl T.enumerate (pa_cons (pv 5) pa_nil)) (fun _ _ _ _ _ => ⟨(pg_tup_K (K := K) (n := 2) rfl rfl (pgs_cons (pg_name (i := 0) (show (["_law_k", "_law_number"] : List Str).Nodup by decide +kernel) rfl (Or.inl rfl) (Or.inr rfl)) (pgs_cons (pg_name (i := 1) (show (["_law_k", "_law_number"] : List Str).Nodup by decide +kernel) rfl (Or.inl rfl) (Or.inr rfl)) pgs_nil))), pts_nil, (pe_op op_mulX (pv 1) (pe_op op_mod (pe_op op_add (pe_op op_fdivB (pv 1) pe_int) (pe_op op_mulX (pv 0) (pv 0))) pe_int))⟩)))
  pss_nil)
 pss_nil)
  (pss_cons (ps_setc (i := 6) rfl sc_law_swaps.nd rfl rfl (.of (osc := (defScope s_law_swaps)) (N := ["_law_script", "_law_at", "_law_shape_here", "_law_wide", "_law_cell_here", "_law_numbers_here", "_law_swaps_here", "_law_way", "_law_one", "_law_two"]) (own := ["_law_k"]) (fvn := ["_law_numbers_here", "_law_wide"]) (fv := [5, 3]) rfl rfl (by decide +kernel)) (pi_range1 rfl T.range (pa_cons (pe_ix (ix_list_K (K := K) rfl) (pv 2) pe_int (fun _ _ => rfl)) pa_nil)) (fun _ _ _ _ _ => ⟨(pg_name (i := 0) (show (["_law_k", "_law_numbers_here", "_law_wide"] : List Str).Nodup by decide +kernel) rfl (Or.inl rfl) (Or.inr rfl)), pts_nil, (pe_slice (sl_list_K (K := K) rfl) (pv 1) (po_some (pe_op op_mulX (pv 0) (pv 2))) (po_some (pe_op op_add (pe_op op_mulX (pv 0) (pv 2)) (pv 2))))⟩))
  (pss_cons (ps_set (i := 7) sc_law_swaps.nd rfl (Or.inl rfl) (pe_op op_mod (pv 4) pe_int))
  (pss_cons (ps_if (PW.pt (pw_and (pt_cmpR op_eq (pv 7) pe_int (nomark _)) (pw_and1 (pt_cmpR op_gt (pe_callB (call_len_K (K := K) rfl) rfl T.len PySem.boot_len (pa_cons (pv 6) pa_nil)) pe_int (nomark _)))))
 (pss_cons (ps_set (i := 8) sc_law_swaps.nd rfl (Or.inr rfl) (pe_op op_sub (pe_op op_mod (pe_op op_fdivB (pv 4) pe_int) pe_int) pe_int))
  (pss_cons (ps_set (i := 9) sc_law_swaps.nd rfl (Or.inr rfl) (pe_op op_sub (pe_op op_mod (pe_op op_fdivB (pv 4) pe_int) pe_int) pe_int))
  (pss_cons (ps_asg (pe_comp rfl (.of (osc := (defScope s_law_swaps)) (N := ["_law_script", "_law_at", "_law_shape_here", "_law_wide", "_law_cell_here", "_law_numbers_here", "_law_swaps_here", "_law_way", "_law_one", "_law_two"]) (own := ["_law_a", "_law_b"]) (fvn := ["_law_one", "_law_two"]) (fv := [8, 9]) rfl rfl (by decide +kernel)) (pi_zip_K (K := K) rfl rfl T.zip (pa_cons (pe_ix (ix_list_K (K := K) rfl) (pv 6) pe_int (fun _ _ => rfl)) (pa_cons (pe_ix (ix_list_K (K := K) rfl) (pv 6) (pe_un un_neg pe_int) (fun _ _ => rfl)) pa_nil))) (fun _ _ _ _ _ => ⟨(pg_tup_K (K := K) (n := 2) rfl rfl (pgs_cons (pg_name (i := 0) (show (["_law_a", "_law_b", "_law_one", "_law_two"] : List Str).Nodup by decide +kernel) rfl (Or.inl rfl) (Or.inr rfl)) (pgs_cons (pg_name (i := 1) (show (["_law_a", "_law_b", "_law_one", "_law_two"] : List Str).Nodup by decide +kernel) rfl (Or.inl rfl) (Or.inr rfl)) pgs_nil))), pts_nil, (pe_op op_add (pe_op op_mulX (pv 2) (pv 0)) (pe_op op_mulX (pv 3) (pv 1)))⟩)) (pg_sub (pv 6) (pe_op op_mod (pe_op op_fdivB (pv 4) pe_int) (pe_callB (call_len_K (K := K) rfl) rfl T.len PySem.boot_len (pa_cons (pv 6) pa_nil))) set_list))
  pss_nil)))
 pss_nil)
  (pss_cons (ps_if (pt_cmpR op_eq (pv 7) pe_int (nomark _))
 (pss_cons (ps_setc (i := 6) rfl sc_law_swaps.nd rfl rfl (.of (osc := (defScope s_law_swaps)) (N := ["_law_script", "_law_at", "_law_shape_here", "_law_wide", "_law_cell_here", "_law_numbers_here", "_law_swaps_here", "_law_way", "_law_one", "_law_two"]) (own := ["_law_swap"]) (fvn := ["_law_cell_here"]) (fv := [4]) rfl rfl (by decide +kernel)) (pi_list_K (K := K) rfl (pv 6)) (fun _ _ _ _ _ => ⟨(pg_name (i := 0) (show (["_law_swap", "_law_cell_here"] : List Str).Nodup by decide +kernel) rfl (Or.inl rfl) (Or.inr rfl)), pts_nil, (pe_comp rfl (.of (osc := ({ kind := .function, names := [(".0", .local), ("_law_swap", .local), ("_law_cell_here", .cell)], isGenerator := false, isCoroutine := false } : Scope)) (N := ["_law_swap", "_law_cell_here"]) (own := ["_law_number"]) (fvn := ["_law_cell_here"]) (fv := [1]) rfl rfl (by decide +kernel)) (pi_list_K (K := K) rfl (pv 0)) (fun _ _ _ _ _ => ⟨(pg_name (i := 0) (show (["_law_number", "_law_cell_here"] : List Str).Nodup by decide +kernel) rfl (Or.inl rfl) (Or.inr rfl)), pts_nil, (pe_op op_mulX (pv 0) (pe_op op_add pe_int (pe_op op_mod (pe_op op_fdivB (pv 1) pe_int) pe_int)))⟩))⟩))
  pss_nil)
 pss_nil)
  (pss_cons (ps_if (PW.pt (pw_and (pt_cmpR op_eq (pv 7) pe_int (nomark _)) (pw_and1 (pt_cmpR op_gt (pe_callB (call_len_K (K := K) rfl) rfl T.len PySem.boot_len (pa_cons (pv 6) pa_nil)) pe_int (nomark _)))))
 (pss_cons (ps_asg (pe_comp rfl (.of (osc := (defScope s_law_swaps)) (N := ["_law_script", "_law_at", "_law_shape_here", "_law_wide", "_law_cell_here", "_law_numbers_here", "_law_swaps_here", "_law_way", "_law_one", "_law_two"]) (own := ["_law_number"]) (fvn := ["_law_cell_here"]) (fv := [4]) rfl rfl (by decide +kernel)) (pi_list_K (K := K) rfl (pe_ix (ix_list_K (K := K) rfl) (pv 6) pe_int (fun _ _ => rfl))) (fun _ _ _ _ _ => ⟨(pg_name (i := 0) (show (["_law_number", "_law_cell_here"] : List Str).Nodup by decide +kernel) rfl (Or.inl rfl) (Or.inr rfl)), pts_nil, (pe_op op_mulX (pv 0) (pe_op op_add pe_int (pe_op op_mod (pe_op op_fdivB (pv 1) pe_int) pe_int)))⟩)) (pg_sub (pv 6) pe_int set_list))
  pss_nil)
 pss_nil)
  (pss_cons (ps_if (PW.pt (pw_and (pt_cmpR op_eq (pv 7) pe_int (nomark _)) (pw_and1 (pt_cmpR op_lt (pe_callB (call_len_K (K := K) rfl) rfl T.len PySem.boot_len (pa_cons (pv 6) pa_nil)) pe_int (nomark _)))))
 (pss_cons (ps_expr (pe_insert_K (K := K) rfl (pv 6) (pa_cons (pe_op op_mod (pe_op op_fdivB (pv 4) pe_int) (pe_op op_add (pe_callB (call_len_K (K := K) rfl) rfl T.len PySem.boot_len (pa_cons (pv 6) pa_nil)) pe_int)) (pa_cons (pe_comp rfl (.of (osc := (defScope s_law_swaps)) (N := ["_law_script", "_law_at", "_law_shape_here", "_law_wide", "_law_cell_here", "_law_numbers_here", "_law_swaps_here", "_law_way", "_law_one", "_law_two"]) (own := ["_law_ware"]) (fvn := []) (fv := []) rfl rfl (by decide +kernel)) (pi_range1 rfl T.range (pa_cons (pv 3) pa_nil)) (fun _ _ _ _ _ => ⟨(pg_name (i := 0) (show (["_law_ware"] : List Str).Nodup by decide +kernel) rfl (Or.inl rfl) (Or.inr rfl)), pts_nil, pe_int⟩)) pa_nil))))
  pss_nil)
 pss_nil)
  (pss_cons (ps_ret (pv 6))
  pss_nil))))))))))), .inl ?_⟩
  show L2.Run _ ([.va false (dQ K (List.map dI a0_script)), .va false (dI a1_at), .va false (dQ K (List.map dI a2_shape)), .no, .no, .no, .no, .no, .no, .no] : L2.Ctx) _ ((fun r => Oc.rl true (List.map (fun (xs : (List Int)) => dL (List.map dI xs)) r)) (m_law_swaps a0_script a1_at a2_shape))
  unfold m_law_swaps
  exact (run_let (m := true) (x := (ixD a2_shape (0 : Int))) dI (fun r => Oc.rl true (List.map (fun (xs : (List Int)) => dL (List.map dI xs)) r)) (Ev.any (m := false) (ev_ixM (f := dI) (xs := a2_shape) (ev_var (i := 2) rfl) ev_c (by exact sh_ix hp.2 (by decide) (by decide)))) (fun wide104 hwide104 =>
 have hW := hwide104; (run_let (m := true) (x := (m_law_cell a0_script (2 : Int))) dI (fun r => Oc.rl true (List.map (fun (xs : (List Int)) => dL (List.map dI xs)) r)) (Ev.any (m := true) (ev_call (x := (a0_script, (2 : Int))) (eva_cons (ev_var (i := 0) rfl) (eva_cons ev_c eva_nil)) rfl (by show pre_law_cell a0_script (2 : Int); unfold pre_law_cell; decide) rfl)) (fun cell105 hcell105 =>
 (run_let (m := true) (x := (m_law_numbers a0_script a1_at (wide104 * (ixD a2_shape (1 : Int))) (ixD a2_shape (2 : Int)))) (fun (xs : (List Int)) => dL (List.map dI xs)) (fun r => Oc.rl true (List.map (fun (xs : (List Int)) => dL (List.map dI xs)) r)) (EvO.ev (EvO.anyI (m := true) (ev_callO (x := (a0_script, a1_at, (wide104 * (ixD a2_shape (1 : Int))), (ixD a2_shape (2 : Int)))) (eva_cons (ev_var (i := 0) rfl) (eva_cons (Ev.any (m := false) (ev_var (i := 1) rfl)) (eva_cons (ev_opC (x := wide104) (y := (ixD a2_shape (1 : Int))) (Ev.any (m := true) (ev_var (i := 3) rfl)) (Ev.any (m := false) (ev_ixM (f := dI) (xs := a2_shape) (ev_var (i := 2) rfl) ev_c (by exact sh_ix hp.2 (by decide) (by decide)))) (by exact wm_mul hp.2 hW)) (eva_cons (Ev.any (m := false) (ev_ixM (f := dI) (xs := a2_shape) (ev_var (i := 2) rfl) ev_c (by exact sh_ix hp.2 (by decide) (by decide)))) eva_nil)))) rfl (by show pre_law_numbers a0_script a1_at (wide104 * (ixD a2_shape (1 : Int))) (ixD a2_shape (2 : Int)); exact nm_pre hp.1 hp.2 hW) rfl))) (fun numbers106 hnumbers106 =>
 have hn_numbers106 := nm_len hp.2 hW hnumbers106; (run_join (b := (decide ((((m_law_cell a0_script (1 : Int)) / (8 : Int)) % (3 : Int)) = (1 : Int)))) (fun bb => ([.va false (dQ K (List.map dI a0_script)), .va false (dI a1_at), .va false (dQ K (List.map dI a2_shape)), .va true (dI wide104), .va true (dI cell105), .va true (dL (List.map dI (bif bb then (List.map (fun (x108 : (Int × Int)) => (x108.2 * (((x108.2 / (3 : Int)) + (x108.1 * x108.1)) % (2 : Int)))) (enumZ numbers106)) else numbers106))), .no, .no, .no, .no] : L2.Ctx)) (evt_test (ev_eqI (x := (((m_law_cell a0_script (1 : Int)) / (8 : Int)) % (3 : Int))) (y := (1 : Int)) (ev_opC (x := ((m_law_cell a0_script (1 : Int)) / (8 : Int))) (y := (3 : Int)) (ev_opC (x := (m_law_cell a0_script (1 : Int))) (y := (8 : Int)) (Ev.any (m := true) (ev_call (x := (a0_script, (1 : Int))) (eva_cons (ev_var (i := 0) rfl) (eva_cons ev_c eva_nil)) rfl (by show pre_law_cell a0_script (1 : Int); unfold pre_law_cell; decide) rfl)) ev_c (by exact ⟨by decide, by decide⟩)) ev_c (by decide)) ev_c)) (fun h107 => (run_set (m := true) (EvO.ev (EvO.conv (ev_map (g := (fun (x108 : (Int × Int)) => dI (x108.2 * (((x108.2 / (3 : Int)) + (x108.1 * x108.1)) % (2 : Int))))) (iv_enum (m := true) dI (xs := numbers106) (Ev.weak (K := K) (ev_var (i := 5) rfl))) (by exact nl_len (by assumption)) ⟨by decide, by decide⟩ (fun i109 x108 hx110 => have qhx110 := enumZ_get hx110; (ev_opC (x := x108.2) (y := (((x108.2 / (3 : Int)) + (x108.1 * x108.1)) % (2 : Int))) (Ev.any (m := true) (ev_var (i := 1) rfl)) (ev_opC (x := ((x108.2 / (3 : Int)) + (x108.1 * x108.1))) (y := (2 : Int)) (ev_op0 (x := (x108.2 / (3 : Int))) (y := (x108.1 * x108.1)) (ev_opC (x := x108.2) (y := (3 : Int)) (Ev.any (m := true) (ev_var (i := 1) rfl)) ev_c (by exact ⟨by decide, by decide⟩)) (ev_opC (x := x108.1) (y := x108.1) (Ev.any (m := true) (ev_var (i := 0) rfl)) (Ev.any (m := true) (ev_var (i := 0) rfl)) (by exact kk_mul (by assumption) (by assumption)))) ev_c (by decide)) (by exact .inr (.inl ⟨by omega, by omega⟩))))) (by first | (rw [List.map_map]; rfl) | (simp only [cond_true, cond_false]; rw [List.map_map]; rfl))))
 (run_next (.eq (.eq (.eq (.eq (.eq (.eq (.eq (.eq (.eq (.eq .nil))))))))))))) (fun h107 => (run_next (.eq (.eq (.eq (.eq (.eq (.eq (.eq (.eq (.eq (.eq .nil))))))))))))
 (run_gen (x := (bif (decide ((((m_law_cell a0_script (1 : Int)) / (8 : Int)) % (3 : Int)) = (1 : Int))) then (List.map (fun (x108 : (Int × Int)) => (x108.2 * (((x108.2 / (3 : Int)) + (x108.1 * x108.1)) % (2 : Int)))) (enumZ numbers106)) else numbers106)) (fun numbers111 => ([.va false (dQ K (List.map dI a0_script)), .va false (dI a1_at), .va false (dQ K (List.map dI a2_shape)), .va true (dI wide104), .va true (dI cell105), .va true (dL (List.map dI numbers111)), .no, .no, .no, .no] : L2.Ctx)) (fun r => Oc.rl true (List.map (fun (xs : (List Int)) => dL (List.map dI xs)) r)) (fun numbers111 hnumbers111 =>
 have hn_numbers111 := nm2_len (zs := []) (by assumption) hnumbers111; (run_letO (m := true) (x := (List.map (fun (x112 : Int) => (cutD numbers111 (some (x112 * wide104)) (some ((x112 * wide104) + wide104)))) (rngZ 0 (ixD a2_shape (1 : Int)).toNat))) (fun z => List.map (fun (xs : (List Int)) => dL (List.map dI xs)) z) (fun r => Oc.rl true (List.map (fun (xs : (List Int)) => dL (List.map dI xs)) r)) (EvO.conv (ev_map (g := (fun (x112 : Int) => dL (List.map dI (cutD numbers111 (some (x112 * wide104)) (some ((x112 * wide104) + wide104)))))) (iv_rng1 (m := true) (n := (ixD a2_shape (1 : Int))) (Ev.any (m := false) (ev_ixM (f := dI) (xs := a2_shape) (ev_var (i := 2) rfl) ev_c (by exact sh_ix hp.2 (by decide) (by decide)))) (by have z := hp.2; unfold ShpOk at z; refine ⟨?_, ?_⟩ <;> omega)) (by have z := hp.2; unfold ShpOk at z; apply small_len; rw [rngZ_len]; omega) ⟨by decide, by decide⟩ (fun i113 x112 hx114 => have qhx114 := rngZ_get hx114; (EvO.ev (EvO.anyI (m := true) (ev_cutM (f := dI) (xs := numbers111) (Ev.weak (K := K) (ev_var (i := 1) rfl)) (evp_some (ev_opC (x := x112) (y := wide104) (Ev.any (m := true) (ev_var (i := 0) rfl)) (Ev.any (m := true) (ev_var (i := 2) rfl)) (by have z := w_ok hp.2 hW; exact .inr (.inl ⟨by omega, by omega⟩)))) (evp_some (ev_op0 (x := (x112 * wide104)) (y := wide104) (ev_opC (x := x112) (y := wide104) (Ev.any (m := true) (ev_var (i := 0) rfl)) (Ev.any (m := true) (ev_var (i := 2) rfl)) (by have z := w_ok hp.2 hW; exact .inr (.inl ⟨by omega, by omega⟩))) (Ev.any (m := true) (ev_var (i := 2) rfl))))))))) (by first | (rw [List.map_map]; rfl) | (simp only [cond_true, cond_false]; rw [List.map_map]; rfl))) (fun swaps115 hswaps115 =>
 have hs_swaps115 := rs_rows hp.2 hW hswaps115; (run_let (m := true) (x := (cell105 % (5 : Int))) dI (fun r => Oc.rl true (List.map (fun (xs : (List Int)) => dL (List.map dI xs)) r)) (ev_opC (x := cell105) (y := (5 : Int)) (Ev.any (m := true) (ev_var (i := 4) rfl)) ev_c (by decide)) (fun way116 hway116 =>
 (run_join (b := ((decide (way116 = (1 : Int))) && (decide ((2 : Int) < ((swaps115.length : Nat) : Int))))) (fun bb => ([.va false (dQ K (List.map dI a0_script)), .va false (dI a1_at), .va false (dQ K (List.map dI a2_shape)), .va true (dI wide104), .va true (dI cell105), .va true (dL (List.map dI numbers111)), .ow true (List.map (fun (xs : (List Int)) => dL (List.map dI xs)) (bif bb then (setZ swaps115 ((cell105 / (245 : Int)) % ((swaps115.length : Nat) : Int)) (List.map (fun (x118 : (Int × Int)) => (((((cell105 / (5 : Int)) % (7 : Int)) - (3 : Int)) * x118.1) + ((((cell105 / (35 : Int)) % (7 : Int)) - (3 : Int)) * x118.2))) (List.zip (ixD swaps115 (0 : Int)) (ixD swaps115 (-(1 : Int)))))) else swaps115)), .va true (dI way116), .no, .no] : L2.Ctx)) (evt_and (b := (decide (way116 = (1 : Int)))) (evt_test (ev_eqI (x := way116) (y := (1 : Int)) (Ev.any (m := true) (ev_var (i := 7) rfl)) ev_c)) (fun hb => (evt_test (ev_op0 (x := ((swaps115.length : Nat) : Int)) (y := (2 : Int)) (ev_ownLenM (f := (fun (xs : (List Int)) => dL (List.map dI xs))) (xs := swaps115) rfl) ev_c)))) (fun h117 => (run_set (m := true) (ev_op0 (x := ((cell105 / (5 : Int)) % (7 : Int))) (y := (3 : Int)) (ev_opC (x := (cell105 / (5 : Int))) (y := (7 : Int)) (ev_opC (x := cell105) (y := (5 : Int)) (Ev.any (m := true) (ev_var (i := 4) rfl)) ev_c (by exact ⟨by decide, by decide⟩)) ev_c (by decide)) ev_c)
 (run_set (m := true) (ev_op0 (x := ((cell105 / (35 : Int)) % (7 : Int))) (y := (3 : Int)) (ev_opC (x := (cell105 / (35 : Int))) (y := (7 : Int)) (ev_opC (x := cell105) (y := (35 : Int)) (Ev.any (m := true) (ev_var (i := 4) rfl)) ev_c (by exact ⟨by decide, by decide⟩)) ev_c (by decide)) ev_c)
 (run_setixM (f := (fun (xs : (List Int)) => dL (List.map dI xs))) (xs := swaps115) (x := (List.map (fun (x118 : (Int × Int)) => (((((cell105 / (5 : Int)) % (7 : Int)) - (3 : Int)) * x118.1) + ((((cell105 / (35 : Int)) % (7 : Int)) - (3 : Int)) * x118.2))) (List.zip (ixD swaps115 (0 : Int)) (ixD swaps115 (-(1 : Int)))))) rfl (EvO.ev (EvO.conv (ev_map (g := (fun (x118 : (Int × Int)) => dI (((((cell105 / (5 : Int)) % (7 : Int)) - (3 : Int)) * x118.1) + ((((cell105 / (35 : Int)) % (7 : Int)) - (3 : Int)) * x118.2)))) (iv_zip (m := true) dI dI (xs := (ixD swaps115 (0 : Int))) (ys := (ixD swaps115 (-(1 : Int)))) (Ev.weak (K := K) (ev_ownIxM (f := (fun (xs : (List Int)) => dL (List.map dI xs))) (xs := swaps115) rfl ev_c (by unfold InB; constructor <;> ((try simp only [decide_eq_true_eq, decide_eq_false_iff_not, Bool.not_eq_true', Bool.not_eq_false', Bool.and_eq_true, Bool.or_eq_false_iff, Bool.or_eq_true, Bool.and_eq_false_iff, Bool.cond_eq_ite] at *) <;> omega)))) (Ev.weak (K := K) (ev_ownIxM (f := (fun (xs : (List Int)) => dL (List.map dI xs))) (xs := swaps115) rfl (ev_un (x := (1 : Int)) ev_c) (by unfold InB; constructor <;> ((try simp only [decide_eq_true_eq, decide_eq_false_iff_not, Bool.not_eq_true', Bool.not_eq_false', Bool.and_eq_true, Bool.or_eq_false_iff, Bool.or_eq_true, Bool.and_eq_false_iff, Bool.cond_eq_ite] at *) <;> omega))))) (by exact rs_zip (by assumption)) ⟨by decide, by decide⟩ (fun i119 x118 hx120 => have qhx120 := zip_get hx120; (ev_op0 (x := ((((cell105 / (5 : Int)) % (7 : Int)) - (3 : Int)) * x118.1)) (y := ((((cell105 / (35 : Int)) % (7 : Int)) - (3 : Int)) * x118.2)) (ev_opC (x := (((cell105 / (5 : Int)) % (7 : Int)) - (3 : Int))) (y := x118.1) (Ev.any (m := true) (ev_var (i := 2) rfl)) (Ev.any (m := true) (ev_var (i := 0) rfl)) (by exact .inl ⟨by omega, by omega⟩)) (ev_opC (x := (((cell105 / (35 : Int)) % (7 : Int)) - (3 : Int))) (y := x118.2) (Ev.any (m := true) (ev_var (i := 3) rfl)) (Ev.any (m := true) (ev_var (i := 1) rfl)) (by exact .inl ⟨by omega, by omega⟩))))) (by first | (rw [List.map_map]; rfl) | (simp only [cond_true, cond_false]; rw [List.map_map]; rfl)))) (ev_opC (x := (cell105 / (245 : Int))) (y := ((swaps115.length : Nat) : Int)) (ev_opC (x := cell105) (y := (245 : Int)) (Ev.any (m := true) (ev_var (i := 4) rfl)) ev_c (by exact ⟨by decide, by decide⟩)) (ev_ownLenM (f := (fun (xs : (List Int)) => dL (List.map dI xs))) (xs := swaps115) rfl) (by first | decide | (show (0 : Int) < _; ((try simp only [decide_eq_true_eq, decide_eq_false_iff_not, Bool.not_eq_true', Bool.not_eq_false', Bool.and_eq_true, Bool.or_eq_false_iff, Bool.or_eq_true, Bool.and_eq_false_iff, Bool.cond_eq_ite] at *) <;> omega)))) (by exact mod_in (by (first | omega | ((try simp only [Bool.and_eq_true, Bool.or_eq_true, decide_eq_true_eq, Bool.not_eq_true', Bool.not_eq_false', decide_eq_false_iff_not] at *); omega))))
 (run_next (.eq (.eq (.eq (.eq (.eq (.eq (.eq (.eq (.no (.no .nil))))))))))))))) (fun h117 => (run_next (.eq (.eq (.eq (.eq (.eq (.eq (.eq (.eq (.eq (.eq .nil))))))))))))
 (run_gen (x := (bif ((decide (way116 = (1 : Int))) && (decide ((2 : Int) < ((swaps115.length : Nat) : Int)))) then (setZ swaps115 ((cell105 / (245 : Int)) % ((swaps115.length : Nat) : Int)) (List.map (fun (x118 : (Int × Int)) => (((((cell105 / (5 : Int)) % (7 : Int)) - (3 : Int)) * x118.1) + ((((cell105 / (35 : Int)) % (7 : Int)) - (3 : Int)) * x118.2))) (List.zip (ixD swaps115 (0 : Int)) (ixD swaps115 (-(1 : Int)))))) else swaps115)) (fun swaps121 => ([.va false (dQ K (List.map dI a0_script)), .va false (dI a1_at), .va false (dQ K (List.map dI a2_shape)), .va true (dI wide104), .va true (dI cell105), .va true (dL (List.map dI numbers111)), .ow true (List.map (fun (xs : (List Int)) => dL (List.map dI xs)) swaps121), .va true (dI way116), .no, .no] : L2.Ctx)) (fun r => Oc.rl true (List.map (fun (xs : (List Int)) => dL (List.map dI xs)) r)) (fun swaps121 hswaps121 =>
 have hs_swaps121 := rs1 (by assumption) hswaps121; (run_join (b := (decide (way116 = (2 : Int)))) (fun bb => ([.va false (dQ K (List.map dI a0_script)), .va false (dI a1_at), .va false (dQ K (List.map dI a2_shape)), .va true (dI wide104), .va true (dI cell105), .va true (dL (List.map dI numbers111)), .ow true (List.map (fun (xs : (List Int)) => dL (List.map dI xs)) (bif bb then (List.map (fun (x123 : (List Int)) => (List.map (fun (x126 : Int) => (x126 * ((2 : Int) + ((cell105 / (5 : Int)) % (11 : Int))))) x123)) swaps121) else swaps121)), .va true (dI way116), .no, .no] : L2.Ctx)) (evt_test (ev_eqI (x := way116) (y := (2 : Int)) (Ev.any (m := true) (ev_var (i := 7) rfl)) ev_c)) (fun h122 => (run_share (i := 6) rfl (run_setO (m := true) (EvO.conv (ev_map (g := (fun (x123 : (List Int)) => dL (List.map dI (List.map (fun (x126 : Int) => (x126 * ((2 : Int) + ((cell105 / (5 : Int)) % (11 : Int))))) x123)))) (iv_list (m := true) (fun (xs : (List Int)) => dL (List.map dI xs)) (xs := swaps121) (Ev.weak (K := K) (ev_var (i := 6) rfl))) (by exact rs_len (by assumption) (by decide)) ⟨by decide, by decide⟩ (fun i124 x123 hx125 => have qhx125 := List.mem_of_getElem? hx125; (EvO.ev (EvO.conv (ev_map (g := (fun (x126 : Int) => dI (x126 * ((2 : Int) + ((cell105 / (5 : Int)) % (11 : Int)))))) (iv_list (m := true) dI (xs := x123) (Ev.weak (K := K) (ev_var (i := 0) rfl))) (by exact rs_row (by assumption) (by assumption)) ⟨by decide, by decide⟩ (fun i127 x126 hx128 => have qhx128 := List.mem_of_getElem? hx128; (ev_opC (x := x126) (y := ((2 : Int) + ((cell105 / (5 : Int)) % (11 : Int)))) (Ev.any (m := true) (ev_var (i := 0) rfl)) (ev_op0 (x := (2 : Int)) (y := ((cell105 / (5 : Int)) % (11 : Int))) ev_c (ev_opC (x := (cell105 / (5 : Int))) (y := (11 : Int)) (ev_opC (x := cell105) (y := (5 : Int)) (Ev.any (m := true) (ev_var (i := 1) rfl)) ev_c (by exact ⟨by decide, by decide⟩)) ev_c (by decide))) (by exact .inr (.inl ⟨by omega, by omega⟩))))) (by first | (rw [List.map_map]; rfl) | (simp only [cond_true, cond_false]; rw [List.map_map]; rfl)))))) (by first | (rw [List.map_map]; rfl) | (simp only [cond_true, cond_false]; rw [List.map_map]; rfl)))
 (run_next (.eq (.eq (.eq (.eq (.eq (.eq (.eq (.eq (.eq (.eq .nil)))))))))))))) (fun h122 => (run_next (.eq (.eq (.eq (.eq (.eq (.eq (.eq (.eq (.eq (.eq .nil))))))))))))
 (run_gen (x := (bif (decide (way116 = (2 : Int))) then (List.map (fun (x123 : (List Int)) => (List.map (fun (x126 : Int) => (x126 * ((2 : Int) + ((cell105 / (5 : Int)) % (11 : Int))))) x123)) swaps121) else swaps121)) (fun swaps129 => ([.va false (dQ K (List.map dI a0_script)), .va false (dI a1_at), .va false (dQ K (List.map dI a2_shape)), .va true (dI wide104), .va true (dI cell105), .va true (dL (List.map dI numbers111)), .ow true (List.map (fun (xs : (List Int)) => dL (List.map dI xs)) swaps129), .va true (dI way116), .no, .no] : L2.Ctx)) (fun r => Oc.rl true (List.map (fun (xs : (List Int)) => dL (List.map dI xs)) r)) (fun swaps129 hswaps129 =>
 have hs_swaps129 := rs2 (by assumption) hswaps129; (run_join (b := ((decide (way116 = (3 : Int))) && (decide ((0 : Int) < ((swaps129.length : Nat) : Int))))) (fun bb => ([.va false (dQ K (List.map dI a0_script)), .va false (dI a1_at), .va false (dQ K (List.map dI a2_shape)), .va true (dI wide104), .va true (dI cell105), .va true (dL (List.map dI numbers111)), .ow true (List.map (fun (xs : (List Int)) => dL (List.map dI xs)) (bif bb then (setZ swaps129 (0 : Int) (List.map (fun (x131 : Int) => (x131 * ((2 : Int) + ((cell105 / (5 : Int)) % (11 : Int))))) (ixD swaps129 (0 : Int)))) else swaps129)), .va true (dI way116), .no, .no] : L2.Ctx)) (evt_and (b := (decide (way116 = (3 : Int)))) (evt_test (ev_eqI (x := way116) (y := (3 : Int)) (Ev.any (m := true) (ev_var (i := 7) rfl)) ev_c)) (fun hb => (evt_test (ev_op0 (x := ((swaps129.length : Nat) : Int)) (y := (0 : Int)) (ev_ownLenM (f := (fun (xs : (List Int)) => dL (List.map dI xs))) (xs := swaps129) rfl) ev_c)))) (fun h130 => (run_setixM (f := (fun (xs : (List Int)) => dL (List.map dI xs))) (xs := swaps129) (x := (List.map (fun (x131 : Int) => (x131 * ((2 : Int) + ((cell105 / (5 : Int)) % (11 : Int))))) (ixD swaps129 (0 : Int)))) rfl (EvO.ev (EvO.conv (ev_map (g := (fun (x131 : Int) => dI (x131 * ((2 : Int) + ((cell105 / (5 : Int)) % (11 : Int)))))) (iv_list (m := true) dI (xs := (ixD swaps129 (0 : Int))) (Ev.weak (K := K) (ev_ownIxM (f := (fun (xs : (List Int)) => dL (List.map dI xs))) (xs := swaps129) rfl ev_c (by unfold InB; constructor <;> ((try simp only [decide_eq_true_eq, decide_eq_false_iff_not, Bool.not_eq_true', Bool.not_eq_false', Bool.and_eq_true, Bool.or_eq_false_iff, Bool.or_eq_true, Bool.and_eq_false_iff, Bool.cond_eq_ite] at *) <;> omega))))) (by exact rs_ix (by assumption)) ⟨by decide, by decide⟩ (fun i132 x131 hx133 => have qhx133 := List.mem_of_getElem? hx133; (ev_opC (x := x131) (y := ((2 : Int) + ((cell105 / (5 : Int)) % (11 : Int)))) (Ev.any (m := true) (ev_var (i := 0) rfl)) (ev_op0 (x := (2 : Int)) (y := ((cell105 / (5 : Int)) % (11 : Int))) ev_c (ev_opC (x := (cell105 / (5 : Int))) (y := (11 : Int)) (ev_opC (x := cell105) (y := (5 : Int)) (Ev.any (m := true) (ev_var (i := 1) rfl)) ev_c (by exact ⟨by decide, by decide⟩)) ev_c (by decide))) (by exact .inr (.inl ⟨by omega, by omega⟩))))) (by first | (rw [List.map_map]; rfl) | (simp only [cond_true, cond_false]; rw [List.map_map]; rfl)))) ev_c (by unfold InB; constructor <;> ((try simp only [decide_eq_true_eq, decide_eq_false_iff_not, Bool.not_eq_true', Bool.not_eq_false', Bool.and_eq_true, Bool.or_eq_false_iff, Bool.or_eq_true, Bool.and_eq_false_iff, Bool.cond_eq_ite] at *) <;> omega))
 (run_next (.eq (.eq (.eq (.eq (.eq (.eq (.eq (.eq (.eq (.eq .nil))))))))))))) (fun h130 => (run_next (.eq (.eq (.eq (.eq (.eq (.eq (.eq (.eq (.eq (.eq .nil))))))))))))
 (run_gen (x := (bif ((decide (way116 = (3 : Int))) && (decide ((0 : Int) < ((swaps129.length : Nat) : Int)))) then (setZ swaps129 (0 : Int) (List.map (fun (x131 : Int) => (x131 * ((2 : Int) + ((cell105 / (5 : Int)) % (11 : Int))))) (ixD swaps129 (0 : Int)))) else swaps129)) (fun swaps134 => ([.va false (dQ K (List.map dI a0_script)), .va false (dI a1_at), .va false (dQ K (List.map dI a2_shape)), .va true (dI wide104), .va true (dI cell105), .va true (dL (List.map dI numbers111)), .ow true (List.map (fun (xs : (List Int)) => dL (List.map dI xs)) swaps134), .va true (dI way116), .no, .no] : L2.Ctx)) (fun r => Oc.rl true (List.map (fun (xs : (List Int)) => dL (List.map dI xs)) r)) (fun swaps134 hswaps134 =>
 have hs_swaps134 := rs3 (by assumption) hswaps134; (run_join (b := ((decide (way116 = (4 : Int))) && (decide (((swaps134.length : Nat) : Int) < (12 : Int))))) (fun bb => ([.va false (dQ K (List.map dI a0_script)), .va false (dI a1_at), .va false (dQ K (List.map dI a2_shape)), .va true (dI wide104), .va true (dI cell105), .va true (dL (List.map dI numbers111)), .ow true (List.map (fun (xs : (List Int)) => dL (List.map dI xs)) (bif bb then (insZ swaps134 ((cell105 / (5 : Int)) % (((swaps134.length : Nat) : Int) + (1 : Int))) (List.map (fun (x136 : Int) => (0 : Int)) (rngZ 0 wide104.toNat))) else swaps134)), .va true (dI way116), .no, .no] : L2.Ctx)) (evt_and (b := (decide (way116 = (4 : Int)))) (evt_test (ev_eqI (x := way116) (y := (4 : Int)) (Ev.any (m := true) (ev_var (i := 7) rfl)) ev_c)) (fun hb => (evt_test (ev_op0 (x := ((swaps134.length : Nat) : Int)) (y := (12 : Int)) (ev_ownLenM (f := (fun (xs : (List Int)) => dL (List.map dI xs))) (xs := swaps134) rfl) ev_c)))) (fun h135 => (run_insertM (f := (fun (xs : (List Int)) => dL (List.map dI xs))) (xs := swaps134) (x := (List.map (fun (x136 : Int) => (0 : Int)) (rngZ 0 wide104.toNat))) (k := ((cell105 / (5 : Int)) % (((swaps134.length : Nat) : Int) + (1 : Int)))) rfl (ev_opC (x := (cell105 / (5 : Int))) (y := (((swaps134.length : Nat) : Int) + (1 : Int))) (ev_opC (x := cell105) (y := (5 : Int)) (Ev.any (m := true) (ev_var (i := 4) rfl)) ev_c (by exact ⟨by decide, by decide⟩)) (ev_op0 (x := ((swaps134.length : Nat) : Int)) (y := (1 : Int)) (ev_ownLenM (f := (fun (xs : (List Int)) => dL (List.map dI xs))) (xs := swaps134) rfl) ev_c) (by show (0 : Int) < _; omega)) (EvO.ev (EvO.conv (ev_map (g := (fun (x136 : Int) => dI (0 : Int))) (iv_rng1 (m := true) (n := wide104) (Ev.any (m := true) (ev_var (i := 3) rfl)) (by have z := w_ok hp.2 hW; refine ⟨?_, ?_⟩ <;> omega)) (by have z := w_ok hp.2 hW; apply small_len; rw [rngZ_len]; omega) ⟨by decide, by decide⟩ (fun i137 x136 hx138 => have qhx138 := rngZ_get hx138; ev_c)) (by first | (rw [List.map_map]; rfl) | (simp only [cond_true, cond_false]; rw [List.map_map]; rfl)))) (by exact ins_ok) (by exact Nat.lt_of_le_of_lt (show _ ≤ 1000 by have z := (show RS 12 _ from (by assumption)).1; omega) (by decide))
 (run_next (.eq (.eq (.eq (.eq (.eq (.eq (.eq (.eq (.eq (.eq .nil))))))))))))) (fun h135 => (run_next (.eq (.eq (.eq (.eq (.eq (.eq (.eq (.eq (.eq (.eq .nil))))))))))))
 (run_gen (x := (bif ((decide (way116 = (4 : Int))) && (decide (((swaps134.length : Nat) : Int) < (12 : Int)))) then (insZ swaps134 ((cell105 / (5 : Int)) % (((swaps134.length : Nat) : Int) + (1 : Int))) (List.map (fun (x136 : Int) => (0 : Int)) (rngZ 0 wide104.toNat))) else swaps134)) (fun swaps139 => ([.va false (dQ K (List.map dI a0_script)), .va false (dI a1_at), .va false (dQ K (List.map dI a2_shape)), .va true (dI wide104), .va true (dI cell105), .va true (dL (List.map dI numbers111)), .ow true (List.map (fun (xs : (List Int)) => dL (List.map dI xs)) swaps139), .va true (dI way116), .no, .no] : L2.Ctx)) (fun r => Oc.rl true (List.map (fun (xs : (List Int)) => dL (List.map dI xs)) r)) (fun swaps139 hswaps139 =>
 (run_seq_rl (run_retOwn (i := 6) rfl)))))))))))))))))))))))))))
theorem swaps_ok {xs sh : List Int} (h : ShpOk sh) : (m_law_swaps xs (3 : Int) sh).length ≤ 13 ∧ Lat.RB (ixD sh (0 : Int)).toNat 198 (m_law_swaps xs (3 : Int) sh) := by
  obtain ⟨_, h1, h2, h3, h4, h5, h6⟩ := h
  unfold m_law_swaps Let
  dsimp only
  generalize m_law_cell xs 2 = c
  have a1 := num_ok (xs := xs) (a := 3) (m := ixD sh (0 : Int) * ixD sh (1 : Int)) h5 h6
  generalize m_law_numbers _ _ _ _ = n1 at *
  have a2 := num2_ok (b := decide (m_law_cell xs 1 / 8 % 3 = 1)) a1 rfl
  generalize (bif decide (m_law_cell xs 1 / 8 % 3 = 1) then _ else n1) = n2 at *
  have a3 := rows_ok h1 h3 a2 rfl
  generalize List.map _ (rngZ 0 (ixD sh (1 : Int)).toNat) = r1 at *
  have a4 := sw1_ok (b := (decide (c % 5 = 1) && decide ((2 : Int) < (r1.length : Int)))) (i := c / 245 % (r1.length : Int)) (c := c / 5 % 7 - 3) (d := c / 35 % 7 - 3) a3.2 (fun z => by simp at z; omega) (by omega) (by omega) rfl
  generalize (bif (decide (c % 5 = 1) && decide ((2 : Int) < (r1.length : Int))) then _ else r1) = r2 at *
  have a5 := sw2_ok (b := decide (c % 5 = 2)) (c := 2 + c / 5 % 11) a4.2 (by omega) rfl
  generalize (bif decide (c % 5 = 2) then _ else r2) = r3 at *
  have a6 := sw3_ok (b := (decide (c % 5 = 3) && decide ((0 : Int) < (r3.length : Int)))) (c := 2 + c / 5 % 11) a5.2 (fun z => by simp at z; omega) (by omega) rfl
  generalize (bif (decide (c % 5 = 3) && decide ((0 : Int) < (r3.length : Int))) then _ else r3) = r4 at *
  have a7 := sw4_ok (b := (decide (c % 5 = 4) && decide ((r4.length : Int) < 12))) (i := c / 5 % ((r4.length : Int) + 1)) a6.2 rfl
  refine ⟨?_, a7.2⟩
  have e1 := a7.1
  have e2 := a6.1
  have e3 := a5.1
  have e4 := a4.1
  have e5 := a3.1
  omega
def Dd (n : Nat) (rows : List (List Int)) : Prop := rows.length = n ∧ 1 ≤ n ∧ n ≤ 24 ∧ ∀ r ∈ rows, r.length ≤ 24
theorem dd_ix {n : Nat} {rows : List (List Int)} {c x : Int} (h : Dd n rows) (e : x = c % ((n : Nat) : Int)) : InB rows.length x := by
  rw [h.1, e]; exact mod_in (by have := h.2.1; omega)
theorem dd_ixD {n : Nat} {rows : List (List Int)} {i : Int} (h : Dd n rows) : (ixD rows i).length ≤ 24 := ixD_len (n := 24) ⟨by have := h.1; have := h.2.2.1; omega, h.2.2.2⟩
theorem dd_set {n : Nat} {rows : List (List Int)} {i : Int} {y : List Int} (h : Dd n rows) (hy : y.length ≤ 24) : Dd n (setZ rows i y) := by
  refine ⟨by rw [setZ_len]; exact h.1, h.2.1, h.2.2.1, fun r hr => ?_⟩
  rcases Lat.setZ_mem hr with rfl | hr
  · exact hy
  · exact h.2.2.2 r hr
theorem dd_1 {n : Nat} {b : Bool} {rows ys : List (List Int)} {i j k : Int} (h : Dd n rows) (e : ys = bif b then (setZ (setZ rows i (ixD rows j)) j (ixD rows k)) else rows) : Dd n ys := by
  subst e; cases b
  · exact h
  · exact dd_set (dd_set h (dd_ixD h)) (dd_ixD h)
theorem dd_2 {n : Nat} {b : Bool} {rows ys : List (List Int)} {i : Int} {f : Int → Int} (h : Dd n rows) (e : ys = bif b then (setZ rows i (List.map f (ixD rows i))) else rows) : Dd n ys := by
  subst e; cases b
  · exact h
  · exact dd_set h (by rw [List.length_map]; exact dd_ixD h)
theorem dd_3 {n : Nat} {b : Bool} {rows ys : List (List Int)} {i j : Int} {f : Int × Int → Int} (h : Dd n rows) (e : ys = bif b then (setZ rows i (List.map f (List.zip (ixD rows i) (ixD rows j)))) else rows) : Dd n ys := by
  subst e; cases b
  · exact h
  · exact dd_set h (by rw [List.length_map, List.length_zip]; have := dd_ixD (i := i) h; omega)
theorem dd_len {n : Nat} {rows : List (List Int)} {i : Int} (h : Dd n rows) : (ixD rows i).length ≤ PySem.sizeLine := small_len (by have := dd_ixD (i := i) h; omega)
theorem dd_zip {n : Nat} {rows : List (List Int)} {i j : Int} (h : Dd n rows) : (List.zip (ixD rows i) (ixD rows j)).length ≤ PySem.sizeLine := small_len (by have := dd_ixD (i := i) h; rw [List.length_zip]; omega)
theorem dd_lt {n : Nat} {rows : List (List Int)} (h : Dd n rows) : rows.length < PySem.sizeLine := Nat.lt_of_le_of_lt (show _ ≤ 24 by have := h.1; have := h.2.2.1; omega) (by decide)
def m_law_deed (a0_rows : (List (List Int))) (a1_cell : Int) (a2_puts : Int) : Int × (List (List Int)) :=
 (Let (a1_cell % (4 : Int)) (fun (act140 : Int) =>
 (Let ((a1_cell / (4 : Int)) % ((a0_rows.length : Nat) : Int)) (fun (one141 : Int) =>
 (Let ((a1_cell / (52 : Int)) % ((a0_rows.length : Nat) : Int)) (fun (other142 : Int) =>
 (Let (bif (decide (act140 = (0 : Int))) then (setZ (setZ a0_rows one141 (ixD a0_rows other142)) other142 (ixD a0_rows one141)) else a0_rows) (fun (rows144 : (List (List Int))) =>
 (Let (bif (decide (act140 = (1 : Int))) then (setZ rows144 one141 (List.map (fun (x146 : Int) => ((0 : Int) - x146)) (ixD rows144 one141))) else rows144) (fun (rows149 : (List (List Int))) =>
 (Let (bif ((decide (act140 = (2 : Int))) && ((!decide (one141 = other142)) && (decide (a2_puts < (4 : Int))))) then (setZ rows149 one141 (List.map (fun (x151 : (Int × Int)) => (x151.1 + ((((a1_cell / (676 : Int)) % (7 : Int)) - (3 : Int)) * x151.2))) (List.zip (ixD rows149 one141) (ixD rows149 other142)))) else rows149) (fun (rows154 : (List (List Int))) =>
 (Let (bif ((decide (act140 = (3 : Int))) && ((decide (((rows154.length : Nat) : Int) < (24 : Int))) && (decide (a2_puts < (4 : Int))))) then (rows154 ++ [(List.map (fun (x156 : (Int × Int)) => (x156.1 + x156.2)) (List.zip (ixD rows154 one141) (ixD rows154 other142)))]) else rows154) (fun (rows159 : (List (List Int))) =>
 ((if (decide ((1 : Int) < act140)) then 1 else 0), rows159)))))))))))))))
def pre_law_deed (a0_rows : (List (List Int))) (a1_cell : Int) (a2_puts : Int) : Prop := Dd a0_rows.length a0_rows
def sp_law_deed (K : PySem.W.Frag) (A : Adr) : Sp := SpvW (ι := (List (List Int)) × Int × Int) (fun x => List.map (fun (xs : (List Int)) => dL (List.map dI xs)) x.1) (fun x => [dI x.2.1, dI x.2.2]) (fun x => pre_law_deed x.1 x.2.1 x.2.2) (fun x => dI ((m_law_deed x.1 x.2.1 x.2.2).1)) (fun x => List.map (fun (xs : (List Int)) => dL (List.map dI xs)) (m_law_deed x.1 x.2.1 x.2.2).2)
theorem sc_law_deed : FnScope ["_law_rows", "_law_cell_here", "_law_puts", "_law_act", "_law_one", "_law_other", "_law_kept", "_law_many"] ["_law_rows", "_law_cell_here", "_law_puts"] (defScope s_law_deed) := ⟨rfl, rfl, rfl, by decide +kernel, rfl, by decide +kernel, by decide +kernel⟩
theorem ok_law_deed (F : Fun K "_law_deed" "_law_deed" s_law_deed f fd) (T : Txt K mg A)  : FnOk P w K mg base (CXE P w) 1 f fd ["_law_rows", "_law_cell_here", "_law_puts"] (sp_law_deed K A) := by
  refine F.okW sc_law_deed (fun _ => rfl) (fun cdv Ar outer s H E x hr hp => ?_)
  obtain ⟨a0_rows, a1_cell, a2_puts⟩ := x
  have hu := hr.units
  replace hp : pre_law_deed a0_rows a1_cell a2_puts := hp
  unfold pre_law_deed at hp
  refine ⟨_, (pss_cons (ps_set (i := 3) sc_law_deed.nd rfl (Or.inl rfl) (pe_op op_mod (pv 1) pe_int))
  (pss_cons (ps_set (i := 4) sc_law_deed.nd rfl (Or.inl rfl) (pe_op op_mod (pe_op op_fdivB (pv 1) pe_int) (pe_callB (call_len_K (K := K) rfl) rfl T.len PySem.boot_len (pa_cons (pv 0) pa_nil))))
  (pss_cons (ps_set (i := 5) sc_law_deed.nd rfl (Or.inl rfl) (pe_op op_mod (pe_op op_fdivB (pv 1) pe_int) (pe_callB (call_len_K (K := K) rfl) rfl T.len PySem.boot_len (pa_cons (pv 0) pa_nil))))
  (pss_cons (ps_if (pt_cmpR op_eq (pv 3) pe_int (nomark _))
 (pss_cons (ps_set (i := 6) sc_law_deed.nd rfl (Or.inl rfl) (pe_ix (ix_list_K (K := K) rfl) (pv 0) (pv 4) (fun _ _ => rfl)))
  (pss_cons (ps_asg (pe_ix (ix_list_K (K := K) rfl) (pv 0) (pv 5) (fun _ _ => rfl)) (pg_sub (pv 0) (pv 4) set_list))
  (pss_cons (ps_asg (pv 6) (pg_sub (pv 0) (pv 5) set_list))
  pss_nil)))
 pss_nil)
  (pss_cons (ps_if (pt_cmpR op_eq (pv 3) pe_int (nomark _))
 (pss_cons (ps_asg (pe_comp rfl (.of (osc := (defScope s_law_deed)) (N := ["_law_rows", "_law_cell_here", "_law_puts", "_law_act", "_law_one", "_law_other", "_law_kept", "_law_many"]) (own := ["_law_number"]) (fvn := []) (fv := []) rfl rfl (by decide +kernel)) (pi_list_K (K := K) rfl (pe_ix (ix_list_K (K := K) rfl) (pv 0) (pv 4) (fun _ _ => rfl))) (fun _ _ _ _ _ => ⟨(pg_name (i := 0) (show (["_law_number"] : List Str).Nodup by decide +kernel) rfl (Or.inl rfl) (Or.inr rfl)), pts_nil, (pe_op op_sub pe_int (pv 0))⟩)) (pg_sub (pv 0) (pv 4) set_list))
  pss_nil)
 pss_nil)
  (pss_cons (ps_if (PW.pt (pw_and (pt_cmpR op_eq (pv 3) pe_int (nomark _)) (pw_and (pt_cmpR op_ne (pv 4) (pv 5) (nomark _)) (pw_and1 (pt_cmpR op_lt (pv 2) pe_int (nomark _))))))
 (pss_cons (ps_set (i := 7) sc_law_deed.nd rfl (Or.inr rfl) (pe_op op_sub (pe_op op_mod (pe_op op_fdivB (pv 1) pe_int) pe_int) pe_int))
  (pss_cons (ps_asg (pe_comp rfl (.of (osc := (defScope s_law_deed)) (N := ["_law_rows", "_law_cell_here", "_law_puts", "_law_act", "_law_one", "_law_other", "_law_kept", "_law_many"]) (own := ["_law_a", "_law_b"]) (fvn := ["_law_many"]) (fv := [7]) rfl rfl (by decide +kernel)) (pi_zip_K (K := K) rfl rfl T.zip (pa_cons (pe_ix (ix_list_K (K := K) rfl) (pv 0) (pv 4) (fun _ _ => rfl)) (pa_cons (pe_ix (ix_list_K (K := K) rfl) (pv 0) (pv 5) (fun _ _ => rfl)) pa_nil))) (fun _ _ _ _ _ => ⟨(pg_tup_K (K := K) (n := 2) rfl rfl (pgs_cons (pg_name (i := 0) (show (["_law_a", "_law_b", "_law_many"] : List Str).Nodup by decide +kernel) rfl (Or.inl rfl) (Or.inr rfl)) (pgs_cons (pg_name (i := 1) (show (["_law_a", "_law_b", "_law_many"] : List Str).Nodup by decide +kernel) rfl (Or.inl rfl) (Or.inr rfl)) pgs_nil))), pts_nil, (pe_op op_add (pv 0) (pe_op op_mulX (pv 2) (pv 1)))⟩)) (pg_sub (pv 0) (pv 4) set_list))
  pss_nil))
 pss_nil)
  (pss_cons (ps_if (PW.pt (pw_and (pt_cmpR op_eq (pv 3) pe_int (nomark _)) (pw_and (pt_cmpR op_lt (pe_callB (call_len_K (K := K) rfl) rfl T.len PySem.boot_len (pa_cons (pv 0) pa_nil)) pe_int (nomark _)) (pw_and1 (pt_cmpR op_lt (pv 2) pe_int (nomark _))))))
 (pss_cons (ps_expr (pe_append_K (K := K) rfl (pv 0) (pa_cons (pe_comp rfl (.of (osc := (defScope s_law_deed)) (N := ["_law_rows", "_law_cell_here", "_law_puts", "_law_act", "_law_one", "_law_other", "_law_kept", "_law_many"]) (own := ["_law_a", "_law_b"]) (fvn := []) (fv := []) rfl rfl (by decide +kernel)) (pi_zip_K (K := K) rfl rfl T.zip (pa_cons (pe_ix (ix_list_K (K := K) rfl) (pv 0) (pv 4) (fun _ _ => rfl)) (pa_cons (pe_ix (ix_list_K (K := K) rfl) (pv 0) (pv 5) (fun _ _ => rfl)) pa_nil))) (fun _ _ _ _ _ => ⟨(pg_tup_K (K := K) (n := 2) rfl rfl (pgs_cons (pg_name (i := 0) (show (["_law_a", "_law_b"] : List Str).Nodup by decide +kernel) rfl (Or.inl rfl) (Or.inr rfl)) (pgs_cons (pg_name (i := 1) (show (["_law_a", "_law_b"] : List Str).Nodup by decide +kernel) rfl (Or.inl rfl) (Or.inr rfl)) pgs_nil))), pts_nil, (pe_op op_add (pv 0) (pv 1))⟩)) pa_nil)))
  pss_nil)
 pss_nil)
  (pss_cons (ps_ret (pe_callTy call_int1 rfl T.int (by decide +kernel) (pa_cons (pe_cmpR op_gt (pv 3) pe_int (nomark _)) pa_nil)))
  pss_nil)))))))), fun p => ⟨([.ol p (List.map (fun (xs : (List Int)) => dL (List.map dI xs)) ((m_law_deed a0_rows a1_cell a2_puts).2)), .no, .no, .no, .no, .no, .no, .no] : L2.Ctx), ?_, rfl⟩⟩
  show L2.Run _ ([.ol p (List.map (fun (xs : (List Int)) => dL (List.map dI xs)) a0_rows), .va false (dI a1_cell), .va false (dI a2_puts), .no, .no, .no, .no, .no] : L2.Ctx) _ ((fun (r : Int × (List (List Int))) => Oc.rw ([.ol p (List.map (fun (xs : (List Int)) => dL (List.map dI xs)) r.2), .no, .no, .no, .no, .no, .no, .no] : L2.Ctx) (dI r.1)) (m_law_deed a0_rows a1_cell a2_puts))
  unfold m_law_deed
  exact (run_let (m := true) (x := (a1_cell % (4 : Int))) dI (fun (r : Int × (List (List Int))) => Oc.rw ([.ol p (List.map (fun (xs : (List Int)) => dL (List.map dI xs)) r.2), .no, .no, .no, .no, .no, .no, .no] : L2.Ctx) (dI r.1)) (ev_opC (x := a1_cell) (y := (4 : Int)) (Ev.any (m := false) (ev_var (i := 1) rfl)) ev_c (by decide)) (fun act140 hact140 =>
 (run_let (m := true) (x := ((a1_cell / (4 : Int)) % ((a0_rows.length : Nat) : Int))) dI (fun (r : Int × (List (List Int))) => Oc.rw ([.ol p (List.map (fun (xs : (List Int)) => dL (List.map dI xs)) r.2), .no, .no, .no, .no, .no, .no, .no] : L2.Ctx) (dI r.1)) (ev_opC (x := (a1_cell / (4 : Int))) (y := ((a0_rows.length : Nat) : Int)) (ev_opC (x := a1_cell) (y := (4 : Int)) (Ev.any (m := false) (ev_var (i := 1) rfl)) ev_c (by exact ⟨by decide, by decide⟩)) (ev_olLen (f := (fun (xs : (List Int)) => dL (List.map dI xs))) (xs := a0_rows) rfl) (by show (0 : Int) < _; have z := hp.2.1; omega)) (fun one141 hone141 =>
 have hO := hone141; (run_let (m := true) (x := ((a1_cell / (52 : Int)) % ((a0_rows.length : Nat) : Int))) dI (fun (r : Int × (List (List Int))) => Oc.rw ([.ol p (List.map (fun (xs : (List Int)) => dL (List.map dI xs)) r.2), .no, .no, .no, .no, .no, .no, .no] : L2.Ctx) (dI r.1)) (ev_opC (x := (a1_cell / (52 : Int))) (y := ((a0_rows.length : Nat) : Int)) (ev_opC (x := a1_cell) (y := (52 : Int)) (Ev.any (m := false) (ev_var (i := 1) rfl)) ev_c (by exact ⟨by decide, by decide⟩)) (ev_olLen (f := (fun (xs : (List Int)) => dL (List.map dI xs))) (xs := a0_rows) rfl) (by show (0 : Int) < _; have z := hp.2.1; omega)) (fun other142 hother142 =>
 have hT := hother142; (run_join (b := (decide (act140 = (0 : Int)))) (fun bb => ([.ol p (List.map (fun (xs : (List Int)) => dL (List.map dI xs)) (bif bb then (setZ (setZ a0_rows one141 (ixD a0_rows other142)) other142 (ixD a0_rows one141)) else a0_rows)), .va false (dI a1_cell), .va false (dI a2_puts), .va true (dI act140), .va true (dI one141), .va true (dI other142), .no, .no] : L2.Ctx)) (evt_test (ev_eqI (x := act140) (y := (0 : Int)) (Ev.any (m := true) (ev_var (i := 3) rfl)) ev_c)) (fun h143 => (run_set (m := false) (ev_olIx (f := (fun (xs : (List Int)) => dL (List.map dI xs))) (xs := a0_rows) rfl (Ev.any (m := true) (ev_var (i := 4) rfl)) (by first | exact dd_ix hp hO | exact dd_ix hD1 hO | exact dd_ix hD2 hO | exact dd_ix hD3 hO | exact dd_ix (dd_set hp (dd_ixD hp)) hO))
 (run_setixP (f := (fun (xs : (List Int)) => dL (List.map dI xs))) (xs := a0_rows) (x := (ixD a0_rows other142)) (j := one141) rfl (ev_olIx (f := (fun (xs : (List Int)) => dL (List.map dI xs))) (xs := a0_rows) rfl (Ev.any (m := true) (ev_var (i := 5) rfl)) (by first | exact dd_ix hp hT | exact dd_ix hD1 hT | exact dd_ix hD2 hT | exact dd_ix hD3 hT | exact dd_ix (dd_set hp (dd_ixD hp)) hT)) (Ev.any (m := true) (ev_var (i := 4) rfl)) (by first | exact dd_ix hp hO | exact dd_ix hD1 hO | exact dd_ix hD2 hO | exact dd_ix hD3 hO | exact dd_ix (dd_set hp (dd_ixD hp)) hO)
 (run_setixP (f := (fun (xs : (List Int)) => dL (List.map dI xs))) (xs := (setZ a0_rows one141 (ixD a0_rows other142))) (x := (ixD a0_rows one141)) (j := other142) rfl (ev_var (i := 6) rfl) (Ev.any (m := true) (ev_var (i := 5) rfl)) (by first | exact dd_ix hp hT | exact dd_ix hD1 hT | exact dd_ix hD2 hT | exact dd_ix hD3 hT | exact dd_ix (dd_set hp (dd_ixD hp)) hT)
 (run_next (.eq (.eq (.eq (.eq (.eq (.eq (.no (.eq .nil))))))))))))) (fun h143 => (run_next (.eq (.eq (.eq (.eq (.eq (.eq (.eq (.eq .nil))))))))))
 (run_gen (x := (bif (decide (act140 = (0 : Int))) then (setZ (setZ a0_rows one141 (ixD a0_rows other142)) other142 (ixD a0_rows one141)) else a0_rows)) (fun rows144 => ([.ol p (List.map (fun (xs : (List Int)) => dL (List.map dI xs)) rows144), .va false (dI a1_cell), .va false (dI a2_puts), .va true (dI act140), .va true (dI one141), .va true (dI other142), .no, .no] : L2.Ctx)) (fun (r : Int × (List (List Int))) => Oc.rw ([.ol p (List.map (fun (xs : (List Int)) => dL (List.map dI xs)) r.2), .no, .no, .no, .no, .no, .no, .no] : L2.Ctx) (dI r.1)) (fun rows144 hrows144 =>
 have hD1 := dd_1 hp hrows144; (run_join (b := (decide (act140 = (1 : Int)))) (fun bb => ([.ol p (List.map (fun (xs : (List Int)) => dL (List.map dI xs)) (bif bb then (setZ rows144 one141 (List.map (fun (x146 : Int) => ((0 : Int) - x146)) (ixD rows144 one141))) else rows144)), .va false (dI a1_cell), .va false (dI a2_puts), .va true (dI act140), .va true (dI one141), .va true (dI other142), .no, .no] : L2.Ctx)) (evt_test (ev_eqI (x := act140) (y := (1 : Int)) (Ev.any (m := true) (ev_var (i := 3) rfl)) ev_c)) (fun h145 => (run_setixP (f := (fun (xs : (List Int)) => dL (List.map dI xs))) (xs := rows144) (x := (List.map (fun (x146 : Int) => ((0 : Int) - x146)) (ixD rows144 one141))) (j := one141) rfl (EvO.ev (EvO.conv (ev_map (g := (fun (x146 : Int) => dI ((0 : Int) - x146))) (iv_list (m := false) dI (xs := (ixD rows144 one141)) (Ev.weak (K := K) (ev_olIx (f := (fun (xs : (List Int)) => dL (List.map dI xs))) (xs := rows144) rfl (Ev.any (m := true) (ev_var (i := 4) rfl)) (by first | exact dd_ix hp hO | exact dd_ix hD1 hO | exact dd_ix hD2 hO | exact dd_ix hD3 hO | exact dd_ix (dd_set hp (dd_ixD hp)) hO)))) (by first | exact dd_len hD1 | exact dd_zip hD2 | exact dd_zip hD3) ⟨by decide, by decide⟩ (fun i147 x146 hx148 => have qhx148 := List.mem_of_getElem? hx148; (ev_op0 (x := (0 : Int)) (y := x146) ev_c (Ev.any (m := false) (ev_var (i := 0) rfl))))) (by first | (rw [List.map_map]; rfl) | (simp only [cond_true, cond_false]; rw [List.map_map]; rfl)))) (Ev.any (m := true) (ev_var (i := 4) rfl)) (by first | exact dd_ix hp hO | exact dd_ix hD1 hO | exact dd_ix hD2 hO | exact dd_ix hD3 hO | exact dd_ix (dd_set hp (dd_ixD hp)) hO)
 (run_next (.eq (.eq (.eq (.eq (.eq (.eq (.eq (.eq .nil))))))))))) (fun h145 => (run_next (.eq (.eq (.eq (.eq (.eq (.eq (.eq (.eq .nil))))))))))
 (run_gen (x := (bif (decide (act140 = (1 : Int))) then (setZ rows144 one141 (List.map (fun (x146 : Int) => ((0 : Int) - x146)) (ixD rows144 one141))) else rows144)) (fun rows149 => ([.ol p (List.map (fun (xs : (List Int)) => dL (List.map dI xs)) rows149), .va false (dI a1_cell), .va false (dI a2_puts), .va true (dI act140), .va true (dI one141), .va true (dI other142), .no, .no] : L2.Ctx)) (fun (r : Int × (List (List Int))) => Oc.rw ([.ol p (List.map (fun (xs : (List Int)) => dL (List.map dI xs)) r.2), .no, .no, .no, .no, .no, .no, .no] : L2.Ctx) (dI r.1)) (fun rows149 hrows149 =>
 have hD2 := dd_2 hD1 hrows149; (run_join (b := ((decide (act140 = (2 : Int))) && ((!decide (one141 = other142)) && (decide (a2_puts < (4 : Int)))))) (fun bb => ([.ol p (List.map (fun (xs : (List Int)) => dL (List.map dI xs)) (bif bb then (setZ rows149 one141 (List.map (fun (x151 : (Int × Int)) => (x151.1 + ((((a1_cell / (676 : Int)) % (7 : Int)) - (3 : Int)) * x151.2))) (List.zip (ixD rows149 one141) (ixD rows149 other142)))) else rows149)), .va false (dI a1_cell), .va false (dI a2_puts), .va true (dI act140), .va true (dI one141), .va true (dI other142), .no, .no] : L2.Ctx)) (evt_and (b := (decide (act140 = (2 : Int)))) (evt_test (ev_eqI (x := act140) (y := (2 : Int)) (Ev.any (m := true) (ev_var (i := 3) rfl)) ev_c)) (fun hb => (evt_and (b := (!decide (one141 = other142))) (evt_test (ev_neI (x := one141) (y := other142) (Ev.any (m := true) (ev_var (i := 4) rfl)) (Ev.any (m := true) (ev_var (i := 5) rfl)))) (fun hb => (evt_test (ev_op0 (x := a2_puts) (y := (4 : Int)) (Ev.any (m := false) (ev_var (i := 2) rfl)) ev_c)))))) (fun h150 => (run_set (m := true) (ev_op0 (x := ((a1_cell / (676 : Int)) % (7 : Int))) (y := (3 : Int)) (ev_opC (x := (a1_cell / (676 : Int))) (y := (7 : Int)) (ev_opC (x := a1_cell) (y := (676 : Int)) (Ev.any (m := false) (ev_var (i := 1) rfl)) ev_c (by exact ⟨by decide, by decide⟩)) ev_c (by decide)) ev_c)
 (run_setixP (f := (fun (xs : (List Int)) => dL (List.map dI xs))) (xs := rows149) (x := (List.map (fun (x151 : (Int × Int)) => (x151.1 + ((((a1_cell / (676 : Int)) % (7 : Int)) - (3 : Int)) * x151.2))) (List.zip (ixD rows149 one141) (ixD rows149 other142)))) (j := one141) rfl (EvO.ev (EvO.conv (ev_map (g := (fun (x151 : (Int × Int)) => dI (x151.1 + ((((a1_cell / (676 : Int)) % (7 : Int)) - (3 : Int)) * x151.2)))) (iv_zip (m := false) dI dI (xs := (ixD rows149 one141)) (ys := (ixD rows149 other142)) (Ev.weak (K := K) (ev_olIx (f := (fun (xs : (List Int)) => dL (List.map dI xs))) (xs := rows149) rfl (Ev.any (m := true) (ev_var (i := 4) rfl)) (by first | exact dd_ix hp hO | exact dd_ix hD1 hO | exact dd_ix hD2 hO | exact dd_ix hD3 hO | exact dd_ix (dd_set hp (dd_ixD hp)) hO))) (Ev.weak (K := K) (ev_olIx (f := (fun (xs : (List Int)) => dL (List.map dI xs))) (xs := rows149) rfl (Ev.any (m := true) (ev_var (i := 5) rfl)) (by first | exact dd_ix hp hT | exact dd_ix hD1 hT | exact dd_ix hD2 hT | exact dd_ix hD3 hT | exact dd_ix (dd_set hp (dd_ixD hp)) hT)))) (by first | exact dd_len hD1 | exact dd_zip hD2 | exact dd_zip hD3) ⟨by decide, by decide⟩ (fun i152 x151 hx153 => have qhx153 := zip_get hx153; (ev_op0 (x := x151.1) (y := ((((a1_cell / (676 : Int)) % (7 : Int)) - (3 : Int)) * x151.2)) (Ev.any (m := false) (ev_var (i := 0) rfl)) (ev_opC (x := (((a1_cell / (676 : Int)) % (7 : Int)) - (3 : Int))) (y := x151.2) (Ev.any (m := true) (ev_var (i := 2) rfl)) (Ev.any (m := false) (ev_var (i := 1) rfl)) (by first | exact .inl ⟨by ((try simp only [decide_eq_true_eq, decide_eq_false_iff_not, Bool.not_eq_true', Bool.not_eq_false', Bool.and_eq_true, Bool.or_eq_false_iff, Bool.or_eq_true, Bool.and_eq_false_iff, Bool.cond_eq_ite] at *) <;> omega), by ((try simp only [decide_eq_true_eq, decide_eq_false_iff_not, Bool.not_eq_true', Bool.not_eq_false', Bool.and_eq_true, Bool.or_eq_false_iff, Bool.or_eq_true, Bool.and_eq_false_iff, Bool.cond_eq_ite] at *) <;> omega)⟩ | exact .inr (.inl ⟨by ((try simp only [decide_eq_true_eq, decide_eq_false_iff_not, Bool.not_eq_true', Bool.not_eq_false', Bool.and_eq_true, Bool.or_eq_false_iff, Bool.or_eq_true, Bool.and_eq_false_iff, Bool.cond_eq_ite] at *) <;> omega), by ((try simp only [decide_eq_true_eq, decide_eq_false_iff_not, Bool.not_eq_true', Bool.not_eq_false', Bool.and_eq_true, Bool.or_eq_false_iff, Bool.or_eq_true, Bool.and_eq_false_iff, Bool.cond_eq_ite] at *) <;> omega)⟩)))))) (by first | (rw [List.map_map]; rfl) | (simp only [cond_true, cond_false]; rw [List.map_map]; rfl)))) (Ev.any (m := true) (ev_var (i := 4) rfl)) (by first | exact dd_ix hp hO | exact dd_ix hD1 hO | exact dd_ix hD2 hO | exact dd_ix hD3 hO | exact dd_ix (dd_set hp (dd_ixD hp)) hO)
 (run_next (.eq (.eq (.eq (.eq (.eq (.eq (.eq (.no .nil)))))))))))) (fun h150 => (run_next (.eq (.eq (.eq (.eq (.eq (.eq (.eq (.eq .nil))))))))))
 (run_gen (x := (bif ((decide (act140 = (2 : Int))) && ((!decide (one141 = other142)) && (decide (a2_puts < (4 : Int))))) then (setZ rows149 one141 (List.map (fun (x151 : (Int × Int)) => (x151.1 + ((((a1_cell / (676 : Int)) % (7 : Int)) - (3 : Int)) * x151.2))) (List.zip (ixD rows149 one141) (ixD rows149 other142)))) else rows149)) (fun rows154 => ([.ol p (List.map (fun (xs : (List Int)) => dL (List.map dI xs)) rows154), .va false (dI a1_cell), .va false (dI a2_puts), .va true (dI act140), .va true (dI one141), .va true (dI other142), .no, .no] : L2.Ctx)) (fun (r : Int × (List (List Int))) => Oc.rw ([.ol p (List.map (fun (xs : (List Int)) => dL (List.map dI xs)) r.2), .no, .no, .no, .no, .no, .no, .no] : L2.Ctx) (dI r.1)) (fun rows154 hrows154 =>
 have hD3 := dd_3 hD2 hrows154; (run_join (b := ((decide (act140 = (3 : Int))) && ((decide (((rows154.length : Nat) : Int) < (24 : Int))) && (decide (a2_puts < (4 : Int)))))) (fun bb => ([.ol p (List.map (fun (xs : (List Int)) => dL (List.map dI xs)) (bif bb then (rows154 ++ [(List.map (fun (x156 : (Int × Int)) => (x156.1 + x156.2)) (List.zip (ixD rows154 one141) (ixD rows154 other142)))]) else rows154)), .va false (dI a1_cell), .va false (dI a2_puts), .va true (dI act140), .va true (dI one141), .va true (dI other142), .no, .no] : L2.Ctx)) (evt_and (b := (decide (act140 = (3 : Int)))) (evt_test (ev_eqI (x := act140) (y := (3 : Int)) (Ev.any (m := true) (ev_var (i := 3) rfl)) ev_c)) (fun hb => (evt_and (b := (decide (((rows154.length : Nat) : Int) < (24 : Int)))) (evt_test (ev_op0 (x := ((rows154.length : Nat) : Int)) (y := (24 : Int)) (ev_olLen (f := (fun (xs : (List Int)) => dL (List.map dI xs))) (xs := rows154) rfl) ev_c)) (fun hb => (evt_test (ev_op0 (x := a2_puts) (y := (4 : Int)) (Ev.any (m := false) (ev_var (i := 2) rfl)) ev_c)))))) (fun h155 => (run_appendP (f := (fun (xs : (List Int)) => dL (List.map dI xs))) (xs := rows154) (x := (List.map (fun (x156 : (Int × Int)) => (x156.1 + x156.2)) (List.zip (ixD rows154 one141) (ixD rows154 other142)))) rfl (EvO.ev (EvO.conv (ev_map (g := (fun (x156 : (Int × Int)) => dI (x156.1 + x156.2))) (iv_zip (m := false) dI dI (xs := (ixD rows154 one141)) (ys := (ixD rows154 other142)) (Ev.weak (K := K) (ev_olIx (f := (fun (xs : (List Int)) => dL (List.map dI xs))) (xs := rows154) rfl (Ev.any (m := true) (ev_var (i := 4) rfl)) (by first | exact dd_ix hp hO | exact dd_ix hD1 hO | exact dd_ix hD2 hO | exact dd_ix hD3 hO | exact dd_ix (dd_set hp (dd_ixD hp)) hO))) (Ev.weak (K := K) (ev_olIx (f := (fun (xs : (List Int)) => dL (List.map dI xs))) (xs := rows154) rfl (Ev.any (m := true) (ev_var (i := 5) rfl)) (by first | exact dd_ix hp hT | exact dd_ix hD1 hT | exact dd_ix hD2 hT | exact dd_ix hD3 hT | exact dd_ix (dd_set hp (dd_ixD hp)) hT)))) (by first | exact dd_len hD1 | exact dd_zip hD2 | exact dd_zip hD3) ⟨by decide, by decide⟩ (fun i157 x156 hx158 => have qhx158 := zip_get hx158; (ev_op0 (x := x156.1) (y := x156.2) (Ev.any (m := false) (ev_var (i := 0) rfl)) (Ev.any (m := false) (ev_var (i := 1) rfl))))) (by first | (rw [List.map_map]; rfl) | (simp only [cond_true, cond_false]; rw [List.map_map]; rfl)))) (by exact dd_lt hD3)
 (run_next (.eq (.eq (.eq (.eq (.eq (.eq (.eq (.eq .nil))))))))))) (fun h155 => (run_next (.eq (.eq (.eq (.eq (.eq (.eq (.eq (.eq .nil))))))))))
 (run_gen (x := (bif ((decide (act140 = (3 : Int))) && ((decide (((rows154.length : Nat) : Int) < (24 : Int))) && (decide (a2_puts < (4 : Int))))) then (rows154 ++ [(List.map (fun (x156 : (Int × Int)) => (x156.1 + x156.2)) (List.zip (ixD rows154 one141) (ixD rows154 other142)))]) else rows154)) (fun rows159 => ([.ol p (List.map (fun (xs : (List Int)) => dL (List.map dI xs)) rows159), .va false (dI a1_cell), .va false (dI a2_puts), .va true (dI act140), .va true (dI one141), .va true (dI other142), .no, .no] : L2.Ctx)) (fun (r : Int × (List (List Int))) => Oc.rw ([.ol p (List.map (fun (xs : (List Int)) => dL (List.map dI xs)) r.2), .no, .no, .no, .no, .no, .no, .no] : L2.Ctx) (dI r.1)) (fun rows159 hrows159 =>
 (run_seq_rw (ev_intB (b := (decide ((1 : Int) < act140))) (eva_cons (ev_op0 (x := act140) (y := (1 : Int)) (Ev.any (m := true) (ev_var (i := 3) rfl)) ev_c) eva_nil)) (.eq (.no (.no (.no (.no (.no (.eq (.eq .nil)))))))))))))))))))))))))))
theorem swaps_12 {xs sh : List Int} (h : ShpOk sh) : (m_law_swaps xs (3 : Int) sh).length ≤ 12 := by
  obtain ⟨_, h1, h2, h3, h4, h5, h6⟩ := h
  unfold m_law_swaps Let
  dsimp only
  generalize m_law_cell xs 2 = c
  generalize m_law_numbers _ _ _ _ = n1
  generalize (bif decide (m_law_cell xs 1 / 8 % 3 = 1) then _ else n1) = n2
  have a3 : (List.map (fun (x : Int) => (cutD n2 (some (x * ixD sh (0 : Int))) (some ((x * ixD sh (0 : Int)) + ixD sh (0 : Int))))) (rngZ 0 (ixD sh (1 : Int)).toNat)).length ≤ 12 := by rw [List.length_map, rngZ_len]; omega
  generalize List.map _ (rngZ 0 (ixD sh (1 : Int)).toNat) = r1 at *
  have a4 : ∀ (b : Bool) (i : Int) (r : List Int), (bif b then setZ r1 i r else r1).length ≤ 12 := fun b i r => by
    cases b
    · exact a3
    · rw [cond_true, setZ_len]; exact a3
  have a4 := a4 (decide (c % 5 = 1) && decide ((2 : Int) < (r1.length : Int)))
  generalize hr2 : (bif (decide (c % 5 = 1) && decide ((2 : Int) < (r1.length : Int))) then _ else r1) = r2
  have a4 : r2.length ≤ 12 := by rw [← hr2]; exact a4 _ _
  have a5 : ∀ (b : Bool) (f : List Int → List Int), (bif b then List.map f r2 else r2).length ≤ 12 := fun b f => by
    cases b
    · exact a4
    · rw [cond_true, List.length_map]; exact a4
  generalize hr3 : (bif decide (c % 5 = 2) then _ else r2) = r3
  have a5 : r3.length ≤ 12 := by rw [← hr3]; exact a5 _ _
  have a6 : ∀ (b : Bool) (i : Int) (r : List Int), (bif b then setZ r3 i r else r3).length ≤ 12 := fun b i r => by
    cases b
    · exact a5
    · rw [cond_true, setZ_len]; exact a5
  generalize hr4 : (bif (decide (c % 5 = 3) && decide ((0 : Int) < (r3.length : Int))) then _ else r3) = r4
  have a6 : r4.length ≤ 12 := by rw [← hr4]; exact a6 _ _ _
  cases q : (decide (c % 5 = 4) && decide ((r4.length : Int) < 12)) with
  | false => rw [cond_false]; exact a6
  | true =>
    rw [cond_true, insZ_len]
    simp at q
    omega
theorem map_idL2 (sw : List (List Int)) : List.map (fun (x : List Int) => x) sw = sw := by simp
def Rws (sh : List Int) (rows : List (List Int)) : Prop := rows.length ≤ 12 ∧ Lat.RB (ixD sh (0 : Int)).toNat 198 rows
def Shp8 (sh : List Int) : Prop := ShpOk sh ∧ ixD sh (0 : Int) ≤ 8
theorem l_shp {xs sh : List Int} (e : sh = m_law_shape xs) : Shp8 sh := by subst e; exact shape_ok xs
theorem l_rws {xs sh : List Int} {rows : List (List Int)} (h : Shp8 sh) (e : rows = m_law_swaps xs (3 : Int) sh) : Rws sh rows := by subst e; exact ⟨swaps_12 h.1, (swaps_ok h.1).2⟩
theorem l_w8 {sh : List Int} (h : Shp8 sh) : (ixD sh (0 : Int)).toNat ≤ 8 ∧ ixD sh (0 : Int) = (((ixD sh (0 : Int)).toNat : Nat) : Int) ∧ 1 ≤ ixD sh (0 : Int) := by have := h.1.2.1; have := h.2; omega
def SpE (a b : List (List Int)) : Prop := (∀ r ∈ a, Lat.SpL b (Lat.vec r)) ∧ ∀ r ∈ b, Lat.SpL a (Lat.vec r)
theorem spl_mem {a : List (List Int)} {r : List Int} (h : r ∈ a) : Lat.SpL a (Lat.vec r) := Lat.Sp.mem ⟨r, h, rfl⟩
theorem spl_sub {a b : List (List Int)} {u : Lat.Vc} (h : Lat.SpL a u) (k : ∀ r ∈ a, Lat.SpL b (Lat.vec r)) : Lat.SpL b u := Lat.Sp.sub (fun _ ⟨s, hs, e⟩ => e ▸ k s hs) h
theorem SpE.refl {a : List (List Int)} : SpE a a := ⟨fun _ h => spl_mem h, fun _ h => spl_mem h⟩
theorem SpE.trans {a b c : List (List Int)} (h : SpE a b) (k : SpE b c) : SpE a c := ⟨fun r hr => spl_sub (h.1 r hr) k.1, fun r hr => spl_sub (k.2 r hr) h.2⟩
theorem spe_mem {a b : List (List Int)} (h : ∀ r ∈ a, r ∈ b) (k : ∀ r ∈ b, r ∈ a) : SpE a b := ⟨fun r hr => spl_mem (h r hr), fun r hr => spl_mem (k r hr)⟩
theorem set_mem {α : Type} {xs : List α} {i k : Nat} {x y : α} (h : xs[k]? = some y) (hk : k ≠ i) : y ∈ xs.set i x := List.mem_of_getElem? (i := k) (by rw [List.getElem?_set_ne (Ne.symm hk)]; exact h)
theorem set_self {α : Type} {xs : List α} {i : Nat} {x : α} (h : i < xs.length) : x ∈ xs.set i x := List.mem_of_getElem? (i := i) (by rw [List.getElem?_set_self h])
theorem spe_set {rows : List (List Int)} {i : Nat} {r y : List Int} (hi : rows[i]? = some r) (h1 : Lat.SpL rows (Lat.vec y)) (h2 : Lat.SpL (rows.set i y) (Lat.vec r)) : SpE rows (rows.set i y) := by
  refine ⟨fun s hs => ?_, fun s hs => ?_⟩
  · obtain ⟨k, hk⟩ := List.getElem?_of_mem hs
    by_cases e : k = i
    · subst e; rw [hi] at hk; cases hk; exact h2
    · exact spl_mem (set_mem hk e)
  · rcases List.mem_or_eq_of_mem_set hs with h | rfl
    · exact spl_mem h
    · exact h1
theorem setZ_nat {α : Type} {xs : List α} {k : Nat} {x : α} (h : k < xs.length) : setZ xs (k : Int) x = xs.set k x := by
  unfold setZ ixN
  rw [if_pos (by omega), if_pos (by omega)]
  show xs.set (k : Int).toNat x = _
  rw [Int.toNat_natCast]
theorem rb_set {n b : Nat} {rows : List (List Int)} {i : Nat} {y : List Int} (h : Lat.RB n b rows) (hy : y.length = n ∧ Lat.Bit b y) : Lat.RB n b (rows.set i y) := fun r hr => by
  rcases List.mem_or_eq_of_mem_set hr with h' | rfl
  · exact h r h'
  · exact hy
theorem rb_mono {n b b' : Nat} {rows : List (List Int)} (h : Lat.RB n b rows) (hb : b ≤ b') : Lat.RB n b' rows := fun r hr => ⟨(h r hr).1, ((h r hr).2).mono hb⟩
theorem bit_lin {b : Nat} {l t : List Int} {q : Int} (h : Lat.Bit b l) (k : Lat.Bit b t) (hq : q.natAbs ≤ 3) : Lat.Bit (b + 2) (List.map (fun (x : Int × Int) => x.1 + (q * x.2)) (List.zip l t)) := fun y hy => by
  obtain ⟨x, hx, rfl⟩ := List.mem_map.mp hy
  obtain ⟨h1, h2⟩ := List.of_mem_zip (a := x.1) (b := x.2) hx
  have a1 := h _ h1
  have a2 := k _ h2
  have a3 : (q * x.2).natAbs ≤ 3 * 2 ^ b := by rw [Int.natAbs_mul]; exact Nat.mul_le_mul hq a2
  have a4 : (2 : Nat) ^ (b + 2) = 4 * 2 ^ b := by rw [Nat.pow_add]; omega
  have a5 := Int.natAbs_add_le x.1 (q * x.2)
  rw [a4]; omega
theorem vec_neg {l : List Int} {i : Nat} : Lat.vec (List.map (fun (x : Int) => ((0 : Int) - x)) l) i = (-1) * Lat.vec l i := by
  unfold Lat.vec
  rw [List.getD_eq_getElem?_getD, List.getD_eq_getElem?_getD, List.getElem?_map]
  cases l[i]? <;> simp
def Dk (n b : Nat) (rows ys : List (List Int)) : Prop := 1 ≤ ys.length ∧ ys.length ≤ 24 ∧ Lat.RB n b ys ∧ SpE rows ys
theorem deed_ok {n b : Nat} {rows : List (List Int)} {c puts : Int} (h0 : 1 ≤ rows.length) (h1 : rows.length ≤ 24) (hr : Lat.RB n b rows) :
    ((m_law_deed rows c puts).1 = 0 ∧ Dk n b rows (m_law_deed rows c puts).2) ∨ ((m_law_deed rows c puts).1 = 1 ∧ ((puts < 4 ∧ Dk n (b + 2) rows (m_law_deed rows c puts).2) ∨ Dk n b rows (m_law_deed rows c puts).2)) := by
  unfold m_law_deed Let
  dsimp only
  have md : ∀ x : Int, ∃ k : Nat, x % ((rows.length : Nat) : Int) = (k : Int) ∧ k < rows.length := fun x => by
    have h1 := Int.emod_nonneg x (show ((rows.length : Nat) : Int) ≠ 0 by omega)
    have h2 := Int.emod_lt_of_pos x (show 0 < ((rows.length : Nat) : Int) by omega)
    exact ⟨(x % ((rows.length : Nat) : Int)).toNat, by omega, by omega⟩
  obtain ⟨k, ek, hk⟩ := md (c / 4)
  obtain ⟨l, el, hl⟩ := md (c / 52)
  rw [ek, el]
  obtain ⟨rk, erk⟩ : ∃ r, rows[k]? = some r := ⟨_, List.getElem?_eq_getElem hk⟩
  obtain ⟨rl, erl⟩ : ∃ r, rows[l]? = some r := ⟨_, List.getElem?_eq_getElem hl⟩
  have mk := List.mem_of_getElem? erk
  have ml := List.mem_of_getElem? erl
  have h4 : c % 4 = 0 ∨ c % 4 = 1 ∨ c % 4 = 2 ∨ c % 4 = 3 := by omega
  have D0 : Dk n b rows rows := ⟨h0, h1, hr, SpE.refl⟩
  rcases h4 with e | e | e | e <;> rw [e] <;> simp only [decide_true, cond_true, cond_false, Bool.true_and, Bool.false_and, reduceCtorEq, decide_false, Int.reduceEq, if_true, if_false, Bool.false_eq_true, Int.reduceLT, ixD_nat erk, ixD_nat erl]
  · left
    refine ⟨trivial, ?_⟩
    rw [setZ_nat hk, setZ_nat (by rw [List.length_set]; exact hl)]
    refine ⟨by rw [List.length_set, List.length_set]; exact h0, by rw [List.length_set, List.length_set]; exact h1, rb_set (rb_set hr (hr _ ml)) (hr _ mk), spe_mem (fun r h => ?_) fun r h => ?_⟩
    · obtain ⟨j, hj⟩ := List.getElem?_of_mem h
      by_cases e1 : j = k
      · subst e1
        rw [erk] at hj; cases hj
        exact set_self (by rw [List.length_set]; exact hl)
      · by_cases e2 : j = l
        · subst e2
          rw [erl] at hj; cases hj
          refine set_mem (k := k) ?_ (Ne.symm e1)
          rw [List.getElem?_set_self hk]
        · exact set_mem (k := j) (by rw [List.getElem?_set_ne (Ne.symm e1)]; exact hj) e2
    · rcases List.mem_or_eq_of_mem_set h with h | rfl
      · rcases List.mem_or_eq_of_mem_set h with h | rfl
        · exact h
        · exact ml
      · exact mk
  · left
    refine ⟨trivial, ?_⟩
    rw [setZ_nat hk]
    refine ⟨by rw [List.length_set]; exact h0, by rw [List.length_set]; exact h1, rb_set hr ⟨by rw [List.length_map]; exact (hr _ mk).1, fun y hy => ?_⟩, spe_set erk ?_ ?_⟩
    · obtain ⟨x, hx, rfl⟩ := List.mem_map.mp hy
      have := (hr _ mk).2 x hx
      omega
    · exact ((spl_mem mk).smul (-1)).conv fun i => vec_neg.symm
    · exact ((spl_mem (set_self hk)).smul (-1)).conv fun i => by rw [vec_neg]; omega
  · right
    refine ⟨trivial, ?_⟩
    by_cases z : ((k : Int) = (l : Int))
    · right; simpa [z] using D0
    · by_cases z2 : puts < 4
      · left
        refine ⟨z2, ?_⟩
        simp only [z, z2, decide_true, decide_false, Bool.not_false, Bool.true_and, cond_true]
        rw [setZ_nat hk]
        have e1 := (hr _ mk).1
        have e2 := (hr _ ml).1
        have nkl : l ≠ k := fun q => z (by rw [q])
        refine ⟨by rw [List.length_set]; exact h0, by rw [List.length_set]; exact h1, rb_set (rb_mono hr (by omega)) ⟨by rw [List.length_map, List.length_zip]; omega, bit_lin (hr _ mk).2 (hr _ ml).2 (by omega)⟩, spe_set erk ?_ ?_⟩
        · exact (Lat.Sp.lin 1 (c / 676 % 7 - 3) (spl_mem mk) (spl_mem ml)).conv fun i => by rw [Lat.vec_lin (by omega)]; omega
        · exact (Lat.Sp.lin 1 (-(c / 676 % 7 - 3)) (spl_mem (set_self hk)) (spl_mem (set_mem erl nkl))).conv fun i => by rw [Lat.vec_lin (by omega)]; grind
      · right; simpa [z, z2] using D0
  · right
    refine ⟨trivial, ?_⟩
    by_cases z : (((rows.length : Nat) : Int) < 24)
    · by_cases z2 : puts < 4
      · left
        refine ⟨z2, ?_⟩
        simp only [z, z2, decide_true, Bool.true_and, cond_true]
        have e1 := (hr _ mk).1
        have e2 := (hr _ ml).1
        have es : List.map (fun (x : (Int × Int)) => (x.1 + x.2)) (List.zip rk rl) = List.map (fun (x : (Int × Int)) => (x.1 + (1 * x.2))) (List.zip rk rl) := List.map_congr_left fun x _ => by omega
        rw [es]
        refine ⟨by rw [List.length_append]; omega, by rw [List.length_append, List.length_singleton]; omega, fun r h => ?_, fun r h => spl_mem (List.mem_append_left _ h), fun r h => ?_⟩
        · rcases List.mem_append.mp h with h | h
          · exact ⟨(hr r h).1, ((hr r h).2).mono (by omega)⟩
          · rw [List.mem_singleton.mp h]
            exact ⟨by rw [List.length_map, List.length_zip]; omega, bit_lin (hr _ mk).2 (hr _ ml).2 (by decide)⟩
        · rcases List.mem_append.mp h with h | h
          · exact spl_mem h
          · rw [List.mem_singleton.mp h]
            exact (Lat.Sp.lin 1 1 (spl_mem mk) (spl_mem ml)).conv fun i => by rw [Lat.vec_lin (by omega)]; omega
      · right; simpa [z, z2] using D0
    · right; simpa [z] using D0
def KI (n : Nat) (rows : List (List Int)) (s : Int × List (List Int)) : Prop := 0 ≤ s.1 ∧ Dk n (198 + 2 * min s.1.toNat 4) rows s.2
theorem ki_0 {n : Nat} {rows : List (List Int)} {p : Int} (h1 : 1 ≤ rows.length) (h2 : rows.length ≤ 24) (hr : Lat.RB n 198 rows) (hp : 0 ≤ p) : KI n rows (p, rows) := ⟨hp, h1, h2, rb_mono hr (by omega), SpE.refl⟩
theorem ki_step {n : Nat} {rows : List (List Int)} {s : Int × List (List Int)} {x : Int} (h : KI n rows s) : KI n rows (s.1 + (m_law_deed s.2 x s.1).1, (m_law_deed s.2 x s.1).2) := by
  obtain ⟨h0, h1, h2, h3, h4⟩ := h
  rcases deed_ok (c := x) (puts := s.1) h1 h2 h3 with ⟨e, d1, d2, d3, d4⟩ | ⟨e, ⟨hp, d1, d2, d3, d4⟩ | ⟨d1, d2, d3, d4⟩⟩ <;> rw [e]
  · exact ⟨by show 0 ≤ s.1 + 0; omega, d1, d2, rb_mono d3 (by show _ ≤ 198 + 2 * min (s.1 + 0).toNat 4; rw [Int.add_zero]; omega), h4.trans d4⟩
  · exact ⟨by show 0 ≤ s.1 + 1; omega, d1, d2, rb_mono d3 (by show _ ≤ 198 + 2 * min (s.1 + 1).toNat 4; omega), h4.trans d4⟩
  · exact ⟨by show 0 ≤ s.1 + 1; omega, d1, d2, rb_mono d3 (by show _ ≤ 198 + 2 * min (s.1 + 1).toNat 4; omega), h4.trans d4⟩
theorem ki_fold {n : Nat} {rows : List (List Int)} : ∀ (cs : List Int) {s : Int × List (List Int)}, KI n rows s → KI n rows (List.foldl (fun (s : Int × List (List Int)) (x : Int) => Let (m_law_deed s.2 x s.1) (fun (w : Int × List (List Int)) => (s.1 + w.1, w.2))) s cs)
  | [], _, h => h
  | c :: cs, _, h => ki_fold cs (ki_step (x := c) h)
theorem fit13 {n : Nat} (h : n ≤ 8) : Lat.Fit n 206 24 := by
  have : n = 0 ∨ n = 1 ∨ n = 2 ∨ n = 3 ∨ n = 4 ∨ n = 5 ∨ n = 6 ∨ n = 7 ∨ n = 8 := by omega
  unfold Lat.Fit Lat.sB Lat.eB
  rcases this with rfl | rfl | rfl | rfl | rfl | rfl | rfl | rfl | rfl <;> decide
theorem clm13 {n b : Nat} {rows : List (List Int)} (hn : n ≤ 8) (hb : b ≤ 206) (h : rows.length ≤ 24) (hr : Lat.RB n b rows) : Lat.ClmP rows := ⟨n, 206, 24, fit13 hn, h, rb_mono hr hb⟩
def End13 (sh : List Int) (rows ys : List (List Int)) : Prop := ys.length ≤ 24 ∧ Lat.RB (ixD sh (0 : Int)).toNat 206 ys ∧ SpE rows ys
theorem l13_end {sh cs : List Int} {rows ys : List (List Int)} {p : Int} (hr : Rws sh rows) (hp : 0 ≤ p) (e : ys = bif (decide ((0 : Int) < ((rows.length : Nat) : Int))) then (List.foldl (fun (s : Int × List (List Int)) (x : Int) => Let (m_law_deed s.2 x s.1) (fun (w : Int × List (List Int)) => (s.1 + w.1, w.2))) (p, rows) cs).2 else rows) : End13 sh rows ys := by
  subst e
  have hl := hr.1
  by_cases z : (0 : Int) < ((rows.length : Nat) : Int)
  · rw [decide_eq_true z, cond_true]
    obtain ⟨h0, h1, h2, h3, h4⟩ := ki_fold cs (ki_0 (p := p) (by omega) (by omega) hr.2 hp)
    exact ⟨h2, rb_mono h3 (by omega), h4⟩
  · rw [decide_eq_false z, cond_false]
    exact ⟨by omega, rb_mono hr.2 (by decide), SpE.refl⟩
theorem l13_w {sh : List Int} (h : Shp8 sh) : (ixD sh (0 : Int)).toNat ≤ 8 := (l_w8 h).1
theorem l13_c0 {sh : List Int} {rows : List (List Int)} (h : Shp8 sh) (hr : Rws sh rows) : Lat.ClmP (List.map (fun (x : List Int) => x) rows) := by
  rw [map_idL2]; exact clm13 (l13_w h) (by decide) (by have := hr.1; omega) hr.2
theorem l13_cat {α : Type} {ys : List α} (h : ys.length ≤ 24) : (ys ++ cutD ys none (some ((24 : Int) - ((ys.length : Nat) : Int)))).length ≤ 24 := by
  obtain ⟨k, hk⟩ : ∃ k : Nat, (24 : Int) - ((ys.length : Nat) : Int) = (k : Int) := ⟨24 - ys.length, by omega⟩
  rw [hk, List.length_append]
  unfold cutD
  rw [HT.sIx_nat, HT.sIx_none, List.length_take]
  omega
theorem l13_sub {α : Type} {ys : List α} {y : α} {a b : Option Int} (h : y ∈ cutD ys a b) : y ∈ ys := List.mem_of_mem_drop (List.mem_of_mem_take h)
theorem l13_c2 {sh : List Int} {rows ys : List (List Int)} (h : Shp8 sh) (hE : End13 sh rows ys) : Lat.ClmP (ys ++ cutD ys none (some ((24 : Int) - ((ys.length : Nat) : Int)))) :=
  clm13 (l13_w h) (Nat.le_refl _) (l13_cat hE.1) fun r hr => by
    rcases List.mem_append.mp hr with hr | hr
    · exact hE.2.1 r hr
    · exact hE.2.1 r (l13_sub hr)
theorem l13_len {α : Type} {ys : List α} (h : ys.length ≤ 24) : ys.length + (cutD ys none (some ((24 : Int) - ((ys.length : Nat) : Int)))).length ≤ PySem.sizeLine := small_len (by have := l13_cat h; rw [List.length_append] at this; omega)
theorem one13 {n : Nat} {a b : List (List Int)} (ha : ∀ r ∈ a, r.length = n) (hb : ∀ r ∈ b, r.length = n) (h : SpE a b) : m_stairs_of a = m_stairs_of b := by
  rw [stairs_eq, stairs_eq]
  exact Lat.Stairs.one (Lat.clm_stairs ha).1 (Lat.clm_stairs hb).1 h.1 h.2
theorem ki_dd {n : Nat} {rows : List (List Int)} {s : Int × List (List Int)} (hn : n ≤ 8) (h : KI n rows s) : Dd s.2.length s.2 := ⟨rfl, h.2.1, h.2.2.1, fun r hr => by rw [(h.2.2.2.1 r hr).1]; omega⟩
theorem l13_p {b : Bool} {p : Int} (e : p = bif b then (4 : Int) else (0 : Int)) : 0 ≤ p := by subst e; cases b <;> decide
theorem l13_0 {sh : List Int} {rows : List (List Int)} {p : Int} (hR : Rws sh rows) (hP : 0 ≤ p) (h : decide ((0 : Int) < ((rows.length : Nat) : Int)) = true) : KI (ixD sh (0 : Int)).toNat rows (p, rows) := ki_0 (by have := of_decide_eq_true h; omega) (by have := hR.1; omega) hR.2 hP
def m_law (a0_script : (List Int)) : Bool :=
 (Let (m_law_shape a0_script) (fun (shape160 : (List Int)) =>
 (Let (m_law_swaps a0_script (3 : Int) shape160) (fun (rows161 : (List (List Int))) =>
 (Let (m_stairs_of (List.map (fun (x162 : (List Int)) => x162) rows161)) (fun (found165 : (List (List Int))) =>
 (Let (bif (decide (((10 : Int) ^ (9 : Int).toNat) < (ixD shape160 (2 : Int)))) then (4 : Int) else (0 : Int)) (fun (puts167 : Int) =>
 (Let (bif (decide ((0 : Int) < ((rows161.length : Nat) : Int))) then (List.foldl (fun (s175 : Int × (List (List Int))) (x176 : Int) => (Let (m_law_deed s175.2 x176 s175.1) (fun (w180 : (Int × (List (List Int)))) =>
 ((s175.1 + w180.1), w180.2)))) (puts167, rows161) (cutD a0_script (some (3 : Int)) (some (62 : Int)))).1 else puts167) (fun (puts182 : Int) =>
 (Let (bif (decide ((0 : Int) < ((rows161.length : Nat) : Int))) then (List.foldl (fun (s175 : Int × (List (List Int))) (x176 : Int) => (Let (m_law_deed s175.2 x176 s175.1) (fun (w180 : (Int × (List (List Int)))) =>
 ((s175.1 + w180.1), w180.2)))) (puts167, rows161) (cutD a0_script (some (3 : Int)) (some (62 : Int)))).2 else rows161) (fun (rows183 : (List (List Int))) =>
 (Let (m_stairs_of rows183) (fun (again184 : (List (List Int))) =>
 (true && ((decide (again184 = found165)) && (decide ((m_stairs_of (rows183 ++ (cutD rows183 none (some ((24 : Int) - ((rows183.length : Nat) : Int)))))) = found165))))))))))))))))))
def pre_law (a0_script : (List Int)) : Prop := a0_script.length ≤ 63
def sp_law (K : PySem.W.Frag) (A : Adr) : Sp := Spv (ι := (List Int)) (fun x => [dQ K (List.map dI x)]) (fun x => pre_law x) (fun x => .va true (dB (m_law x)))
theorem sc_law : FnScope ["_law_script", "_law_shape_here", "_law_rows", "_law_found", "_law_puts", "_law_cell_here", "_law_again"] ["_law_script"] (defScope s_law) := ⟨rfl, rfl, rfl, by decide +kernel, rfl, by decide +kernel, by decide +kernel⟩
theorem ok_law (F : Fun K "law" "law" s_law f fd) (T : Txt K mg A) (G_law_deed : Callee P w K mg base (CXE P w) 1 "_law_deed" ["_law_rows", "_law_cell_here", "_law_puts"] (sp_law_deed K A)) (G_law_shape : Callee P w K mg base (CXE P w) 2 "_law_shape" ["_law_script"] (sp_law_shape K A)) (G_law_swaps : Callee P w K mg base (CXE P w) 2 "_law_swaps" ["_law_script", "_law_at", "_law_shape_here"] (sp_law_swaps K A)) (G_stairs_of : Callee P w K mg base (CXE P w) 6 "stairs_of" ["rows"] (sp_stairs_of K A)) : FnOk P w K mg base (CXE P w) 7 f fd ["_law_script"] (sp_law K A) := by
  refine F.okV sc_law (fun _ => rfl) (fun cdv Ar outer s H E a0_script hr hp => ?_)
  have hu := hr.units
  replace hp : pre_law a0_script := hp
  unfold pre_law at hp
  refine ⟨_, (pss_cons (ps_set (i := 1) sc_law.nd rfl (Or.inl rfl) (pe_fn G_law_shape (hr.mono (by decide)) rfl passE (pa_cons (pv 0) pa_nil)))
  (pss_cons (ps_set (i := 2) sc_law.nd rfl (Or.inl rfl) (pe_fn G_law_swaps (hr.mono (by decide)) rfl passE (pa_cons (pv 0) (pa_cons pe_int (pa_cons (pv 1) pa_nil)))))
  (pss_cons (ps_set (i := 3) sc_law.nd rfl (Or.inl rfl) (pe_fn G_stairs_of (hr.mono (by decide)) rfl passE (pa_cons (pe_comp rfl (.of (osc := (defScope s_law)) (N := ["_law_script", "_law_shape_here", "_law_rows", "_law_found", "_law_puts", "_law_cell_here", "_law_again"]) (own := ["_law_row"]) (fvn := []) (fv := []) rfl rfl (by decide +kernel)) (pi_list_K (K := K) rfl (pv 2)) (fun _ _ _ _ _ => ⟨(pg_name (i := 0) (show (["_law_row"] : List Str).Nodup by decide +kernel) rfl (Or.inl rfl) (Or.inr rfl)), pts_nil, (pe_callTy (call_list_K (K := K) rfl) rfl T.list PyProof.Rows.boot_list (pa_cons (pv 0) pa_nil))⟩)) pa_nil)))
  (pss_cons (ps_set (i := 4) sc_law.nd rfl (Or.inl rfl) pe_int)
  (pss_cons (ps_if (pt_cmpR op_gt (pe_ix (ix_list_K (K := K) rfl) (pv 1) pe_int (fun _ _ => rfl)) (pe_op op_pow pe_int pe_int) (nomark _))
 (pss_cons (ps_set (i := 4) sc_law.nd rfl (Or.inl rfl) pe_int)
  pss_nil)
 pss_nil)
  (pss_cons (ps_if (pt_cmpR op_gt (pe_callB (call_len_K (K := K) rfl) rfl T.len PySem.boot_len (pa_cons (pv 2) pa_nil)) pe_int (nomark _))
 (pss_cons (ps_for PassesOwn.never rfl (pi_list_K (K := K) rfl (pe_slice (sl_list_K (K := K) rfl) (pv 0) (po_some pe_int) (po_some pe_int))) (pg_name (i := 5) sc_law.nd rfl (Or.inl rfl) (Or.inl rfl))
 (pss_cons (ps_set (i := 4) sc_law.nd rfl (Or.inl rfl) (pe_op op_add (pv 4) (pe_fn G_law_deed (hr.mono (by decide)) rfl passE (pa_cons (pv 2) (pa_cons (pv 5) (pa_cons (pv 4) pa_nil))))))
  pss_nil))
  pss_nil)
 pss_nil)
  (pss_cons (ps_set (i := 6) sc_law.nd rfl (Or.inl rfl) (pe_fn G_stairs_of (hr.mono (by decide)) rfl passE (pa_cons (pv 2) pa_nil)))
  (pss_cons (ps_ret (pe_and (pe_callB (call_isiB (K := K) rfl) rfl T.isinstance PyProof.Rows.boot_isinstance (pa_cons (pv 6) (pa_cons (pe_bltn rfl T.list (v := .ty "list") (u := .type "list") (by decide +kernel) rfl) pa_nil))) (pe_and (pe_cmpR (op_eq_K (K := K) rfl hu) (pv 6) (pv 3) (nomark _)) (pe_one (pe_cmpR (op_eq_K (K := K) rfl hu) (pe_fn G_stairs_of (hr.mono (by decide)) rfl passE (pa_cons (pe_op op_cat (pv 2) (pe_slice (sl_list_K (K := K) rfl) (pv 2) po_none (po_some (pe_op op_sub pe_int (pe_callB (call_len_K (K := K) rfl) rfl T.len PySem.boot_len (pa_cons (pv 2) pa_nil)))))) pa_nil)) (pv 3) (nomark _))))))
  pss_nil)))))))), .inl ?_⟩
  show L2.Run _ ([.va false (dQ K (List.map dI a0_script)), .no, .no, .no, .no, .no, .no] : L2.Ctx) _ ((fun (r : Bool) => Oc.rt true (dB r)) (m_law a0_script))
  unfold m_law
  exact (run_let (m := true) (x := (m_law_shape a0_script)) (fun (xs : (List Int)) => dL (List.map dI xs)) (fun (r : Bool) => Oc.rt true (dB r)) (ev_call (x := a0_script) (eva_cons (ev_var (i := 0) rfl) eva_nil) rfl (by show pre_law_shape a0_script; exact trivial) rfl) (fun shape160 hshape160 =>
 have hS := l_shp hshape160; (run_letO (m := true) (x := (m_law_swaps a0_script (3 : Int) shape160)) (fun z => List.map (fun (xs : (List Int)) => dL (List.map dI xs)) z) (fun (r : Bool) => Oc.rt true (dB r)) (ev_callO (x := (a0_script, (3 : Int), shape160)) (eva_cons (ev_var (i := 0) rfl) (eva_cons ev_c (eva_cons (Ev.old (Ev.weak (K := K) (ev_var (i := 1) rfl))) eva_nil))) rfl (by show pre_law_swaps a0_script (3 : Int) shape160; exact ⟨rfl, hS.1⟩) rfl) (fun rows161 hrows161 =>
 have hR := l_rws hS hrows161; (run_let (m := true) (x := (m_stairs_of (List.map (fun (x162 : (List Int)) => x162) rows161))) (fun (xs : (List (List Int))) => dL (List.map (fun (xs : (List Int)) => dL (List.map dI xs)) xs)) (fun (r : Bool) => Oc.rt true (dB r)) (EvN.ev (EvN.borrowO (i := 2) rfl (evn_of (ev_call (x := (List.map (fun (x162 : (List Int)) => x162) rows161)) (eva_cons (Ev.weak (K := K) (EvO.ev (EvO.conv (ev_map (g := (fun (x162 : (List Int)) => dL (List.map dI x162))) (iv_list (m := false) (fun (xs : (List Int)) => dL (List.map dI xs)) (xs := rows161) (Ev.weak (K := K) (ev_var (i := 2) rfl))) (by exact small_len (by have z := hR.1; omega)) ⟨by decide, by decide⟩ (fun i163 x162 hx164 => have qhx164 := List.mem_of_getElem? hx164; (EvO.ev (EvO.anyI (m := false) (ev_list (Ev.weak (K := K) (ev_var (i := 0) rfl))))))) (by first | (rw [List.map_map]; rfl) | (simp only [cond_true, cond_false]; rw [List.map_map]; rfl))))) eva_nil) rfl (by show pre_stairs_of (List.map (fun (x162 : (List Int)) => x162) rows161); exact l13_c0 hS hR) rfl)))) (fun found165 hfound165 =>
 (run_set (m := true) ev_c
 (run_join (b := (decide (((10 : Int) ^ (9 : Int).toNat) < (ixD shape160 (2 : Int))))) (fun bb => ([.va false (dQ K (List.map dI a0_script)), .va true (dL (List.map dI shape160)), .ow true (List.map (fun (xs : (List Int)) => dL (List.map dI xs)) rows161), .va true (dL (List.map (fun (xs : (List Int)) => dL (List.map dI xs)) found165)), .va true (dI (bif bb then (4 : Int) else (0 : Int))), .no, .no] : L2.Ctx)) (evt_test (ev_op0 (x := (ixD shape160 (2 : Int))) (y := ((10 : Int) ^ (9 : Int).toNat)) (Ev.any (m := true) (ev_ixM (f := dI) (xs := shape160) (Ev.weak (K := K) (ev_var (i := 1) rfl)) ev_c (by exact sh_ix hS.1 (by decide) (by decide)))) (ev_opC (x := (10 : Int)) (y := (9 : Int)) ev_c ev_c (by exact ⟨by decide, by decide, by decide⟩)))) (fun h166 => (run_set (m := true) ev_c
 (run_next (.eq (.eq (.eq (.eq (.eq (.eq (.eq .nil)))))))))) (fun h166 => (run_next (.eq (.eq (.eq (.eq (.eq (.eq (.eq .nil)))))))))
 (run_gen (x := (bif (decide (((10 : Int) ^ (9 : Int).toNat) < (ixD shape160 (2 : Int)))) then (4 : Int) else (0 : Int))) (fun puts167 => ([.va false (dQ K (List.map dI a0_script)), .va true (dL (List.map dI shape160)), .ow true (List.map (fun (xs : (List Int)) => dL (List.map dI xs)) rows161), .va true (dL (List.map (fun (xs : (List Int)) => dL (List.map dI xs)) found165)), .va true (dI puts167), .no, .no] : L2.Ctx)) (fun (r : Bool) => Oc.rt true (dB r)) (fun puts167 hputs167 =>
 have hP := l13_p hputs167; (run_join (b := (decide ((0 : Int) < ((rows161.length : Nat) : Int)))) (fun bb => ([.va false (dQ K (List.map dI a0_script)), .va true (dL (List.map dI shape160)), .ow false (List.map (fun (xs : (List Int)) => dL (List.map dI xs)) (bif bb then (List.foldl (fun (s175 : Int × (List (List Int))) (x176 : Int) => (Let (m_law_deed s175.2 x176 s175.1) (fun (w180 : (Int × (List (List Int)))) =>
 ((s175.1 + w180.1), w180.2)))) (puts167, rows161) (cutD a0_script (some (3 : Int)) (some (62 : Int)))).2 else rows161)), .va true (dL (List.map (fun (xs : (List Int)) => dL (List.map dI xs)) found165)), .va false (dI (bif bb then (List.foldl (fun (s175 : Int × (List (List Int))) (x176 : Int) => (Let (m_law_deed s175.2 x176 s175.1) (fun (w180 : (Int × (List (List Int)))) =>
 ((s175.1 + w180.1), w180.2)))) (puts167, rows161) (cutD a0_script (some (3 : Int)) (some (62 : Int)))).1 else puts167)), .no, .no] : L2.Ctx)) (evt_test (ev_op0 (x := ((rows161.length : Nat) : Int)) (y := (0 : Int)) (ev_ownLenM (f := (fun (xs : (List Int)) => dL (List.map dI xs))) (xs := rows161) rfl) ev_c)) (fun h168 => (run_foldI (s0 := (puts167, rows161)) (fun (s175 : Int × (List (List Int))) => ([.va false (dQ K (List.map dI a0_script)), .va true (dL (List.map dI shape160)), .ow false (List.map (fun (xs : (List Int)) => dL (List.map dI xs)) s175.2), .va true (dL (List.map (fun (xs : (List Int)) => dL (List.map dI xs)) found165)), .va false (dI s175.1), .no, .no] : L2.Ctx)) (fun (s175 : Int × (List (List Int))) (x176 : Int) => (Let (m_law_deed s175.2 x176 s175.1) (fun (w180 : (Int × (List (List Int)))) =>
 ((s175.1 + w180.1), w180.2)))) (fun (i : Nat) (s175 : Int × (List (List Int))) => KI (ixD shape160 (0 : Int)).toNat rows161 s175) (iv_list (m := true) dI (xs := (cutD a0_script (some (3 : Int)) (some (62 : Int)))) (Ev.weak (K := K) (EvO.ev (EvO.anyI (m := false) (ev_cutM (f := dI) (xs := a0_script) (ev_var (i := 0) rfl) (evp_some ev_c) (evp_some ev_c)))))) (.eq (.eq (.oldL (.eq (.old (.eq (.eq .nil))))))) (by exact l13_0 hR hP (by assumption)) (fun i177 x176 s175 hx178 hI179 => have qhx178 := List.mem_of_getElem? hx178; ⟨(by exact ki_step (by assumption)),
 (run_setML (i := 2) (x := (m_law_deed s175.2 x176 s175.1)) (fun (w180 : (Int × (List (List Int)))) => List.map (fun (xs : (List Int)) => dL (List.map dI xs)) w180.2) (fun (w180 : (Int × (List (List Int)))) => dI (s175.1 + w180.1)) (fun z => Oc.nx ((fun (s175 : Int × (List (List Int))) => ([.va false (dQ K (List.map dI a0_script)), .va true (dL (List.map dI shape160)), .ow false (List.map (fun (xs : (List Int)) => dL (List.map dI xs)) s175.2), .va true (dL (List.map (fun (xs : (List Int)) => dL (List.map dI xs)) found165)), .va false (dI s175.1), .no, .no] : L2.Ctx)) z)) (evm_op0 (x := s175.1) (y := (m_law_deed s175.2 x176 s175.1).1) (Ev.any (m := false) (ev_var (i := 4) rfl)) (evm_call (i := 2) (x := (s175.2, x176, s175.1)) rfl (eva_cons (Ev.any (m := true) (ev_var (i := 5) rfl)) (eva_cons (Ev.any (m := false) (ev_var (i := 4) rfl)) eva_nil)) rfl rfl (by show pre_law_deed s175.2 x176 s175.1; exact ki_dd (l13_w hS) (by assumption)) rfl rfl)) (fun w180 hw180 =>
 (run_next (.eq (.eq (.eq (.eq (.eq (.no (.eq .nil))))))))))⟩)
 (run_next (.eq (.eq (.eq (.eq (.eq (.eq (.eq .nil)))))))))) (fun h168 => (run_next (.eq (.eq (.oldL (.eq (.old (.eq (.eq .nil)))))))))
 (run_gen (x := (bif (decide ((0 : Int) < ((rows161.length : Nat) : Int))) then (List.foldl (fun (s175 : Int × (List (List Int))) (x176 : Int) => (Let (m_law_deed s175.2 x176 s175.1) (fun (w180 : (Int × (List (List Int)))) =>
 ((s175.1 + w180.1), w180.2)))) (puts167, rows161) (cutD a0_script (some (3 : Int)) (some (62 : Int)))).1 else puts167)) (fun puts182 => ([.va false (dQ K (List.map dI a0_script)), .va true (dL (List.map dI shape160)), .ow false (List.map (fun (xs : (List Int)) => dL (List.map dI xs)) (bif (decide ((0 : Int) < ((rows161.length : Nat) : Int))) then (List.foldl (fun (s175 : Int × (List (List Int))) (x176 : Int) => (Let (m_law_deed s175.2 x176 s175.1) (fun (w180 : (Int × (List (List Int)))) =>
 ((s175.1 + w180.1), w180.2)))) (puts167, rows161) (cutD a0_script (some (3 : Int)) (some (62 : Int)))).2 else rows161)), .va true (dL (List.map (fun (xs : (List Int)) => dL (List.map dI xs)) found165)), .va false (dI puts182), .no, .no] : L2.Ctx)) (fun (r : Bool) => Oc.rt true (dB r)) (fun puts182 hputs182 =>
 (run_gen (x := (bif (decide ((0 : Int) < ((rows161.length : Nat) : Int))) then (List.foldl (fun (s175 : Int × (List (List Int))) (x176 : Int) => (Let (m_law_deed s175.2 x176 s175.1) (fun (w180 : (Int × (List (List Int)))) =>
 ((s175.1 + w180.1), w180.2)))) (puts167, rows161) (cutD a0_script (some (3 : Int)) (some (62 : Int)))).2 else rows161)) (fun rows183 => ([.va false (dQ K (List.map dI a0_script)), .va true (dL (List.map dI shape160)), .ow false (List.map (fun (xs : (List Int)) => dL (List.map dI xs)) rows183), .va true (dL (List.map (fun (xs : (List Int)) => dL (List.map dI xs)) found165)), .va false (dI puts182), .no, .no] : L2.Ctx)) (fun (r : Bool) => Oc.rt true (dB r)) (fun rows183 hrows183 =>
 have hE := l13_end hR hP hrows183; (run_share (i := 2) rfl (run_let (m := true) (x := (m_stairs_of rows183)) (fun (xs : (List (List Int))) => dL (List.map (fun (xs : (List Int)) => dL (List.map dI xs)) xs)) (fun (r : Bool) => Oc.rt true (dB r)) (ev_call (x := rows183) (eva_cons (Ev.weak (K := K) (ev_var (i := 2) rfl)) eva_nil) rfl (by show pre_stairs_of rows183; exact clm13 (l13_w hS) (Nat.le_refl _) hE.1 hE.2.1) rfl) (fun again184 hagain184 =>
 (run_seq_rt (run_ret (ev_and (b := true) (ev_isiL (Ev.old (ev_var (i := 6) rfl)) T.kit_list_list) (fun hb => (ev_and (b := (decide (again184 = found165))) (ev_eqL (n := 1) (neg := false) (xs := again184) (ys := found165) (EqD.list EqD.int) (Ev.old (Ev.weak (K := K) (ev_var (i := 6) rfl))) (Ev.old (Ev.weak (K := K) (ev_var (i := 3) rfl)))) (fun hb => (ev_eqL (n := 1) (neg := false) (xs := (m_stairs_of (rows183 ++ (cutD rows183 none (some ((24 : Int) - ((rows183.length : Nat) : Int))))))) (ys := found165) (EqD.list EqD.int) (Ev.old (Ev.weak (K := K) (ev_call (x := (rows183 ++ (cutD rows183 none (some ((24 : Int) - ((rows183.length : Nat) : Int)))))) (eva_cons (Ev.weak (K := K) (EvO.ev (ev_catM (f := (fun (xs : (List Int)) => dL (List.map dI xs))) (xs := rows183) (ys := (cutD rows183 none (some ((24 : Int) - ((rows183.length : Nat) : Int))))) (ev_var (i := 2) rfl) (EvO.ev (ev_cutM (f := (fun (xs : (List Int)) => dL (List.map dI xs))) (xs := rows183) (Ev.weak (K := K) (ev_var (i := 2) rfl)) evp_none (evp_some (ev_op0 (x := (24 : Int)) (y := ((rows183.length : Nat) : Int)) ev_c (ev_lenM (f := (fun (xs : (List Int)) => dL (List.map dI xs))) (xs := rows183) (Ev.weak (K := K) (ev_var (i := 2) rfl))))))) (by exact l13_len hE.1)))) eva_nil) rfl (by show pre_stairs_of (rows183 ++ (cutD rows183 none (some ((24 : Int) - ((rows183.length : Nat) : Int))))); exact l13_c2 hS hE) rfl))) (Ev.old (Ev.weak (K := K) (ev_var (i := 3) rfl))))))))))))))))))))))))))))
theorem law_true (xs : List Int) (hp : xs.length ≤ 63) : m_law xs = true := by
  unfold m_law
  show Let (m_law_shape xs) _ = true
  unfold Let
  dsimp only
  have hS : Shp8 (m_law_shape xs) := l_shp rfl
  have hR : Rws (m_law_shape xs) (m_law_swaps xs (3 : Int) (m_law_shape xs)) := l_rws hS rfl
  generalize m_law_shape xs = sh at *
  generalize m_law_swaps xs (3 : Int) sh = rows at *
  have hP := l13_p (b := decide (((10 : Int) ^ (9 : Int).toNat) < ixD sh (2 : Int))) rfl
  generalize (bif _ then (4 : Int) else (0 : Int)) = p at *
  have hE := l13_end (cs := cutD xs (some (3 : Int)) (some (62 : Int))) hR hP rfl
  generalize hY : (bif (decide ((0 : Int) < ((rows.length : Nat) : Int))) then _ else rows) = ys at hE
  have e1 : m_stairs_of ys = m_stairs_of (List.map (fun (x : List Int) => x) rows) := by
    rw [map_idL2]
    exact (one13 (fun r hr => (hR.2 r hr).1) (fun r hr => (hE.2.1 r hr).1) hE.2.2).symm
  have e2 : m_stairs_of (ys ++ cutD ys none (some ((24 : Int) - ((ys.length : Nat) : Int)))) = m_stairs_of ys := by
    refine one13 (n := (ixD sh (0 : Int)).toNat) (fun r hr => ?_) (fun r hr => (hE.2.1 r hr).1) (spe_mem (fun r hr => ?_) fun r hr => List.mem_append_left _ hr)
    · rcases List.mem_append.mp hr with hr | hr
      · exact (hE.2.1 r hr).1
      · exact (hE.2.1 r (l13_sub hr)).1
    · rcases List.mem_append.mp hr with hr | hr
      · exact hr
      · exact l13_sub hr
  unfold Let at hY
  rw [hY, e2, e1]
  simp
def spLaw (K : PySem.W.Frag) : Sp := fun vs H Q _ => ∃ (a : Addr) (ns : List Int), vs = [.ref a] ∧ SqL K H a (ns.map V.int) ∧ ns.length ≤ 63 ∧ ∀ H', Q (.bl true) H'
theorem law_sp {K : PySem.W.Frag} {A : Adr} {vs : List V} {H : Hp} {Q : VK} {E : XK} (h : spLaw K vs H Q E) : sp_law K A vs H Q E := by
  obtain ⟨a, ns, rfl, hS, hl, q⟩ := h
  refine ⟨ns, H, Same.refl _, .cons ⟨a, _, rfl, hS, ?_⟩ .nil, hl, fun v F' H' _ hv => ?_⟩
  · clear hS hl
    induction ns with
    | nil => exact .nil
    | cons n ns ih => exact .cons rfl ih
  · have hv : v = .bl (m_law ns) := hv
    rw [hv, law_true ns hl]
    exact q _
theorem all_mk {l : PySem.W.OpenLaw} {w : World} {K : PySem.W.Frag} {h : Heap} {mg : Str → Option Value} {fa f0 f1 f2 f3 f4 f5 f6 f7 f8 f9 f10 f11 f12 f13 f14 f15 f16 f17 f18   : Addr} (X : K.In h) (G : h.Ns mainGlobals mg) (hfa : mg "law" = some (.ref fa))
    {od0 an0 od1 an1 od2 an2 od3 an3 od4 an4 od5 an5 od6 an6 od7 an7 od8 an8 od9 an9 od10 an10 od11 an11 od12 an12 od13 an13 od14 an14 od15 an15 od16 an16 od17 an17 od18 an18 : Option Addr} {sl0 sl1 sl2 sl3 sl4 sl5 sl6 sl7 sl8 sl9 sl10 sl11 sl12 sl13 sl14 sl15 sl16 sl17 sl18 : Array (Option Value)} {oc0 kV0 dc0 pm0 cd0 ct0 oc1 kV1 dc1 pm1 cd1 ct1 oc2 kV2 dc2 pm2 cd2 ct2 oc3 kV3 dc3 pm3 cd3 ct3 oc4 kV4 dc4 pm4 cd4 ct4 oc5 kV5 dc5 pm5 cd5 ct5 oc6 kV6 dc6 pm6 cd6 ct6 oc7 kV7 dc7 pm7 cd7 ct7 oc8 kV8 dc8 pm8 cd8 ct8 oc9 kV9 dc9 pm9 cd9 ct9 oc10 kV10 dc10 pm10 cd10 ct10 oc11 kV11 dc11 pm11 cd11 ct11 oc12 kV12 dc12 pm12 cd12 ct12 oc13 kV13 dc13 pm13 cd13 ct13 oc14 kV14 dc14 pm14 cd14 ct14 oc15 kV15 dc15 pm15 cd15 ct15 oc16 kV16 dc16 pm16 cd16 ct16 oc17 kV17 dc17 pm17 cd17 ct17 oc18 kV18 dc18 pm18 cd18 ct18 : Value}
    (a0 : PySem.W.nsIn K mainGlobals "refuse_unlike" = some (some (.ref f0)))
    (l0 : K.lookup f0 = some ⟨oc0, od0, .func (PySem.W.fnOf "refuse_unlike" "refuse_unlike" (defArgs s_refuse_unlike) (defBody s_refuse_unlike) (defScope s_refuse_unlike) .none kV0 dc0 pm0 an0 cd0 ct0), sl0⟩)
    (c0 : PySem.W.codeIn K cd0 "refuse_unlike" = true)
    (k0 : PySem.W.keepIn K (.ref f0) = true)
    (a1 : PySem.W.nsIn K mainGlobals "plus" = some (some (.ref f1)))
    (l1 : K.lookup f1 = some ⟨oc1, od1, .func (PySem.W.fnOf "plus" "plus" (defArgs s_plus) (defBody s_plus) (defScope s_plus) .none kV1 dc1 pm1 an1 cd1 ct1), sl1⟩)
    (c1 : PySem.W.codeIn K cd1 "plus" = true)
    (k1 : PySem.W.keepIn K (.ref f1) = true)
    (a2 : PySem.W.nsIn K mainGlobals "less" = some (some (.ref f2)))
    (l2 : K.lookup f2 = some ⟨oc2, od2, .func (PySem.W.fnOf "less" "less" (defArgs s_less) (defBody s_less) (defScope s_less) .none kV2 dc2 pm2 an2 cd2 ct2), sl2⟩)
    (c2 : PySem.W.codeIn K cd2 "less" = true)
    (k2 : PySem.W.keepIn K (.ref f2) = true)
    (a3 : PySem.W.nsIn K mainGlobals "times" = some (some (.ref f3)))
    (l3 : K.lookup f3 = some ⟨oc3, od3, .func (PySem.W.fnOf "times" "times" (defArgs s_times) (defBody s_times) (defScope s_times) .none kV3 dc3 pm3 an3 cd3 ct3), sl3⟩)
    (c3 : PySem.W.codeIn K cd3 "times" = true)
    (k3 : PySem.W.keepIn K (.ref f3) = true)
    (a4 : PySem.W.nsIn K mainGlobals "head_of" = some (some (.ref f4)))
    (l4 : K.lookup f4 = some ⟨oc4, od4, .func (PySem.W.fnOf "head_of" "head_of" (defArgs s_head_of) (defBody s_head_of) (defScope s_head_of) .none kV4 dc4 pm4 an4 cd4 ct4), sl4⟩)
    (c4 : PySem.W.codeIn K cd4 "head_of" = true)
    (k4 : PySem.W.keepIn K (.ref f4) = true)
    (a5 : PySem.W.nsIn K mainGlobals "common" = some (some (.ref f5)))
    (l5 : K.lookup f5 = some ⟨oc5, od5, .func (PySem.W.fnOf "common" "common" (defArgs s_common) (defBody s_common) (defScope s_common) .none kV5 dc5 pm5 an5 cd5 ct5), sl5⟩)
    (c5 : PySem.W.codeIn K cd5 "common" = true)
    (k5 : PySem.W.keepIn K (.ref f5) = true)
    (a6 : PySem.W.nsIn K mainGlobals "upright" = some (some (.ref f6)))
    (l6 : K.lookup f6 = some ⟨oc6, od6, .func (PySem.W.fnOf "upright" "upright" (defArgs s_upright) (defBody s_upright) (defScope s_upright) .none kV6 dc6 pm6 an6 cd6 ct6), sl6⟩)
    (c6 : PySem.W.codeIn K cd6 "upright" = true)
    (k6 : PySem.W.keepIn K (.ref f6) = true)
    (a7 : PySem.W.nsIn K mainGlobals "lowered" = some (some (.ref f7)))
    (l7 : K.lookup f7 = some ⟨oc7, od7, .func (PySem.W.fnOf "lowered" "lowered" (defArgs s_lowered) (defBody s_lowered) (defScope s_lowered) .none kV7 dc7 pm7 an7 cd7 ct7), sl7⟩)
    (c7 : PySem.W.codeIn K cd7 "lowered" = true)
    (k7 : PySem.W.keepIn K (.ref f7) = true)
    (a8 : PySem.W.nsIn K mainGlobals "merged" = some (some (.ref f8)))
    (l8 : K.lookup f8 = some ⟨oc8, od8, .func (PySem.W.fnOf "merged" "merged" (defArgs s_merged) (defBody s_merged) (defScope s_merged) .none kV8 dc8 pm8 an8 cd8 ct8), sl8⟩)
    (c8 : PySem.W.codeIn K cd8 "merged" = true)
    (k8 : PySem.W.keepIn K (.ref f8) = true)
    (a9 : PySem.W.nsIn K mainGlobals "taken_in" = some (some (.ref f9)))
    (l9 : K.lookup f9 = some ⟨oc9, od9, .func (PySem.W.fnOf "taken_in" "taken_in" (defArgs s_taken_in) (defBody s_taken_in) (defScope s_taken_in) .none kV9 dc9 pm9 an9 cd9 ct9), sl9⟩)
    (c9 : PySem.W.codeIn K cd9 "taken_in" = true)
    (k9 : PySem.W.keepIn K (.ref f9) = true)
    (a10 : PySem.W.nsIn K mainGlobals "settled" = some (some (.ref f10)))
    (l10 : K.lookup f10 = some ⟨oc10, od10, .func (PySem.W.fnOf "settled" "settled" (defArgs s_settled) (defBody s_settled) (defScope s_settled) .none kV10 dc10 pm10 an10 cd10 ct10), sl10⟩)
    (c10 : PySem.W.codeIn K cd10 "settled" = true)
    (k10 : PySem.W.keepIn K (.ref f10) = true)
    (a11 : PySem.W.nsIn K mainGlobals "climbed" = some (some (.ref f11)))
    (l11 : K.lookup f11 = some ⟨oc11, od11, .func (PySem.W.fnOf "climbed" "climbed" (defArgs s_climbed) (defBody s_climbed) (defScope s_climbed) .none kV11 dc11 pm11 an11 cd11 ct11), sl11⟩)
    (c11 : PySem.W.codeIn K cd11 "climbed" = true)
    (k11 : PySem.W.keepIn K (.ref f11) = true)
    (a12 : PySem.W.nsIn K mainGlobals "stairs_of" = some (some (.ref f12)))
    (l12 : K.lookup f12 = some ⟨oc12, od12, .func (PySem.W.fnOf "stairs_of" "stairs_of" (defArgs s_stairs_of) (defBody s_stairs_of) (defScope s_stairs_of) .none kV12 dc12 pm12 an12 cd12 ct12), sl12⟩)
    (c12 : PySem.W.codeIn K cd12 "stairs_of" = true)
    (k12 : PySem.W.keepIn K (.ref f12) = true)
    (a13 : PySem.W.nsIn K mainGlobals "_law_cell" = some (some (.ref f13)))
    (l13 : K.lookup f13 = some ⟨oc13, od13, .func (PySem.W.fnOf "_law_cell" "_law_cell" (defArgs s_law_cell) (defBody s_law_cell) (defScope s_law_cell) .none kV13 dc13 pm13 an13 cd13 ct13), sl13⟩)
    (c13 : PySem.W.codeIn K cd13 "_law_cell" = true)
    (k13 : PySem.W.keepIn K (.ref f13) = true)
    (a14 : PySem.W.nsIn K mainGlobals "_law_numbers" = some (some (.ref f14)))
    (l14 : K.lookup f14 = some ⟨oc14, od14, .func (PySem.W.fnOf "_law_numbers" "_law_numbers" (defArgs s_law_numbers) (defBody s_law_numbers) (defScope s_law_numbers) .none kV14 dc14 pm14 an14 cd14 ct14), sl14⟩)
    (c14 : PySem.W.codeIn K cd14 "_law_numbers" = true)
    (k14 : PySem.W.keepIn K (.ref f14) = true)
    (a15 : PySem.W.nsIn K mainGlobals "_law_shape" = some (some (.ref f15)))
    (l15 : K.lookup f15 = some ⟨oc15, od15, .func (PySem.W.fnOf "_law_shape" "_law_shape" (defArgs s_law_shape) (defBody s_law_shape) (defScope s_law_shape) .none kV15 dc15 pm15 an15 cd15 ct15), sl15⟩)
    (c15 : PySem.W.codeIn K cd15 "_law_shape" = true)
    (k15 : PySem.W.keepIn K (.ref f15) = true)
    (a16 : PySem.W.nsIn K mainGlobals "_law_swaps" = some (some (.ref f16)))
    (l16 : K.lookup f16 = some ⟨oc16, od16, .func (PySem.W.fnOf "_law_swaps" "_law_swaps" (defArgs s_law_swaps) (defBody s_law_swaps) (defScope s_law_swaps) .none kV16 dc16 pm16 an16 cd16 ct16), sl16⟩)
    (c16 : PySem.W.codeIn K cd16 "_law_swaps" = true)
    (k16 : PySem.W.keepIn K (.ref f16) = true)
    (a17 : PySem.W.nsIn K mainGlobals "_law_deed" = some (some (.ref f17)))
    (l17 : K.lookup f17 = some ⟨oc17, od17, .func (PySem.W.fnOf "_law_deed" "_law_deed" (defArgs s_law_deed) (defBody s_law_deed) (defScope s_law_deed) .none kV17 dc17 pm17 an17 cd17 ct17), sl17⟩)
    (c17 : PySem.W.codeIn K cd17 "_law_deed" = true)
    (k17 : PySem.W.keepIn K (.ref f17) = true)
    (a18 : PySem.W.nsIn K mainGlobals "law" = some (some (.ref f18)))
    (l18 : K.lookup f18 = some ⟨oc18, od18, .func (PySem.W.fnOf "law" "law" (defArgs s_law) (defBody s_law) (defScope s_law) .none kV18 dc18 pm18 an18 cd18 ct18), sl18⟩)
    (c18 : PySem.W.codeIn K cd18 "law" = true)
    (k18 : PySem.W.keepIn K (.ref f18) = true)
    (z_enumerate : PySem.W.nsIn K mainGlobals "enumerate" = some none)
    (z_int : PySem.W.nsIn K mainGlobals "int" = some none)
    (z_isinstance : PySem.W.nsIn K mainGlobals "isinstance" = some none)
    (z_len : PySem.W.nsIn K mainGlobals "len" = some none)
    (z_list : PySem.W.nsIn K mainGlobals "list" = some none)
    (z_range : PySem.W.nsIn K mainGlobals "range" = some none)
    (z_reversed : PySem.W.nsIn K mainGlobals "reversed" = some none)
    (z_zip : PySem.W.nsIn K mainGlobals "zip" = some none)
    (kit_list_list : PySem.W.kitOne K (.type "list") (.type "list") = some true) :
    ∃ fd : FuncData, (∀ (s : Shared) (v : Value), BindsTo s fd ⟨[v], []⟩ [("_law_script", v)]) ∧ ∀ base : Heap, K.In base → base.Ns mainGlobals mg → FnOk l.prog w K mg base (CXE l.prog w) 7 fa fd ["_law_script"] (spLaw K) := by
  have e := hfa.symm.trans (PySem.W.mg_of X G a18)
  cases e
  have F_refuse_unlike := fun_mk (st := s_refuse_unlike) l0 c0 k0
  have b_refuse_unlike := F_refuse_unlike.binds (ps := ["one", "other"]) fun _ _ _ _ _ _ us hl => match us, hl with | [_, _], _ => rfl
  have m_refuse_unlike := PySem.W.mg_of X G a0
  have F_plus := fun_mk (st := s_plus) l1 c1 k1
  have b_plus := F_plus.binds (ps := ["one", "other"]) fun _ _ _ _ _ _ us hl => match us, hl with | [_, _], _ => rfl
  have m_plus := PySem.W.mg_of X G a1
  have F_less := fun_mk (st := s_less) l2 c2 k2
  have b_less := F_less.binds (ps := ["one", "other"]) fun _ _ _ _ _ _ us hl => match us, hl with | [_, _], _ => rfl
  have m_less := PySem.W.mg_of X G a2
  have F_times := fun_mk (st := s_times) l3 c3 k3
  have b_times := F_times.binds (ps := ["some", "many"]) fun _ _ _ _ _ _ us hl => match us, hl with | [_, _], _ => rfl
  have m_times := PySem.W.mg_of X G a3
  have F_head_of := fun_mk (st := s_head_of) l4 c4 k4
  have b_head_of := F_head_of.binds (ps := ["row"]) fun _ _ _ _ _ _ us hl => match us, hl with | [_], _ => rfl
  have m_head_of := PySem.W.mg_of X G a4
  have F_common := fun_mk (st := s_common) l5 c5 k5
  have b_common := F_common.binds (ps := ["one", "other"]) fun _ _ _ _ _ _ us hl => match us, hl with | [_, _], _ => rfl
  have m_common := PySem.W.mg_of X G a5
  have F_upright := fun_mk (st := s_upright) l6 c6 k6
  have b_upright := F_upright.binds (ps := ["row"]) fun _ _ _ _ _ _ us hl => match us, hl with | [_], _ => rfl
  have m_upright := PySem.W.mg_of X G a6
  have F_lowered := fun_mk (st := s_lowered) l7 c7 k7
  have b_lowered := F_lowered.binds (ps := ["row", "steps"]) fun _ _ _ _ _ _ us hl => match us, hl with | [_, _], _ => rfl
  have m_lowered := PySem.W.mg_of X G a7
  have F_merged := fun_mk (st := s_merged) l8 c8 k8
  have b_merged := F_merged.binds (ps := ["step", "row"]) fun _ _ _ _ _ _ us hl => match us, hl with | [_, _], _ => rfl
  have m_merged := PySem.W.mg_of X G a8
  have F_taken_in := fun_mk (st := s_taken_in) l9 c9 k9
  have b_taken_in := F_taken_in.binds (ps := ["steps", "row"]) fun _ _ _ _ _ _ us hl => match us, hl with | [_, _], _ => rfl
  have m_taken_in := PySem.W.mg_of X G a9
  have F_settled := fun_mk (st := s_settled) l10 c10 k10
  have b_settled := F_settled.binds (ps := ["steps"]) fun _ _ _ _ _ _ us hl => match us, hl with | [_], _ => rfl
  have m_settled := PySem.W.mg_of X G a10
  have F_climbed := fun_mk (st := s_climbed) l11 c11 k11
  have b_climbed := F_climbed.binds (ps := ["rows"]) fun _ _ _ _ _ _ us hl => match us, hl with | [_], _ => rfl
  have m_climbed := PySem.W.mg_of X G a11
  have F_stairs_of := fun_mk (st := s_stairs_of) l12 c12 k12
  have b_stairs_of := F_stairs_of.binds (ps := ["rows"]) fun _ _ _ _ _ _ us hl => match us, hl with | [_], _ => rfl
  have m_stairs_of := PySem.W.mg_of X G a12
  have F_law_cell := fun_mk (st := s_law_cell) l13 c13 k13
  have b_law_cell := F_law_cell.binds (ps := ["_law_script", "_law_k"]) fun _ _ _ _ _ _ us hl => match us, hl with | [_, _], _ => rfl
  have m_law_cell := PySem.W.mg_of X G a13
  have F_law_numbers := fun_mk (st := s_law_numbers) l14 c14 k14
  have b_law_numbers := F_law_numbers.binds (ps := ["_law_script", "_law_at", "_law_many", "_law_size"]) fun _ _ _ _ _ _ us hl => match us, hl with | [_, _, _, _], _ => rfl
  have m_law_numbers := PySem.W.mg_of X G a14
  have F_law_shape := fun_mk (st := s_law_shape) l15 c15 k15
  have b_law_shape := F_law_shape.binds (ps := ["_law_script"]) fun _ _ _ _ _ _ us hl => match us, hl with | [_], _ => rfl
  have m_law_shape := PySem.W.mg_of X G a15
  have F_law_swaps := fun_mk (st := s_law_swaps) l16 c16 k16
  have b_law_swaps := F_law_swaps.binds (ps := ["_law_script", "_law_at", "_law_shape_here"]) fun _ _ _ _ _ _ us hl => match us, hl with | [_, _, _], _ => rfl
  have m_law_swaps := PySem.W.mg_of X G a16
  have F_law_deed := fun_mk (st := s_law_deed) l17 c17 k17
  have b_law_deed := F_law_deed.binds (ps := ["_law_rows", "_law_cell_here", "_law_puts"]) fun _ _ _ _ _ _ us hl => match us, hl with | [_, _, _], _ => rfl
  have m_law_deed := PySem.W.mg_of X G a17
  have F_law := fun_mk (st := s_law) l18 c18 k18
  have b_law := F_law.binds (ps := ["_law_script"]) fun _ _ _ _ _ _ us hl => match us, hl with | [_], _ => rfl
  have m_law := PySem.W.mg_of X G a18
  have T : Txt K mg ⟨()⟩ := ⟨PySem.W.mg_none_of X G z_enumerate, PySem.W.mg_none_of X G z_int, PySem.W.mg_none_of X G z_isinstance, PySem.W.mg_none_of X G z_len, PySem.W.mg_none_of X G z_list, PySem.W.mg_none_of X G z_range, PySem.W.mg_none_of X G z_reversed, PySem.W.mg_none_of X G z_zip, kit_list_list⟩
  refine ⟨PySem.W.fnOf "law" "law" (defArgs s_law) (defBody s_law) (defScope s_law) .none kV18 dc18 pm18 an18 cd18 ct18, fun s v => .of_eq rfl, fun base _ _ => ?_⟩
  have G_refuse_unlike : Callee l.prog w K mg base (CXE l.prog w) 1 "refuse_unlike" ["one", "other"] (sp_refuse_unlike K ⟨()⟩) := ⟨_, _, ok_refuse_unlike F_refuse_unlike T  , m_refuse_unlike, k0, b_refuse_unlike⟩
  have G_plus : Callee l.prog w K mg base (CXE l.prog w) 2 "plus" ["one", "other"] (sp_plus K ⟨()⟩) := ⟨_, _, ok_plus F_plus T G_refuse_unlike , m_plus, k1, b_plus⟩
  have G_less : Callee l.prog w K mg base (CXE l.prog w) 2 "less" ["one", "other"] (sp_less K ⟨()⟩) := ⟨_, _, ok_less F_less T G_refuse_unlike , m_less, k2, b_less⟩
  have G_times : Callee l.prog w K mg base (CXE l.prog w) 1 "times" ["some", "many"] (sp_times K ⟨()⟩) := ⟨_, _, ok_times F_times T  , m_times, k3, b_times⟩
  have G_head_of : Callee l.prog w K mg base (CXE l.prog w) 1 "head_of" ["row"] (sp_head_of K ⟨()⟩) := ⟨_, _, ok_head_of F_head_of T  , m_head_of, k4, b_head_of⟩
  have G_common : Callee l.prog w K mg base (CXE l.prog w) 1 "common" ["one", "other"] (sp_common K ⟨()⟩) := ⟨_, _, ok_common F_common T  , m_common, k5, b_common⟩
  have G_upright : Callee l.prog w K mg base (CXE l.prog w) 2 "upright" ["row"] (sp_upright K ⟨()⟩) := ⟨_, _, ok_upright F_upright T G_head_of G_times , m_upright, k6, b_upright⟩
  have G_lowered : Callee l.prog w K mg base (CXE l.prog w) 3 "lowered" ["row", "steps"] (sp_lowered K ⟨()⟩) := ⟨_, _, ok_lowered F_lowered T G_head_of G_less G_times , m_lowered, k7, b_lowered⟩
  have G_merged : Callee l.prog w K mg base (CXE l.prog w) 3 "merged" ["step", "row"] (sp_merged K ⟨()⟩) := ⟨_, _, ok_merged F_merged T G_common G_head_of G_less G_plus G_times , m_merged, k8, b_merged⟩
  have G_taken_in : Callee l.prog w K mg base (CXE l.prog w) 4 "taken_in" ["steps", "row"] (sp_taken_in K ⟨()⟩) := ⟨_, _, ok_taken_in F_taken_in T G_head_of G_lowered G_merged G_upright , m_taken_in, k9, b_taken_in⟩
  have G_settled : Callee l.prog w K mg base (CXE l.prog w) 4 "settled" ["steps"] (sp_settled K ⟨()⟩) := ⟨_, _, ok_settled F_settled T G_lowered , m_settled, k10, b_settled⟩
  have G_climbed : Callee l.prog w K mg base (CXE l.prog w) 5 "climbed" ["rows"] (sp_climbed K ⟨()⟩) := ⟨_, _, ok_climbed F_climbed T G_settled G_taken_in , m_climbed, k11, b_climbed⟩
  have G_stairs_of : Callee l.prog w K mg base (CXE l.prog w) 6 "stairs_of" ["rows"] (sp_stairs_of K ⟨()⟩) := ⟨_, _, ok_stairs_of F_stairs_of T G_climbed G_refuse_unlike , m_stairs_of, k12, b_stairs_of⟩
  have G_law_cell : Callee l.prog w K mg base (CXE l.prog w) 1 "_law_cell" ["_law_script", "_law_k"] (sp_law_cell K ⟨()⟩) := ⟨_, _, ok_law_cell F_law_cell T  , m_law_cell, k13, b_law_cell⟩
  have G_law_numbers : Callee l.prog w K mg base (CXE l.prog w) 1 "_law_numbers" ["_law_script", "_law_at", "_law_many", "_law_size"] (sp_law_numbers K ⟨()⟩) := ⟨_, _, ok_law_numbers F_law_numbers T  , m_law_numbers, k14, b_law_numbers⟩
  have G_law_shape : Callee l.prog w K mg base (CXE l.prog w) 2 "_law_shape" ["_law_script"] (sp_law_shape K ⟨()⟩) := ⟨_, _, ok_law_shape F_law_shape T G_law_cell , m_law_shape, k15, b_law_shape⟩
  have G_law_swaps : Callee l.prog w K mg base (CXE l.prog w) 2 "_law_swaps" ["_law_script", "_law_at", "_law_shape_here"] (sp_law_swaps K ⟨()⟩) := ⟨_, _, ok_law_swaps F_law_swaps T G_law_cell G_law_numbers , m_law_swaps, k16, b_law_swaps⟩
  have G_law_deed : Callee l.prog w K mg base (CXE l.prog w) 1 "_law_deed" ["_law_rows", "_law_cell_here", "_law_puts"] (sp_law_deed K ⟨()⟩) := ⟨_, _, ok_law_deed F_law_deed T  , m_law_deed, k17, b_law_deed⟩
  exact (ok_law F_law T G_law_deed G_law_shape G_law_swaps G_stairs_of ).imp fun _ _ _ _ q => law_sp q
theorem walk {l : PySem.W.OpenLaw} {q : Program} {loose : List Str} {XP : (Str → Option Value) → Heap → Prop} {YP : World → Heap → Prop} {d : DefRec} {K : Params → PySem.W.Frag} (hn : l.most = some 63) (hdf : d.params.defaults = [])
    (hY : ∀ (w : World) (h : Heap), YP w h → (K w.params).In h)
    (F : ∀ (w : World) (mg : Str → Option Value) (fa : Addr) (h : Heap), (K w.params).In h → h.Ns mainGlobals mg → mg d.name = some (.ref fa) →
      ∃ fd : FuncData, (∀ (s : Shared) (u : Value), BindsTo s fd ⟨[u], []⟩ [("_law_script", u)]) ∧ ∀ base : Heap, (K w.params).In base → base.Ns mainGlobals mg → FnOk l.prog w (K w.params) mg base (CXE l.prog w) 7 fa fd ["_law_script"] (spLaw (K w.params))) :
    PySem.W.WalkO q loose XP YP l.row.toRowW d [] (fun f vs => PySem.call f vs) :=
  L2.walk_of (n := 63) (k := 7) (x := "_law_script") (CX := fun w => CXE l.prog w) (sp := fun w => spLaw (K w.params)) hn (by decide) hdf ⟨rfl, by decide, by decide⟩ hY F (fun _ _ a ns hl _ hS => ⟨a, ns, rfl, hS, hl, fun _ => rfl⟩) fun _ _ _ _ _ ⟨_, _, _, _, _, _, _, _, _, _, z⟩ => z
end
end My
set_option maxRecDepth 100000
namespace My
open PySem PySem.W PyProof.Rows
noncomputable def hdF (q : Program) (as : List Addr) (N : Nat) (w : World) (os : OsState) :=
  (Hd.runT PySem.Challenge.rw_swapbook_k13_whole_one_stairs_for_all.row.prog w 11 (some (.ref 6)) N (Hd.boot w.params os) (topStub PySem.Challenge.rw_swapbook_k13_whole_one_stairs_for_all.row.prog)).map (fun s => (Hd.lk PySem.Challenge.rw_swapbook_k13_whole_one_stairs_for_all.row.prog w s.abs,
    openSeen q [] (importedModules PySem.Challenge.rw_swapbook_k13_whole_one_stairs_for_all.row.prog.main.body) (fun s => xlAt q [] s && recOk (RowW.records PySem.Challenge.rw_swapbook_k13_whole_one_stairs_for_all.row.toRowW) s) true s.abs, as.map s.abs.heap.get?))
noncomputable def hdG (q : Program) (K : Params → Frag) (w : World) := some (true, openGood q [], (K w.params).map fun p => some p.2)
end My
set_option Elab.async false
lay_quick My.hdF My.hdG
namespace My
open PySem PySem.W PyProof.Rows
theorem hd_run {q : Program} {K : Params → Frag} {as : List Addr} {N : Nat} {e : ∀ P, as = (K P).map (·.1)} (hN : Nat.ble 600 N = true)
    (h : ∀ w os, PySem.W.Fast.tw6084617276858994590 q as N w os = PySem.W.Fast.tw7309032369996461460 q K w) :
    LeftO PySem.Challenge.rw_swapbook_k13_whole_one_stairs_for_all.row.prog q [] (fun s => xlAt q [] s && recOk (RowW.records PySem.Challenge.rw_swapbook_k13_whole_one_stairs_for_all.row.toRowW) s) (kHook K as e).obs (kHook K as e).val N := by
  rw [← PySem.W.Fast.te6084617276858994590, ← PySem.W.Fast.te7309032369996461460] at h
  exact Hd.left_of (by kernel_rfl) hN (fun s => by kernel_rfl) h
end My
section
local macro_rules
  | `(tactic| refine $e:term) => do
    if e.raw.isOfKind `Lean.Parser.Term.app && e.raw[0].getId.eraseMacroScopes == `PySem.W.holds_open then
      let some _ := e.raw.find? (fun s => s.isOfKind `Lean.Parser.Term.syntheticHole && s[1].getId.eraseMacroScopes == `hl) | Lean.Macro.throwUnsupported
      let h ← `(?hk)
      let e' ← e.raw.replaceM fun s => pure (if s.isOfKind `Lean.Parser.Term.syntheticHole && s[1].getId.eraseMacroScopes == `hl then some h.raw else none)
      `(tactic| refine $(⟨e'⟩))
    else Lean.Macro.throwUnsupported
open PySem PySem.W PyProof.Rows
set_option maxRecDepth 100000 in
set_option maxHeartbeats 0 in
theorem PySem.Challenge.cw_swapbook_k13_whole_one_stairs_for_all_holds : PySem.Challenge.rw_swapbook_k13_whole_one_stairs_for_all.Holds := by
  w_on; o_law; k_head
  (case hk => exact My.hd_run (by decide) (fun w os => by kernel_rfl))
  (case hw => w_witness2)
  k_fill
  refine My.walk (l := PySem.Challenge.rw_swapbook_k13_whole_one_stairs_for_all) rfl rfl (fun w h Y => PySem.W.kIn_of Y) ?F
  case F =>
    intro w mg fa h KX G hmg
    refine' My.all_mk KX G hmg ?a0 ?l0 ?c0 ?k0 ?a1 ?l1 ?c1 ?k1 ?a2 ?l2 ?c2 ?k2 ?a3 ?l3 ?c3 ?k3 ?a4 ?l4 ?c4 ?k4 ?a5 ?l5 ?c5 ?k5 ?a6 ?l6 ?c6 ?k6 ?a7 ?l7 ?c7 ?k7 ?a8 ?l8 ?c8 ?k8 ?a9 ?l9 ?c9 ?k9 ?a10 ?l10 ?c10 ?k10 ?a11 ?l11 ?c11 ?k11 ?a12 ?l12 ?c12 ?k12 ?a13 ?l13 ?c13 ?k13 ?a14 ?l14 ?c14 ?k14 ?a15 ?l15 ?c15 ?k15 ?a16 ?l16 ?c16 ?k16 ?a17 ?l17 ?c17 ?k17 ?a18 ?l18 ?c18 ?k18 ?z_enumerate ?z_int ?z_isinstance ?z_len ?z_list ?z_range ?z_reversed ?z_zip ?kit_list_list
    (case a0 => k_is)
    (case l0 => k_is)
    (case c0 => k_is)
    (case k0 => k_is)
    (case a1 => k_is)
    (case l1 => k_is)
    (case c1 => k_is)
    (case k1 => k_is)
    (case a2 => k_is)
    (case l2 => k_is)
    (case c2 => k_is)
    (case k2 => k_is)
    (case a3 => k_is)
    (case l3 => k_is)
    (case c3 => k_is)
    (case k3 => k_is)
    (case a4 => k_is)
    (case l4 => k_is)
    (case c4 => k_is)
    (case k4 => k_is)
    (case a5 => k_is)
    (case l5 => k_is)
    (case c5 => k_is)
    (case k5 => k_is)
    (case a6 => k_is)
    (case l6 => k_is)
    (case c6 => k_is)
    (case k6 => k_is)
    (case a7 => k_is)
    (case l7 => k_is)
    (case c7 => k_is)
    (case k7 => k_is)
    (case a8 => k_is)
    (case l8 => k_is)
    (case c8 => k_is)
    (case k8 => k_is)
    (case a9 => k_is)
    (case l9 => k_is)
    (case c9 => k_is)
    (case k9 => k_is)
    (case a10 => k_is)
    (case l10 => k_is)
    (case c10 => k_is)
    (case k10 => k_is)
    (case a11 => k_is)
    (case l11 => k_is)
    (case c11 => k_is)
    (case k11 => k_is)
    (case a12 => k_is)
    (case l12 => k_is)
    (case c12 => k_is)
    (case k12 => k_is)
    (case a13 => k_is)
    (case l13 => k_is)
    (case c13 => k_is)
    (case k13 => k_is)
    (case a14 => k_is)
    (case l14 => k_is)
    (case c14 => k_is)
    (case k14 => k_is)
    (case a15 => k_is)
    (case l15 => k_is)
    (case c15 => k_is)
    (case k15 => k_is)
    (case a16 => k_is)
    (case l16 => k_is)
    (case c16 => k_is)
    (case k16 => k_is)
    (case a17 => k_is)
    (case l17 => k_is)
    (case c17 => k_is)
    (case k17 => k_is)
    (case a18 => k_is)
    (case l18 => k_is)
    (case c18 => k_is)
    (case k18 => k_is)
    (case z_enumerate => k_is)
    (case z_int => k_is)
    (case z_isinstance => k_is)
    (case z_len => k_is)
    (case z_list => k_is)
    (case z_range => k_is)
    (case z_reversed => k_is)
    (case z_zip => k_is)
    (case kit_list_list => kit_is)
end
