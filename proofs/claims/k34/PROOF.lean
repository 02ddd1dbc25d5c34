import PyProof.Rows.All
import Wide.All
import OpenK.AllK
import Wide.FinOn
import HandS.ForMost
import HandS.Zip
import HandS.IsInst
import HandS.TupAny
import HandS.SortRule
import HandS.Style
import HandS.Walk
import HandS.Evl
import KE.DataMinMax
import HandS.TryOnly
import HandS.Wide
import HandS.Conv
import PyProof.Rows.RuleB_pow
import HandS.TupMul
import HandS.Sort
import KE.KRevSl
import HandS.DictTup
import HandS.Small
import KE.SortData
import KE.GoesEnum
import KE.GoesMore
import HandS.SortKw
import KE.GoesEnumKw
import HandS.Dict
import KE.KDictPairs
import PySem.Challenge.RW_fewcolours_k34_handed_on
set_option Elab.async false
set_option linter.all false
set_option maxRecDepth 100000
namespace Z
open PySem PySem.Spec PyProof.Rows L2
/-! ### heaps but for some addresses -/
def Dom (H H' : Hp) : Prop := ∀ a, H a ≠ none → H' a ≠ none
structure Go (B : List Addr) (H H' : Hp) : Prop where
  k : ∀ a o, a ∉ B → H a = some o → H' a = some o
  d : Dom H H'
def Bk (B : List Addr) (H : Hp) : Prop := ∀ a ∈ B, H a ≠ none
section
variable {B C : List Addr} {H H' H1 H2 : Hp} {p L : Addr} {o : HO}
theorem dom_new : Dom H (upd H p o) := fun a h => by
  by_cases e : a = p
  · subst e
    rw [upd_same]
    exact fun z => nomatch z
  · rw [upd_ne e]
    exact h
theorem dom_mut (d : Dom H H') : Dom H (upd H' p o) := fun a h => dom_new a (d a h)
theorem Go.refl : Go B H H := ⟨fun _ _ _ h => h, fun _ h => h⟩
theorem Go.trans (a : Go B H H1) (b : Go B H1 H2) : Go B H H2 := ⟨fun c o n h => b.k c o n (a.k c o n h), fun c h => b.d c (a.d c h)⟩
theorem same_dom (s : Same H H') : Dom H H' := fun a h => by
  cases q : H a with
  | none => exact absurd q h
  | some o => rw [s a o q]; exact fun z => nomatch z
theorem Go.of (s : Same H H') : Go B H H' := ⟨fun a o _ h => s a o h, same_dom s⟩
theorem Go.new (h : H p = none) : Go B H (upd H p o) := ⟨fun a u _ e => by
  rw [upd_ne (ne_of_none e h)]
  exact e, dom_new⟩
theorem Go.mut (g : Go B H H') (h : H p = none) : Go B H (upd H' p o) := ⟨fun a u n e => by
  rw [upd_ne (ne_of_none e h)]
  exact g.k a u n e, dom_mut g.d⟩
theorem Go.at (g : Go B H H') (h : p ∈ B) : Go B H (upd H' p o) := ⟨fun a u n e => by
  rw [upd_ne (show a ≠ p from fun z => n (by rw [z]; exact h))]
  exact g.k a u n e, dom_mut g.d⟩
theorem Go.w (g : Go C H H') (s : ∀ a ∈ C, a ∈ B) : Go B H H' := ⟨fun a o n h => g.k a o (fun q => n (s a q)) h, g.d⟩
theorem Go.w1 (g : Go [L] H H') (s : L ∈ B) : Go B H H' := g.w fun a h => by rw [List.mem_singleton.mp h]; exact s
theorem Go.free (g : Go B H H') (h : H' p = none) : H p = none := by
  cases q : H p with
  | none => rfl
  | some o => exact absurd h (g.d p (by rw [q]; exact fun z => nomatch z))
theorem Bk.go (b : Bk B H) (g : Go C H H') : Bk B H' := fun a h => g.d a (b a h)
theorem Bk.ne (b : Bk B H) (h : H p = none) : p ∉ B := fun q => b p q h
theorem Bk.cons (b : Bk B H) (h : H p = some o) : Bk (p :: B) H := fun a q => by
  rcases List.mem_cons.mp q with e | e
  · subst e
    rw [h]
    exact fun z => nomatch z
  · exact b a e
theorem Bk.up (b : Bk B H) : Bk B (upd H p o) := fun a h => dom_new a (b a h)
theorem sm_new (h : H p = none) : Same H (upd H p o) := fun b x e => by
  rw [upd_ne (ne_of_none e h)]
  exact e
theorem sm_mut (s : Same H H') (h : H p = none) : Same H (upd H' p o) := fun b x e => by
  rw [upd_ne (ne_of_none e h)]
  exact s b x e
/-- what was new behind H, and is in B, may change -/
theorem Go.sm (g : Go B H1 H2) (s : Same H H1) (n : ∀ a ∈ B, H a = none) : Same H H2 := fun a o h => g.k a o (fun q => by rw [n a q] at h; cases h) (s a o h)
theorem Go.cons (g : Go (p :: B) H1 H2) (s : Go B H H1) (h : H p = none) : Go B H H2 := ⟨fun a o n e => g.k a o (fun q => by
  rcases List.mem_cons.mp q with z | z
  · rw [z, h] at e
    cases e
  · exact n z) (s.k a o n e), fun a e => g.d a (s.d a e)⟩
end
/-! ### the list that is drawn from -/
def Lf (L : Addr) (H : Hp) (n : Nat) : Prop := ∃ a b c : Int, H L = some (.lst [.int a, .int b, .int c]) ∧ 0 ≤ a ∧ 0 ≤ c ∧ c ≤ (n : Int)
section
variable {L p : Addr} {H H' : Hp} {n m : Nat} {o : HO} {B : List Addr}
theorem Lf.mono (h : Lf L H n) (l : n ≤ m) : Lf L H m := by
  obtain ⟨a, b, c, e, h1, h2, h3⟩ := h
  exact ⟨a, b, c, e, h1, h2, by omega⟩
theorem Lf.same (h : Lf L H n) (s : Same H H') : Lf L H' n := by
  obtain ⟨a, b, c, e, h1, h2, h3⟩ := h
  exact ⟨a, b, c, s _ _ e, h1, h2, h3⟩
theorem Lf.go (h : Lf L H n) (g : Go B H H') (i : L ∉ B) : Lf L H' n := by
  obtain ⟨a, b, c, e, h1, h2, h3⟩ := h
  exact ⟨a, b, c, g.k _ _ i e, h1, h2, h3⟩
theorem Lf.ne (h : Lf L H n) (e : H p = none) : p ≠ L := fun q => by
  obtain ⟨a, b, c, e', _⟩ := h
  rw [q, e'] at e
  cases e
theorem Lf.up (h : Lf L H n) (e : p ≠ L) : Lf L (upd H p o) n := by
  obtain ⟨a, b, c, e', h1, h2, h3⟩ := h
  refine ⟨a, b, c, ?_, h1, h2, h3⟩
  rw [upd_ne (Ne.symm e)]
  exact e'
theorem Lf.new (h : Lf L H n) (e : H p = none) : Lf L (upd H p o) n := h.up (h.ne e)
theorem Lf.bk (h : Lf L H n) : Bk [L] H := fun a q => by
  obtain ⟨_, _, _, e, _⟩ := h
  rw [List.mem_singleton.mp q, e]
  exact fun z => nomatch z
end
/-! ### data apart from some addresses -/
mutual
inductive Dt (B : List Addr) (H : Hp) : V → PyData → Prop
  | non : Dt B H .non .none
  | bl (b : Bool) : Dt B H (.bl b) (.bool b)
  | int (i : Int) : Dt B H (.int i) (.int i)
  | str (x : Str) : Dt B H (.str x) (.str x)
  | lst {a : Addr} {xs : List V} {ds : List PyData} : a ∉ B → H a = some (.lst xs) → DtA B H xs ds → Dt B H (.ref a) (.list ds)
  | tup {a : Addr} {xs : List V} {ds : List PyData} : a ∉ B → H a = some (.tup xs) → DtA B H xs ds → Dt B H (.ref a) (.tuple ds)
inductive DtA (B : List Addr) (H : Hp) : List V → List PyData → Prop
  | nil : DtA B H [] []
  | cons {v : V} {vs : List V} {d : PyData} {ds : List PyData} : Dt B H v d → DtA B H vs ds → DtA B H (v :: vs) (d :: ds)
end
section
variable {B C : List Addr} {H H' : Hp} {p L : Addr}
mutual
/-- the general way from one to another -/
theorem Dt.to (f : ∀ a o, a ∉ B → H a = some o → a ∉ C ∧ H' a = some o) : ∀ (d : PyData) (v : V), Dt B H v d → Dt C H' v d
  | .none, _, h => by cases h; exact .non
  | .bool b, _, h => by cases h; exact .bl b
  | .int i, _, h => by cases h; exact .int i
  | .str x, _, h => by cases h; exact .str x
  | .list ds, _, h => by
    cases h with
    | lst n hs ha => exact .lst (f _ _ n hs).1 (f _ _ n hs).2 (DtA.to f ds _ ha)
  | .tuple ds, _, h => by
    cases h with
    | tup n hs ha => exact .tup (f _ _ n hs).1 (f _ _ n hs).2 (DtA.to f ds _ ha)
  | .dict _, _, h => by cases h
theorem DtA.to (f : ∀ a o, a ∉ B → H a = some o → a ∉ C ∧ H' a = some o) : ∀ (ds : List PyData) (vs : List V), DtA B H vs ds → DtA C H' vs ds
  | [], _, h => by cases h; exact .nil
  | d :: ds, _, h => by
    cases h with
    | cons h1 h2 => exact .cons (Dt.to f d _ h1) (DtA.to f ds _ h2)
end
mutual
theorem Dt.dp {K : PySem.W.Frag} : ∀ (d : PyData) (v : V), Dt B H v d → Dp K H v d
  | .none, _, h => by cases h; exact .non
  | .bool b, _, h => by cases h; exact .bl b
  | .int i, _, h => by cases h; exact .int i
  | .str x, _, h => by cases h; exact .str x
  | .list ds, _, h => by
    cases h with
    | lst n hs ha => exact .lst (SqL.of hs) (DtA.dp ds _ ha)
  | .tuple ds, _, h => by
    cases h with
    | tup n hs ha => exact .tup (SqT.of hs) (DtA.dp ds _ ha)
  | .dict _, _, h => by cases h
theorem DtA.dp {K : PySem.W.Frag} : ∀ (ds : List PyData) (vs : List V), DtA B H vs ds → DpAll K H vs ds
  | [], _, h => by cases h; exact .nil
  | d :: ds, _, h => by
    cases h with
    | cons h1 h2 => exact .cons (Dt.dp d _ h1) (DtA.dp ds _ h2)
end
variable {d : PyData} {v : V} {ds : List PyData} {vs ws : List V}
theorem Dt.g (h : Dt B H v d) (g : Go B H H') : Dt B H' v d := Dt.to (fun a o n e => ⟨n, g.k a o n e⟩) d v h
theorem DtA.g (h : DtA B H vs ds) (g : Go B H H') : DtA B H' vs ds := DtA.to (fun a o n e => ⟨n, g.k a o n e⟩) ds vs h
theorem Dt.s (h : Dt B H v d) (s : Same H H') : Dt B H' v d := h.g (Go.of s)
theorem DtA.s (h : DtA B H vs ds) (s : Same H H') : DtA B H' vs ds := h.g (Go.of s)
/-- a new address may change, too -/
theorem Dt.fr (h : Dt B H v d) (e : H p = none) : Dt (p :: B) H v d := Dt.to (fun a o n q => ⟨fun z => by
  rcases List.mem_cons.mp z with y | y
  · rw [y, e] at q
    cases q
  · exact n y, q⟩) d v h
theorem DtA.fr (h : DtA B H vs ds) (e : H p = none) : DtA (p :: B) H vs ds := DtA.to (fun a o n q => ⟨fun z => by
  rcases List.mem_cons.mp z with y | y
  · rw [y, e] at q
    cases q
  · exact n y, q⟩) ds vs h
theorem Dt.un (h : Dt (p :: B) H v d) : Dt B H v d := Dt.to (fun a o n q => ⟨fun z => n (List.mem_cons_of_mem _ z), q⟩) d v h
theorem DtA.un (h : DtA (p :: B) H vs ds) : DtA B H vs ds := DtA.to (fun a o n q => ⟨fun z => n (List.mem_cons_of_mem _ z), q⟩) ds vs h
theorem Dt.sub (h : Dt B H v d) (s : ∀ a ∈ C, a ∈ B) : Dt C H v d := Dt.to (fun a o n q => ⟨fun z => n (s a z), q⟩) d v h
theorem DtA.sub (h : DtA B H vs ds) (s : ∀ a ∈ C, a ∈ B) : DtA C H vs ds := DtA.to (fun a o n q => ⟨fun z => n (s a z), q⟩) ds vs h
theorem Dt.dP {K : PySem.W.Frag} (h : Dt B H v d) : Dp K H v d := Dt.dp d v h
theorem DtA.len {vs : List V} : ∀ {ds : List PyData}, DtA B H vs ds → vs.length = ds.length := by
  induction vs with
  | nil => intro ds h; cases h; rfl
  | cons v vs ih => intro ds h; cases h with | cons h1 h2 => rw [List.length_cons, List.length_cons, ih h2]
theorem DtA.get {vs : List V} : ∀ {ds : List PyData} {i : Nat} {d : PyData}, DtA B H vs ds → ds[i]? = some d → ∃ v, vs[i]? = some v ∧ Dt B H v d := by
  induction vs with
  | nil => intro ds i d h e; cases h; simp at e
  | cons v vs ih =>
    intro ds i d h e
    cases h with
    | cons h1 h2 =>
      cases i with
      | zero => cases e; exact ⟨v, rfl, h1⟩
      | succ i => exact ih (i := i) h2 (by simpa using e)
theorem DtA.getV {vs : List V} : ∀ {ds : List PyData} {i : Nat} {v : V}, DtA B H vs ds → vs[i]? = some v → ∃ d, ds[i]? = some d ∧ Dt B H v d := by
  induction vs with
  | nil => intro ds i d h e; simp at e
  | cons v vs ih =>
    intro ds i d h e
    cases h with
    | cons h1 h2 =>
      cases i with
      | zero => cases e; exact ⟨_, rfl, h1⟩
      | succ i => exact ih (i := i) h2 (by simpa using e)
theorem DtA.app {vs ws : List V} : ∀ {ds es : List PyData}, DtA B H vs ds → DtA B H ws es → DtA B H (vs ++ ws) (ds ++ es) := by
  induction vs with
  | nil => intro ds es h h2; cases h; exact h2
  | cons v vs ih =>
    intro ds es h h2
    cases h with
    | cons h1 h3 => exact .cons h1 (ih h3 h2)
theorem DtA.one (h : Dt B H v d) : DtA B H [v] [d] := .cons h .nil
theorem DtA.ints : ∀ ns : List Int, DtA B H (ns.map V.int) (ns.map PyData.int)
  | [] => .nil
  | n :: ns => .cons (.int n) (DtA.ints ns)
theorem DtA.intsV : ∀ {ns : List Int} {vs : List V}, DtA B H vs (ns.map PyData.int) → vs = ns.map V.int
  | [], _, h => by cases h; rfl
  | n :: ns, _, h => by
    cases h with
    | cons h1 h2 =>
      cases h1
      rw [DtA.intsV h2]
      rfl
theorem DtA.blsV : ∀ {ns : List Bool} {vs : List V}, DtA B H vs (ns.map PyData.bool) → vs = ns.map V.bl
  | [], _, h => by cases h; rfl
  | n :: ns, _, h => by
    cases h with
    | cons h1 h2 =>
      cases h1
      rw [DtA.blsV h2]
      rfl
/-- a colour; a list of ints; a palette -/
def eC (ns : List Int) : PyData := .tuple (ns.map .int)
def eI (ns : List Int) : PyData := .list (ns.map .int)
def eP (cs : List (List Int)) : PyData := .list (cs.map eC)
theorem Dt.col {v : V} {ns : List Int} (h : Dt B H v (eC ns)) : ∃ a, v = .ref a ∧ a ∉ B ∧ H a = some (.tup (ns.map V.int)) := by
  cases h with
  | tup n hs ha =>
    have e := DtA.intsV ha
    subst e
    exact ⟨_, rfl, n, hs⟩
theorem Dt.ofCol {a : Addr} {ns : List Int} (n : a ∉ B) (h : H a = some (.tup (ns.map V.int))) : Dt B H (.ref a) (eC ns) := .tup n h (DtA.ints ns)
theorem Dt.ofInts {a : Addr} {ns : List Int} (n : a ∉ B) (h : H a = some (.lst (ns.map V.int))) : Dt B H (.ref a) (eI ns) := .lst n h (DtA.ints ns)
theorem Dt.ints {v : V} {ns : List Int} (h : Dt B H v (eI ns)) : ∃ a, v = .ref a ∧ a ∉ B ∧ H a = some (.lst (ns.map V.int)) := by
  cases h with
  | lst n hs ha =>
    have e := DtA.intsV ha
    subst e
    exact ⟨_, rfl, n, hs⟩
theorem Dt.tupI {v : V} {ds : List PyData} (h : Dt B H v (.tuple ds)) : ∃ a vs, v = .ref a ∧ a ∉ B ∧ H a = some (.tup vs) ∧ DtA B H vs ds := by
  cases h with
  | tup n hs ha => exact ⟨_, _, rfl, n, hs, ha⟩
theorem Dt.lstI {v : V} {ds : List PyData} (h : Dt B H v (.list ds)) : ∃ a vs, v = .ref a ∧ a ∉ B ∧ H a = some (.lst vs) ∧ DtA B H vs ds := by
  cases h with
  | lst n hs ha => exact ⟨_, _, rfl, n, hs, ha⟩
theorem Dt.pal {v : V} {cs : List (List Int)} (h : Dt B H v (eP cs)) : ∃ a vs, v = .ref a ∧ a ∉ B ∧ H a = some (.lst vs) ∧ DtA B H vs (cs.map eC) := Dt.lstI h
theorem Dt.intI {v : V} {i : Int} (h : Dt B H v (.int i)) : v = .int i := by
  cases h
  rfl
end
/-! ### the rules that speak of the written part, with it named -/
def rLenS (K : PySem.W.Frag) : List V → Hp → VK → Prop := fun xs H Q => ∃ p ys, xs = [.ref p] ∧ (SqL K H p ys ∨ SqT K H p ys) ∧ Q (.int ys.length) H
def rListOf (K : PySem.W.Frag) : List V → Hp → VK → Prop := fun xs H Q => ∃ p ys, xs = [.ref p] ∧ (SqL K H p ys ∨ SqT K H p ys) ∧ ∀ l, H l = none → Q (.ref l) (upd H l (.lst ys))
def rTupOf (K : PySem.W.Frag) : List V → Hp → VK → Prop := fun xs H Q => ∃ p ys, xs = [.ref p] ∧ ((SqL K H p ys ∧ ∀ l, H l = none → Q (.ref l) (upd H l (.tup ys))) ∨ (SqT K H p ys ∧ Q (.ref p) H))
section
variable (K : PySem.W.Frag) {X : Cx}
theorem ix_listK (h : X.K = K := by rfl) : IxR X (rIxL K) := h ▸ ix_list
theorem ix_tupK (h : X.K = K := by rfl) : IxR X (rIxT K) := h ▸ ix_tup
theorem sl_listK (h : X.K = K := by rfl) : SlR X (rSlL K) := h ▸ sl_list
theorem sl_tupAK (h : X.K = K := by rfl) : SlR X (rSlA K) := h ▸ sl_tupA
theorem op_catAK (h : X.K = K := by rfl) : OpR X (binaryOp .Add) (rCatA K) := h ▸ op_catA
theorem op_eqDK (hu : X.A.units + 64 < cLine) (h : X.K = K := by rfl) : OpR X (compareOp .Eq) (rEqD K) := h ▸ op_eqD hu
theorem op_neDK (hu : X.A.units + 64 < cLine) (h : X.K = K := by rfl) : OpR X (compareOp .NotEq) (rNeD K) := h ▸ op_neD hu
theorem len_K (h : X.K = K := by rfl) : CallR X (.builtin "len") (rLenS K) := h ▸ call_len_seq
theorem list_K (h : X.K = K := by rfl) : CallR X (.type "list") (rListOf K) := h ▸ call_list_of
theorem tuple_K (h : X.K = K := by rfl) : CallR X (.type "tuple") (rTupOf K) := h ▸ call_tuple_of
theorem cr_sumK (hc : X.calm = true) (h : X.K = K := by rfl) : CallR X (.builtin "sum") (rSum K) := h ▸ cr_sum hc
theorem cr_maxK (hc : X.calm = true) (h : X.K = K := by rfl) : CallR X (.builtin "max") (rMax K) := h ▸ cr_max hc
theorem cr_minK (hc : X.calm = true) (h : X.K = K := by rfl) : CallR X (.builtin "min") (rMin K) := h ▸ cr_min hc
theorem cr_anyK (hc : X.calm = true) (h : X.K = K := by rfl) : CallR X (.builtin "any") (rAny K) := h ▸ cr_any hc
theorem cr_allK (hc : X.calm = true) (h : X.K = K := by rfl) : CallR X (.builtin "all") (rAll K) := h ▸ cr_all hc
theorem call_isiK1 (h : X.K = K := by rfl) : CallR X (.builtin "isinstance") (rIsi K) := h ▸ call_isi
theorem call_isiTK (h : X.K = K := by rfl) : CallR X (.builtin "isinstance") (rIsiT K) := h ▸ call_isiT
theorem cr_sortedK (h : X.K = K := by rfl) : CallR X (.builtin "sorted") (rSortedPO K) := h ▸ cr_sortedPO
theorem mt_indexK (h : X.K = K := by rfl) : MtR X "list.index" (rIndex K) := h ▸ mt_index
theorem pi_listK {tg l : Expr} {tl : TE} (hl : PE X l tl) (h : X.K = K := by rfl) : PI X tg l (iList K tl) := h ▸ pi_list hl
theorem pg_tupK {pos : Pos} {es : List Expr} {kk : Nat} {t : TGs} {n : Nat} (hc : X.calm = true) (h : PGs X es t) (hn : (assignEach es X.env).length = n := by rfl) (hst : (assignEach es X.env).findIdx? (·.1) = none := by rfl) (h2 : X.K = K := by rfl) : PG X (.Tuple es kk pos) (gTup K n t) :=
  h2 ▸ pg_tup hc h hn hst
theorem pi_tupK {tg l : Expr} {tl : TE} (hl : PE X l tl) (h : X.K = K := by rfl) : PI X tg l (iTup K tl) := h ▸ pi_tup hl
end
/-! ### shapes -/
mutual
def wide : PyData → Bool
  | .none | .bool _ | .int _ | .str _ => true
  | .list xs | .tuple xs => decide (xs.length ≤ 100000) && wideAll xs
  | .dict _ => false
def wideAll : List PyData → Bool
  | [] => true
  | x :: xs => wide x && wideAll xs
end
def Sh (d : PyData) (k : Nat) : Prop := d.canLay0 = true ∧ d.depth ≤ k ∧ wide d = true
theorem sh_all : ∀ {ds : List PyData} {k : Nat}, (∀ d ∈ ds, Sh d k) → PyData.canLayAll0 ds = true ∧ PyData.depthAll ds ≤ k ∧ wideAll ds = true
  | [], _, _ => ⟨rfl, Nat.zero_le _, by rw [wideAll]⟩
  | d :: ds, k, h => by
    obtain ⟨h1, h2, h4⟩ := sh_all (ds := ds) (k := k) fun x hx => h x (List.mem_cons_of_mem _ hx)
    have h3 := h d (List.mem_cons_self ..)
    refine ⟨?_, ?_, ?_⟩
    · rw [PyData.canLayAll0, h1, h3.1]; rfl
    · rw [PyData.depthAll]
      exact Nat.max_le.mpr ⟨h3.2.1, h2⟩
    · rw [wideAll, h4, h3.2.2]; rfl
theorem sh_mem : ∀ {ds : List PyData} {k : Nat}, PyData.canLayAll0 ds = true → PyData.depthAll ds ≤ k → wideAll ds = true → ∀ d ∈ ds, Sh d k
  | [], _, _, _, _, _, h => nomatch h
  | d :: ds, k, h1, h2, h3, x, hx => by
    rw [PyData.canLayAll0] at h1
    rw [PyData.depthAll] at h2
    rw [wideAll] at h3
    have a := Bool.and_eq_true_iff.mp h1
    have b := Nat.max_le.mp h2
    have c := Bool.and_eq_true_iff.mp h3
    rcases List.mem_cons.mp hx with e | e
    · rw [e]; exact ⟨a.1, b.1, c.1⟩
    · exact sh_mem a.2 b.2 c.2 x e
theorem sh_tup {ds : List PyData} {k : Nat} (l : ds.length ≤ 100000) (h : ∀ d ∈ ds, Sh d k) : Sh (.tuple ds) (k + 1) := by
  obtain ⟨h1, h2, h3⟩ := sh_all h
  exact ⟨by rw [PyData.canLay0]; exact h1, by rw [PyData.depth]; omega, by rw [wide, h3, decide_eq_true l]; rfl⟩
theorem sh_lst {ds : List PyData} {k : Nat} (l : ds.length ≤ 100000) (h : ∀ d ∈ ds, Sh d k) : Sh (.list ds) (k + 1) := by
  obtain ⟨h1, h2, h3⟩ := sh_all h
  exact ⟨by rw [PyData.canLay0]; exact h1, by rw [PyData.depth]; omega, by rw [wide, h3, decide_eq_true l]; rfl⟩
theorem sh_int (i : Int) (k : Nat) : Sh (.int i) k := ⟨rfl, by rw [PyData.depth]; omega, by rw [wide]⟩
theorem sh_bool (i : Bool) (k : Nat) : Sh (.bool i) k := ⟨rfl, by rw [PyData.depth]; omega, by rw [wide]⟩
theorem sh_none (k : Nat) : Sh .none k := ⟨rfl, by rw [PyData.depth]; omega, by rw [wide]⟩
theorem sh_eC {ns : List Int} (l : ns.length ≤ 100000) : Sh (eC ns) 1 := sh_tup (by simpa using l) fun d hd => by
  obtain ⟨n, _, rfl⟩ := List.mem_map.mp hd
  exact sh_int n 0
theorem sh_eI {ns : List Int} (l : ns.length ≤ 100000) : Sh (eI ns) 1 := sh_lst (by simpa using l) fun d hd => by
  obtain ⟨n, _, rfl⟩ := List.mem_map.mp hd
  exact sh_int n 0
theorem sh_eP {cs : List (List Int)} (l : cs.length ≤ 100000) (h : ∀ c ∈ cs, c.length ≤ 100000) : Sh (eP cs) 2 := sh_lst (by simpa using l) fun d hd => by
  obtain ⟨n, m, rfl⟩ := List.mem_map.mp hd
  exact sh_eC (h n m)
theorem Sh.mono {d : PyData} {j k : Nat} (h : Sh d j) (l : j ≤ k) : Sh d k := ⟨h.1, Nat.le_trans h.2.1 l, h.2.2⟩
theorem Sh.sh {d : PyData} {k : Nat} (h : Sh d k) (l : k ≤ 64) : SeqAt.shaped d = true := by
  unfold SeqAt.shaped
  rw [h.1, decide_eq_true (Nat.le_trans h.2.1 l)]
  rfl
theorem Sh.tupI {ds : List PyData} {k : Nat} (h : Sh (.tuple ds) k) : ∃ j, k = j + 1 ∧ (∀ d ∈ ds, Sh d j) ∧ ds.length ≤ 100000 := by
  obtain ⟨h1, h2, h3⟩ := h
  rw [PyData.canLay0] at h1
  rw [PyData.depth] at h2
  rw [wide] at h3
  have c := Bool.and_eq_true_iff.mp h3
  exact ⟨k - 1, by omega, sh_mem h1 (by omega) c.2, of_decide_eq_true c.1⟩
theorem Sh.lstI {ds : List PyData} {k : Nat} (h : Sh (.list ds) k) : ∃ j, k = j + 1 ∧ (∀ d ∈ ds, Sh d j) ∧ ds.length ≤ 100000 := by
  obtain ⟨h1, h2, h3⟩ := h
  rw [PyData.canLay0] at h1
  rw [PyData.depth] at h2
  rw [wide] at h3
  have c := Bool.and_eq_true_iff.mp h3
  exact ⟨k - 1, by omega, sh_mem h1 (by omega) c.2, of_decide_eq_true c.1⟩
/-! ### isinstance -/
def tyn : PyData → String
  | .none => "NoneType" | .bool _ => "bool" | .int _ => "int" | .str _ => "str" | .list _ => "list" | .tuple _ => "tuple" | .dict _ => "dict"
theorem Dt.ty {K : PySem.W.Frag} {B : List Addr} {H : Hp} {v : V} {d : PyData} (h : Dt B H v d) : TyX K H v (.type (tyn d)) := by
  cases h with
  | non => exact .base .non
  | bl b => exact .base (.bl b)
  | int i => exact .base (.int i)
  | str x => exact .base (.str x)
  | lst n hs ha => exact .base (.lst hs)
  | tup n hs ha => exact .base (.tup hs)
theorem r_isi {K : PySem.W.Frag} {H : Hp} {Q : VK} {x : V} {t n : String} {b : Bool} (h : TyX K H x (.type t)) (e : kitB t n = some b) (q : Q (.bl b) H) : rIsi K [x, .ty n] H Q := ⟨x, .ty n, _, _, b, rfl, .ty n, h, kit_ty e, q⟩
theorem iteD {c A B : Prop} [Decidable c] (hc : c) (h : A) : if decide c = true then A else B := by
  rw [if_pos (decide_eq_true hc)]
  exact h
theorem iteE {A B : Prop} {c : Bool} (hc : c = true) (h : A) : if c = true then A else B := by
  rw [if_pos hc]
  exact h
theorem iteN {A B : Prop} {c : Bool} (hc : c = false) (h : B) : if c = true then A else B := by
  rw [hc, if_neg Bool.false_ne_true]
  exact h
/-! ### comprehensions -/
theorem lc_yes {te : TE} {σ : L2.St} {H : Hp} {Qy : VK} {N : Hp → Prop} (h : te σ H Qy) : tYes σ H (fun b H3 => if b = true then te σ H3 Qy else N H3) := by
  show if true = true then te σ H Qy else N H
  rw [if_pos rfl]
  exact h
theorem walk_zipT {K : PySem.W.Frag} {a b : Addr} {xs ys : List V} {n : Nat} (hn : n = min xs.length ys.length) : Walk (RZ.ItzT K a b) n (fun H => SqT K H a xs ∧ SqT K H b ys) (YPair (fun i => xs[i]?) (fun i => ys[i]?)) := by
  subst hn
  refine ⟨fun i _ hi q => ?_, fun _ q => ⟨xs, ys, q.1, q.2, by omega⟩, fun i H v H' _ q y => ?_⟩
  · have h1 : i < xs.length := by omega
    have h2 : i < ys.length := by omega
    exact ⟨xs, ys, xs[i], ys[i], q.1, q.2, by simp [h1], by simp [h2]⟩
  · obtain ⟨T, x, z, h1, h2, h3, h4, h5⟩ := y
    exact ⟨T, x, z, h1, h2, h3, h4 xs q.1, h5 ys q.2⟩
theorem sz {n : Nat} (h : n ≤ 100000) : n < sizeLine := Nat.lt_of_le_of_lt h (by decide)
/-- a comprehension that leaves all as it was: what it makes, item by item -/
theorem lc_pure {J : It} {n : Nat} {G : Hp → Prop} {Y : Nat → Hp → V → Hp → Prop} (w : Walk J n G Y) {g : TG} {tt : TT} {te : TE} {vs : List Nat} {σ : L2.St} {H1 : Hp} {D : Addr} {Qd : Hp → Prop} {B : List Addr}
    (hD : H1 D = none) (hB : Bk B H1) (hG : ∀ H', Same H1 H' → G H') (hn : n ≤ 100000) (e : Nat → Option PyData)
    (hs : ∀ (i : Nat) (x : V) (H' H'' : Hp) (Ny : V → Hp → Prop) (Nn : Hp → Prop), i < n → Same H1 H' → Bk (D :: B) H' → Y i H' x H'' → (∀ y H4 d, e i = some d → Same H' H4 → Dt (D :: B) H4 y d → Ny y H4) → (∀ H3, e i = none → Same H' H3 → Nn H3) →
      g x (wipe σ vs) H'' fun σ2 H2 => wipe σ2 vs = wipe σ vs ∧ tt σ2 H2 fun b H3 => if b = true then te σ2 H3 Ny else Nn H3)
    (hd : ∀ (H' : Hp) (ws : List V), Same H1 H' → H' D = some (.lst ws) → DtA (D :: B) H' ws ((List.range n).filterMap e) → Qd H') :
    ∃ W : Nat → Nat → Hp → Prop, (∃ m, W 0 m (upd H1 D (.lst []))) ∧ ∀ i m H, W i m H →
      (J.stop i H ∧ Qd H) ∨ (J.go i H ∧ ∃ Nx : Hp → Prop, (∀ H', Nx H' → ∃ m', m' < m ∧ W (i + 1) m' H') ∧ ∀ x H', J.yld i H x H' → g x (wipe σ vs) H' fun σ2 H2 => wipe σ2 vs = wipe σ vs ∧ tt σ2 H2 fun b H3 =>
        if b = true then te σ2 H3 fun y H4 => ∃ acc, H4 D = some (.lst acc) ∧ acc.length < sizeLine ∧ Nx (upd H4 D (.lst (acc ++ [y]))) else Nx H3) := by
  refine lc_it w (fun i H' => Same H1 H' ∧ ∃ ws, H' D = some (.lst ws) ∧ DtA (D :: B) H' ws ((List.range i).filterMap e) ∧ ws.length ≤ i) ⟨sm_new hD, [], upd_same, .nil, Nat.le_refl _⟩ (fun i H' _ h => hG H' h.1) (fun i x H' H'' hi h y => ?_) (fun H' h => ?_)
  · obtain ⟨s1, ws, eD, hA, hl⟩ := h
    have hb : Bk (D :: B) H' := (hB.go (Go.of (B := B) s1)).cons eD
    refine hs i x H' H'' _ _ hi s1 hb y (fun y H4 d ed s4 hy => ?_) (fun H3 ed s3 => ?_)
    · refine ⟨ws, s4 _ _ eD, sz (by omega), sm_mut (s1.trans s4) hD, ws ++ [y], upd_same, ?_, by simp; omega⟩
      rw [List.range_succ, List.filterMap_append]
      have g4 : Go (D :: B) H4 (upd H4 D (.lst (ws ++ [y]))) := Go.refl.at (List.mem_cons_self ..)
      refine DtA.app ((hA.s s4).g g4) ?_
      simp only [List.filterMap_cons, List.filterMap_nil, ed]
      exact .one (hy.g g4)
    · refine ⟨s1.trans s3, ws, s3 _ _ eD, ?_, by omega⟩
      rw [List.range_succ, List.filterMap_append]
      simp only [List.filterMap_cons, List.filterMap_nil, ed, List.append_nil]
      exact hA.s s3
  · obtain ⟨s1, ws, eD, hA, hl⟩ := h
    exact hd H' ws s1 eD hA
theorem fm_take {α : Type} (ys : List α) : ∀ n, (List.range n).filterMap (fun i => ys[i]?) = ys.take n
  | 0 => by simp
  | n + 1 => by
    rw [List.range_succ, List.filterMap_append, fm_take ys n, List.take_add_one]
    cases h : ys[n]? <;> simp [h]
theorem fm_all {α : Type} {ys : List α} {n : Nat} (h : ys.length = n) : (List.range n).filterMap (fun i => ys[i]?) = ys := by
  rw [fm_take, ← h, List.take_length]
theorem at0 {α : Type} {xs : List α} {i : Int} {v : α} (h : 0 ≤ i) (e : xs[i.toNat]? = some v) : atI xs i = some v := by
  have := atI_nat e
  rw [Int.toNat_of_nonneg h] at this
  exact this
theorem bit_ok (b : Bool) : (-(2 ^ 64) : Int) < (if b = true then 1 else 0) ∧ (if b = true then 1 else 0 : Int) < 2 ^ 64 := by cases b <;> decide
theorem md {j : Int} (h : 0 < j) : 0 < j := h
theorem at_in {xs : List V} {r : Int} (h0 : 0 ≤ r) (h1 : r < xs.length) : ∃ v, v ∈ xs ∧ atI xs r = some v := by
  have h : r.toNat < xs.length := by omega
  exact ⟨xs[r.toNat], List.getElem_mem h, at0 h0 (List.getElem?_eq_getElem h)⟩
theorem at_int {ns : List Int} {r : Int} (h0 : 0 ≤ r) (h1 : r < ns.length) : ∃ z, z ∈ ns ∧ atI (ns.map V.int) r = some (.int z) := by
  have h : r.toNat < ns.length := by omega
  exact ⟨ns[r.toNat], List.getElem_mem h, at0 h0 (by rw [List.getElem?_map, List.getElem?_eq_getElem h]; rfl)⟩
theorem at2 (x y : V) (b : Bool) : atI [x, y] (if b = true then 1 else 0) = some (if b = true then y else x) := by cases b <;> rfl
/-- numbers within bounds -/
def cIn (lo hi : Int) (ns : List Int) : Prop := ∀ x ∈ ns, lo ≤ x ∧ x ≤ hi
theorem cIn.app {lo hi x : Int} {ns : List Int} (h : cIn lo hi ns) (h1 : lo ≤ x) (h2 : x ≤ hi) : cIn lo hi (ns ++ [x]) := fun y hy => by
  rcases List.mem_append.mp hy with q | q
  · exact h y q
  · rw [List.mem_singleton.mp q]
    exact ⟨h1, h2⟩
theorem cIn.nil {lo hi : Int} : cIn lo hi [] := fun _ h => nomatch h
theorem cIn.mono {lo hi lo' hi' : Int} {ns : List Int} (h : cIn lo hi ns) (h1 : lo' ≤ lo) (h2 : hi ≤ hi') : cIn lo' hi' ns := fun x hx => by
  have := h x hx
  omega
/-- a comprehension of drawn numbers -/
theorem lc_ints {J : It} {n : Nat} {G : Hp → Prop} {Y : Nat → Hp → V → Hp → Prop} (w : Walk J n G Y) {g : TG} {tt : TT} {te : TE} {vs : List Nat} {σ : L2.St} {H1 : Hp} {D L : Addr} {Qd : Hp → Prop} (N u : Nat) (lo hi : Int)
    (hD : H1 D = none) (hL : Lf L H1 N) (hG : ∀ H', Go [L] H1 H' → G H') (hn : n ≤ 100000)
    (hs : ∀ (i : Nat) (x : V) (H' H'' : Hp) (Ny : V → Hp → Prop) (Nn : Hp → Prop), i < n → Go [L] H1 H' → Lf L H' (N + u * i) → Y i H' x H'' → (∀ (z : Int) H4, Go [L] H' H4 → Lf L H4 (N + u * i + u) → lo ≤ z → z ≤ hi → Ny (.int z) H4) →
      g x (wipe σ vs) H'' fun σ2 H2 => wipe σ2 vs = wipe σ vs ∧ tt σ2 H2 fun b H3 => if b = true then te σ2 H3 Ny else Nn H3)
    (hd : ∀ (H' : Hp) (ns : List Int), Go [L] H1 H' → Lf L H' (N + u * n) → H' D = some (.lst (ns.map V.int)) → ns.length = n → cIn lo hi ns → Qd H') :
    ∃ W : Nat → Nat → Hp → Prop, (∃ m, W 0 m (upd H1 D (.lst []))) ∧ ∀ i m H, W i m H →
      (J.stop i H ∧ Qd H) ∨ (J.go i H ∧ ∃ Nx : Hp → Prop, (∀ H', Nx H' → ∃ m', m' < m ∧ W (i + 1) m' H') ∧ ∀ x H', J.yld i H x H' → g x (wipe σ vs) H' fun σ2 H2 => wipe σ2 vs = wipe σ vs ∧ tt σ2 H2 fun b H3 =>
        if b = true then te σ2 H3 fun y H4 => ∃ acc, H4 D = some (.lst acc) ∧ acc.length < sizeLine ∧ Nx (upd H4 D (.lst (acc ++ [y]))) else Nx H3) := by
  have nD : D ∉ [L] := hL.bk.ne hD
  refine lc_it w (fun i H' => Go [L] H1 H' ∧ Lf L H' (N + u * i) ∧ ∃ ns : List Int, H' D = some (.lst (ns.map V.int)) ∧ ns.length = i ∧ cIn lo hi ns) ⟨Go.new hD, hL.new hD, [], upd_same, rfl, cIn.nil⟩ (fun i H' _ h => hG H' h.1) (fun i x H' H'' hi h y => ?_) (fun H' h => ?_)
  · obtain ⟨g1, l1, ns, eD, en, cn⟩ := h
    refine hs i x H' H'' _ _ hi g1 l1 y (fun z H4 g4 l4 z0 z1 => ?_)
    refine ⟨ns.map V.int, g4.k D _ nD eD, sz (by rw [List.length_map]; omega), (g1.trans g4).mut hD, (l4.up (hL.ne hD)).mono (by rw [Nat.mul_succ]; omega), ns ++ [z], ?_, by simp; omega, cn.app z0 z1⟩
    rw [upd_same, List.map_append]
    rfl
  · obtain ⟨g1, l1, ns, eD, en, cn⟩ := h
    exact hd H' ns g1 l1 eD en cn
theorem mat {a : List Int} {i : Nat} {x : V} (h : i < a.length) (e : (a.map V.int)[i]? = some x) : x = .int a[i] := by
  rw [List.getElem?_map, List.getElem?_eq_getElem h] at e
  exact (Option.some.inj e).symm
end Z

set_option Elab.async false
set_option linter.all false
set_option maxRecDepth 100000
namespace Z
open PySem PySem.Spec PyProof.Rows L2
open PySem.W (dataLt minD alike alikeAll dataLt_tuple dataLt_all_yes dataLt_all_no dataLt_int min_list_data readsAll_at reads_keeps AlikeAll)
/-! ### the least of pairs -/
def enc (p : Int × Int) : PyData := eC [p.1, p.2]
theorem enc_inj {p q : Int × Int} (h : enc p = enc q) : p = q := by
  have h1 : [PyData.int p.1, PyData.int p.2] = [PyData.int q.1, PyData.int q.2] := by
    unfold enc eC at h
    exact PyData.tuple.inj h
  have h2 := (List.cons.inj h1)
  have h3 := (List.cons.inj h2.2)
  exact Prod.ext (PyData.int.inj h2.1) (PyData.int.inj h3.1)
theorem lt_enc (p q : Int × Int) : dataLt (enc p) (enc q) = SrtO.lexB p q := by
  unfold enc eC
  rw [dataLt_tuple]
  simp only [List.map_cons, List.map_nil]
  unfold SrtO.lexB
  by_cases h : p.1 = q.1
  · rw [if_pos h, dataLt_all_yes (by rfl) (by simp [PyData.eqv, h])]
    by_cases h2 : p.2 = q.2
    · rw [dataLt_all_yes (by rfl) (by simp [PyData.eqv, h2]), decide_eq_false (by omega)]
      rfl
    · rw [dataLt_all_no (by rfl) (by simp [PyData.eqv, h2]), dataLt_int]
  · rw [if_neg h, dataLt_all_no (by rfl) (by simp [PyData.eqv, h]), dataLt_int]
def minP (p : Int × Int) (ps : List (Int × Int)) : Int × Int := ps.foldl (fun a y => if SrtO.lexB y a then y else a) p
theorem minD_enc (p : Int × Int) (ps : List (Int × Int)) : minD (enc p) (ps.map enc) = enc (minP p ps) := by
  unfold minD minP
  induction ps generalizing p with
  | nil => rfl
  | cons x r ih =>
    rw [List.map_cons, List.foldl_cons, List.foldl_cons, lt_enc]
    by_cases h : SrtO.lexB x p = true
    · rw [if_pos h, if_pos h]; exact ih x
    · rw [if_neg h, if_neg h]; exact ih p
theorem minP_le (p : Int × Int) (ps : List (Int × Int)) : ∀ q ∈ p :: ps, SrtO.lexB q (minP p ps) = false := by
  unfold minP
  induction ps generalizing p with
  | nil =>
    intro q hq
    rw [List.mem_singleton.mp hq]
    exact SrtO.lexB_no.mpr (by simp only [List.foldl_nil]; omega)
  | cons x r ih =>
    intro q hq
    rw [List.foldl_cons]
    by_cases h : SrtO.lexB x p = true
    · rw [if_pos h]
      rcases List.mem_cons.mp hq with e | e
      · have i1 := SrtO.lexB_no.mp (ih x x (List.mem_cons_self ..))
        have i2 := SrtO.lexB_iff.mp h
        rw [e]
        exact SrtO.lexB_no.mpr (by omega)
      · exact ih x q e
    · rw [if_neg h]
      rcases List.mem_cons.mp hq with e | e
      · exact ih p q (by rw [e]; exact List.mem_cons_self ..)
      · rcases List.mem_cons.mp e with e | e
        · have i1 := SrtO.lexB_no.mp (ih p p (List.mem_cons_self ..))
          have i2 := SrtO.lexB_no.mp (Bool.eq_false_iff.mpr h)
          rw [e]
          exact SrtO.lexB_no.mpr (by omega)
        · exact ih p q (List.mem_cons_of_mem _ e)
theorem alike_enc (p q : Int × Int) : alike (enc p) (enc q) = true := by
  unfold enc eC
  simp [alike, alikeAll]
theorem dep_enc : ∀ ps : List (Int × Int), PyData.depthAll (ps.map enc) ≤ 1
  | [] => Nat.zero_le _
  | p :: ps => by
    rw [List.map_cons, PyData.depthAll]
    exact Nat.max_le.mpr ⟨(sh_eC (ns := [p.1, p.2]) (by simp)).2.1, dep_enc ps⟩
/-- min(xs), xs a list of pairs of ints: one of the least -/
def rMinP (K : PySem.W.Frag) : List V → Hp → VK → Prop := fun vs H Q => ∃ (a : Addr) (xs : List V) (p : Int × Int) (ps : List (Int × Int)), vs = [V.ref a] ∧ SqL K H a xs ∧ DpAll K H xs ((p :: ps).map enc) ∧
  ∀ (i : Nat) (x : V), xs[i]? = some x → (p :: ps)[i]? = some (minP p ps) → Q x H
theorem cr_minP (K : PySem.W.Frag) {X : Cx} (hc : X.calm = true) (hu : X.A.units + 64 < cLine) (hK : X.K = K := by rfl) : CallR X (.builtin "min") (rMinP K) := by
  subst hK
  intro pins s σ H vs us Q I r h
  obtain ⟨a, xs, p, ps, rfl, hs, hd, q⟩ := h
  obtain ⟨its, rv, hl, hz⟩ := I.list hs
  obtain ⟨u, rfl, ru⟩ := vals1 r
  obtain rfl : u = Value.ref a := ru
  obtain ⟨as, hr⟩ := Dp.readsAll I _ xs its hd rv
  rw [List.map_cons] at hr
  have hdep := dep_enc (p :: ps)
  rw [List.map_cons] at hdep
  refine min_list_data (x := enc p) (xs := ps.map enc) (I.ok.hd hc) hl.isList (by simpa using hr) ⟨fun x hx y hy => ?_, fun x hx => ?_⟩ (by omega) fun i v h' tk bs hv rd hk => ?_
  · rw [← List.map_cons] at hx hy
    obtain ⟨x, _, rfl⟩ := List.mem_map.mp hx
    obtain ⟨y, _, rfl⟩ := List.mem_map.mp hy
    exact alike_enc x y
  · rw [← List.map_cons] at hx
    obtain ⟨x, _, rfl⟩ := List.mem_map.mp hx
    intro z
    unfold enc eC at z
    cases z
  · have hv2 : its[i]? = some v := by simpa using hv
    have hi : i < its.length := (List.getElem?_eq_some_iff.mp hv2).1
    have hi2 : i < xs.length := by rw [rv.length]; exact hi
    obtain ⟨w, hw, rw1⟩ := rv.get (List.getElem?_eq_getElem hi2)
    have ew : w = v := Option.some.inj (hw.symm.trans hv2)
    subst ew
    obtain ⟨cs, r1, l1, m1, _⟩ := readsAll_at hr i w hv2
    rw [← List.map_cons] at l1 m1 r1
    rw [List.length_map] at l1
    have eg : ((p :: ps).map enc).getD i .none = enc (p :: ps)[i] := by
      rw [List.getD_eq_getElem?_getD, List.getElem?_map, List.getElem?_eq_getElem l1]
      rfl
    rw [eg] at r1
    rw [minD_enc] at rd
    have ee := SeqAt.Reads.unique _ _ _ _ _ (sh_eC (ns := [((p :: ps)[i]).1, ((p :: ps)[i]).2]) (by simp)).1 (reads_keeps hk r1) rd
    have ep : (p :: ps)[i] = minP p ps := enc_inj ee
    exact ⟨xs[i], H, I.kept (t' := tk) hk, rw1, q i _ (List.getElem?_eq_getElem hi2) (by rw [List.getElem?_eq_getElem l1, ep])⟩
theorem DtA.rev {B : List Addr} {H : Hp} : ∀ {vs : List V} {ds : List PyData}, DtA B H vs ds → DtA B H vs.reverse ds.reverse
  | [], _, h => by
    cases h
    exact .nil
  | v :: vs, _, h => by
    cases h with
    | cons h1 h2 =>
      rw [List.reverse_cons, List.reverse_cons]
      exact (DtA.rev h2).app (.one h1)
theorem DtA.dP {K : PySem.W.Frag} {B : List Addr} {H : Hp} {vs : List V} {ds : List PyData} (h : DtA B H vs ds) : DpAll K H vs ds := DtA.dp ds vs h
/-- a comprehension of drawn data -/
theorem lc_dtsB {J : It} {n : Nat} {G : Hp → Prop} {Y : Nat → Hp → V → Hp → Prop} (w : Walk J n G Y) {g : TG} {tt : TT} {te : TE} {vs : List Nat} {σ : L2.St} {H1 : Hp} {D L : Addr} {B : List Addr} {Qd : Hp → Prop} (N u : Nat) (Pd : PyData → Prop)
    (hD : H1 D = none) (hL : Lf L H1 N) (LB : L ∈ B) (hB : Bk B H1) (hG : ∀ H', Go [L] H1 H' → G H') (hn : n ≤ 100000)
    (hs : ∀ (i : Nat) (x : V) (H' H'' : Hp) (Ny : V → Hp → Prop) (Nn : Hp → Prop), i < n → Go [L] H1 H' → Lf L H' (N + u * i) → Bk (D :: B) H' → Y i H' x H'' → (∀ (v : V) (d : PyData) H4, Go [L] H' H4 → Lf L H4 (N + u * i + u) → Dt (D :: B) H4 v d → Pd d → Ny v H4) →
      g x (wipe σ vs) H'' fun σ2 H2 => wipe σ2 vs = wipe σ vs ∧ tt σ2 H2 fun b H3 => if b = true then te σ2 H3 Ny else Nn H3)
    (hd : ∀ (H' : Hp) (ws : List V) (ds : List PyData), Go [L] H1 H' → Lf L H' (N + u * n) → H' D = some (.lst ws) → DtA (D :: B) H' ws ds → ds.length = n → (∀ d ∈ ds, Pd d) → Qd H') :
    ∃ W : Nat → Nat → Hp → Prop, (∃ m, W 0 m (upd H1 D (.lst []))) ∧ ∀ i m H, W i m H →
      (J.stop i H ∧ Qd H) ∨ (J.go i H ∧ ∃ Nx : Hp → Prop, (∀ H', Nx H' → ∃ m', m' < m ∧ W (i + 1) m' H') ∧ ∀ x H', J.yld i H x H' → g x (wipe σ vs) H' fun σ2 H2 => wipe σ2 vs = wipe σ vs ∧ tt σ2 H2 fun b H3 =>
        if b = true then te σ2 H3 fun y H4 => ∃ acc, H4 D = some (.lst acc) ∧ acc.length < sizeLine ∧ Nx (upd H4 D (.lst (acc ++ [y]))) else Nx H3) := by
  have nD : D ∉ [L] := hL.bk.ne hD
  refine lc_it w (fun i H' => Go [L] H1 H' ∧ Lf L H' (N + u * i) ∧ ∃ ws ds, H' D = some (.lst ws) ∧ DtA (D :: B) H' ws ds ∧ ds.length = i ∧ ∀ d ∈ ds, Pd d) ⟨Go.new hD, hL.new hD, [], [], upd_same, .nil, rfl, fun _ h => (nomatch h)⟩ (fun i H' _ h => hG H' h.1) (fun i x H' H'' hi h y => ?_) (fun H' h => ?_)
  · obtain ⟨g1, l1, ws, ds, eD, hA, en, hp⟩ := h
    refine hs i x H' H'' _ _ hi g1 l1 ((hB.go g1).cons eD) y (fun z d H4 g4 l4 dz pd => ?_)
    have gm : Go (D :: B) H4 (upd H4 D (.lst (ws ++ [z]))) := Go.refl.at (List.mem_cons_self ..)
    have lw := hA.len
    refine ⟨ws, g4.k D _ nD eD, sz (by omega), (g1.trans g4).mut hD, (l4.up (hL.ne hD)).mono (by rw [Nat.mul_succ]; omega), ws ++ [z], ds ++ [d], upd_same, ((hA.g (g4.w1 (List.mem_cons_of_mem _ LB))).g gm).app (.one (dz.g gm)), by simp; omega, fun e he => ?_⟩
    rcases List.mem_append.mp he with he | he
    · exact hp e he
    · rw [List.mem_singleton.mp he]
      exact pd
  · obtain ⟨g1, l1, ws, ds, eD, hA, en, hp⟩ := h
    exact hd H' ws ds g1 l1 eD hA en hp
/-- a part of a list -/
def cutL {α : Type} (xs : List α) (lo hi : Option Int) : List α := (xs.drop (HT.sIx xs.length 0 lo)).take (HT.sIx xs.length xs.length hi - HT.sIx xs.length 0 lo)
theorem cutL_sub {α : Type} {xs : List α} {lo hi : Option Int} {x : α} (h : x ∈ cutL xs lo hi) : x ∈ xs := List.mem_of_mem_drop (List.mem_of_mem_take h)
theorem cutL_len {α : Type} (xs : List α) (lo hi : Option Int) : (cutL xs lo hi).length ≤ xs.length := by
  unfold cutL
  rw [List.length_take, List.length_drop]
  omega
theorem DtA.drop {B : List Addr} {H : Hp} : ∀ (n : Nat) {vs : List V} {ds : List PyData}, DtA B H vs ds → DtA B H (vs.drop n) (ds.drop n)
  | 0, _, _, h => h
  | n + 1, [], _, h => by cases h; exact .nil
  | n + 1, v :: vs, _, h => by
    cases h with
    | cons h1 h2 => exact DtA.drop n h2
theorem DtA.take {B : List Addr} {H : Hp} : ∀ (n : Nat) {vs : List V} {ds : List PyData}, DtA B H vs ds → DtA B H (vs.take n) (ds.take n)
  | 0, _, _, h => .nil
  | n + 1, [], _, h => by cases h; exact .nil
  | n + 1, v :: vs, _, h => by
    cases h with
    | cons h1 h2 => exact .cons h1 (DtA.take n h2)
theorem DtA.cut {B : List Addr} {H : Hp} {vs : List V} {ds : List PyData} (h : DtA B H vs ds) (lo hi : Option Int) : DtA B H (cutV vs lo hi) (cutL ds lo hi) := by
  unfold cutV cutL
  rw [h.len]
  exact DtA.take _ (DtA.drop _ h)
theorem slice_dt {K : PySem.W.Frag} {B : List Addr} {H : Hp} {x : V} {ds : List PyData} {lo hi : Option Int} {Q : VK} (hx : Dt B H x (.tuple ds)) (hB : Bk B H) (q : ∀ v H', Same H H' → Dt B H' v (.tuple (cutL ds lo hi)) → Q v H') : rSlA K x lo hi H Q := by
  obtain ⟨a, vs, rfl, na, ha, hA⟩ := hx.tupI
  refine ⟨a, vs, rfl, SqT.of ha, fun h => q _ H (Same.refl _) ?_, fun _ p hp => q _ _ (sm_new hp) (.tup (hB.ne hp) upd_same ((hA.cut lo hi).s (sm_new hp)))⟩
  have e : cutL ds lo hi = ds := by
    unfold cutL
    rw [← hA.len, h.1, h.2, List.drop_zero, Nat.sub_zero, hA.len, List.take_length]
  rw [e]
  exact hx
theorem cat_dt {K : PySem.W.Frag} {B : List Addr} {H : Hp} {x y : V} {xs ys : List PyData} {Q : VK} (hx : Dt B H x (.tuple xs)) (hy : Dt B H y (.tuple ys)) (hB : Bk B H) (l : xs.length + ys.length ≤ 100000) (q : ∀ v H', Same H H' → Dt B H' v (.tuple (xs ++ ys)) → Q v H') : rCatA K x y H Q := by
  obtain ⟨a, vs, rfl, na, ha, hA⟩ := hx.tupI
  obtain ⟨b, ws, rfl, nb, hb, hC⟩ := hy.tupI
  have l1 := hA.len
  have l2 := hC.len
  refine ⟨a, b, vs, ws, rfl, rfl, SqT.of ha, SqT.of hb, Nat.le_of_lt (sz (by omega)), fun e => ?_, fun _ e => ?_, fun _ _ p hp => q _ _ (sm_new hp) (.tup (hB.ne hp) upd_same ((hA.app hC).s (sm_new hp)))⟩
  · subst e
    have : xs = [] := List.eq_nil_of_length_eq_zero (by rw [← l1]; rfl)
    subst this
    exact q _ H (Same.refl _) hy
  · subst e
    have : ys = [] := List.eq_nil_of_length_eq_zero (by rw [← l2]; rfl)
    subst this
    exact q _ H (Same.refl _) (by rw [List.append_nil]; exact hx)
theorem sh_cut {ds : List PyData} {k : Nat} {lo hi : Option Int} (h : Sh (.tuple ds) k) : Sh (.tuple (cutL ds lo hi)) k := by
  obtain ⟨j, rfl, h1, h2⟩ := h.tupI
  exact sh_tup (Nat.le_trans (cutL_len _ _ _) h2) fun d hd => h1 d (cutL_sub hd)
theorem sh_cat {xs ys : List PyData} {k : Nat} (h1 : Sh (.tuple xs) k) (h2 : Sh (.tuple ys) k) (l : xs.length + ys.length ≤ 100000) : Sh (.tuple (xs ++ ys)) k := by
  obtain ⟨j, rfl, a1, a2⟩ := h1.tupI
  obtain ⟨j', e, b1, b2⟩ := h2.tupI
  have : j = j' := by omega
  subst this
  exact sh_tup (by simpa using l) fun d hd => by
    rcases List.mem_append.mp hd with h | h
    · exact a1 d h
    · exact b1 d h
/-! ### a comprehension in another one -/
def FrAll (sc : Scope) : List Str → Prop
  | [] => True
  | x :: xs => (sc.names.lookup x = some .cell ∨ sc.names.lookup x = some .free) ∧ FrAll sc xs
theorem FrAll.mem {sc : Scope} : ∀ {xs : List Str}, FrAll sc xs → ∀ x ∈ xs, sc.names.lookup x = some .cell ∨ sc.names.lookup x = some .free
  | [], _, _, h => nomatch h
  | y :: ys, h, x, hx => by
    rcases List.mem_cons.mp hx with e | e
    · rw [e]; exact h.1
    · exact FrAll.mem h.2 x e
def frC (fr : List Str) (scope : Scope) : Bool := scope.names.all fun y => match y.2 with
  | .free => decide (y.1 ∈ fr)
  | _ => true
theorem blkOk_in {N : List Str} {sc scope : Scope} {own : List (Str × Nat)} (fr : List Str) (h : blkC N { kind := .function, names := fr.map fun x => (x, .free), isGenerator := false, isCoroutine := false } scope own = true) (h2 : frC fr scope = true) (hf : FrAll sc fr) : BlkOk N sc scope own := by
  have b := blkOk_by h
  refine ⟨b.kind, b.uniq, b.ix, fun y hy e => ?_, b.own⟩
  have := List.all_eq_true.mp h2 y hy
  rw [e] at this
  exact hf.mem _ (of_decide_eq_true this)
end Z

set_option Elab.async false
set_option linter.all false
set_option maxRecDepth 100000
set_option maxHeartbeats 400000
namespace Z
open PySem PySem.Spec PyProof.Rows L2
/-! ### lists of lists -/
def eN (ns : List (List Int)) : PyData := .list (ns.map eI)
def eG (ps : List (List (List Int))) : PyData := .list (ps.map eP)
theorem sh_eN {ns : List (List Int)} (l : ns.length ≤ 100000) (h : ∀ c ∈ ns, c.length ≤ 100000) : Sh (eN ns) 2 := sh_lst (by simpa using l) fun d hd => by
  obtain ⟨n, m, rfl⟩ := List.mem_map.mp hd
  exact sh_eI (h n m)
theorem sh_eG {ps : List (List (List Int))} (l : ps.length ≤ 100000) (h : ∀ p ∈ ps, p.length ≤ 100000 ∧ ∀ c ∈ p, c.length ≤ 100000) : Sh (eG ps) 3 := sh_lst (by simpa using l) fun d hd => by
  obtain ⟨n, m, rfl⟩ := List.mem_map.mp hd
  exact sh_eP (h n m).1 (h n m).2
theorem DtA.mk {B : List Addr} {H : Hp} : ∀ {vs : List V} {ds : List PyData}, vs.length = ds.length → (∀ (i : Nat) v d, vs[i]? = some v → ds[i]? = some d → Dt B H v d) → DtA B H vs ds
  | [], [], _, _ => .nil
  | [], _ :: _, h, _ => nomatch h
  | _ :: _, [], h, _ => nomatch h
  | v :: vs, d :: ds, h, f => .cons (f 0 v d rfl rfl) (DtA.mk (by simpa using h) fun i v d h1 h2 => f (i + 1) v d h1 h2)
theorem DtA.two {B : List Addr} {H : Hp} {vs : List V} {ds : List PyData} {i : Nat} {v : V} {d : PyData} (h : DtA B H vs ds) (h1 : vs[i]? = some v) (h2 : ds[i]? = some d) : Dt B H v d := by
  obtain ⟨d', e, h3⟩ := h.getV h1
  rw [h2] at e
  cases e
  exact h3
theorem at2i (x y : Int) (b : Bool) : ∃ z : Int, atI [V.int x, V.int y] (if b = true then 1 else 0) = some (.int z) ∧ (z = x ∨ z = y) := by
  cases b
  · exact ⟨x, rfl, .inl rfl⟩
  · exact ⟨y, rfl, .inr rfl⟩
theorem ixN_last {n : Nat} (h : 0 < n) : ixN n (-1) = some (n - 1) := by
  unfold ixN
  rw [if_neg (by omega), if_pos (by omega)]
  congr 1
  omega
theorem DtA.set {B : List Addr} {H : Hp} {v : V} {d : PyData} : ∀ {vs : List V} {ds : List PyData} (j : Nat), DtA B H vs ds → Dt B H v d → DtA B H (vs.set j v) (ds.set j d)
  | [], _, _, h, _ => by cases h; exact .nil
  | _ :: _, _, 0, h, hv => by cases h with | cons h1 h2 => exact .cons hv h2
  | _ :: _, _, j + 1, h, hv => by cases h with | cons h1 h2 => exact .cons h1 (DtA.set j h2 hv)
theorem Dt.lst2 {B : List Addr} {H : Hp} {v : V} {ds : List PyData} (h : Dt B H v (.list ds)) : ∃ a vs, v = .ref a ∧ a ∉ B ∧ H a = some (.lst vs) ∧ DtA B H vs ds := by
  cases h with
  | lst n hs ha => exact ⟨_, _, rfl, n, hs, ha⟩
theorem cut_fromV {α : Type} (xs : List α) {n : Int} (h0 : 0 ≤ n) : cutL xs (some n) none = xs.drop n.toNat := by
  unfold cutL
  have e : HT.sIx xs.length 0 (some n) = min n.toNat xs.length := by
    show (if n < 0 then (n + (xs.length : Int)).toNat else min n.toNat xs.length) = _
    rw [if_neg (by omega)]
  have e2 : HT.sIx xs.length xs.length none = xs.length := rfl
  rw [e, e2]
  rcases Nat.le_total n.toNat xs.length with h | h
  · rw [Nat.min_eq_left h, List.take_of_length_le (by rw [List.length_drop]; omega)]
  · rw [Nat.min_eq_right h, List.drop_of_length_le (Nat.le_refl _), List.drop_of_length_le h, List.take_nil]
theorem cut_toV {α : Type} (xs : List α) {n : Int} (h0 : 0 ≤ n) : cutL xs none (some n) = xs.take n.toNat := by
  unfold cutL
  have e : HT.sIx xs.length xs.length (some n) = min n.toNat xs.length := by
    show (if n < 0 then (n + (xs.length : Int)).toNat else min n.toNat xs.length) = _
    rw [if_neg (by omega)]
  have e2 : HT.sIx xs.length 0 none = 0 := rfl
  rw [e, e2, List.drop_zero, Nat.sub_zero]
  rcases Nat.le_total n.toNat xs.length with h | h
  · rw [Nat.min_eq_left h]
  · rw [Nat.min_eq_right h, List.take_length, List.take_of_length_le h]
theorem pg_lstK {X : Cx} (K : PySem.W.Frag) {pos : Pos} {es : List Expr} {kk : Nat} {t : TGs} {n : Nat} (hc : X.calm = true) (h : PGs X es t) (hn : (assignEach es X.env).length = n := by rfl) (hst : (assignEach es X.env).findIdx? (·.1) = none := by rfl) (h2 : X.K = K := by rfl) : PG X (.Tuple es kk pos) (gLst K n t) :=
  h2 ▸ pg_lst hc h hn hst
theorem pi_zipAK {X : Cx} (K : PySem.W.Frag) {e e2 : Expr} {ta : TA} {p pos tpos : Pos} {elts : List Expr} {kk : Nat} (hg : Gl X "zip") (hm : X.mg "zip" = none) (ha : PA X [e, e2] ta)
    (hs : starEach [e, e2] X.env = (false, eval e X.env) :: starEach [e2] X.env := by rfl) (hpl : (backTo pos (starEach [e2] X.env)).any (·.1) = false := by rfl) (hK : X.K = K := by rfl) :
    PI X (.Tuple elts kk tpos) (.Call (.Name "zip" p) [e, e2] [] pos) (RZ.iZipA K ta) := by
  subst hK
  exact RZ.pi_zipA hg hm ha hs hpl
theorem yesT {σ : L2.St} {H : Hp} {A N : Hp → Prop} (h : A H) : tYes σ H (fun b H3 => if b = true then A H3 else N H3) := by
  show if true = true then A H else N H
  rw [if_pos rfl]
  exact h
/-- any walk -/
theorem walk_W {J : It} {n : Nat} {G : Hp → Prop} {Y : Nat → Hp → V → Hp → Prop} (w : Walk J n G Y) {R : (Hp → Prop) → V → Hp → Prop} {Qd : Hp → Prop} {H0 : Hp} (Pv : Nat → Hp → Prop) (h0 : Pv 0 H0) (hG : ∀ i H, i ≤ n → Pv i H → G H) (hs : ∀ i x H H', i < n → Pv i H → Y i H x H' → R (Pv (i + 1)) x H') (hd : ∀ H, Pv n H → Qd H) :
    ∃ W : Nat → Nat → Hp → Prop, (∃ m, W 0 m H0) ∧ ∀ i m H, W i m H → (J.stop i H ∧ Qd H) ∨ (J.go i H ∧ ∃ Nx : Hp → Prop, (∀ H', Nx H' → ∃ m', m' < m ∧ W (i + 1) m' H') ∧ ∀ x H', J.yld i H x H' → R Nx x H') := by
  obtain ⟨w1, w2, w3⟩ := w
  refine ⟨fun i m H => i ≤ n ∧ m = n - i ∧ Pv i H, ⟨n, Nat.zero_le _, rfl, h0⟩, fun i m H h => ?_⟩
  obtain ⟨hi, hm, hp⟩ := h
  have g := hG i H hi hp
  by_cases e : i = n
  · subst e
    exact .inl ⟨w2 _ g, hd _ hp⟩
  · refine .inr ⟨w1 i H (by omega) g, Pv (i + 1), fun H' h' => ⟨n - (i + 1), by omega, by omega, rfl, h'⟩, fun x H' y => ?_⟩
    exact hs i x H H' (by omega) hp (w3 i H x H' (by omega) g y)
theorem colsOf {Pc : List Int → Prop} : ∀ {ds : List PyData}, (∀ d ∈ ds, ∃ c, d = eC c ∧ Pc c) → ∃ cs : List (List Int), ds = cs.map eC ∧ ∀ c ∈ cs, Pc c
  | [], _ => ⟨[], rfl, fun _ h => nomatch h⟩
  | d :: ds, h => by
    obtain ⟨m, e, hm⟩ := colsOf (ds := ds) fun x hx => h x (List.mem_cons_of_mem _ hx)
    obtain ⟨z, ez, hz⟩ := h d (List.mem_cons_self ..)
    refine ⟨z :: m, by rw [e, ez]; rfl, fun y hy => ?_⟩
    rcases List.mem_cons.mp hy with q | q
    · rw [q]; exact hz
    · exact hm y q
/-- a list whose items are new lists, each another one; what is in these was there ahead -/
structure Rws (B : List Addr) (H H' : Hp) (D : Addr) (rs : List Addr) (dss : List (List PyData)) : Prop where
  len : rs.length = dss.length
  nd : rs.Nodup
  nD : D ∉ rs
  fr : ∀ r ∈ rs, H r = none
  row : ∀ (i : Nat) r ds, rs[i]? = some r → dss[i]? = some ds → ∃ ws, H' r = some (.lst ws) ∧ DtA B H ws ds
section
variable {B C : List Addr} {H H' H2 : Hp} {D p : Addr} {rs : List Addr} {dss : List (List PyData)}
theorem Rws.s (h : Rws B H H' D rs dss) (s : Same H' H2) : Rws B H H2 D rs dss := ⟨h.len, h.nd, h.nD, h.fr, fun i r ds h1 h2 => by
  obtain ⟨ws, e, a⟩ := h.row i r ds h1 h2
  exact ⟨ws, s _ _ e, a⟩⟩
theorem Rws.up {o : HO} (h : Rws B H H' D rs dss) (n : p ∉ rs) : Rws B H (upd H' p o) D rs dss := ⟨h.len, h.nd, h.nD, h.fr, fun i r ds h1 h2 => by
  obtain ⟨ws, e, a⟩ := h.row i r ds h1 h2
  refine ⟨ws, ?_, a⟩
  rw [upd_ne (fun z => n (by rw [← z]; exact List.mem_of_getElem? h1))]
  exact e⟩
theorem Rws.go (h : Rws B H H' D rs dss) (g : Go C H' H2) (n : ∀ r ∈ rs, r ∉ C) : Rws B H H2 D rs dss := ⟨h.len, h.nd, h.nD, h.fr, fun i r ds h1 h2 => by
  obtain ⟨ws, e, a⟩ := h.row i r ds h1 h2
  exact ⟨ws, g.k _ _ (n r (List.mem_of_getElem? h1)) e, a⟩⟩
theorem Rws.tail {r : Addr} {ds : List PyData} (h : Rws B H H' D (r :: rs) (ds :: dss)) : Rws B H H' D rs dss := ⟨by simpa using h.len, (List.nodup_cons.mp h.nd).2, fun z => h.nD (List.mem_cons_of_mem _ z), fun x hx => h.fr x (List.mem_cons_of_mem _ hx), fun i x ds h1 h2 => h.row (i + 1) x ds h1 h2⟩
theorem Rws.dt (h : Rws B H H' D rs dss) (b : Bk B H) (s : Go B H H') : DtA B H' (rs.map V.ref) (dss.map PyData.list) := by
  refine DtA.mk (by rw [List.length_map, List.length_map]; exact h.len) fun i v d h1 h2 => ?_
  rw [List.getElem?_map] at h1 h2
  cases e1 : rs[i]? with
  | none => rw [e1] at h1; cases h1
  | some r =>
    cases e2 : dss[i]? with
    | none => rw [e2] at h2; cases h2
    | some ds =>
      rw [e1] at h1
      rw [e2] at h2
      cases h1
      cases h2
      obtain ⟨ws, e, a⟩ := h.row i r ds e1 e2
      exact .lst (b.ne (h.fr r (List.mem_of_getElem? e1))) e (a.g s)
end
/-- a comprehension of known values -/
theorem lc_vals {J : It} {n : Nat} {G : Hp → Prop} {Y : Nat → Hp → V → Hp → Prop} (w : Walk J n G Y) {g : TG} {tt : TT} {te : TE} {vs : List Nat} {σ : L2.St} {H1 : Hp} {D : Addr} {Qd : Hp → Prop}
    (hD : H1 D = none) (hG : ∀ H', Same H1 H' → G H') (hn : n ≤ 100000) (f : Nat → V)
    (hs : ∀ (i : Nat) (x : V) (H' H'' : Hp) (Ny : V → Hp → Prop) (Nn : Hp → Prop), i < n → Same H1 H' → Y i H' x H'' → (∀ H4, Same H' H4 → Ny (f i) H4) →
      g x (wipe σ vs) H'' fun σ2 H2 => wipe σ2 vs = wipe σ vs ∧ tt σ2 H2 fun b H3 => if b = true then te σ2 H3 Ny else Nn H3)
    (hd : ∀ (H' : Hp), Same H1 H' → H' D = some (.lst ((List.range n).map f)) → Qd H') :
    ∃ W : Nat → Nat → Hp → Prop, (∃ m, W 0 m (upd H1 D (.lst []))) ∧ ∀ i m H, W i m H →
      (J.stop i H ∧ Qd H) ∨ (J.go i H ∧ ∃ Nx : Hp → Prop, (∀ H', Nx H' → ∃ m', m' < m ∧ W (i + 1) m' H') ∧ ∀ x H', J.yld i H x H' → g x (wipe σ vs) H' fun σ2 H2 => wipe σ2 vs = wipe σ vs ∧ tt σ2 H2 fun b H3 =>
        if b = true then te σ2 H3 fun y H4 => ∃ acc, H4 D = some (.lst acc) ∧ acc.length < sizeLine ∧ Nx (upd H4 D (.lst (acc ++ [y]))) else Nx H3) := by
  refine lc_it w (fun i H' => Same H1 H' ∧ H' D = some (.lst ((List.range i).map f))) ⟨sm_new hD, upd_same⟩ (fun i H' _ h => hG H' h.1) (fun i x H' H'' hi h y => ?_) (fun H' h => hd H' h.1 h.2)
  obtain ⟨s1, eD⟩ := h
  refine hs i x H' H'' _ _ hi s1 y (fun H4 s4 => ?_)
  refine ⟨_, s4 _ _ eD, sz (by rw [List.length_map, List.length_range]; omega), sm_mut (s1.trans s4) hD, ?_⟩
  rw [upd_same, List.range_succ, List.map_append]
  rfl
/-- a comprehension of new lists -/
theorem lc_rows {J : It} {n : Nat} {G : Hp → Prop} {Y : Nat → Hp → V → Hp → Prop} (w : Walk J n G Y) {g : TG} {tt : TT} {te : TE} {vs : List Nat} {σ : L2.St} {H1 : Hp} {D : Addr} {Qd : Hp → Prop} (B : List Addr)
    (hD : H1 D = none) (hG : ∀ H', Same H1 H' → G H') (hn : n ≤ 100000) (e : Nat → List PyData)
    (hs : ∀ (i : Nat) (x : V) (H' H'' : Hp) (Ny : V → Hp → Prop) (Nn : Hp → Prop), i < n → Same H1 H' → Y i H' x H'' → (∀ r ws H4, Same H' H4 → H' r = none → H4 r = some (.lst ws) → DtA B H1 ws (e i) → Ny (.ref r) H4) →
      g x (wipe σ vs) H'' fun σ2 H2 => wipe σ2 vs = wipe σ vs ∧ tt σ2 H2 fun b H3 => if b = true then te σ2 H3 Ny else Nn H3)
    (hd : ∀ (H' : Hp) (rs : List Addr), Same H1 H' → H' D = some (.lst (rs.map V.ref)) → Rws B H1 H' D rs ((List.range n).map e) → Qd H') :
    ∃ W : Nat → Nat → Hp → Prop, (∃ m, W 0 m (upd H1 D (.lst []))) ∧ ∀ i m H, W i m H →
      (J.stop i H ∧ Qd H) ∨ (J.go i H ∧ ∃ Nx : Hp → Prop, (∀ H', Nx H' → ∃ m', m' < m ∧ W (i + 1) m' H') ∧ ∀ x H', J.yld i H x H' → g x (wipe σ vs) H' fun σ2 H2 => wipe σ2 vs = wipe σ vs ∧ tt σ2 H2 fun b H3 =>
        if b = true then te σ2 H3 fun y H4 => ∃ acc, H4 D = some (.lst acc) ∧ acc.length < sizeLine ∧ Nx (upd H4 D (.lst (acc ++ [y]))) else Nx H3) := by
  refine lc_it w (fun i H' => Same H1 H' ∧ ∃ rs, H' D = some (.lst (rs.map V.ref)) ∧ Rws B H1 H' D rs ((List.range i).map e)) ⟨sm_new hD, [], upd_same, ⟨rfl, List.nodup_nil, (fun h => nomatch h), (fun _ h => nomatch h), (fun i r ds h => by simp at h)⟩⟩ (fun i H' _ h => hG H' h.1) (fun i x H' H'' hi h y => ?_) (fun H' h => ?_)
  · obtain ⟨s1, rs, eD, R⟩ := h
    have hl : rs.length = i := by rw [R.len, List.length_map, List.length_range]
    refine hs i x H' H'' _ _ hi s1 y (fun r ws H4 s4 hr er ha => ?_)
    have nr : r ≠ D := fun z => by rw [z, eD] at hr; cases hr
    have nrs : r ∉ rs := fun z => by
      obtain ⟨j, hj, ej⟩ := List.getElem_of_mem z
      obtain ⟨ws', e', _⟩ := R.row j r (e j) (by rw [List.getElem?_eq_getElem hj, ej]) (by rw [List.getElem?_map, List.getElem?_range (by omega)]; rfl)
      rw [e'] at hr
      cases hr
    refine ⟨_, s4 _ _ eD, sz (by rw [List.length_map]; omega), sm_mut (s1.trans s4) hD, rs ++ [r], by rw [upd_same, List.map_append]; rfl, ?_⟩
    have R4 := (R.s s4).up (o := .lst (rs.map V.ref ++ [.ref r])) (R.nD)
    refine ⟨by simp [hl], ?_, ?_, fun z hz => ?_, fun j z ds h1 h2 => ?_⟩
    · rw [List.nodup_append]
      refine ⟨R.nd, by simp, fun a ha b hb => ?_⟩
      rw [List.mem_singleton.mp hb]
      exact fun q => nrs (by rw [← q]; exact ha)
    · intro q
      rcases List.mem_append.mp q with q | q
      · exact R.nD q
      · exact nr (List.mem_singleton.mp q).symm
    · rcases List.mem_append.mp hz with q | q
      · exact R.fr z q
      · rw [List.mem_singleton.mp q]
        exact s1.free hr
    · rw [List.getElem?_append] at h1
      rw [List.range_succ, List.map_append, List.getElem?_append, List.length_map, List.length_range] at h2
      by_cases c : j < rs.length
      · rw [if_pos c] at h1
        rw [if_pos (by omega)] at h2
        exact R4.row j z ds h1 h2
      · rw [if_neg c] at h1
        rw [if_neg (by omega)] at h2
        have j0 : j - rs.length = 0 := by
          cases q : j - rs.length with
          | zero => rfl
          | succ m => rw [q] at h1; simp at h1
        rw [j0] at h1
        rw [show j - i = 0 by omega] at h2
        cases h1
        cases h2
        refine ⟨ws, ?_, ha⟩
        rw [upd_ne nr]
        exact er
  · obtain ⟨s1, rs, eD, R⟩ := h
    exact hd H' rs s1 eD R
end Z

set_option Elab.async false
set_option linter.all false
set_option maxRecDepth 100000
set_option maxHeartbeats 400000
namespace Z
open PySem PySem.Spec PyProof.Rows L2
/-! ### a def that is called where nothing is being shown -/
structure FnG (P : Program) (w : World) (K : PySem.W.Frag) (mg : Str → Option Value) (base : Heap) (k : Nat) (f : Addr) (fd : FuncData) (ps : List Str) (sp : Sp) : Prop where
  run : ∀ (A : Around) (outer : List Env) (s : Shared) (H : Hp) (args : Args) (us : List Value) (vs : List V) (Q : VK) (E : XK), A.guards = some [] → Room k A → Env0 P w K mg base A outer s H → BindsTo s fd args (ps.zip us) → Vals vs us → sp vs H Q E → codeAny (model P w) A (Code.call (Value.ref f) args) (CR CX0 outer P w H s Q E) s
theorem fn_g {P : Program} {w : World} {K : PySem.W.Frag} {mg : Str → Option Value} {base : Heap} {x qual : Str} {st : Stmt} {f : Addr} {fd : FuncData} {N ps : List Str} {k : Nat} {sp : Sp} (F : Fun K x qual st f fd) (S : FnScope N ps (defScope st))
    (len : ∀ (vs : List V) (H : Hp) (Q : VK) (E : XK), sp vs H Q E → vs.length = ps.length)
    (hbody : ∀ (cdv : Value) (A : Around) (outer : List Env) (s : Shared) (H : Hp) (vs : List V) (Q : VK) (E : XK), A.guards = some [] → Room k (A.deeper (envOfC qual (defScope st) s.heap.objs.size f cdv)) → sp vs H Q E →
      ∃ t, PSs (cxOf CX0 P w K mg base N qual (defScope st) f cdv A outer s H E).nox (defBody st) t ∧ t { nx := fun _ H' => Q V.non H', rt := Q } (L2.start N vs) H) : FnG P w K mg base (k + 1) f fd ps sp := by
  obtain ⟨oc, od, kV, doc, pm, an, cdv, ct, osl, rfl, lk, hcd⟩ := F.ex
  refine ⟨fun A outer s H args us vs Q E hA hr e0 hb r hsp => ?_⟩
  have hl := len vs H Q E hsp
  have KX := PySem.W.Frag.In.keeps e0.mod.kin fun b o e => (e0.bs b o e).left
  have lim := Heap.NoLimit.keeps e0.mod.nolimit fun b o e => (e0.bs b o e).left
  refine codeAny_call_function (Room.depth hr) (KX f _ lk) rfl S.co S.gen rfl (PySem.W.codeRec_of KX hcd) (hb (model P w) A.in1 (fun e s' => CR CX0 outer P w H s Q E (Except.error e) s') _ (wpAny_newFunctionEnv_cells S.kind ?hk fun env he s1 x => ?_))
  case hk =>
    rintro ⟨n, v⟩ hy
    rcases S.par n (List.of_mem_zip hy).left with q | q
    · exact Or.inl q
    · exact Or.inr ⟨q, PySem.W.cellsFrom_some (defScope st).names (s.heap.objs.size + 1) [] (Or.inl q)⟩
  subst he
  refine ⟨Heap.NoLimit.keeps lim x.toInCall.keep, codeAny_func ?_⟩
  obtain ⟨t, ht, hq⟩ := hbody cdv A outer s H vs Q E hA (Room.deeper hr (envOfC qual (defScope st) s.heap.objs.size f cdv)) hsp
  have I := inv_start (CX := CX0) (E := E) S hr.hd e0 hl r x
  refine wpAny_mono ((PSs.nox ht).run [] s1 (L2.start N vs) H { nx := fun _ H' => Q V.non H', rt := Q } I hq) (fun fl s' hs => ?_) (fun e s' hs => hs)
  cases fl with
  | next =>
    obtain ⟨σ', H', J, q⟩ := hs
    exact ⟨V.non, H', J.os, J.bare, J.base, J.hok, rfl, q⟩
  | brk =>
    obtain ⟨_, _, _, q⟩ := hs
    exact q.elim
  | cont =>
    obtain ⟨_, _, _, q⟩ := hs
    exact q.elim
  | ret u =>
    obtain ⟨v, σ', H', J, rv, q⟩ := hs
    exact ⟨v, H', J.os, J.bare, J.base, J.hok, rv, q⟩
theorem law_call2 {P : Program} {w : World} {K : PySem.W.Frag} {mg mb : Str → Option Value} {k : Nat} {fa a : Addr} {fd : FuncData} {x : Str} {sp : Sp} {s₁ : Shared} {vs : List Value} {ns : List Int} (KX : K.In s₁.heap) (hns : s₁.heap.Ns mainGlobals mg) (hb : s₁.heap.Ns builtinsNs mb)
    (hbb : ∀ x : Str, x ≠ Str.ofString "__name__" → mb x = bootBuiltins x) (hlim : s₁.heap.NoLimit) (hg : s₁.gens = #[]) (ha : s₁.heap.get? a = some { cls := Value.type "list", data := Data.seq vs.toArray }) (hi : IntsAre vs ns) (hl : ns.length ≤ sizeLine) (hr : Room k callerA)
    (F : ∀ base : Heap, K.In base → base.Ns mainGlobals mg → FnG P w K mg base k fa fd [x] sp) (hbind : ∀ (s : Shared) (u : Value), BindsTo s fd { pos := [u] } [(x, u)])
    (hsp : ∀ H : Hp, Only H → SqL K H a (ns.map V.int) → sp [V.ref a] H (fun v _ => v = V.bl true) fun _ _ _ => False) :
    codeAny (model P w) callerA (Code.call (Value.ref fa) { pos := [Value.ref a] }) (fun r s' => r = Except.ok (Flow.ret (Value.bool true)) ∧ OldK s₁.heap s'.heap ∧ s'.os = s₁.os ∧ AllBare s'.gens) s₁ := by
  have rv := vals_ints hi
  have lenV := hi.length
  have core : ∀ H : Hp, Only H → SqL K H a (ns.map V.int) → HOk P w H s₁.heap → (∀ b, H b ≠ none → b = a) → (H a ≠ none → List.lookup a K = none) →
      codeAny (model P w) callerA (Code.call (Value.ref fa) { pos := [Value.ref a] }) (fun r s' => r = Except.ok (Flow.ret (Value.bool true)) ∧ OldK s₁.heap s'.heap ∧ s'.os = s₁.os ∧ AllBare s'.gens) s₁ := by
    intro H hO hS hok hA hK
    have noA : ∀ {b : Addr} {o : Obj} {es ep}, s₁.heap.get? b = some o → o.data = Data.dict es ep → H b = none := by
      intro b o es ep e d
      cases q : H b with
      | none => rfl
      | some u =>
        have e' := hA b (by rw [q]; exact fun z => nomatch z)
        subst e'
        rw [ha] at e
        cases e
        cases d
    have nsK : ∀ {b : Addr} {m : Str → Option Value}, s₁.heap.Ns b m → (hidT s₁.heap H).Ns b m := by
      rintro b m ⟨o, es, ep, e, d, r⟩
      exact ⟨o, es, ep, hidT_get e (noA e d), d, r⟩
    have hKb : K.In (hidT s₁.heap H) := by
      intro b o e
      refine hidT_get (KX b o e) ?_
      cases q : H b with
      | none => rfl
      | some u =>
        have e' := hA b (by rw [q]; exact fun z => nomatch z)
        subst e'
        rw [hK (by rw [q]; exact fun z => nomatch z)] at e
        cases e
    have hM : L2.Mod K mg (hidT s₁.heap H) := ⟨hKb, nsK hns, ⟨mb, nsK hb, hbb⟩, by
      obtain ⟨mc, h1, h2⟩ := hlim
      exact ⟨mc, nsK h1, h2⟩⟩
    have e0 : Env0 P w K mg (hidT s₁.heap H) callerA [] s₁ H := ⟨rfl, hM, fun b o e => of_hidT e, Nat.le_of_eq (hidT_size s₁.heap H), trivial, fun b hb => absurd (show b ∈ ([] : List Addr) from hb) (by simp), hok, AllBare.of_eq hg⟩
    refine codeAny_mono ((F _ hKb (nsK hns)).run callerA [] s₁ H { pos := [Value.ref a] } [Value.ref a] [V.ref a] (fun v _ => v = V.bl true) (fun _ _ _ => False) rfl hr e0 (hbind s₁ (Value.ref a)) (Paired.cons rfl Paired.nil) (hsp H hO hS)) fun r s' h => ?_
    cases r with
    | error e => exact False.elim h
    | ok fl =>
      cases fl with
      | next => exact False.elim h
      | brk => exact False.elim h
      | cont => exact False.elim h
      | ret u =>
        obtain ⟨v, H', os, bare, un, hok', r', q⟩ := h
        subst q
        have eu : u = Value.bool true := r'
        subst eu
        refine ⟨rfl, OldK.of_keep fun b o e => ?_, os, bare⟩
        cases q : H b with
        | none => exact un.keep b o e q (fun z => absurd (show b ∈ ([] : List Addr) from z) (by simp)) (by simp)
        | some u =>
          rcases hO b with z | ⟨ob, xs, z⟩
          · rw [q] at z
            cases z
          · have z2 := un.frzs b ob (HO.lst xs) z
            obtain ⟨e1, _⟩ := hok b (HO.frz ob (HO.lst xs)) z
            obtain ⟨e2, _⟩ := hok' b (HO.frz ob (HO.lst xs)) z2
            rw [e] at e1
            cases e1
            exact e2
  cases hk : List.lookup a K with
  | none =>
    refine core (fun b => if b = a then some (HO.frz { cls := Value.type "list", data := Data.seq vs.toArray } (HO.lst (ns.map V.int))) else none) (fun b => ?_) (Or.inl (Or.inr ⟨_, if_pos rfl⟩)) (fun b u z => ?_) (fun b z => ?_) (fun _ => hk)
    · by_cases hb : b = a
      · exact .inr ⟨_, _, if_pos hb⟩
      · exact .inl (if_neg hb)
    · by_cases hb : b = a
      · have z' := (if_pos hb).symm.trans z
        cases z'
        subst hb
        exact ⟨ha, by rw [List.length_map]; exact hl, vs, 0, rv, ha⟩
      · have z' := (if_neg hb).symm.trans z
        cases z'
    · by_cases hb : b = a
      · exact hb
      · exact absurd (if_neg hb) z
  | some o =>
    have e := KX a o hk
    rw [ha] at e
    cases e
    refine core (fun _ => none) (fun _ => .inl rfl) (Or.inr ⟨_, vs.toArray, 0, hk, rfl, rfl, rfl, by rw [List.size_toArray, lenV]; exact hl, rv⟩) (fun b u z => ?_) (fun b z => absurd rfl z) (fun z => absurd rfl z)
    cases z
theorem walk_of2 {l : PySem.W.OpenLaw} {n k : Nat} {q : Program} {loose : List Str} {XP : (Str → Option Value) → Heap → Prop} {YP : World → Heap → Prop} {d : DefRec} {K : Params → PySem.W.Frag} {sp : World → Sp} {x : Str} (hn : l.most = some n) (hn2 : n ≤ sizeLine) (hdf : d.params.defaults = []) (hr : Room k callerA)
    (hY : ∀ (w : World) (h : Heap), YP w h → (K w.params).In h)
    (F : ∀ (w : World) (mg : Str → Option Value) (fa : Addr) (h : Heap), (K w.params).In h → h.Ns mainGlobals mg → mg d.name = some (Value.ref fa) → ∃ fd, (∀ (s : Shared) (u : Value), BindsTo s fd { pos := [u] } [(x, u)]) ∧ ∀ base : Heap, (K w.params).In base → base.Ns mainGlobals mg → FnG l.prog w (K w.params) mg base k fa fd [x] (sp w))
    (hsp : ∀ (w : World) (H : Hp) (a : Addr) (ns : List Int), ns.length ≤ n → Only H → SqL (K w.params) H a (ns.map V.int) → sp w [V.ref a] H (fun v _ => v = V.bl true) fun _ _ _ => False) :
    PySem.W.WalkO q loose XP YP l.row.toRowW d [] fun f vs => call f vs :=
  Att.attach_call hn hdf fun w s₀ s₁ mg mb fa o pm cd doc a vs ns G Y ho hd hcd hmg hobj hints hlen hg => by
    have KX := hY w s₁.heap Y
    obtain ⟨fd, hb, hF⟩ := F w mg fa s₁.heap KX G.T.g hmg
    exact law_call2 KX G.T.g G.T.b G.T.builtins G.T.nolimit hg hobj hints (Nat.le_trans hlen hn2) hr hF hb (fun H hO hS => hsp w H a ns hlen hO hS)
/-! ### str of data -/
def rStrD (K : PySem.W.Frag) : List V → Hp → VK → Prop := fun xs H Q => ∃ (a : Addr) (d : PyData), xs = [.ref a] ∧ Dp K H (.ref a) d ∧ d.showable = true ∧ d.hasDict = false ∧ d.depth ≤ 40 ∧ d.shown.length ≤ sizeLine ∧ Q (.str d.shown) H
theorem cr_strD (K : PySem.W.Frag) {X : Cx} (hg : X.A.guards = some []) (hu : X.A.units + 64 < cLine) (hK : X.K = K := by rfl) : CallR X (.type "str") (rStrD K) := by
  subst hK
  intro pins s σ H xs us Q I r h
  obtain ⟨a, d, rfl, hd, h1, h2, h3, h4, q⟩ := h
  obtain ⟨u, rfl, ru⟩ := vals1 r
  have ru2 := ru
  obtain rfl : u = Value.ref a := ru
  obtain ⟨as, hr⟩ := Dp.reads I d _ _ hd ru2
  exact str_of_reads hr h1 (fun z => by rw [h2] at z; cases z) hg (by omega) (fun _ _ e => e) (fun h' u tk hk => ⟨.str d.shown, H, I.kept hk, ⟨u, rfl⟩, q⟩) h4
/-! ### how long a text is -/
structure Shw (d : PyData) (n : Nat) : Prop where
  a : d.showable = true
  b : d.hasDict = false
  c : d.shown.length ≤ n
theorem Shw.mono {d : PyData} {n m : Nat} (h : Shw d n) (l : n ≤ m) : Shw d m := ⟨h.a, h.b, Nat.le_trans h.c l⟩
theorem shw_all {n : Nat} : ∀ {ds : List PyData}, (∀ d ∈ ds, Shw d n) → PyData.showableAll ds = true ∧ PyData.hasDictAll ds = false ∧ ((PyData.shownAll ds).map (fun x => x.length)).sum ≤ n * ds.length ∧ (PyData.shownAll ds).length = ds.length
  | [], _ => ⟨by rw [PyData.showableAll], by rw [PyData.hasDictAll], by rw [PyData.shownAll]; simp, by rw [PyData.shownAll]; rfl⟩
  | d :: ds, h => by
    obtain ⟨h1, h2, h3, h4⟩ := shw_all (ds := ds) (n := n) fun x hx => h x (List.mem_cons_of_mem _ hx)
    have h0 := h d (List.mem_cons_self ..)
    refine ⟨?_, ?_, ?_, ?_⟩
    · rw [PyData.showableAll, h1, h0.a]; rfl
    · rw [PyData.hasDictAll, h2, h0.b]; rfl
    · rw [PyData.shownAll, List.map_cons, List.sum_cons, List.length_cons, Nat.mul_succ]
      have := h0.c
      omega
    · rw [PyData.shownAll, List.length_cons, List.length_cons, h4]
theorem shw_lst {ds : List PyData} {n : Nat} (h : ∀ d ∈ ds, Shw d n) : Shw (.list ds) (n * ds.length + 2 * ds.length + 3) := by
  obtain ⟨h1, h2, h3, h4⟩ := shw_all h
  refine ⟨by rw [PyData.showable]; exact h1, by rw [PyData.hasDict]; exact h2, ?_⟩
  rw [PyData.shown]
  have := listText_len_le (PyData.shownAll ds)
  rw [h4] at this
  omega
theorem shw_tup {ds : List PyData} {n : Nat} (h : ∀ d ∈ ds, Shw d n) : Shw (.tuple ds) (n * ds.length + 2 * ds.length + 3) := by
  obtain ⟨h1, h2, h3, h4⟩ := shw_all h
  refine ⟨by rw [PyData.showable]; exact h1, by rw [PyData.hasDict]; exact h2, ?_⟩
  rw [PyData.shown]
  have := tupleText_len_le (PyData.shownAll ds)
  rw [h4] at this
  omega
theorem shw_int {i : Int} (h : i.natAbs < 2 ^ 40) : Shw (.int i) 60 := by
  refine ⟨?_, by rw [PyData.hasDict], ?_⟩
  · rw [PyData.showable]
    refine decide_eq_true ?_
    rcases Nat.eq_zero_or_pos i.natAbs with z | z
    · rw [z]; decide
    · have := (Nat.log2_lt (by omega)).mpr h
      omega
  · rw [PyData.shown]
    have h2 := nat_repr_length_le (n := i.natAbs) (k := 40) (by decide) h
    rw [PySem.ofString_length]
    cases i with
    | ofNat m =>
      have e : toString (Int.ofNat m) = m.repr := rfl
      rw [e]
      have e : (Int.ofNat m).natAbs = m := rfl
      rw [e] at h2
      omega
    | negSucc m =>
      have e : toString (Int.negSucc m) = "-" ++ (m + 1).repr := rfl
      rw [e, String.length_append]
      have e : (Int.negSucc m).natAbs = m + 1 := rfl
      rw [e] at h2
      have : "-".length = 1 := rfl
      omega
theorem shw_eC {ns : List Int} (h : cIn (-1000000000) 1000000000 ns) (l : ns.length ≤ 10) : Shw (eC ns) 700 := by
  refine (shw_tup (n := 60) fun d hd => ?_).mono (by rw [List.length_map]; omega)
  obtain ⟨x, hx, rfl⟩ := List.mem_map.mp hd
  have := h x hx
  exact shw_int (by omega)
theorem shw_eI {ns : List Int} (h : cIn (-1000000000) 1000000000 ns) (l : ns.length ≤ 100) : Shw (eI ns) 7000 := by
  refine (shw_lst (n := 60) fun d hd => ?_).mono (by rw [List.length_map]; omega)
  obtain ⟨x, hx, rfl⟩ := List.mem_map.mp hd
  have := h x hx
  exact shw_int (by omega)
theorem shw_eP {cs : List (List Int)} (h : ∀ c ∈ cs, c.length ≤ 10 ∧ cIn (-1000000000) 1000000000 c) (l : cs.length ≤ 100) : Shw (eP cs) 71000 := by
  refine (shw_lst (n := 700) fun d hd => ?_).mono (by rw [List.length_map]; omega)
  obtain ⟨x, hx, rfl⟩ := List.mem_map.mp hd
  exact shw_eC (h x hx).2 (h x hx).1
theorem shw_eG {ps : List (List (List Int))} (h : ∀ p ∈ ps, p.length ≤ 100 ∧ ∀ c ∈ p, c.length ≤ 10 ∧ cIn (-1000000000) 1000000000 c) (l : ps.length ≤ 50) : Shw (eG ps) 4000000 := by
  refine (shw_lst (n := 71000) fun d hd => ?_).mono (by rw [List.length_map]; omega)
  obtain ⟨x, hx, rfl⟩ := List.mem_map.mp hd
  exact shw_eP (h x hx).2 (h x hx).1
end Z

set_option Elab.async false
set_option linter.all false
set_option maxRecDepth 100000
namespace Z
open PySem PySem.Spec PyProof.Rows L2
/-! ### great numbers -/
def CPowW (i j : Int) : Prop := 0 ≤ j ∧ j ≤ 1000 ∧ i.natAbs.log2 < 100000
theorem op_powW {X : Cx} : OpR X (binaryOp .Pow) (rI CPowW fun i j => .int (i ^ j.toNat)) := opI fun i j _ _ _ _ _ hc q => by
  refine pow_int hc.1 ?_ q
  have b : Builtin.Int.intBits i ≤ i.natAbs.log2 + 1 := by
    unfold Builtin.Int.intBits
    split <;> omega
  have h1 := hc.1
  have h2 := hc.2.1
  have h3 := hc.2.2
  have h4 : (Builtin.Int.intBits i : Int) ≤ 100000 := by omega
  have h5 : (Builtin.Int.intBits i : Int) * j ≤ 100000 * 1000 := Int.mul_le_mul h4 h2 h1 (by decide)
  exact Int.le_trans h5 (by decide)
def wIn (ns : List Int) : Prop := ∀ x ∈ ns, x.natAbs < 2 ^ 2000
theorem wIn.sub {x y : Int} (hx : x.natAbs < 2 ^ 2000) (hy : y.natAbs < 2 ^ 2000) : (x - y).natAbs < 2 ^ 2001 := by
  rw [Nat.pow_succ 2 2000]
  generalize 2 ^ 2000 = M at *
  omega
theorem powW {x y : Int} (hx : x.natAbs < 2 ^ 2000) (hy : y.natAbs < 2 ^ 2000) : CPowW (x - y) 2 := ⟨by decide, by decide, by
  have := PySem.Flt.log2_lt_of (by decide) (wIn.sub hx hy)
  omega⟩
theorem mulW {x y : Int} (hx : x.natAbs < 2 ^ 2000) (hy : y.natAbs < 2 ^ 2000) : CMulW (x - y) (x - y) := wide_mul (wIn.sub hx hy) (wIn.sub hx hy) (by decide) (by decide) (by decide)
/-! ### a list of lists that is changed -/
structure Gr (B : List Addr) (H : Hp) (wa : Addr) (ras : List Addr) (W : List (List PyData)) : Prop where
  a : H wa = some (.lst (ras.map V.ref))
  nw : wa ∉ B
  nd : (wa :: ras).Nodup
  nb : ∀ r ∈ ras, r ∉ B
  l : ras.length = W.length
  r : ∀ (i : Nat) (ra : Addr) (ds : List PyData), ras[i]? = some ra → W[i]? = some ds → ∃ vs, H ra = some (.lst vs) ∧ DtA (wa :: ras ++ B) H vs ds
theorem Gr.s {B : List Addr} {H H' : Hp} {wa : Addr} {ras : List Addr} {W : List (List PyData)} (g : Gr B H wa ras W) (s : Same H H') : Gr B H' wa ras W := ⟨s _ _ g.a, g.nw, g.nd, g.nb, g.l, fun i ra ds h1 h2 => by
  obtain ⟨vs, e, d⟩ := g.r i ra ds h1 h2
  exact ⟨vs, s _ _ e, d.s s⟩⟩
/-- what else is changed lies in B -/
theorem Gr.g {B : List Addr} {H H' : Hp} {wa : Addr} {ras : List Addr} {W : List (List PyData)} (g : Gr B H wa ras W) (s : Go B H H') : Gr B H' wa ras W := ⟨s.k _ _ g.nw g.a, g.nw, g.nd, g.nb, g.l, fun i ra ds h1 h2 => by
  obtain ⟨vs, e, d⟩ := g.r i ra ds h1 h2
  exact ⟨vs, s.k _ _ (g.nb ra (List.mem_of_getElem? h1)) e, d.g (s.w fun a h => List.mem_append_right _ h)⟩⟩
theorem DtA.put {B : List Addr} {H : Hp} {v : V} {d : PyData} (h : Dt B H v d) : ∀ {vs : List V} {ds : List PyData} (j : Nat), DtA B H vs ds → DtA B H (vs.set j v) (ds.set j d)
  | _, _, _, .nil => .nil
  | _, _, 0, .cons _ h2 => .cons h h2
  | _, _, j + 1, .cons h1 h2 => .cons h1 (DtA.put h j h2)
/-- one thing put in -/
theorem Gr.set {B : List Addr} {H : Hp} {wa : Addr} {ras : List Addr} {W : List (List PyData)} (g : Gr B H wa ras W) {i j : Nat} {ra : Addr} {ds : List PyData} {vs : List V} {v : V} {d : PyData} (h1 : ras[i]? = some ra) (h2 : W[i]? = some ds) (h3 : H ra = some (.lst vs)) (hd : Dt (wa :: ras ++ B) H v d) :
    Gr B (upd H ra (.lst (vs.set j v))) wa ras (W.set i (ds.set j d)) := by
  have mr := List.mem_of_getElem? h1
  have nwr : wa ≠ ra := fun z => (List.nodup_cons.mp g.nd).1 (z ▸ mr)
  have gm : Go (wa :: ras ++ B) H (upd H ra (.lst (vs.set j v))) := Go.refl.at (List.mem_append_left _ (List.mem_cons_of_mem _ mr))
  refine ⟨by rw [upd_ne nwr]; exact g.a, g.nw, g.nd, g.nb, by rw [List.length_set]; exact g.l, fun k rb es k1 k2 => ?_⟩
  by_cases c : k = i
  · subst c
    rw [h1] at k1
    cases k1
    have hk : k < W.length := (List.getElem?_eq_some_iff.mp h2).1
    rw [List.getElem?_set_self hk] at k2
    cases k2
    obtain ⟨us, e, dd⟩ := g.r k ra ds h1 h2
    rw [h3] at e
    cases e
    exact ⟨_, upd_same, DtA.put (hd.g gm) j (dd.g gm)⟩
  · rw [List.getElem?_set_ne (Ne.symm c)] at k2
    obtain ⟨us, e, dd⟩ := g.r k rb es k1 k2
    have nrb : rb ≠ ra := fun z => by
      subst z
      exact c ((List.getElem?_inj (List.getElem?_eq_some_iff.mp k1).1 (List.nodup_cons.mp g.nd).2).mp (k1.trans h1.symm))
    exact ⟨us, by rw [upd_ne nrb]; exact e, dd.g gm⟩
end Z

set_option Elab.async false
set_option linter.all false
set_option maxRecDepth 100000
set_option maxHeartbeats 4000000
namespace Z
open PySem PySem.Spec PyProof.Rows L2
/-! ### a tuple once -/
theorem tuple_mul1 (l : Addr) (items : Array Value) (n : Nat) (dd : Option Addr) (sl : Array (Option Value)) (u : Tok) :
    Meets (Builtin.«tuple.__mul__» ⟨[.ref l, .int 1 u], []⟩) (fun _ R s => s.heap.get? l = some { cls := .type "tuple", dict := dd, data := .seq items n, slots := sl } ∧
      R (.ok (.ret (Value.ref l))) s) :=
  .of_wp fun prog w A R s h => by
    obtain ⟨hp, g, d, tk, os⟩ := s
    obtain ⟨hl, h⟩ := h
    have f1 := AutoSeq1.idx_int
    have c0 : (decide ((1 : Int) < -(2 ^ 63)) || decide ((1 : Int) ≥ 2 ^ 63)) = false := by decide
    have c1 : (items.isEmpty || (1 : Int) == 1) = true := by simp
    wp_walk using wpAny_loadPart' hl
    repeat (first
      | (refine wpAny_ite_false (decide_eq_false (by rw [c0]; exact Bool.false_ne_true)) ?_; wp_walk using wpAny_loadPart' hl)
      | (refine wpAny_ite_true (decide_eq_true (by rw [c1])) ?_; wp_walk using wpAny_loadPart' hl))
    exact ⟨_, rfl, h⟩
def rRepTT (K : PySem.W.Frag) : R2 := fun x y H Q => ∃ l k xs, x = .ref l ∧ y = .int k ∧ SqT K H l xs ∧ xs ≠ [] ∧ 1 ≤ k ∧ k ≤ 1000 ∧ xs.length ≤ 1000 ∧ (k = 1 → Q (.ref l) H) ∧ (2 ≤ k → ∀ p, H p = none → Q (.ref p) (upd H p (.tup (List.replicate k.toNat xs).flatten)))
theorem op_repTT {X : Cx} : OpR X (binaryOp .Mult) (rRepTT X.K) := by
  intro pins s σ H x y v u Q I rx ry h
  obtain ⟨l, k, xs, ex, ey, hT, hne, h1, h2, hz, q1, q2⟩ := h
  by_cases c : k = 1
  · subst c
    subst ex ey
    have q := q1 rfl
    cases rx
    obtain ⟨t, rfl⟩ := ry
    obtain ⟨its, r, ⟨⟨cls, dd, data, sl⟩, ho, hc, n, hd⟩, hs⟩ := I.tuple hT
    simp only at hc hd
    subst hc hd
    refine wpAny_binaryOp_repeat_ref (T := "tuple") (U := "int") (by decide) ⟨_, ho, rfl⟩ (fun s' => typeIs_int s' 1 t) noFill_tuple_mul F.fills_int_mul F.slot_int_rmul repeat_tuple F.slot_int_index.lookup
      (call_meets F.slot_int_rmul (typeIs_int s 1 t) F.entry_int_rmul (F.args_int_rmul_2 _ _) (int_rmul_tuple 1 t l its.toArray n dd sl)
        ⟨ho, rfl, ⟨_, ho, rfl⟩, call_meets F.slot_tuple_mul ⟨_, ho, rfl⟩ F.entry_tuple_mul (F.args_tuple_mul_2 _ _) (tuple_mul1 l its.toArray n dd sl t) ⟨ho, ?_⟩⟩)
    exact ⟨.ref l, H, I, rfl, q⟩
  · exact op_repT pins s σ H x y v u Q I rx ry ⟨l, k, xs, ex, ey, hT, hne, by omega, h2, hz, q2 (by omega)⟩
end Z

set_option Elab.async false
set_option linter.all false
set_option maxRecDepth 100000
namespace Z
open PySem PySem.Spec PyProof.Rows L2
/-! ### a range as a value; xs[::s] -/
theorem cr_range1 {X : Cx} : CallR X (.type "range") (fun vs H Q => ∃ j, vs = [V.int j] ∧ ∀ p, H p = none → Q (.ref p) (upd H p (.rng 0 j))) := by
  intro pins s σ H vs us Q I r h
  obtain ⟨j, rfl, q⟩ := h
  obtain ⟨u1, rfl, rj⟩ := vals1 r
  obtain ⟨u, rfl⟩ := rj
  refine call_range_1 ⟨.ref s.heap.objs.size, upd H s.heap.objs.size (.rng 0 j), I.laid (fun b o e => Heap.get?_push_of_some _ e) (Nat.le_refl _) ?_, rfl, q _ (I.hok.fresh (Nat.le_refl _))⟩
  exact ⟨_, _, _, Heap.get?_push_size _ rfl⟩
theorem op_inSK (K : PySem.W.Frag) {X : Cx} (h : X.K = K := by rfl) : OpR X (compareOp .In) (rIn K false) := h ▸ op_in_seq
def stepI (b : Bool) : Int := if b = true then -1 else 1
def tStepL (K : PySem.W.Frag) (te ts : TE) : TE := fun σ H Q => te σ H fun x H1 => tPart ts σ H1 fun o H2 => ∃ a xs b, x = .ref a ∧ o = some (stepI b) ∧ SqL K H2 a xs ∧ ∀ p, H2 p = none → Q (.ref p) (upd H2 p (.lst (if b = true then xs.reverse else xs)))
theorem pe_stepL (K : PySem.W.Frag) {X : Cx} {e st : Expr} {te ts : TE} {p3 pos : Pos} (he : PE X e te) (hs : PE X st ts) (hK : X.K = K := by rfl) : PE X (.Subscript e (.Slice none none (some st) p3) pos) (tStepL K te ts) := by
  subst hK
  refine ⟨fun pins s σ H Q I h => ?_⟩
  refine Subscript_ (thn (he.run pins s σ H _ I h) fun v s1 ⟨x, H1, I1, r1, q1⟩ => ?_)
  have hst : PO X (some st) (tPart ts) := po_some hs
  refine wpAny_Slice (thn (po_none.run pins s1 σ H1 (fun o H2 => o = none ∧ H2 = H1) I1 ⟨rfl, rfl⟩) fun vl s2 ⟨l, H2, I2, pl, el, e2⟩ => ?_)
  subst el e2
  refine thn (po_none.run pins s2 σ H2 (fun o H3 => o = none ∧ H3 = H2) I2 ⟨rfl, rfl⟩) fun vu s3 ⟨u, H3, I3, pu, eu, e3⟩ => ?_
  subst eu e3
  refine thn (hst.run pins s3 σ H3 _ I3 q1) fun vs s4 ⟨o, H4, I4, ps, q4⟩ => ?_
  obtain ⟨a, xs, b, ex, eo, hx, q⟩ := q4
  subst ex eo
  cases r1
  have I5 : Inv X pins σ H4 { s4 with heap := s4.heap.push { cls := .type "slice", data := .fields #[vl, vu, vs] } } := I4.kept (t' := s4.toks) fun b ob q => Heap.get?_push_of_some _ q
  obtain ⟨its, r, ht, hz⟩ := I5.list hx
  have hlen := r.length
  show wpAny (model X.prog X.w) X.A (subscriptTail e (.Slice none none (some st) p3) (.ref a) (.ref s4.heap.objs.size)) (EP X pins σ Q) X.xe { s4 with heap := s4.heap.push { cls := .type "slice", data := .fields #[vl, vu, vs] } }
  refine tail_any (ops := [.ref a, .ref s4.heap.objs.size]) ht.isList.typeIs (PySem.slot_list_getitem.lookup) ?_ (by with_unfolding_all rfl)
  refine wpAny_getItem_list_slice ht.isList (Heap.IsSliceOf.new _ vl vu vs) pl pu ps (by cases b <;> decide) ?_ (by rw [List.size_toArray]; omega)
  cases b with
  | true =>
    show EP X pins σ Q (.ref _) _
    have e1 : slicePick its.toArray none none (some (stepI true)) = its.reverse.toArray := PySem.W.krv_pick _
    rw [e1]
    refine ⟨.ref _, _, I5.laid (t' := s4.toks) (o := .lst xs.reverse) (fun b ob q => Heap.get?_push_of_some _ q) (Nat.le_refl _) ?_, rfl, q _ (I5.hok.fresh (Nat.le_refl _))⟩
    exact ⟨by rw [List.length_reverse]; exact hz, _, 0, r.reverse, Heap.get?_push_size _ rfl⟩
  | false =>
    have e1 : slicePick its.toArray none none (some (stepI false)) = its.toArray := slicePick_all _
    rw [e1]
    refine ⟨.ref _, _, I5.laid (t' := s4.toks) (o := .lst xs) (fun b ob q => Heap.get?_push_of_some _ q) (Nat.le_refl _) ?_, rfl, q _ (I5.hok.fresh (Nat.le_refl _))⟩
    exact ⟨hz, _, 0, r, Heap.get?_push_size _ rfl⟩
end Z

set_option Elab.async false
set_option linter.all false
set_option maxRecDepth 100000
set_option maxHeartbeats 400000
namespace Z
open PySem PySem.Spec PyProof.Rows L2
/-! ### '9' * n, and its number -/
def nines (n : Nat) : Str := ⟨(List.replicate n (Str.ofString "9").cps).foldl (· ++ ·) #[]⟩
theorem nines_int : ∀ i : Fin 41, 1 ≤ i.val → PySem.intText? (nines i.val) = some ((10 : Int) ^ i.val - 1) ∧ (nines i.val).length ≤ 640 := by decide +kernel
def rRep9 : R2 := fun x y H Q => ∃ n : Int, x = .str "9" ∧ y = .int n ∧ 1 ≤ n ∧ n ≤ 40 ∧ Q (.str (nines n.toNat)) H
theorem op_rep9 {X : Cx} : OpR X (binaryOp .Mult) rRep9 := by
  intro pins s σ H x y v u Q I rx ry h
  obtain ⟨n, rfl, rfl, n1, n2, q⟩ := h
  obtain ⟨t, rfl⟩ := rx
  obtain ⟨t', rfl⟩ := ry
  have l9 : (Str.ofString "9").length = 1 := by decide
  refine P.mul_str ?_ (fun _ _ => ?_) (fun _ _ => ?_) ?_
  · rw [decide_eq_false (by omega), decide_eq_false (by omega)]; rfl
  · rw [l9]
    have : (1 : Int) ≤ (2 ^ 63 - 1) / n := Int.le_ediv_of_mul_le (by omega) (by omega)
    omega
  · rw [l9, Nat.one_mul]
    have : n.toNat ≤ 40 := by omega
    show decide (n.toNat > sizeLine) = false
    exact decide_eq_false (fun h => absurd (Nat.lt_of_lt_of_le h this) (by decide))
  · rw [if_neg (by omega)]
    by_cases e : n = 1
    · subst e
      exact ⟨.str (nines 1), H, I, ⟨t, rfl⟩, q⟩
    · have e2 : ((n == 1) || (Str.ofString "9").length == 0) = false := by
        rw [l9]
        simp [e]
      rw [e2, if_neg Bool.false_ne_true]
      refine ⟨?_, .str (nines n.toNat), H, I.tok _, ⟨_, rfl⟩, q⟩
      exact Nat.le_trans (nines_int ⟨n.toNat, by omega⟩ (by show 1 ≤ n.toNat; omega)).2 (by decide)
/-! ### fractions: the greatest measure -/
def ab (t : Int) : Nat := t.natAbs
def gm (t b : Int) : Nat := Nat.gcd t.natAbs b.natAbs
def pn (t b : Int) : Int := (if b < 0 then -t else t) / (gm t b : Int)
def pd (t b : Int) : Int := (if b < 0 then -b else b) / (gm t b : Int)
theorem gm_pos {t b : Int} (h : b ≠ 0) : 0 < gm t b := Nat.gcd_pos_of_pos_right _ (by omega)
theorem gm_le {t b : Int} (h : b ≠ 0) : gm t b ≤ b.natAbs := Nat.gcd_le_right _ (by omega)
theorem pd_pos {t b : Int} (h : b ≠ 0) : 0 < pd t b := by
  have h1 := gm_pos (t := t) h
  have h2 := gm_le (t := t) h
  unfold pd
  have : (1 : Int) ≤ (if b < 0 then -b else b) / (gm t b : Int) := Int.le_ediv_of_mul_le (by omega) (by split <;> omega)
  omega
theorem pd_le {t b : Int} (h : b ≠ 0) : pd t b ≤ (b.natAbs : Int) := by
  have h1 := gm_pos (t := t) h
  unfold pd
  have h2 : (if b < 0 then -b else b) = (b.natAbs : Int) := by split <;> omega
  rw [h2]
  exact Int.ediv_le_self _ (by omega)
theorem ediv_natAbs {x g : Int} (h : 0 < g) : (x / g).natAbs ≤ x.natAbs := by
  rcases Int.le_total 0 x with h1 | h1
  · have a := Int.ediv_nonneg h1 (Int.le_of_lt h)
    have b := Int.ediv_le_self g h1
    omega
  · have a : x ≤ x / g := Int.le_ediv_of_mul_le h (by
      have : x * g ≤ x * 1 := Int.mul_le_mul_of_nonpos_left h1 (by omega)
      omega)
    have b : x / g < 1 := Int.ediv_lt_of_lt_mul h (by omega)
    omega
theorem pn_le {t b : Int} (h : b ≠ 0) : (pn t b).natAbs ≤ t.natAbs := by
  have h1 := gm_pos (t := t) h
  unfold pn
  refine Nat.le_trans (ediv_natAbs (by omega)) ?_
  split <;> omega
/-! ### // by a great number of either sign -/
def CDivN2 (_ j : Int) : Prop := j ≠ 0 ∧ j.natAbs.log2 < 9000
theorem op_fdivM {X : Cx} : OpR X (binaryOp .FloorDiv) (rI CDivN2 fun i j => .int (i.fdiv j)) := opI fun _ _ _ _ _ _ _ hc q => floordiv_int hc.1 q (.inl (PyProof.noPylong_of_log2 hc.2))
theorem fdiv_neg' {t g : Int} (h : 0 < g) : t.fdiv (-g) = (-t) / g := by
  have e : t.fdiv (-g) = (-t).fdiv g := by
    rw [← Int.neg_fdiv_neg (-t) g, Int.neg_neg]
  rw [e, Int.fdiv_eq_ediv_of_nonneg _ (by omega)]
theorem gm_dvd_l (t b : Int) : (gm t b : Int) ∣ t := Int.ofNat_dvd_left.mpr (Nat.gcd_dvd_left _ _)
theorem gm_dvd_r (t b : Int) : (gm t b : Int) ∣ b := Int.ofNat_dvd_left.mpr (Nat.gcd_dvd_right _ _)
theorem pn_mul {t b : Int} (h : b ≠ 0) : pn t b * (gm t b : Int) = if b < 0 then -t else t := by
  unfold pn
  refine Int.ediv_mul_cancel ?_
  split
  · exact Int.dvd_neg.mpr (gm_dvd_l t b)
  · exact gm_dvd_l t b
theorem pd_mul {t b : Int} (h : b ≠ 0) : pd t b * (gm t b : Int) = if b < 0 then -b else b := by
  unfold pd
  refine Int.ediv_mul_cancel ?_
  split
  · exact Int.dvd_neg.mpr (gm_dvd_r t b)
  · exact gm_dvd_r t b
theorem cross {t b : Int} (h : b ≠ 0) : pn t b * b = t * pd t b := by
  have g0 : (gm t b : Int) ≠ 0 := by have := gm_pos (t := t) h; omega
  have e1 := pn_mul (t := t) h
  have e2 := pd_mul (t := t) h
  refine Int.eq_of_mul_eq_mul_right g0 ?_
  have a1 : pn t b * b * (gm t b : Int) = (pn t b * (gm t b : Int)) * b := by rw [Int.mul_assoc, Int.mul_comm b, ← Int.mul_assoc]
  have a2 : t * pd t b * (gm t b : Int) = t * (pd t b * (gm t b : Int)) := Int.mul_assoc ..
  rw [a1, a2, e1, e2]
  split
  · rw [Int.neg_mul, Int.mul_neg]
  · rfl
theorem gm_low {t b : Int} (h : b ≠ 0) : gm (pn t b) (pd t b) = 1 := by
  have gp := gm_pos (t := t) h
  have e1 := pn_mul (t := t) h
  have e2 := pd_mul (t := t) h
  have n1 : (pn t b).natAbs * gm t b = t.natAbs := by
    have := congrArg Int.natAbs e1
    rw [Int.natAbs_mul, Int.natAbs_natCast] at this
    rw [this]
    split <;> omega
  have n2 : (pd t b).natAbs * gm t b = b.natAbs := by
    have := congrArg Int.natAbs e2
    rw [Int.natAbs_mul, Int.natAbs_natCast] at this
    rw [this]
    split <;> omega
  have h3 : gm (pn t b) (pd t b) * gm t b = gm t b := by
    show Nat.gcd (pn t b).natAbs (pd t b).natAbs * gm t b = gm t b
    rw [← Nat.gcd_mul_right, n1, n2]
    rfl
  exact Nat.eq_of_mul_eq_mul_right gp (by rw [h3, Nat.one_mul])
theorem pn_low {t b : Int} (h : b ≠ 0) : pn (pn t b) (pd t b) = pn t b := by
  have hp := pd_pos (t := t) h
  show (if pd t b < 0 then -(pn t b) else pn t b) / (gm (pn t b) (pd t b) : Int) = pn t b
  rw [gm_low h, if_neg (by omega)]
  exact Int.ediv_one _
theorem pd_low {t b : Int} (h : b ≠ 0) : pd (pn t b) (pd t b) = pd t b := by
  have hp := pd_pos (t := t) h
  show (if pd t b < 0 then -(pd t b) else pd t b) / (gm (pn t b) (pd t b) : Int) = pd t b
  rw [gm_low h, if_neg (by omega)]
  exact Int.ediv_one _
end Z

set_option Elab.async false
set_option linter.all false
set_option maxRecDepth 100000
namespace Z
open PySem PySem.Spec PyProof.Rows L2 L2.DX
/-! ### sorted(d.items()), keys tuples of ints, values ints -/
def entI (e : List Int × Int) : List L2.Key × V := (e.1.map Sum.inl, V.int e.2)
def eRow (e : List Int × Int) : PyData := .tuple [eC e.1, .int e.2]
theorem kV_ints (ns : List Int) : (ns.map Sum.inl).map kV = ns.map V.int := by
  rw [List.map_map]
  rfl
theorem reads_ints {h : Heap} : ∀ {ns : List Int} {us : List Value}, Vals (ns.map V.int) us → ReadsAll h us (ns.map .int) []
  | [], _, r => by
    cases r
    exact .nil
  | n :: ns, _, r => by
    cases r with
    | cons r1 r2 =>
      obtain ⟨t, rfl⟩ := r1
      exact ReadsAll.cons (as := []) (bs := []) (.int n t) (reads_ints r2)
theorem zipped {α β : Type} {R : α → β → Prop} : ∀ {as : List α} {bs : List β}, PySem.W.EachIs R as bs → ∃ zs : List (α × β), zs.map Prod.fst = as ∧ zs.map Prod.snd = bs ∧ ∀ z ∈ zs, R z.1 z.2
  | _, _, .nil => ⟨[], rfl, rfl, fun _ h => nomatch h⟩
  | a :: as, b :: bs, .cons h t => by
    obtain ⟨zs, e1, e2, h3⟩ := zipped t
    refine ⟨(a, b) :: zs, by rw [List.map_cons, e1], by rw [List.map_cons, e2], fun z hz => ?_⟩
    rcases List.mem_cons.mp hz with e | e
    · rw [e]; exact h
    · exact h3 z e
theorem fm_some {α : Type} (f : Nat → α) : ∀ n : Nat, (List.range n).filterMap (fun i => some (f i)) = (List.range n).map f := fun n => by
  rw [← List.filterMap_eq_map]
  rfl
def rSortII : List V → Hp → VK → Prop := fun vs H Q => ∃ (p a : Addr) (ks : List (List Int × Int)), vs = [.ref p] ∧ H p = some (itemsO p a) ∧ H a = some (.dT (ks.map entI)) ∧ ks.length ≤ 1000 ∧
  ∀ (H' : Hp) (l : Addr) (ps : List (Addr × List Int × Int)), Same H H' → H l = none → (ps.map (·.2)).Perm ks → H' l = some (.lst (ps.map fun z => V.ref z.1)) →
    (∀ z ∈ ps, ∃ q, H z.1 = none ∧ H' z.1 = some (.tup [.ref q, .int z.2.2]) ∧ H q = some (.tup (z.2.1.map V.int))) → Q (.ref l) H'
section
variable {X : Cx}
theorem set_dictU (hu : X.A.units + 64 < cLine) : PSet X rSetD := set_dict (by omega)
theorem cr_sortedII (hc : X.calm = true) (hu : X.A.units + 64 < cLine) : CallR X (.builtin "sorted") rSortII := by
  intro pins s σ H xs us Q I r h
  obtain ⟨p, a, ks, rfl, hp, ha, h64, q⟩ := h
  obtain rfl := Vals.ref1 r
  have view : s.heap.IsItemsView p a := (show ObjOk X.prog X.w H s.heap p (itemsO p a) from I.hok p _ hp).1
  obtain ⟨z, hd, xs', rel, o, es, ep, ho, hx, hdat, hes, his, hn⟩ := dt_of I.hok ha
  have l1 : (ks.map entI).length = xs'.length := Paired.length rel
  rw [List.length_map] at l1
  have l2 : es.size = xs'.length := size_of_entries hes
  have hh : X.A.handled = none := I.ok.hd hc
  refine DT.sortedI (es := es) (ep := ep) hh view ⟨o, ho, hx, hdat⟩ (by rw [sizeLine_eq]; omega) fun h' tk as hk hlt hl hG => ?_
  have lak : as.length = ks.length := by omega
  have nd : as.Nodup := List.Pairwise.imp (fun h => Nat.ne_of_lt h) hG.rise
  have pr : ∀ (j : Nat) (b : Addr), as[j]? = some b → ∃ (e : List Int × Int) (kq : Addr) (t : Tok), ks[j]? = some e ∧ H kq = some (.tup (e.1.map V.int)) ∧ h'.get? b = some { cls := .type "tuple", data := .seq #[Value.ref kq, Value.int e.2 t] } := by
    intro j b hj
    obtain ⟨en, he, hg⟩ := hG.pairs j b hj
    rw [entry_at hes j] at he
    cases hxj : xs'[j]? with
    | none =>
      rw [hxj] at he
      exact nomatch (show (none : Option DictEntry) = some en from he)
    | some x =>
      rw [hxj] at he
      have een : entryOfKey (tupleKind (mixKind X.prog X.w)) x = en := Option.some.inj he
      obtain ⟨e0, he0, r1, r2, r3⟩ := pget rel hxj
      rw [List.getElem?_map] at he0
      cases hkj : ks[j]? with
      | none =>
        rw [hkj] at he0
        exact nomatch (show (none : Option (List L2.Key × V)) = some e0 from he0)
      | some e =>
        rw [hkj] at he0
        have ee : entI e = e0 := Option.some.inj he0
        rw [← ee] at r2 r3
        obtain ⟨t, r3'⟩ : ∃ t, x.2.2 = Value.int e.2 t := r3
        refine ⟨e, x.2.1, t, rfl, ?_, ?_⟩
        · have r2' : H x.2.1 = some (.tup ((e.1.map Sum.inl).map kV)) := r2
          rw [kV_ints] at r2'
          exact r2'
        · rw [hg, ← een, ← r3']
          all_goals rfl
  have hob : (h'.push { cls := .type "list", data := .seq (as.map Value.ref).toArray }).get? h'.objs.size = some (seqObj "list" (as.map Value.ref).toArray 0) := Heap.get?_push_size _ rfl
  have kb : ∀ b o, s.heap.get? b = some o → (h'.push { cls := .type "list", data := .seq (as.map Value.ref).toArray }).get? b = some o := fun b o e => Heap.get?_push_of_some _ (hk b o e)
  have ne0 : ∀ b o, h'.get? b = some o → b ≠ h'.objs.size := fun b o e => Nat.ne_of_lt (Heap.lt_size e)
  generalize hh2 : h'.push { cls := .type "list", data := .seq (as.map Value.ref).toArray } = h2 at hob kb ⊢
  have ka : ∀ b o, h'.get? b = some o → h2.get? b = some o := fun b o e => by rw [← hh2]; exact Heap.get?_push_of_some _ e
  have rd : ∀ (j : Nat) (b : Addr) (e : List Int × Int), as[j]? = some b → ks[j]? = some e → Reads h2 (.ref b) (eRow e) [] := by
    intro j b e hj he
    obtain ⟨e', kq, t, he', hkq, hg⟩ := pr j b hj
    have ee : e' = e := Option.some.inj (he'.symm.trans he)
    subst ee
    obtain ⟨_, its, rv, ot, hot, hct, nt, hdt⟩ := (show ObjOk X.prog X.w H s.heap kq (.tup (e'.1.map V.int)) from I.hok kq _ hkq)
    refine .tuple (ka _ _ hg) rfl rfl ?_
    refine ReadsAll.cons (as := []) (bs := []) (Reads.tuple (kb _ _ hot) hct hdt ?_) (ReadsAll.cons (as := []) (bs := []) (.int _ t) .nil)
    have := reads_ints (h := h2) rv
    simpa using this
  have lens : (as.map Value.ref).length = ks.length := by rw [List.length_map, lak]
  have zidx : ∀ pz ∈ (as.map Value.ref).zip ks, ∃ (j : Nat) (b : Addr), pz.1 = .ref b ∧ as[j]? = some b ∧ ks[j]? = some pz.2 := by
    intro pz hpz
    obtain ⟨j, hj⟩ := List.mem_iff_getElem?.mp hpz
    obtain ⟨h1, h2'⟩ := List.getElem?_zip_eq_some.mp hj
    rw [List.getElem?_map] at h1
    cases e : as[j]? with
    | none => rw [e] at h1; cases h1
    | some b =>
      rw [e] at h1
      exact ⟨j, b, (Option.some.inj h1).symm, e, h2'⟩
  refine PySem.W.list_sort_data (s := { s with heap := h2, toks := tk }) (A := X.A.in1) (n := 0) (vs := as.map Value.ref) (bs := ks) (enc := eRow) (R := fun v e => ∃ (j : Nat) (b : Addr), v = .ref b ∧ as[j]? = some b ∧ ks[j]? = some e) hob
    (PySem.W.EachIs.of_zip lens zidx) (PySem.W.EachIs.of_zip lens fun pz hpz => ?_) (PySem.W.AllAlike.of fun b b' => ?_) (PySem.W.Sortable.tuples fun b => ⟨_, _, rfl⟩) (by rw [sizeLine_eq]; omega) (fun b _ => ?_) fun out lo eo => ?_
  · obtain ⟨j, b, e1, e2, e3⟩ := zidx pz hpz
    rw [e1]
    exact ⟨[], rd j b _ e2 e3, fun h => nomatch h⟩
  · unfold eRow eC
    simp [PySem.W.alike, PySem.W.alikeAll, PySem.W.alike_ints]
  · have : (eRow b).depth = 2 := by
      unfold eRow eC
      simp [PyData.depth, PyData.depthAll, PySem.W.depth_ints]
    show X.A.units + 1 + 1 + (eRow b).depth < cLine
    omega
  · show EP X pins σ Q (.ref h'.objs.size) { s with heap := sortedHeap h2 h'.objs.size (as.map Value.ref) out.toArray, toks := tk }
    obtain ⟨zs0, z1, z2, z3⟩ := zipped eo
    -- the addresses
    obtain ⟨zs, w1, w2, w3⟩ : ∃ zs : List (Addr × List Int × Int), zs.map (fun z => Value.ref z.1) = out ∧ zs.map (·.2) = ks.mergeSort (PySem.W.dataLe false eRow) ∧ ∀ z ∈ zs, ∃ j : Nat, as[j]? = some z.1 ∧ ks[j]? = some z.2 := by
      rw [← z1, ← z2]
      clear z1 z2 eo lo
      induction zs0 with
      | nil => exact ⟨[], rfl, rfl, fun _ h => nomatch h⟩
      | cons y ys ih =>
        obtain ⟨zs, w1, w2, w3⟩ := ih fun z hz => z3 z (List.mem_cons_of_mem _ hz)
        obtain ⟨j, b, e1, e2, e3⟩ := z3 y (List.mem_cons_self ..)
        refine ⟨(b, y.2) :: zs, by rw [List.map_cons, List.map_cons, w1, e1], by rw [List.map_cons, List.map_cons, w2], fun z hz => ?_⟩
        rcases List.mem_cons.mp hz with e | e
        · rw [e]; exact ⟨j, e2, e3⟩
        · exact w3 z e
    have hperm : (zs.map (·.2)).Perm ks := by
      rw [w2]
      exact List.mergeSort_perm _ _
    have kF : ∀ b o, b ≠ h'.objs.size → h2.get? b = some o → (sortedHeap h2 h'.objs.size (as.map Value.ref) out.toArray).get? b = some o := fun b o hb e => (PyProof.Rows.sortedHeap_old hb (Heap.lt_size e)).trans e
    have kS : ∀ b o, s.heap.get? b = some o → (sortedHeap h2 h'.objs.size (as.map Value.ref) out.toArray).get? b = some o := fun b o e => kF b o (ne0 _ _ (hk b o e)) (kb b o e)
    obtain ⟨eF, heF⟩ := PyProof.Rows.sortedHeap_at (vs := as.map Value.ref) (out := out.toArray) hob
    have I1 : Inv X pins σ H { s with heap := sortedHeap h2 h'.objs.size (as.map Value.ref) out.toArray, toks := tk } := I.kept (t' := tk) kS
    have hn0 : H h'.objs.size = none := I.hok.fresh (Nat.le_of_lt hlt)
    have hlen : (zs.map fun z => V.ref z.1).length ≤ sizeLine := by
      have e := hperm.length_eq
      rw [List.length_map] at e
      rw [List.length_map, sizeLine_eq]
      omega
    have rv : Vals (zs.map fun z => V.ref z.1) out.toArray.toList := by
      show Vals _ out
      rw [← w1]
      exact vals_maps (fun z : Addr × List Int × Int => V.ref z.1) (fun z => Value.ref z.1) zs fun _ _ => rfl
    have I2 : Inv X pins σ (upd H h'.objs.size (.lst (zs.map fun z => V.ref z.1))) { s with heap := sortedHeap h2 h'.objs.size (as.map Value.ref) out.toArray, toks := tk } :=
      I1.take (h' := sortedHeap h2 h'.objs.size (as.map Value.ref) out.toArray) (t' := tk) (fun b ob _ e => e) (I.fpOk (Nat.le_of_lt hlt) hn0) ⟨hlen, out.toArray.toList, eF, rv, heF⟩
    obtain ⟨H2, I3, g, qt⟩ := takeT (P := fun b vs => ∃ (j : Nat) (e : List Int × Int) (kq : Addr), as[j]? = some b ∧ ks[j]? = some e ∧ vs = [.ref kq, .int e.2] ∧ H kq = some (.tup (e.1.map V.int))) I as _ I2 nd fun b hb => by
      obtain ⟨j, hj⟩ := List.mem_iff_getElem?.mp hb
      obtain ⟨e, kq, t, he, hkq, hg⟩ := pr j b hj
      have hbl : s.heap.objs.size ≤ b := Nat.le_of_lt (hG.above b hb)
      refine ⟨hbl, ?_, [.ref kq, .int e.2], ⟨j, e, kq, hj, he, rfl, hkq⟩, fun H3 => ⟨(by rw [sizeLine_eq]; show 2 ≤ 16777216; omega), [Value.ref kq, Value.int e.2 t], .cons rfl (.cons ⟨t, rfl⟩ .nil), ⟨_, kF _ _ (ne0 _ _ hg) (ka _ _ hg), rfl, 0, rfl⟩⟩⟩
      rw [upd_ne (ne0 _ _ hg)]
      exact I.hok.fresh hbl
    have gr : ∀ b o, H b = some o → H2 b = some o := fun b o e => g b o (by rw [upd_ne (ne_of_none e hn0)]; exact e)
    refine ⟨.ref h'.objs.size, H2, I3, rfl, q H2 h'.objs.size zs gr hn0 hperm (g _ _ upd_same) fun z' hz' => ?_⟩
    obtain ⟨i, i1, i2⟩ := w3 z' hz'
    obtain ⟨vs, ⟨j, e, kq, j1, j2, ev, hkq⟩, hH⟩ := qt z'.1 (List.mem_of_getElem? i1)
    have eij : i = j := (List.getElem?_inj (List.getElem?_eq_some_iff.mp i1).1 nd).mp (i1.trans j1.symm)
    subst eij
    have ee : e = z'.2 := Option.some.inj (j2.symm.trans i2)
    rw [ev, ee] at hH
    rw [ee] at hkq
    exact ⟨kq, I.hok.fresh (Nat.le_of_lt (hG.above _ (List.mem_of_getElem? i1))), hH, hkq⟩
end
end Z

set_option Elab.async false
set_option linter.all false
set_option maxRecDepth 100000
set_option maxHeartbeats 400000
namespace Z
open PySem PySem.Spec PyProof.Rows L2
/-! ### fractions as numbers -/
theorem pn_q {t b : Int} (h : b ≠ 0) : pn t b = (Rat.divInt t b).num := by
  rw [Rat.num_divInt]
  unfold pn gm
  rw [show Int.gcd b t = Nat.gcd t.natAbs b.natAbs from Nat.gcd_comm _ _]
  congr 1
  by_cases h0 : b < 0
  · rw [if_pos h0, Int.sign_eq_neg_one_of_neg h0]; omega
  · rw [if_neg h0, Int.sign_eq_one_of_pos (by omega)]; omega
theorem pd_q {t b : Int} (h : b ≠ 0) : pd t b = ((Rat.divInt t b).den : Int) := by
  rw [Rat.den_divInt, if_neg h]
  unfold pd gm
  rw [show Int.gcd b t = Nat.gcd t.natAbs b.natAbs from Nat.gcd_comm _ _, Int.natCast_ediv]
  congr 1
  split <;> omega
/-- x over M, its top at most A -/
def Fr (M A : Nat) (x : Rat) : Prop := ∃ a : Int, x = Rat.divInt a M ∧ a.natAbs ≤ A
theorem Fr.den {M A : Nat} {x : Rat} (h : Fr M A x) (hM : 0 < M) : x.den ≤ M := by
  obtain ⟨a, rfl, _⟩ := h
  rw [Rat.den_divInt, if_neg (by omega)]
  exact Nat.le_trans (Nat.div_le_self _ _) (by omega)
theorem ediv_nat {x : Int} (g : Nat) : (x / (g : Int)).natAbs ≤ x.natAbs := by
  rcases Nat.eq_zero_or_pos g with h | h
  · subst h; simp
  rcases Int.le_total 0 x with h1 | h1
  · have a := Int.ediv_nonneg h1 (Int.natCast_nonneg g)
    have b := Int.ediv_le_self (g : Int) h1
    omega
  · have a : x ≤ x / (g : Int) := Int.le_ediv_of_mul_le (by omega) (by
      have : x * (g : Int) ≤ x * 1 := Int.mul_le_mul_of_nonpos_left h1 (by omega)
      omega)
    have b : x / (g : Int) < 1 := Int.ediv_lt_of_lt_mul (by omega) (by omega)
    omega
theorem Fr.num {M A : Nat} {x : Rat} (h : Fr M A x) (hM : 0 < M) : x.num.natAbs ≤ A := by
  obtain ⟨a, rfl, ha⟩ := h
  rw [Rat.num_divInt, Int.sign_eq_one_of_pos (by omega), Int.one_mul]
  exact Nat.le_trans (ediv_nat _) ha
theorem Fr.add {M A B : Nat} {x y : Rat} (hM : 0 < M) (h : Fr M A x) (h2 : Fr M B y) : Fr M (A + B) (x + y) := by
  obtain ⟨a, rfl, ha⟩ := h
  obtain ⟨b, rfl, hb⟩ := h2
  refine ⟨a + b, ?_, by omega⟩
  have hm : (M : Int) ≠ 0 := by omega
  rw [Rat.divInt_add_divInt _ _ hm hm, ← Int.add_mul, Rat.divInt_mul_right hm]
theorem Fr.mul {M N A B : Nat} {x y : Rat} (h : Fr M A x) (h2 : Fr N B y) : Fr (M * N) (A * B) (x * y) := by
  obtain ⟨a, rfl, ha⟩ := h
  obtain ⟨b, rfl, hb⟩ := h2
  refine ⟨a * b, by rw [Rat.divInt_mul_divInt, Int.natCast_mul], ?_⟩
  rw [Int.natAbs_mul]
  exact Nat.mul_le_mul ha hb
theorem Fr.neg {M A : Nat} {x : Rat} (h : Fr M A x) : Fr M A (-x) := by
  obtain ⟨a, rfl, ha⟩ := h
  exact ⟨-a, by rw [Rat.neg_divInt], by omega⟩
theorem Fr.mono {M A B : Nat} {x : Rat} (h : Fr M A x) (l : A ≤ B) : Fr M B x := by
  obtain ⟨a, e, ha⟩ := h
  exact ⟨a, e, by omega⟩
theorem Fr.int {M A : Nat} {n : Int} (hM : 0 < M) (h : n.natAbs ≤ A) : Fr M (A * M) (n : Rat) := by
  refine ⟨n * M, ?_, ?_⟩
  · have hm : (M : Int) ≠ 0 := by omega
    have : Rat.divInt (n * M) (1 * M) = Rat.divInt n 1 := Rat.divInt_mul_right hm
    rw [Int.one_mul] at this
    rw [this, ← Rat.num_divInt_den (n : Rat)]
    rfl
  · rw [Int.natAbs_mul, Int.natAbs_natCast]
    exact Nat.mul_le_mul_right _ h
theorem Fr.of {t b : Int} {M A : Nat} (hb : 0 < b) (hd : b ∣ (M : Int)) (hM : 0 < M) (hA : t.natAbs * M ≤ A) : Fr M A (Rat.divInt t b) := by
  obtain ⟨k, hk⟩ := hd
  have k0 : 0 < k := by
    have h0 : 0 < b * k := by omega
    rcases Int.lt_or_le 0 k with z | z
    · exact z
    · have := Int.mul_nonpos_of_nonneg_of_nonpos (Int.le_of_lt hb) z
      omega
  refine ⟨t * k, ?_, ?_⟩
  · rw [hk, Rat.divInt_mul_right (by omega)]
  · refine Nat.le_trans ?_ hA
    rw [Int.natAbs_mul]
    refine Nat.mul_le_mul_left _ ?_
    have : k ≤ b * k := by
      have : 1 * k ≤ b * k := Int.mul_le_mul_of_nonneg_right (by omega) (by omega)
      omega
    omega
/-- how far a colour is from a middle, by places -/
def sq (x : Rat) : Rat := x * x
def farN (c : List Int) (m : List Rat) : Nat → Rat
  | 0 => 0
  | i + 1 => farN c m i + sq ((c.getD i 0 : Rat) - m.getD i 0)
theorem Fr.sub {M A B : Nat} {x y : Rat} (hM : 0 < M) (h : Fr M A x) (h2 : Fr M B y) : Fr M (A + B) (x - y) := by
  rw [Rat.sub_eq_add_neg]
  exact h.add hM h2.neg
theorem Fr.zero {M A : Nat} (hM : 0 < M) : Fr M A 0 := by
  refine ⟨0, ?_, by simp⟩
  rw [Rat.zero_divInt]
theorem farN_fr {c : List Int} {m : List Rat} {M A C : Nat} (hM : 0 < M) (hc : ∀ i, (c.getD i 0).natAbs ≤ C) (hm : ∀ z ∈ m, Fr M A z) : ∀ i, Fr (M * M) (i * ((C * M + A) * (C * M + A))) (farN c m i)
  | 0 => Fr.zero (Nat.mul_pos hM hM)
  | i + 1 => by
    rw [Nat.succ_mul]
    have hz : Fr M A (m.getD i 0) := by
      rw [List.getD_eq_getElem?_getD]
      cases e : m[i]? with
      | none => exact Fr.zero hM
      | some z => exact hm z (List.mem_of_getElem? e)
    have g := (Fr.int hM (hc i)).sub hM hz
    exact (farN_fr hM hc hm i).add (Nat.mul_pos hM hM) (g.mul g)
theorem farN_nonneg (c : List Int) (m : List Rat) : ∀ i, 0 ≤ farN c m i
  | 0 => Rat.le_refl
  | i + 1 => Rat.add_nonneg (farN_nonneg c m i) (by
    unfold sq
    rcases Rat.nonneg_total ((c.getD i 0 : Rat) - m.getD i 0) with h | h
    · exact Rat.mul_nonneg h h
    · have := Rat.mul_nonneg h h
      rw [Rat.neg_mul, Rat.mul_neg, Rat.neg_neg] at this
      exact this)
/-- the first of the least -/
def argF (f : Nat → Rat) : Nat → Nat
  | 0 => 0
  | i + 1 => if f i < f (argF f i) then i else argF f i
theorem argF_lt (f : Nat → Rat) : ∀ n, 0 < n → argF f n < n
  | 0, h => absurd h (by omega)
  | n + 1, _ => by
    rw [argF]
    split
    · omega
    · rcases Nat.eq_zero_or_pos n with e | e
      · subst e; exact Nat.zero_lt_one
      · have := argF_lt f n e; omega
/-- small enough to reckon with -/
def lim : Nat := 2 ^ 2000
def lim2 : Nat := 2 ^ 4000
def Qb (x : Rat) : Prop := x.den < lim ∧ x.num.natAbs < lim
theorem Fr.qb {M A : Nat} {x : Rat} (h : Fr M A x) (hM : 0 < M) (h1 : M < lim) (h2 : A < lim) : Qb x := ⟨Nat.lt_of_le_of_lt (h.den hM) h1, Nat.lt_of_le_of_lt (h.num hM) h2⟩
theorem qq (x : Rat) : Rat.divInt x.num (x.den : Int) = x := Rat.num_divInt_den x
theorem add_q (p r : Rat) : Rat.divInt (p.num * r.den + r.num * p.den) (p.den * r.den) = p + r := by
  have h1 : (p.den : Int) ≠ 0 := by have := p.den_nz; omega
  have h2 : (r.den : Int) ≠ 0 := by have := r.den_nz; omega
  rw [← Rat.divInt_add_divInt _ _ h1 h2, qq, qq]
theorem mul_q (p r : Rat) : Rat.divInt (p.num * r.num) (p.den * r.den) = p * r := by
  rw [← Rat.divInt_mul_divInt, qq, qq]
theorem lt_q (p r : Rat) : decide (p.num * r.den < r.num * p.den) = decide (p < r) := decide_eq_decide.mpr (Rat.lt_iff p r).symm
def qp (x : Rat) : Int × Int := (x.num, (x.den : Int))
theorem lim_lim : lim * lim ≤ lim2 := by unfold lim lim2; rw [← Nat.pow_add]; exact Nat.le_refl _
theorem mul_lim {a b : Nat} (h1 : a < lim) (h2 : b < lim) : a * b < lim2 := Nat.lt_of_lt_of_le (Nat.mul_lt_mul'' h1 h2) lim_lim
theorem lim_mul {i j : Int} (h1 : i.natAbs < lim2) (h2 : j.natAbs < lim2) : CMulW i j := wide_mul (a := 4000) (b := 4000) h1 h2 (by decide) (by decide) (by decide)
theorem lim_le : lim ≤ lim2 := Nat.pow_le_pow_right (by decide) (by decide)
theorem to_lim {a b : Nat} (h : a ≤ b) (hb : b < lim := by decide +kernel) : a < lim := Nat.lt_of_le_of_lt h hb
theorem to_lim2 {a b : Nat} (h : a ≤ b) (hb : b < lim2 := by decide +kernel) : a < lim2 := Nat.lt_of_le_of_lt h hb
theorem lim_div {i j : Int} (h : 0 < j) (hb : j.natAbs < lim2) : CDivW i j := wide_div (b := 4000) h hb (by decide) (by decide)
theorem lim_divN {i j : Int} (h : j ≠ 0) (hb : j.natAbs < lim2) : CDivN2 i j := ⟨h, Nat.lt_of_lt_of_le (PySem.Flt.log2_lt_of (k := 4000) (by decide) hb) (by decide)⟩
end Z

set_option Elab.async false
set_option linter.all false
set_option maxRecDepth 100000
namespace Z
open PySem PySem.Spec PyProof.Rows L2
/-! ### zip of a tuple and a list -/
def ItTL (K : PySem.W.Frag) (a b : Addr) : It where
  go := fun i H => ∃ (xs ys : List V) (x y : V), (SqT K H a xs ∧ SqL K H b ys) ∧ xs[i]? = some x ∧ ys[i]? = some y
  yld := fun i H v H' => ∃ (T : Addr) (x y : V), v = .ref T ∧ H T = none ∧ H' = upd H T (.tup [x, y]) ∧ (∀ l, SqT K H a l → l[i]? = some x) ∧ (∀ l, SqL K H b l → l[i]? = some y)
  stop := fun i H => ∃ xs ys : List V, (SqT K H a xs ∧ SqL K H b ys) ∧ i ≤ xs.length ∧ i ≤ ys.length ∧ (i = xs.length ∨ i = ys.length)
def own2 (z TI TO i1 i2 : Addr) : List Addr := [z, TI, TO, i1, i2]
def atTL (a b z TI TO i1 i2 : Addr) (i : Nat) (h : Heap) : Prop :=
  IsZip h z TI TO .none ∧ IsTupOf2 h TI (.ref i1) (.ref i2) ∧ (∃ x y, IsTupOf2 h TO x y) ∧ h.IsTupleIter i1 a i ∧ h.IsListIter i2 b i
theorem five {z TI TO i1 i2 q : Addr} (h : q ∈ own2 z TI TO i1 i2) : q = z ∨ q = TI ∨ q = TO ∨ q = i1 ∨ q = i2 := by
  simpa [own2] using h
theorem ne_itT {h : Heap} {t it l : Addr} {items : Array Value} {i : Nat} (p : h.IsTuple t items) (q : h.IsTupleIter it l i) : t ≠ it := fun e => by
  obtain ⟨o, ho, hcl, _⟩ := p
  obtain ⟨o', ho', hcl', _⟩ := q
  rw [e, ho'] at ho
  have eo := Option.some.inj ho
  rw [eo, hcl] at hcl'
  exact absurd (Value.type.inj hcl') (by decide)
theorem ne_itL {h : Heap} {t it l : Addr} {items : Array Value} {i : Nat} (p : h.IsList t items) (q : h.IsListIter it l i) : t ≠ it := fun e => by
  obtain ⟨o, ho, hcl, _⟩ := p
  obtain ⟨o', ho', hcl', _⟩ := q
  rw [e, ho'] at ho
  have eo := Option.some.inj ho
  rw [eo, hcl] at hcl'
  exact absurd (Value.type.inj hcl') (by decide)
set_option maxHeartbeats 1000000 in
theorem turnTL {P : Program} {w : World} {K : PySem.W.Frag} {elts : List Expr} {kk : Nat} {tpos : Pos} {a b z TI TO i1 i2 : Addr} (D : ZipSep2 z TI TO i1 i2 [i1, a] [i2, b]) :
    Turn P w K (.Tuple elts kk tpos) (ItTL K a b) (own2 z TI TO i1 i2) z (atTL a b z TI TO i1 i2) := by
  refine ⟨by simp [own2], fun i h st q hq => ?_, fun i h h' st k => ?_, ?_, ?_, fun A i s Q E st h => wpAny_pyIter_zip st.1 h⟩
  · obtain ⟨hz, hTI, ⟨x, y, hTO⟩, ⟨o1, e1, _, d1⟩, ⟨o2, e2, _, d2⟩⟩ := st
    rcases five hq with rfl | rfl | rfl | rfl | rfl
    · exact ⟨_, hz, fun v q => nomatch q⟩
    · exact ⟨_, hTI, fun v q => nomatch q⟩
    · exact ⟨_, hTO, fun v q => nomatch q⟩
    · exact ⟨o1, e1, fun v q => by rw [d1] at q; cases q⟩
    · exact ⟨o2, e2, fun v q => by rw [d2] at q; cases q⟩
  · obtain ⟨hz, hTI, ⟨x, y, hTO⟩, h1, h2⟩ := st
    exact ⟨k z (by simp [own2]) _ hz, k TI (by simp [own2]) _ hTI, ⟨x, y, k TO (by simp [own2]) _ hTO⟩, h1.at fun o q => k i1 (by simp [own2]) o q, h2.at fun o q => k i2 (by simp [own2]) o q⟩
  · intro X hP hw hK hc i pins s σ H E I hf st hg
    subst hP hw hK
    obtain ⟨hz, hTI, ⟨x0, y0, hTO⟩, h1, h2⟩ := st
    obtain ⟨xs, ys, x, y, ⟨qx, qy⟩, fx, fy⟩ := hg
    obtain ⟨js1, r1, p1, _⟩ := I.tuple qx
    obtain ⟨js2, r2, p2, _⟩ := I.list qy
    obtain ⟨u1, f1, m1⟩ := r1.get fx
    obtain ⟨u2, f2, m2⟩ := r2.get fy
    have lz : z < s.heap.objs.size := Heap.lt_size hz
    have hd := I.ok.hd hc
    have n1 : a ≠ i1 := ne_itT p1 h1
    have n2 : b ≠ i2 := ne_itL p2.isList h2
    have k1 : i < js1.toArray.size := by have := (List.getElem?_eq_some_iff.mp f1).1; simpa using this
    have k2 : i < js2.toArray.size := by have := (List.getElem?_eq_some_iff.mp f2).1; simpa using this
    refine wpAny_pyNext_zipD2_item D (Draws.tuple (A := X.A.in1) hd i1 a n1 js1.toArray) (Draws.list (A := X.A.in1) hd i2 b n2 js2.toArray) hz hTI hTO ⟨h1, p1⟩ ⟨h2, p2.isList⟩ k1 k2 fun x1 x2 h' tk e1 e2 z' TO' st1 st2 hT hsz hk => ?_
    have w1 : x1 = u1 := Option.some.inj (e1.symm.trans (by simpa using f1))
    have w2 : x2 = u2 := Option.some.inj (e2.symm.trans (by simpa using f2))
    subst w1 w2
    refine ⟨_, rfl, wpAny_letOwnedTupleGo_zip (s := { s with heap := h', toks := tk }) z' fun h'' z'' sb => ?_⟩
    have up : ∀ q o, q ≠ z → h'.get? q = some o → h''.get? q = some o := fun q o n e => (sb.2 q n).trans e
    have hT2 := up _ _ (Nat.ne_of_gt lz) hT
    have fresh : H s.heap.objs.size = none := I.hok.fresh (Nat.le_refl _)
    have new : ObjOk X.prog X.w (upd H s.heap.objs.size (.tup [x, y])) h'' s.heap.objs.size (.tup [x, y]) :=
      ⟨by show 2 ≤ sizeLine; decide, [x1, x2], .cons m1 (.cons m2 .nil), ⟨_, hT2, rfl, _, rfl⟩⟩
    have kp : ∀ q o, q ∉ own2 z TI TO i1 i2 → s.heap.get? q = some o → h''.get? q = some o := fun q o nq e => by
      have nz : q ≠ z := fun y => nq (by simp [own2, y])
      refine up q o nz (hk q o nz (fun y => nq (by simp [own2, y])) (fun y => nq (by simp [own2, y])) (fun y => nq (by simp [own2, y])) e)
    have zi : ∀ {j : Addr} {fp : List Addr}, j ∈ fp → z ∉ fp → j ≠ z := fun hj hz e => hz (by rw [← e]; exact hj)
    refine ⟨.ref s.heap.objs.size, _, I.turnedNew (t' := tk) (ch := own2 z TI TO i1 i2) kp hf (Nat.le_refl _) new, rfl, ⟨_, x, y, rfl, fresh, rfl, fun l hl => by rw [I.tuple_inj hl qx]; exact fx, fun l hl => by rw [I.list_inj hl qy]; exact fy⟩, ⟨z'', ?_, ⟨x1, x2, up _ _ D.TOz TO'⟩, ?_, ?_⟩, fun q hq => ?_⟩
    · exact up _ _ D.TIz (hk _ _ D.TIz D.TITO D.TIi1 D.TIi2 hTI)
    · exact st1.1.at fun o e => up _ _ (zi D.mem1 D.zf1) e
    · exact st2.1.at fun o e => up _ _ (zi D.mem2 D.zf2) e
    · have lq : q < s.heap.objs.size := by
        rcases five hq with rfl | rfl | rfl | rfl | rfl
        · exact lz
        · exact Heap.lt_size hTI
        · exact Heap.lt_size hTO
        · obtain ⟨_, e, _⟩ := h1; exact Heap.lt_size e
        · obtain ⟨_, e, _⟩ := h2; exact Heap.lt_size e
      rw [upd_ne (Nat.ne_of_lt lq)]
      exact (hf q hq).1
  · intro X hP hw hK hc i pins s σ H E I hf st hg
    subst hP hw hK
    obtain ⟨hz, hTI, ⟨x0, y0, hTO⟩, h1, h2⟩ := st
    obtain ⟨xs, ys, ⟨qx, qy⟩, b1, b2, hend⟩ := hg
    obtain ⟨js1, r1, p1, _⟩ := I.tuple qx
    obtain ⟨js2, r2, p2, _⟩ := I.list qy
    have hd := I.ok.hd hc
    have l1 := r1.length
    have l2 := r2.length
    have n1 : a ≠ i1 := ne_itT p1 h1
    have n2 : b ≠ i2 := ne_itL p2.isList h2
    refine wpAny_pyNext_zipD2_end D (Draws.tuple (A := X.A.in1) hd i1 a n1 js1.toArray) (Draws.list (A := X.A.in1) hd i2 b n2 js2.toArray) hz hTI hTO ⟨h1, p1⟩ ⟨h2, p2.isList⟩ (by simp; omega) (by simp; omega) (by simp; omega) fun h' tk hk => ?_
    exact ⟨rfl, I.turnedL (t' := tk) (ch := own2 z TI TO i1 i2) (fun q o nq e => hk q o (fun y => nq (by simp [own2, y])) (fun y => nq (by simp [own2, y])) (fun y => nq (by simp [own2, y])) (fun y => nq (by simp [own2, y])) e) hf⟩
set_option maxHeartbeats 400000
def iZipTX (K : PySem.W.Frag) (ta : TA) : TI := fun σ H R => ta σ H fun vs H1 => ∃ a b xs ys, vs = [.ref a, .ref b] ∧ ((SqT K H1 a xs ∧ SqL K H1 b ys ∧ R (ItTL K a b) H1) ∨ (SqT K H1 a xs ∧ SqT K H1 b ys ∧ R (RZ.ItzT K a b) H1))
theorem own2_le {N y : Nat} (hy : y ∈ own2 (N + 4) (N + 2) (N + 3) N (N + 1)) : N ≤ y := by
  rcases five hy with z | z | z | z | z <;> rw [z]
  · exact Nat.le_add_right _ _
  · exact Nat.le_add_right _ _
  · exact Nat.le_add_right _ _
  · exact Nat.le_refl _
  · exact Nat.le_add_right _ _
theorem zipTL_end {X : Cx} {pins : List (Addr × Obj)} {σ : L2.St} {H1 : Hp} {s1 : Shared} {R : It → Hp → Prop} {a b : Addr} {xs ys : List V} {elts : List Expr} {kk : Nat} {tpos : Pos} (I1 : Inv X pins σ H1 s1) (qx : SqT X.K H1 a xs) (qy : SqL X.K H1 b ys) (q : R (ItTL X.K a b) H1) :
    wpAny (model X.prog X.w) X.A (call (.type "zip") [.ref a, .ref b]) (fun v s2 => wpAny (model X.prog X.w) X.A (pyIter v) (PIE X pins σ (.Tuple elts kk tpos) R) X.xe s2) X.xe s1 := by
  obtain ⟨js1, m1, p1, _⟩ := I1.tuple qx
  obtain ⟨js2, m2, p2, _⟩ := I1.list qy
  have la : a < s1.heap.objs.size := by obtain ⟨_, o, _⟩ := p1; exact Heap.lt_size o
  have lb : b < s1.heap.objs.size := by obtain ⟨_, o, _⟩ := p2.isList; exact Heap.lt_size o
  refine zip_begins2 (begins_tuple a js1.toArray) (begins_list b js2.toArray) p1 p2.isList fun h' hz hTI hTO g1 g2 hsz hk => wpAny_pyIter_zip hz ?_
  have one : ∀ {x : Addr}, x < s1.heap.objs.size → ∀ y ∈ [x], y < s1.heap.objs.size := fun hx y hy => by rw [List.mem_singleton.mp hy]; exact hx
  have I2 : Inv X pins σ H1 { s1 with heap := h' } := I1.kept (t' := s1.toks) hk
  have fr : ∀ y, s1.heap.objs.size ≤ y → FpOk X pins H1 y := fun y hle => I1.fpOk hle (I1.hok.fresh hle)
  have sp := zip_sep2 (one la) (one lb)
  generalize s1.heap.objs.size = N at *
  exact ⟨N + 4, own2 (N + 4) (N + 2) (N + 3) N (N + 1), atTL a b (N + 4) (N + 2) (N + 3) N (N + 1), ItTL X.K a b, H1, rfl, I2, turnTL sp, ⟨hz, hTI, ⟨_, _, hTO⟩, ⟨_, g1, rfl, rfl⟩, ⟨_, g2, rfl, rfl⟩⟩, fun y hy => fr y (own2_le hy), q⟩
theorem pi_zipTX (K : PySem.W.Frag) {X : Cx} {e e2 : Expr} {ta : TA} {p pos tpos : Pos} {elts : List Expr} {kk : Nat} (hg : Gl X "zip") (hm : X.mg "zip" = none) (ha : PA X [e, e2] ta)
    (hs : starEach [e, e2] X.env = (false, eval e X.env) :: starEach [e2] X.env := by rfl) (hpl : (backTo pos (starEach [e2] X.env)).any (·.1) = false := by rfl) (hK : X.K = K := by rfl) :
    PI X (.Tuple elts kk tpos) (.Call (.Name "zip" p) [e, e2] [] pos) (iZipTX K ta) := by
  subst hK
  refine ⟨fun pins s σ H R I h => ?_⟩
  refine Call_ (ld_blt I hg hm PyProof.Rows.boot_zip (PyProof.Rows.callWith_type1 (thn (ha.run pos pins s σ H _ I h) fun us s1 ⟨vs, H1, I1, r1, q1⟩ => ?_) hs hpl))
  obtain ⟨a, b, xs, ys, rfl, q1⟩ := q1
  obtain ⟨u1, us, rfl, ra, r1⟩ : ∃ u1 vs', us = u1 :: vs' ∧ RelV (.ref a) u1 ∧ Vals [.ref b] vs' := by
    cases r1 with
    | cons x y => exact ⟨_, _, rfl, x, y⟩
  obtain ⟨u2, rfl, rb⟩ := vals1 r1
  cases (show u1 = Value.ref a from ra)
  cases (show u2 = Value.ref b from rb)
  rcases q1 with ⟨qx, qy, q⟩ | ⟨hqx, hqy, q⟩
  · exact zipTL_end I1 qx qy q
  · obtain ⟨its, rv, p1, _⟩ := I1.tuple hqx
    obtain ⟨its2, rv2, p2, _⟩ := I1.tuple hqy
    obtain ⟨o1, ho1, _⟩ := id p1
    obtain ⟨o2, ho2, _⟩ := id p2
    refine RZ.call_zipT (show s1.heap.IsTuple a its.toArray from p1) (show s1.heap.IsTuple b its2.toArray from p2) fun h' hz hTI hTO h1 h2 hsz hk => wpAny_pyIter_zip hz ?_
    have I2 : Inv X pins σ H1 { s1 with heap := h' } := I1.kept (t' := s1.toks) hk
    refine ⟨s1.heap.objs.size + 4, own2 (s1.heap.objs.size + 4) (s1.heap.objs.size + 2) (s1.heap.objs.size + 3) s1.heap.objs.size (s1.heap.objs.size + 1), _, _, H1, rfl, I2, RZ.turn_zipT (PySem.W.ktu_apart s1.heap.objs.size a b (Heap.lt_size ho1) (Heap.lt_size ho2)), ⟨hz, hTI, ⟨_, _, hTO⟩, h1, h2⟩, fun y hy => ?_, q⟩
    have hle := own2_le hy
    exact I1.fpOk hle (I1.hok.fresh hle)
theorem walk_zipTL {K : PySem.W.Frag} {a b : Addr} {xs ys : List V} {n : Nat} (h1 : xs.length = n) (h2 : ys.length = n) : Walk (ItTL K a b) n (fun H => SqT K H a xs ∧ SqL K H b ys) (YPair (fun i => xs[i]?) (fun i => ys[i]?)) := by
  refine ⟨fun i H hi q => ⟨xs, ys, xs[i]'(by omega), ys[i]'(by omega), q, by simp, by simp⟩, fun H q => ⟨xs, ys, q, by omega, by omega, .inl (by omega)⟩, fun i H v H' _ q y => ?_⟩
  obtain ⟨T, x, z, e1, e2, e3, e4, e5⟩ := y
  exact ⟨T, x, z, e1, e2, e3, e4 xs q.1, e5 ys q.2⟩
end Z

set_option Elab.async false
set_option linter.all false
set_option maxRecDepth 100000
set_option maxHeartbeats 1000000
namespace Z
open PySem PySem.Spec PyProof.Rows L2
/-! ### enumerate(xs, start=k) -/
theorem draws_shift {prog : Program} {w : World} {A : Around} {it : Addr} {fp : List Addr} {n : Nat} {P : Nat → Value → Prop} {St : Nat → Heap → Prop} (D : Draws prog w A it fp n P St) (k : Nat) : Draws prog w A it fp (k + n) (fun i v => P (i - k) v) (fun i h => k ≤ i ∧ St (i - k) h) where
  live := fun _ _ st => D.live _ _ st.2
  frame := fun _ _ _ st hk => ⟨st.1, D.frame _ _ _ st.2 hk⟩
  item := fun i s Q E hi st hQ => D.item (i - k) s Q E (by have := st.1; omega) st.2 fun x h' tk p st' sb => hQ x h' tk p ⟨by have := st.1; omega, by
    have := st.1
    rw [show i + 1 - k = i - k + 1 by omega]
    exact st'⟩ sb
  done := fun s Q E st hE => D.done s Q E (by
    have := st.2
    rw [show k + n - k = n by omega] at this
    exact this) hE
def IteS (K : PySem.W.Frag) (a : Addr) (k : Nat) : It :=
  ⟨fun i H => ∃ (xs : List V) (x : V), SqL K H a xs ∧ xs[i]? = some x, fun i H v H' => ∃ T x, v = .ref T ∧ H T = none ∧ H' = upd H T (.tup [.int ((k + i : Nat) : Int), x]) ∧ ∀ xs, SqL K H a xs → xs[i]? = some x, fun i H => ∃ xs : List V, SqL K H a xs ∧ xs.length = i⟩
theorem ne_itLE {h : Heap} {a it l : Addr} {items : Array Value} {i : Nat} (p : h.IsList a items) (q : h.IsListIter it l i) : a ≠ it := fun e => by
  subst e
  obtain ⟨o, ho, hc, _⟩ := p
  obtain ⟨o2, ho2, hc2, _⟩ := q
  rw [ho] at ho2
  cases ho2
  rw [hc] at hc2
  exact absurd hc2 (by decide)
theorem turn_enumS {P : Program} {w : World} {K : PySem.W.Frag} {elts : List Expr} {kk k : Nat} {tpos : Pos} {a e it : Addr} (hea : e ≠ a) (hne : e ≠ it) :
    Turn P w K (.Tuple elts kk tpos) (IteS K a k) [e, it] e (fun i h => (∃ old, IsEnum h e it ((k + i : Nat) : Int) old) ∧ h.IsListIter it a i) := by
  refine ⟨by simp, fun i h st b hb => ?_, fun i h h' st k => ?_, ?_, ?_, fun A i s Q E st h => ?_⟩
  · obtain ⟨⟨old, he⟩, ⟨o, ho, hc, hd⟩⟩ := st
    have e' : b = e ∨ b = it := by simpa using hb
    rcases e' with z | z
    · rw [z]; exact ⟨_, he, fun v q => nomatch q⟩
    · rw [z]; exact ⟨o, ho, fun v q => by rw [hd] at q; cases q⟩
  · obtain ⟨⟨old, he⟩, hi⟩ := st
    exact ⟨⟨old, k e (by simp) _ he⟩, hi.at fun o q => k it (by simp) o q⟩
  · intro X hP hw hK hc i pins s σ H E I hf st hg
    subst hP hw hK
    obtain ⟨⟨old, he⟩, hit⟩ := st
    obtain ⟨xs, x, hq, hx⟩ := hg
    obtain ⟨its, rv, p, hz⟩ := I.list hq
    obtain ⟨u, hu, ru⟩ := rv.get hx
    have hel : e < s.heap.objs.size := Heap.lt_size he
    have hil : it < s.heap.objs.size := by obtain ⟨_, q, _⟩ := hit; exact Heap.lt_size q
    have na : a ≠ it := ne_itLE p.isList hit
    have k1 : i < its.toArray.size := by have := (List.getElem?_eq_some_iff.mp hu).1; simpa using this
    have nf : e ∉ [it, a] := fun m => by
      rcases List.mem_cons.mp m with z | z
      · exact hne z
      · exact hea (List.mem_singleton.mp z)
    refine wpAny_pyNext_enum_itemD (i := k + i) (draws_shift (Draws.list (A := X.A.in1) (I.ok.hd hc) it a na its.toArray) k) he ⟨by omega, by rw [Nat.add_sub_cancel_left]; exact ⟨hit, p.isList⟩⟩ (by omega) hne nf fun v h' tk hv ho hit' hT hsz hk => ?_
    have w1 : v = u := by
      rw [Nat.add_sub_cancel_left] at hv
      exact Option.some.inj (hv.symm.trans (by simpa using hu))
    subst w1
    refine ⟨_, rfl, wpAny_letOwnedTupleGo_enum (s := { s with heap := h', toks := tk + 1 }) ho fun h'' he' sb => ?_⟩
    have hT2 : h''.get? s.heap.objs.size = some { cls := .type "tuple", data := .seq #[.int ((k + i : Nat) : Int) tk, v] } := (sb.2 _ (Nat.ne_of_gt hel)).trans hT
    have new : ObjOk X.prog X.w (upd H s.heap.objs.size (.tup [.int ((k + i : Nat) : Int), x])) h'' s.heap.objs.size (.tup [.int ((k + i : Nat) : Int), x]) :=
      ⟨by show 2 ≤ sizeLine; decide, [.int ((k + i : Nat) : Int) tk, v], .cons ⟨_, rfl⟩ (.cons ru .nil), ⟨_, hT2, rfl, _, rfl⟩⟩
    have I1 : Inv X pins σ (upd H s.heap.objs.size (.tup [.int ((k + i : Nat) : Int), x])) { s with heap := h'', toks := tk + 1 } :=
      I.turnedNew (ch := [e, it]) (fun b ob hb q => (sb.2 b (fun z => hb (by simp [z]))).trans (hk b ob (fun z => hb (by simp [z])) (fun z => hb (by simp [z])) q)) hf (Nat.le_refl _) new
    have hit2 := hit'.2
    rw [show k + i + 1 - k = i + 1 by omega] at hit2
    refine ⟨.ref s.heap.objs.size, _, I1, rfl, ⟨_, x, rfl, I.hok.fresh (Nat.le_refl _), rfl, fun ys hy => by rw [I.list_inj hy hq]; exact hx⟩, ⟨⟨v, ?_⟩, hit2.1.at fun o q => (sb.2 it (Ne.symm hne)).trans q⟩, fun b hb => ?_⟩
    · have e1 : ((k + (i + 1) : Nat) : Int) = ((k + i : Nat) : Int) + 1 := by omega
      rw [e1]; exact he'
    · have hb' : b < s.heap.objs.size := by
        have e' : b = e ∨ b = it := by simpa using hb
        rcases e' with z | z
        · rw [z]; exact hel
        · rw [z]; exact hil
      rw [upd_ne (Nat.ne_of_lt hb')]
      exact (hf b hb).1
  · intro X hP hw hK hc i pins s σ H E I hf st hg
    subst hP hw hK
    obtain ⟨⟨old, he⟩, hit⟩ := st
    obtain ⟨xs, hq, hx⟩ := hg
    obtain ⟨its, rv, p, hz⟩ := I.list hq
    have na : a ≠ it := ne_itLE p.isList hit
    obtain ⟨f0, f1, f2, f3, f4, f5⟩ := hf it (by simp)
    have hl := rv.length
    have ei : its.toArray.size = i := by simp; omega
    exact wpAny_pyNext_enum_endD (Draws.list (A := X.A.in1) (I.ok.hd hc) it a na its.toArray) he (by rw [ei]; exact ⟨hit, p.isList⟩) fun h' eb => ⟨rfl, I.turned (t' := s.toks) (fun b o hb q => eb b o hb q) f0 f1 f3 f4 f5⟩
  · obtain ⟨⟨_, he⟩, _⟩ := st
    exact wpAny_pyIter_enum he h
section
variable {M : Model} {A : Around} {E : Value → Shared → Prop} {s : Shared} {env : Env}
theorem callWith_typeKwB {pos : Pos} {T : String} {first : List Value} {args : List (Bool × Sem Value)} {keywords : List (Option Str × Sem Value)} {Q : Value → Shared → Prop}
    (hplain : args.any (·.1) = false) (hkw : keywords.any (·.1.isNone) = false)
    (h : wpAny M A (evalArgs (.type T) true args keywords) (fun a s₁ => wpAny M A (call (.type T) (first ++ a.pos) a.kw) Q E s₁) E s) :
    wpAny M A (callWith pos (.type T) first args keywords) Q E s := by
  unfold callWith
  refine wpAny_bind (wpAny_holding (wpAny_mono h (fun a s₁ h₁ => wpAny_bind (wpAny_standAt ?_)) fun _ _ x => x))
  simp only [hplain, hkw, Bool.or_false]
  refine wpAny_bind (wpAny_pure ?_)
  exact wpAny_bind (wpAny_mono h₁ (fun r s₂ hr => wpAny_bind (wpAny_holding (wpAny_point (wpAny_pure hr)))) fun _ _ x => x)
theorem callWith_kwT {pos : Pos} {T : String} {e : Expr} {rest : List Expr} {kws : List Keyword} {Q : Value → Shared → Prop}
    (h : wpAny M A (spliced (backTo pos (starEach (e :: rest) env))) (fun vs s₁ => wpAny M A (evalAll ((backToKw pos (keywordEach kws env)).map (·.2)))
      (fun kvs s₂ => wpAny M A (call (.type T) vs (((backToKw pos (keywordEach kws env)).filterMap (·.1)).zip kvs)) Q E s₂) E s₁) E s)
    (he : backTo pos (starEach (e :: rest) env) = (false, eval e env) :: backTo pos (starEach rest env) := by rfl)
    (hplain : (backTo pos (starEach (e :: rest) env)).any (·.1) = false := by rfl)
    (hall : (backToKw pos (keywordEach kws env)).all (·.1.isSome) = true := by rfl)
    (hkw : (backToKw pos (keywordEach kws env)).any (·.1.isNone) = false := by rfl) :
    wpAny M A (callWith pos (.type T) [] (backTo pos (starEach (e :: rest) env)) (backToKw pos (keywordEach kws env))) Q E s := by
  refine callWith_typeKwB hplain hkw ?_
  rw [he] at h ⊢
  exact evalArgs_kwB hall h
end
def iEnumS (K : PySem.W.Frag) (ta tk : TA) : TI := fun σ H R => ta σ H fun vs H1 => tk σ H1 fun zs H2 => ∃ a xs k, vs = [.ref a] ∧ zs = [.int ((k : Nat) : Int)] ∧ k ≤ 1000000 ∧ SqL K H2 a xs ∧ R (IteS K a k) H2
theorem pi_enumS (K : PySem.W.Frag) {X : Cx} {e : Expr} {kws : List Keyword} {ta tk : TA} {p pos tpos : Pos} {elts : List Expr} {kk : Nat} (hg : Gl X "enumerate") (hm : X.mg "enumerate" = none) (ha : PA X [e] ta) (hk : PK X kws tk)
    (he : backTo pos (starEach [e] X.env) = (false, eval e X.env) :: backTo pos (starEach [] X.env) := by rfl) (hpl : (backTo pos (starEach [e] X.env)).any (·.1) = false := by rfl)
    (hall : (backToKw pos (keywordEach kws X.env)).all (·.1.isSome) = true := by rfl) (hnone : (backToKw pos (keywordEach kws X.env)).any (·.1.isNone) = false := by rfl) (hks : (backToKw pos (keywordEach kws X.env)).filterMap (·.1) = [Str.ofString "start"] := by rfl) (hK : X.K = K := by rfl) :
    PI X (.Tuple elts kk tpos) (.Call (.Name "enumerate" p) [e] kws pos) (iEnumS K ta tk) := by
  subst hK
  refine ⟨fun pins s σ H R I h => ?_⟩
  refine wpAny_Call_Name_kw (ld_blt I hg hm PyProof.Rows.boot_enumerate ?_)
  refine callWith_kwT (thn (ha.run pos pins s σ H _ I h) fun us s1 ⟨vs, H1, I1, r1, q1⟩ => thn (hk.run pos pins s1 σ H1 _ I1 q1) fun ws s2 ⟨zs, H2, I2, r2, q2⟩ => ?_) he hpl hall hnone
  rw [hks]
  obtain ⟨a, xs, k, ev, ez, hk1, hq, q⟩ := q2
  subst ev ez
  obtain ⟨u1, rfl, ru⟩ := vals1 r1
  obtain ⟨u2, rfl, rk⟩ := vals1 r2
  cases ru
  obtain ⟨tk2, rfl⟩ := rk
  obtain ⟨its, rv, p', hz⟩ := I2.list hq
  have la : a < s2.heap.objs.size := by obtain ⟨_, o, _⟩ := p'.isList; exact Heap.lt_size o
  refine enum_begins_start (begins_list a its.toArray) p'.isList (by omega) (by omega) fun h' he' hit hsz hk' => wpAny_pyIter_enum he' ?_
  have I3 : Inv X pins σ H2 { s2 with heap := h' } := I2.kept (t' := s2.toks) hk'
  refine ⟨s2.heap.objs.size + 1, [s2.heap.objs.size + 1, s2.heap.objs.size], _, _, H2, rfl, I3, turn_enumS (a := a) (k := k) (e := s2.heap.objs.size + 1) (it := s2.heap.objs.size) (Nat.ne_of_gt (Nat.lt_succ_of_lt la)) (Nat.succ_ne_self _), ⟨⟨.none, he'⟩, ⟨_, hit, rfl, rfl⟩⟩, fun b hb => ?_, q⟩
  have e' : b = s2.heap.objs.size + 1 ∨ b = s2.heap.objs.size := by simpa using hb
  have hle : s2.heap.objs.size ≤ b := by
    rcases e' with z | z
    · rw [z]; exact Nat.le_add_right _ _
    · rw [z]; exact Nat.le_refl _
  exact I2.fpOk hle (I2.hok.fresh hle)
theorem walk_enumS {K : PySem.W.Frag} {a : Addr} {xs : List V} {k : Nat} : Walk (IteS K a k) xs.length (fun H => SqL K H a xs) (YPair (fun i => some (.int ((k + i : Nat) : Int))) (fun i => xs[i]?)) := by
  refine ⟨fun i H hi q => ⟨xs, xs[i], q, by simp⟩, fun H q => ⟨xs, q, rfl⟩, fun i H v H' _ q y => ?_⟩
  obtain ⟨T, x, e1, e2, e3, e4⟩ := y
  exact ⟨T, _, x, e1, e2, e3, rfl, e4 xs q⟩
end Z

set_option Elab.async false
set_option linter.all false
set_option maxRecDepth 100000
set_option maxHeartbeats 800000
namespace Z
open PySem PySem.Spec PyProof.Rows L2
/-! ### dict(xs) of pairs whose first is a tuple -/
def mergeH (acc more : List (List L2.Key × Addr × Value)) : List (List L2.Key × Addr × Value) := more.foldl (fun a q => storedH a q.1 q.2.1 q.2.2) acc
theorem storedH_len (acc : List (List L2.Key × Addr × Value)) (k : List L2.Key) (a : Addr) (v : Value) : (storedH acc k a v).length ≤ acc.length + 1 := by
  unfold storedH
  split <;> simp
def mergeT (acc more : List (List L2.Key × V)) : List (List L2.Key × V) := more.foldl (fun a q => putK a q.1 q.2) acc
theorem mergeT_len : ∀ (more acc : List (List L2.Key × V)), (mergeT acc more).length ≤ acc.length + more.length
  | [], _ => Nat.le_refl _
  | q :: more, acc => by
    have h1 := mergeT_len more (putK acc q.1 q.2)
    have h2 := length_putK acc q.1 q.2
    show (mergeT (putK acc q.1 q.2) more).length ≤ _
    rw [List.length_cons]
    omega
theorem mergeT_nd : ∀ (more acc : List (List L2.Key × V)), ((acc ++ more).map (·.1)).Nodup → mergeT acc more = acc ++ more
  | [], acc, _ => by rw [List.append_nil]; rfl
  | q :: more, acc, nd => by
    have h : valV acc q.1 = none := by
      unfold valV
      rw [Option.map_eq_none_iff, List.find?_eq_none]
      intro z hz
      rw [List.map_append, List.nodup_append] at nd
      have := nd.2.2 z.1 (List.mem_map.mpr ⟨z, hz, rfl⟩) q.1 (by simp)
      simpa using this
    show mergeT (putK acc q.1 q.2) more = _
    rw [putK_new q.2 h, mergeT_nd more _ (by simpa using nd)]
    simp
section
variable {prog : Program} {w : World} {A : Around} {E : Value → Shared → Prop}
theorem upd_loopT {R : Result → Shared → Prop} {S I l : Addr} {items : Array Value} {res : Value} (hh : A.handled = none) (hu : A.in1.units < cLine) (hlI : l ≠ I) (hSI : S ≠ I) (hSl : S ≠ l) :
    ∀ (rest : List (List L2.Key × Addr × Value)) (i : Nat) (acc : List (List L2.Key × Addr × Value)) (ix : Int) (t : Tok) (s : Shared), items.size = i + rest.length → acc.length + rest.length ≤ sizeLine →
      (∀ (j : Nat) (q : List L2.Key × Addr × Value), rest[j]? = some q → ∃ b : Addr, items[i + j]? = some (.ref b) ∧ b ≠ S ∧ b ≠ I ∧ IsTup s.heap b #[.ref q.2.1, q.2.2] ∧ q.2.1 ≠ S ∧ q.2.1 ≠ I ∧ (tupleKind (mixKind prog w)).is s.heap q.1 q.2.1) →
      (∀ x ∈ acc, x.2.1 ≠ I) →
      s.heap.IsListIter I l i → s.heap.IsList l items → s.heap.DictOfH (tupleKind (mixKind prog w)) S acc →
      (∀ h' tk, h'.DictOfH (tupleKind (mixKind prog w)) S (mergeH acc rest) → (∀ b o, b ≠ S → b ≠ I → s.heap.get? b = some o → h'.get? b = some o) → R (.ok (.ret res)) { s with heap := h', toks := tk }) →
      codeAny (model prog w) A (.builtin "dict.update.loop" ⟨[.ref S, .ref I, .int ix t, res], []⟩) R s := by
  have kp : ∀ {h h' : Heap} {k : List L2.Key} {a : Addr}, a ≠ I → Heap.ExtBut I h h' → (tupleKind (mixKind prog w)).is h k a → (tupleKind (mixKind prog w)).is h' k a := by
    intro h h' k a n he x
    obtain ⟨o, its, m, ho, hc, hd, hi⟩ := x
    exact ⟨o, its, m, he _ _ n ho, hc, hd, hi⟩
  have dp : ∀ {h h' : Heap} {acc : List (List L2.Key × Addr × Value)}, (∀ x ∈ acc, x.2.1 ≠ I) → Heap.ExtBut I h h' → h.DictOfH (tupleKind (mixKind prog w)) S acc → h'.DictOfH (tupleKind (mixKind prog w)) S acc := by
    intro h h' acc n he x
    have x0 := x
    obtain ⟨_, _, _, _, _, _, _, his, _⟩ := x
    exact x0.at' (fun o e => he _ _ hSI e) fun y hy => kp (n y hy) he (his y hy)
  intro rest
  induction rest with
  | nil =>
    intro i acc ix t s hsz hln ht hn hit hl hm hR
    refine codeAny_builtin ud_entry ?_
    rw [Around.under_plainId ud_plain _]
    show wpAny _ A.in1 (pyNext (.ref I) >>= _) _ _ s
    refine wpAny_bind (wpAny_pyNext_list_end (A := A.in1) hh hit hl (by first | exact Array.getElem?_eq_none (Nat.le_of_eq hsz) | (simp at hsz; simp; omega)) fun h' he => ?_)
    show wpAny _ A.in1 (Builtin.Dict.addKeywords S [] >>= _) _ _ _
    refine wpAny_bind (wpAny_pure (wpAny_pure ?_))
    exact hR h' s.toks (dp hn he hm) fun b o _ hb e => he b o hb e
  | cons q rest ih =>
    intro i acc ix t s hsz hln ht hn hit hl hm hR
    obtain ⟨b, hb, hbS, hbI, htup, hqS, hqI, hk⟩ := ht 0 q rfl
    rw [List.length_cons] at hsz hln
    refine codeAny_builtin ud_entry ?_
    rw [Around.under_plainId ud_plain _]
    show wpAny _ A.in1 (pyNext (.ref I) >>= _) _ _ s
    refine wpAny_bind (wpAny_pyNext_list_item (x := .ref b) hit hl (by simpa using hb) fun h1 hit1 hs1 => ?_)
    have ht1 : IsTup h1 b #[.ref q.2.1, q.2.2] := htup.extBut hs1.extBut hbI
    have hl1 : h1.IsList l items := hl.extBut hs1.extBut hlI
    have hm1 : h1.DictOfH (tupleKind (mixKind prog w)) S acc := dp hn hs1.extBut hm
    have hk1 := kp hqI hs1.extBut hk
    obtain ⟨o, ho, hc, n, hd⟩ := id ht1
    show wpAny _ A.in1 (holding [Value.ref b] _ >>= _) _ _ _
    refine wpAny_bind (wpAny_holding ?_)
    refine wpAny_bind (wpAny_tryCatch ?_)
    unfold Builtin.Dict.pairItems
    refine wpAny_bind (wpAny_typeOf (T := "tuple") ⟨o, ho, hc⟩ ?_)
    rw [if_pos (by first | decide | rfl | simp)]
    refine wpAny_bind (wpAny_seqItems ho hd (wpAny_pure ?_))
    show wpAny _ A.in1 (holding [Value.ref q.2.1, q.2.2] (dictSet S (.ref q.2.1) q.2.2)) _ _ _
    obtain ⟨oS, esS, epS, hoS, _, hdS, _⟩ := id hm1
    refine wpAny_holding (wpAny_dictSet_heap (knd := tupleKind (mixKind prog w)) (k := q.1) (a := q.2.1) hu hk1 hm1 (fun h2 hm2 hs2 => ?_) (by omega))
    have kp2 : ∀ {k : List L2.Key} {a : Addr}, (tupleKind (mixKind prog w)).is h1 k a → (tupleKind (mixKind prog w)).is h2 k a := fun x => (tupleKind (mixKind prog w)).keeps x hoS hdS hs2
    refine wpAny_pure ⟨plainId_quiet ud_plain _, ih (i + 1) (storedH acc q.1 q.2.1 q.2.2) (ix + 1) 0 _ (show items.size = i + 1 + rest.length by omega) ?_ (fun j q' e => ?_) (fun x hx => ?_) ?_ ?_ hm2 fun h' tk hd' k => ?_⟩
    · have z := storedH_len acc q.1 q.2.1 q.2.2
      omega
    · obtain ⟨b', hb', hbS', hbI', htup', hqS', hqI', hk'⟩ := ht (j + 1) q' (by simpa using e)
      refine ⟨b', ?_, hbS', hbI', (htup'.extBut hs1.extBut hbI').extBut hs2.extBut hbS', hqS', hqI', kp2 (kp hqI' hs1.extBut hk')⟩
      rw [show i + 1 + j = i + (j + 1) by omega]
      exact hb'
    · rcases mem_storedH_key hx with ⟨y, hy, e1, e2⟩ | ⟨e1, e2⟩
      · rw [e2]; exact hn y hy
      · rw [e2]; exact hqI
    · exact hit1.at fun o' e => hs2.extBut I o' (Ne.symm hSI) e
    · exact hl1.extBut hs2.extBut (Ne.symm hSl)
    · exact hR h' tk hd' fun c oc h3 h4 e => k c oc h3 h4 (hs2.extBut c oc h3 (hs1.extBut c oc h4 e))
theorem call_dict_pairsT {s : Shared} {l : Addr} {ol : Obj} {items : Array Value} {n : Nat} {prs : List (List L2.Key × Addr × Value)} {Q : Value → Shared → Prop} (hh : A.handled = none) (hu : A.units + 64 < cLine) (hl : s.heap.get? l = some ol) (hc : ol.cls = .type "list") (hd : ol.dict = none)
    (hdat : ol.data = .seq items n) (hsz : items.size = prs.length) (hln : prs.length ≤ sizeLine)
    (ht : ∀ (j : Nat) (q : List L2.Key × Addr × Value), prs[j]? = some q → ∃ b : Addr, items[j]? = some (.ref b) ∧ IsTup s.heap b #[.ref q.2.1, q.2.2] ∧ (tupleKind (mixKind prog w)).is s.heap q.1 q.2.1)
    (h : ∀ h' tk, h'.DictOfH (tupleKind (mixKind prog w)) s.heap.objs.size (mergeH [] prs) → (∀ b o, s.heap.get? b = some o → h'.get? b = some o) → Q (.ref s.heap.objs.size) { s with heap := h', toks := tk }) :
    wpAny (model prog w) A (call (.type "dict") [.ref l]) Q E s := by
  refine callType_codes (Q₁ := fun obj s₁ => obj = .ref s.heap.objs.size ∧ s₁ = { s with heap := s.heap.push { cls := .type "dict", data := .dict #[] } }) PySem.F.kt_called_dict (PySem.F.kt_typeCall_dict_1 _) PySem.F.entry_dict_init (kt_code_dict_new _ ⟨rfl, rfl⟩) ?_
  rintro obj s₁ ⟨rfl, rfl⟩
  have hnew : (s.heap.push { cls := .type "dict", data := .dict #[] }).DictOfH (tupleKind (mixKind prog w)) s.heap.objs.size [] := Heap.DictOfH.new s.heap
  have k0 : ∀ b o, s.heap.get? b = some o → (s.heap.push { cls := .type "dict", data := .dict #[] }).get? b = some o := fun b o e => Heap.get?_push_of_some _ e
  refine ⟨hnew.typeIs, PySem.F.args_dict_init_2 _ _, ?_⟩
  unfold Builtin.«dict.__init__»
  refine wpAny_bind ?_
  unfold Builtin.Dict.selfAndRest
  refine wpAny_bind (wpAny_notOrdered_dict hnew.typeIs ?_)
  show wpAny _ _ (pure (s.heap.objs.size, [Value.ref l])) _ _ _
  refine wpAny_pure ?_
  show wpAny _ _ (Builtin.Dict.updateFrom "dict.__init__" s.heap.objs.size (.ref l) [] .none) _ _ _
  unfold Builtin.Dict.updateFrom
  refine wpAny_bind (wpAny_typeOf (T := "list") ⟨ol, k0 _ _ hl, hc⟩ ?_)
  rw [if_pos (by first | decide | rfl | simp)]
  refine wpAny_bind (miss_list (k0 _ _ hl) hc hdat hd hh fun h1 tk1 hk1 => ?_)
  rw [if_pos (show (none : Option Value).isNone = true from rfl)]
  refine wpAny_bind (wpAny_rule ?_)
  have hl1 : h1.IsList l items := ⟨ol, hk1 _ _ (k0 _ _ hl), hc, n, hdat⟩
  have hS1 : s.heap.objs.size < h1.objs.size := by
    have e : (s.heap.push { cls := .type "dict", data := .dict #[] }).get? s.heap.objs.size = some { cls := .type "dict", data := .dict #[] } := Heap.get?_push_size _ rfl
    exact Heap.lt_size (hk1 _ _ e)
  refine wpAny_bind (wpAny_pyIter_list hl1 ?_)
  have k2 : ∀ b o, h1.get? b = some o → (h1.push { cls := .type "list_iterator", data := .fields #[.ref l, .int 0 0] }).get? b = some o := fun b o e => Heap.get?_push_of_some _ e
  have hlt : l < s.heap.objs.size := Heap.lt_size hl
  have kk : ∀ {k : List L2.Key} {a : Addr}, (tupleKind (mixKind prog w)).is s.heap k a → (tupleKind (mixKind prog w)).is (h1.push { cls := .type "list_iterator", data := .fields #[.ref l, .int 0 0] }) k a := by
    intro k a x
    obtain ⟨o, its, m, ho, hc, hd, hi⟩ := x
    exact ⟨o, its, m, k2 _ _ (hk1 _ _ (k0 _ _ ho)), hc, hd, hi⟩
  have key := upd_loopT (prog := prog) (w := w) (A := A.in1) (R := wants (fun r s₂ => r = .none ∧ Q (.ref s.heap.objs.size) s₂) E) (S := s.heap.objs.size) (I := h1.objs.size) (l := l) (items := items) (res := Value.none) hh (by show A.units + 1 + 1 < cLine; omega)
    (Nat.ne_of_lt (Nat.lt_trans hlt hS1)) (Nat.ne_of_lt hS1) (Nat.ne_of_gt hlt) prs 0 [] 0 0
    { s with heap := h1.push { cls := .type "list_iterator", data := .fields #[.ref l, .int 0 0] }, toks := tk1 } (by rw [hsz, Nat.zero_add]) (by rw [List.length_nil, Nat.zero_add]; exact hln)
    (fun j q e => by
      obtain ⟨b, e1, e2, e3⟩ := ht j q e
      have hb : b < s.heap.objs.size := e2.lt
      have hq : q.2.1 < s.heap.objs.size := by
        obtain ⟨o, its, m, ho, _⟩ := e3
        exact Heap.lt_size ho
      exact ⟨b, by rw [Nat.zero_add]; exact e1, Nat.ne_of_lt hb, Nat.ne_of_lt (Nat.lt_trans hb hS1), e2.keeps fun c o z => k2 _ _ (hk1 _ _ (k0 _ _ z)), Nat.ne_of_lt hq, Nat.ne_of_lt (Nat.lt_trans hq hS1), kk e3⟩)
    (fun _ h => nomatch h)
    ⟨_, Heap.get?_push_size _ rfl, rfl, rfl⟩ (hl1.at fun o e => k2 _ _ e) (hnew.at' (fun o e => k2 _ _ (hk1 _ _ e)) fun _ h => nomatch h)
    (fun h' tk hd' k => ⟨rfl, h h' tk hd' fun b o e => k b o (Nat.ne_of_lt (Heap.lt_size e)) (Nat.ne_of_lt (Nat.lt_trans (Heap.lt_size e) hS1)) (k2 _ _ (hk1 _ _ (k0 _ _ e)))⟩)
  first
    | exact wpAny_pure ⟨plainId_quiet ud_plain _, key⟩
    | exact wpAny_bind (wpAny_pure (wpAny_pure ⟨plainId_quiet ud_plain _, key⟩))
end
section
variable {X : Cx}
/-- a pair (key, value), the key a tuple of ints and texts -/
def prT (K : PySem.W.Frag) (H : Hp) (p : Addr) (kv : List L2.Key × V) : Prop := ∃ b, SqT K H p [.ref b, kv.2] ∧ H b = some (.tup (kv.1.map kV))
theorem pairs_ofT {pins : List (Addr × Obj)} {σ : L2.St} {H : Hp} {s : Shared} (I : Inv X pins σ H s) : ∀ {ps : List Addr} {kvs : List (List L2.Key × V)}, Paired (prT X.K H) ps kvs →
    ∃ prs : List (List L2.Key × Addr × Value), KT H kvs prs ∧ prs.length = ps.length ∧ ∀ (j : Nat) (q : List L2.Key × Addr × Value), prs[j]? = some q → ∃ b : Addr, ps[j]? = some b ∧ IsTup s.heap b #[.ref q.2.1, q.2.2] ∧ (tupleKind (mixKind X.prog X.w)).is s.heap q.1 q.2.1
  | _, _, .nil => ⟨[], .nil, rfl, fun j q e => by simp at e⟩
  | _, _, .cons (a := p) (b := kv) h t => by
    obtain ⟨prs, r, hl, hp⟩ := pairs_ofT I t
    obtain ⟨c, h1, h2⟩ := h
    obtain ⟨its, rv, ht, _⟩ := I.tuple h1
    obtain ⟨u, y, ei, ru, ry⟩ := vals2 rv
    subst ei
    cases (show u = Value.ref c from ru)
    refine ⟨(kv.1, c, y) :: prs, .cons ⟨rfl, h2, ry⟩ r, by rw [List.length_cons, List.length_cons, hl], fun j q e => ?_⟩
    cases j with
    | zero =>
      have e' : (kv.1, c, y) = q := Option.some.inj e
      subst e'
      exact ⟨p, rfl, ht, key_of I.hok h2⟩
    | succ j =>
      obtain ⟨b, e1, e2, e3⟩ := hp j q (by simpa using e)
      exact ⟨b, by simpa using e1, e2, e3⟩
theorem KT.merge {H : Hp} : ∀ {more : List (List L2.Key × V)} {rs : List (List L2.Key × Addr × Value)} {kvs : List (List L2.Key × V)} {vs : List (List L2.Key × Addr × Value)}, KT H more rs → KT H kvs vs → KT H (mergeT kvs more) (mergeH vs rs)
  | _, _, _, _, .nil, h => h
  | _, _, _, _, .cons (a := p) (b := q) h t, h2 => by
    obtain ⟨e1, e2, e3⟩ := h
    have h3 := h2.put p.1 (b := q.2.1) e2 e3
    rw [e1] at h3
    have := KT.merge t h3
    show KT H (mergeT (putK _ p.1 p.2) _) (mergeH (storedH _ q.1 q.2.1 q.2.2) _)
    rw [e1]
    exact this
def rDictT (K : PySem.W.Frag) : List V → Hp → VK → Prop := fun xs H Q => ∃ (a : Addr) (ps : List Addr) (kvs : List (List L2.Key × V)), xs = [.ref a] ∧ SqL K H a (ps.map V.ref) ∧ Paired (prT K H) ps kvs ∧ ∀ p, H p = none → Q (.ref p) (upd H p (.dT (mergeT [] kvs)))
theorem call_dictT (K : PySem.W.Frag) (hcalm : X.calm = true) (hu : X.A.units + 64 < cLine) (hK : X.K = K := by rfl) : CallR X (.type "dict") (rDictT K) := by
  subst hK
  intro pins s σ H xs us Q I r q
  obtain ⟨a, ps, kvs, ex, hq, hp, q⟩ := q
  subst ex
  obtain ⟨u, eu, rx⟩ := vals1 r
  subst eu
  cases rx
  obtain ⟨its, rv, pl, hz⟩ := I.list hq
  have ei := refs_at rv
  subst ei
  rw [List.length_map] at hz
  obtain ⟨prs, rel, hl, hpr⟩ := pairs_ofT I hp
  obtain ⟨o, n, ho, hc, hd, hdat⟩ := pl
  refine call_dict_pairsT (prs := prs) (I.ok.hd hcalm) hu ho hc hd hdat (by simp [hl]) (by rw [hl]; exact hz) (fun j q' e => ?_) fun h' tk hd' k => ?_
  · obtain ⟨b, e1, e2, e3⟩ := hpr j q' e
    exact ⟨b, by simp [e1], e2, e3⟩
  · have hm : (s.heap.objs.size == sysModules) = false := beq_eq_false_iff_ne.mpr (Nat.ne_of_gt I.big)
    have hlen : (mergeT [] kvs).length ≤ sizeLine := by
      refine Nat.le_trans (mergeT_len kvs []) ?_
      rw [List.length_nil, Nat.zero_add, Paired.length rel, hl]
      exact hz
    have fr := I.hok.fresh (Nat.le_refl s.heap.objs.size)
    have hkt : KT (upd H s.heap.objs.size (.dT (mergeT [] kvs))) (mergeT [] kvs) (mergeH [] prs) := (KT.merge rel .nil).keeps fun b ys e => by
      rw [upd_ne (ne_of_none e fr)]
      exact e
    obtain ⟨od, es, ep, h1, h2, h3, h4, _, h5⟩ := hd'
    exact ⟨.ref s.heap.objs.size, upd H s.heap.objs.size (.dT (mergeT [] kvs)), I.laid (t' := tk) k (Nat.le_refl _) (show ObjOk X.prog X.w _ _ _ (.dT (mergeT [] kvs)) from ⟨hlen, hm, mergeH [] prs, hkt, od, es, ep, h1, h2, h3, h4, h5⟩), rfl, q _ fr⟩
end
end Z

set_option Elab.async false
set_option linter.all false
set_option maxRecDepth 100000
namespace Z
open PySem PySem.Spec PyProof.Rows L2
def topS (i : Nat) : Stmt := PySem.Challenge.pw_fewcolours_k34_handed_on.main.body.getD i (.Pass ⟨0, 0, 0, 0⟩)
abbrev s_apart : Stmt := topS 1
abbrev N_apart : List Str := ["one", "other", "a", "b"]
theorem sc_apart : FnScope N_apart ["one", "other"] (defScope s_apart) := ⟨rfl, rfl, rfl, by decide +kernel, rfl, by decide +kernel, by decide +kernel⟩
abbrev s_nearest : Stmt := topS 3
abbrev N_nearest : List Str := ["palette", "colour", "squares", "one"]
theorem sc_nearest : FnScope N_nearest ["palette", "colour"] (defScope s_nearest) := ⟨rfl, rfl, rfl, by decide +kernel, rfl, by decide +kernel, by decide +kernel⟩
abbrev s_added : Stmt := topS 5
abbrev N_added : List Str := ["one", "other", "a", "b"]
theorem sc_added : FnScope N_added ["one", "other"] (defScope s_added) := ⟨rfl, rfl, rfl, by decide +kernel, rfl, by decide +kernel, by decide +kernel⟩
abbrev s_lessened : Stmt := topS 6
abbrev N_lessened : List Str := ["one", "other", "a", "b"]
theorem sc_lessened : FnScope N_lessened ["one", "other"] (defScope s_lessened) := ⟨rfl, rfl, rfl, by decide +kernel, rfl, by decide +kernel, by decide +kernel⟩
abbrev s_spots_in_order : Stmt := topS 7
abbrev N_spots_in_order : List Str := ["picture", "way", "spots", "row", "colours", "columns", "column"]
theorem sc_spots_in_order : FnScope N_spots_in_order ["picture", "way"] (defScope s_spots_in_order) := ⟨rfl, rfl, rfl, by decide +kernel, rfl, by decide +kernel, by decide +kernel⟩
abbrev s_shares_there : Stmt := topS 8
abbrev N_shares_there : List Str := ["picture", "shares", "spot", "row", "column", "side", "all_shares", "across", "down", "parts", "each"]
theorem sc_shares_there : FnScope N_shares_there ["picture", "shares", "spot"] (defScope s_shares_there) := ⟨rfl, rfl, rfl, by decide +kernel, rfl, by decide +kernel, by decide +kernel⟩
abbrev s_hand_over : Stmt := topS 9
abbrev N_hand_over : List Str := ["wanted", "shares", "spot", "colour", "left", "there", "total", "remains", "row", "column", "parts", "handed", "across", "down", "number"]
theorem sc_hand_over : FnScope N_hand_over ["wanted", "shares", "spot", "colour"] (defScope s_hand_over) := ⟨rfl, rfl, rfl, by decide +kernel, rfl, by decide +kernel, by decide +kernel⟩
abbrev s_handed_on : Stmt := topS 10
abbrev N_handed_on : List Str := ["picture", "palette", "shares", "way", "wanted", "numbers", "lost", "spot", "row", "column", "side", "number"]
theorem sc_handed_on : FnScope N_handed_on ["picture", "palette", "shares", "way"] (defScope s_handed_on) := ⟨rfl, rfl, rfl, by decide +kernel, rfl, by decide +kernel, by decide +kernel⟩
abbrev s_l_mix : Stmt := topS 12
abbrev N_l_mix : List Str := ["_law_cell", "_law_k", "_law_m"]
theorem sc_l_mix : FnScope N_l_mix ["_law_cell", "_law_k"] (defScope s_l_mix) := ⟨rfl, rfl, rfl, by decide +kernel, rfl, by decide +kernel, by decide +kernel⟩
abbrev s_l_left : Stmt := topS 13
abbrev N_l_left : List Str := ["_law_script", "_law_k", "_law_cell"]
theorem sc_l_left : FnScope N_l_left ["_law_script", "_law_k"] (defScope s_l_left) := ⟨rfl, rfl, rfl, by decide +kernel, rfl, by decide +kernel, by decide +kernel⟩
abbrev s_l_pick : Stmt := topS 14
abbrev N_l_pick : List Str := ["_law_left_here", "_law_many", "_law_digit"]
theorem sc_l_pick : FnScope N_l_pick ["_law_left_here", "_law_many"] (defScope s_l_pick) := ⟨rfl, rfl, rfl, by decide +kernel, rfl, by decide +kernel, by decide +kernel⟩
abbrev s_l_kind : Stmt := topS 15
abbrev N_l_kind : List Str := ["_law_left_here"]
theorem sc_l_kind : FnScope N_l_kind ["_law_left_here"] (defScope s_l_kind) := ⟨rfl, rfl, rfl, by decide +kernel, rfl, by decide +kernel, by decide +kernel⟩
abbrev s_l_colour : Stmt := topS 16
abbrev N_l_colour : List Str := ["_law_left_here", "_law_kind_here", "_law_wide", "_law_span", "_law_place"]
theorem sc_l_colour : FnScope N_l_colour ["_law_left_here", "_law_kind_here"] (defScope s_l_colour) := ⟨rfl, rfl, rfl, by decide +kernel, rfl, by decide +kernel, by decide +kernel⟩
abbrev s_l_palette : Stmt := topS 17
abbrev N_l_palette : List Str := ["_law_left_here", "_law_kind_here", "_law_many", "_law_found", "_law_k", "_law_colour_here"]
theorem sc_l_palette : FnScope N_l_palette ["_law_left_here", "_law_kind_here"] (defScope s_l_palette) := ⟨rfl, rfl, rfl, by decide +kernel, rfl, by decide +kernel, by decide +kernel⟩
abbrev s_l_picture : Stmt := topS 18
abbrev N_l_picture : List Str := ["_law_left_here", "_law_kind_here", "_law_high", "_law_wide", "_law_some", "_law_found", "_law_row", "_law_spots", "_law_column", "_law_colour_here", "_law_side", "_law_k"]
theorem sc_l_picture : FnScope N_l_picture ["_law_left_here", "_law_kind_here"] (defScope s_l_picture) := ⟨rfl, rfl, rfl, by decide +kernel, rfl, by decide +kernel, by decide +kernel⟩
abbrev s_l_apart : Stmt := topS 19
abbrev N_l_apart : List Str := ["_law_one", "_law_other", "_law_a", "_law_b"]
theorem sc_l_apart : FnScope N_l_apart ["_law_one", "_law_other"] (defScope s_l_apart) := ⟨rfl, rfl, rfl, by decide +kernel, rfl, by decide +kernel, by decide +kernel⟩
abbrev s_l_nearest : Stmt := topS 20
abbrev N_l_nearest : List Str := ["_law_palette_here", "_law_colour_here", "_law_k", "_law_one"]
theorem sc_l_nearest : FnScope N_l_nearest ["_law_palette_here", "_law_colour_here"] (defScope s_l_nearest) := ⟨rfl, rfl, rfl, by decide +kernel, rfl, by decide +kernel, by decide +kernel⟩
abbrev s_l_same : Stmt := topS 21
abbrev N_l_same : List Str := ["_law_found", "_law_due", "_law_one", "_law_other"]
theorem sc_l_same : FnScope N_l_same ["_law_found", "_law_due"] (defScope s_l_same) := ⟨rfl, rfl, rfl, by decide +kernel, rfl, by decide +kernel, by decide +kernel⟩
abbrev s_l_shares : Stmt := topS 22
abbrev N_l_shares : List Str := ["_law_left_here", "_law_rest", "_law_found", "_law_turn", "_law_across", "_law_down"]
theorem sc_l_shares : FnScope N_l_shares ["_law_left_here"] (defScope s_l_shares) := ⟨rfl, rfl, rfl, by decide +kernel, rfl, by decide +kernel, by decide +kernel⟩
abbrev s_l_put_on : Stmt := topS 23
abbrev N_l_put_on : List Str := ["_law_handed", "_law_lost", "_law_inside", "_law_total", "_law_place", "_law_rest", "_law_given", "_law_row", "_law_column", "_law_parts", "_law_more"]
theorem sc_l_put_on : FnScope N_l_put_on ["_law_handed", "_law_lost", "_law_inside", "_law_total", "_law_place", "_law_rest"] (defScope s_l_put_on) := ⟨rfl, rfl, rfl, by decide +kernel, rfl, by decide +kernel, by decide +kernel⟩
abbrev s_l_gone : Stmt := topS 24
abbrev N_l_gone : List Str := ["_law_picture_here", "_law_palette_here", "_law_shares_here", "_law_way", "_law_numbers", "_law_high", "_law_wide", "_law_many", "_law_handed", "_law_wanted", "_law_told", "_law_lost", "_law_total", "_law_row", "_law_side", "_law_column", "_law_spot", "_law_further", "_law_inside", "_law_place", "_law_rest", "_law_k", "_law_across", "_law_down", "_law_parts", "_law_a", "_law_b", "_law_one"]
theorem sc_l_gone : FnScope N_l_gone ["_law_picture_here", "_law_palette_here", "_law_shares_here", "_law_way", "_law_numbers"] (defScope s_l_gone) := ⟨rfl, rfl, rfl, by decide +kernel, rfl, by decide +kernel, by decide +kernel⟩
abbrev s_law : Stmt := topS 25
abbrev N_law : List Str := ["_law_script", "_law_k", "_law_left_here", "_law_kind_here", "_law_picture_here", "_law_palette_here", "_law_shares_here", "_law_kept", "_law_way", "_law_wanted", "_law_told", "_law_lost", "_law_turn", "_law_found"]
theorem sc_law : FnScope N_law ["_law_script"] (defScope s_law) := ⟨rfl, rfl, rfl, by decide +kernel, rfl, by decide +kernel, by decide +kernel⟩
structure Tx (K : PySem.W.Frag) (mg : Str → Option Value) where
  f_apart : Addr
  d_apart : FuncData
  F_apart : Fun K "apart" "apart" s_apart f_apart d_apart
  b_apart : Binds K d_apart ["one", "other"] []
  g_apart : mg "apart" = some (.ref f_apart)
  f_nearest : Addr
  d_nearest : FuncData
  F_nearest : Fun K "nearest" "nearest" s_nearest f_nearest d_nearest
  b_nearest : Binds K d_nearest ["palette", "colour"] []
  g_nearest : mg "nearest" = some (.ref f_nearest)
  f_added : Addr
  d_added : FuncData
  F_added : Fun K "added" "added" s_added f_added d_added
  b_added : Binds K d_added ["one", "other"] []
  g_added : mg "added" = some (.ref f_added)
  f_lessened : Addr
  d_lessened : FuncData
  F_lessened : Fun K "lessened" "lessened" s_lessened f_lessened d_lessened
  b_lessened : Binds K d_lessened ["one", "other"] []
  g_lessened : mg "lessened" = some (.ref f_lessened)
  f_spots_in_order : Addr
  d_spots_in_order : FuncData
  F_spots_in_order : Fun K "spots_in_order" "spots_in_order" s_spots_in_order f_spots_in_order d_spots_in_order
  b_spots_in_order : Binds K d_spots_in_order ["picture", "way"] []
  g_spots_in_order : mg "spots_in_order" = some (.ref f_spots_in_order)
  f_shares_there : Addr
  d_shares_there : FuncData
  F_shares_there : Fun K "shares_there" "shares_there" s_shares_there f_shares_there d_shares_there
  b_shares_there : Binds K d_shares_there ["picture", "shares", "spot"] []
  g_shares_there : mg "shares_there" = some (.ref f_shares_there)
  f_hand_over : Addr
  d_hand_over : FuncData
  F_hand_over : Fun K "hand_over" "hand_over" s_hand_over f_hand_over d_hand_over
  b_hand_over : Binds K d_hand_over ["wanted", "shares", "spot", "colour"] []
  g_hand_over : mg "hand_over" = some (.ref f_hand_over)
  f_handed_on : Addr
  d_handed_on : FuncData
  F_handed_on : Fun K "handed_on" "handed_on" s_handed_on f_handed_on d_handed_on
  b_handed_on : Binds K d_handed_on ["picture", "palette", "shares", "way"] []
  g_handed_on : mg "handed_on" = some (.ref f_handed_on)
  f_l_mix : Addr
  d_l_mix : FuncData
  F_l_mix : Fun K "_law_mix" "_law_mix" s_l_mix f_l_mix d_l_mix
  b_l_mix : Binds K d_l_mix ["_law_cell", "_law_k"] []
  g_l_mix : mg "_law_mix" = some (.ref f_l_mix)
  f_l_left : Addr
  d_l_left : FuncData
  F_l_left : Fun K "_law_left" "_law_left" s_l_left f_l_left d_l_left
  b_l_left : Binds K d_l_left ["_law_script", "_law_k"] []
  g_l_left : mg "_law_left" = some (.ref f_l_left)
  f_l_pick : Addr
  d_l_pick : FuncData
  F_l_pick : Fun K "_law_pick" "_law_pick" s_l_pick f_l_pick d_l_pick
  b_l_pick : Binds K d_l_pick ["_law_left_here", "_law_many"] []
  g_l_pick : mg "_law_pick" = some (.ref f_l_pick)
  f_l_kind : Addr
  d_l_kind : FuncData
  F_l_kind : Fun K "_law_kind" "_law_kind" s_l_kind f_l_kind d_l_kind
  b_l_kind : Binds K d_l_kind ["_law_left_here"] []
  g_l_kind : mg "_law_kind" = some (.ref f_l_kind)
  f_l_colour : Addr
  d_l_colour : FuncData
  F_l_colour : Fun K "_law_colour" "_law_colour" s_l_colour f_l_colour d_l_colour
  b_l_colour : Binds K d_l_colour ["_law_left_here", "_law_kind_here"] []
  g_l_colour : mg "_law_colour" = some (.ref f_l_colour)
  f_l_palette : Addr
  d_l_palette : FuncData
  F_l_palette : Fun K "_law_palette" "_law_palette" s_l_palette f_l_palette d_l_palette
  b_l_palette : Binds K d_l_palette ["_law_left_here", "_law_kind_here"] []
  g_l_palette : mg "_law_palette" = some (.ref f_l_palette)
  f_l_picture : Addr
  d_l_picture : FuncData
  F_l_picture : Fun K "_law_picture" "_law_picture" s_l_picture f_l_picture d_l_picture
  b_l_picture : Binds K d_l_picture ["_law_left_here", "_law_kind_here"] []
  g_l_picture : mg "_law_picture" = some (.ref f_l_picture)
  f_l_apart : Addr
  d_l_apart : FuncData
  F_l_apart : Fun K "_law_apart" "_law_apart" s_l_apart f_l_apart d_l_apart
  b_l_apart : Binds K d_l_apart ["_law_one", "_law_other"] []
  g_l_apart : mg "_law_apart" = some (.ref f_l_apart)
  f_l_nearest : Addr
  d_l_nearest : FuncData
  F_l_nearest : Fun K "_law_nearest" "_law_nearest" s_l_nearest f_l_nearest d_l_nearest
  b_l_nearest : Binds K d_l_nearest ["_law_palette_here", "_law_colour_here"] []
  g_l_nearest : mg "_law_nearest" = some (.ref f_l_nearest)
  f_l_same : Addr
  d_l_same : FuncData
  F_l_same : Fun K "_law_same" "_law_same" s_l_same f_l_same d_l_same
  b_l_same : Binds K d_l_same ["_law_found", "_law_due"] []
  g_l_same : mg "_law_same" = some (.ref f_l_same)
  f_l_shares : Addr
  d_l_shares : FuncData
  F_l_shares : Fun K "_law_shares" "_law_shares" s_l_shares f_l_shares d_l_shares
  b_l_shares : Binds K d_l_shares ["_law_left_here"] []
  g_l_shares : mg "_law_shares" = some (.ref f_l_shares)
  f_l_put_on : Addr
  d_l_put_on : FuncData
  F_l_put_on : Fun K "_law_put_on" "_law_put_on" s_l_put_on f_l_put_on d_l_put_on
  b_l_put_on : Binds K d_l_put_on ["_law_handed", "_law_lost", "_law_inside", "_law_total", "_law_place", "_law_rest"] []
  g_l_put_on : mg "_law_put_on" = some (.ref f_l_put_on)
  f_l_gone : Addr
  d_l_gone : FuncData
  F_l_gone : Fun K "_law_gone" "_law_gone" s_l_gone f_l_gone d_l_gone
  b_l_gone : Binds K d_l_gone ["_law_picture_here", "_law_palette_here", "_law_shares_here", "_law_way", "_law_numbers"] []
  g_l_gone : mg "_law_gone" = some (.ref f_l_gone)
  z_abs : mg "abs" = none
  z_all : mg "all" = none
  z_bool : mg "bool" = none
  z_dict : mg "dict" = none
  z_enumerate : mg "enumerate" = none
  z_int : mg "int" = none
  z_isinstance : mg "isinstance" = none
  z_len : mg "len" = none
  z_list : mg "list" = none
  z_min : mg "min" = none
  z_range : mg "range" = none
  z_str : mg "str" = none
  z_sum : mg "sum" = none
  z_tuple : mg "tuple" = none
  z_zip : mg "zip" = none
section
variable {P : Program} {w : World} {K : PySem.W.Frag} {mg : Str → Option Value} {base : Heap}
/-! ### mix -/
def spMix : Sp := fun vs H Q _ => ∃ c n : Int, vs = [.int c, .int n] ∧ 0 ≤ n ∧ n < 2000000000 ∧ ∀ r : Int, 0 ≤ r → r < 1999999973 → Q (.int r) H
theorem ok_l_mix (T : Tx K mg) {k : Nat} : FnOk P w K mg base CX0 (k + 1) T.f_l_mix T.d_l_mix ["_law_cell", "_law_k"] spMix := by
  refine T.F_l_mix.ok sc_l_mix (fun vs H Q E h => ?_) (fun cdv A outer s H vs Q E hr h => ?_)
  · obtain ⟨c, n, rfl, _⟩ := h
    rfl
  · obtain ⟨c, n, rfl, h1, h2, q⟩ := h
    refine ⟨_, (pss_cons (ps_set (i := 2) sc_l_mix.nd rfl (.inl rfl) (pe_op op_mod (pe_op op_mul (pe_op op_add (pe_op op_add (pe_op op_mod (pv 0) pe_int) (pe_op op_mul (pe_op op_mul (pv 1) (pv 1)) pe_int)) pe_int) pe_int) pe_int))
      (pss_one (ps_ret (pe_op op_mod (pe_op op_mul (pv 2) (pv 2)) pe_int)))), ?_⟩
    refine ⟨.int c, rfl, _, _, rfl, rfl, md (by decide), .int n, rfl, .int n, rfl, _, _, rfl, rfl, .inl ⟨by omega, by omega⟩, _, _, rfl, rfl, .inr ⟨by decide, by decide⟩, _, _, rfl, rfl, _, _, rfl, rfl, _, _, rfl, rfl, .inr ⟨by decide, by decide⟩, _, _, rfl, rfl, md (by decide), ?_⟩
    refine ⟨_, rfl, _, rfl, _, _, rfl, rfl, .inl ⟨?_, ?_⟩, _, _, rfl, rfl, md (by decide), ?_⟩
    · omega
    · omega
    · exact q _ (Int.emod_nonneg _ (by decide)) (Int.emod_lt_of_pos _ (by decide))
/-! ### left -/
def spLeft (K : PySem.W.Frag) : Sp := fun vs H Q _ => ∃ (a : Addr) (ns : List Int) (n : Int), vs = [.ref a, .int n] ∧ SqL K H a (ns.map V.int) ∧ 0 ≤ n ∧ ∀ (p : Addr) (x y : Int), H p = none → 0 ≤ x → Q (.ref p) (upd H p (.lst [.int x, .int y, .int 0]))
theorem left_end {c n : Int} {H : Hp} {Q : VK} (q : ∀ (p : Addr) (x y : Int), H p = none → 0 ≤ x → Q (.ref p) (upd H p (.lst [.int x, .int y, .int 0]))) (p : Addr) (hp : H p = none) (b : Bool) :
    Q (.ref p) (upd H p (.lst [.int ((if c < 0 then -c else c) * (if b = true then 1 else 0)), .int (c + 1000003 * n), .int 0])) := by
  refine q p _ _ hp ?_
  cases b <;> simp <;> split <;> omega
theorem ok_l_left (T : Tx K mg) {k : Nat} : FnOk P w K mg base CX0 (k + 1) T.f_l_left T.d_l_left ["_law_script", "_law_k"] (spLeft K) := by
  refine T.F_l_left.ok sc_l_left (fun vs H Q E h => ?_) (fun cdv A outer s H vs Q E hr h => ?_)
  · obtain ⟨a, ns, n, rfl, _⟩ := h
    rfl
  · obtain ⟨a, ns, n, rfl, hS, h1, q⟩ := h
    refine ⟨_, (pss_cons (ps_set (i := 2) sc_l_left.nd rfl (.inl rfl) (pe_ifExp (pt_cmpR op_lt (pv 1) (pe_callB (len_K K) (by rfl) T.z_len PySem.boot_len (pa_cons (pv 0) pa_nil)) (nomark _)) (pe_ix (ix_listK K) (pv 0) (pv 1) (fun _ _ => rfl)) pe_int))
      (pss_one (ps_ret (pe_lst (pa_cons (pe_op op_mul (pe_callB call_abs (by rfl) T.z_abs (by decide +kernel) (pa_cons (pv 2) pa_nil)) (pe_callTy call_int1 (by rfl) T.z_int (by decide +kernel) (pa_cons (pe_cmpR op_ge (pe_callB call_abs (by rfl) T.z_abs (by decide +kernel) (pa_cons (pv 2) pa_nil)) (pe_op op_pow pe_int pe_int) (nomark _)) pa_nil))) (pa_cons (pe_op op_add (pv 2) (pe_op op_mul pe_int (pv 1))) (pa_cons pe_int pa_nil))))))), ?_⟩
    refine ⟨_, rfl, _, rfl, a, _, rfl, .inl hS, _, _, rfl, rfl, _, rfl, ite2 (fun e => ?_) (fun e => ?_)⟩
    · have e1 : n < (ns.map V.int).length := of_decide_eq_true e
      rw [List.length_map] at e1
      have g : atI (ns.map V.int) n = some (.int (ns[n.toNat]'(by omega))) := at0 h1 (by rw [List.getElem?_map, List.getElem?_eq_getElem]; rfl)
      refine ⟨_, rfl, _, rfl, a, _, _, _, rfl, rfl, hS, g, ?_⟩
      exact ⟨_, rfl, _, rfl, _, rfl, _, rfl, _, _, rfl, rfl, ⟨by decide, by decide, by decide⟩, _, _, rfl, rfl, .inr ⟨_, rfl, _, _, rfl, rfl, .inr (bit_ok _), _, rfl, _, rfl, _, _, rfl, rfl, .inl ⟨by decide, by decide⟩, _, _, rfl, rfl, (by show 3 ≤ sizeLine; decide), fun p hp => left_end q p hp _⟩⟩
    · exact ⟨_, rfl, _, rfl, _, rfl, _, rfl, _, _, rfl, rfl, ⟨by decide, by decide, by decide⟩, _, _, rfl, rfl, .inr ⟨_, rfl, _, _, rfl, rfl, .inr (bit_ok _), _, rfl, _, rfl, _, _, rfl, rfl, .inl ⟨by decide, by decide⟩, _, _, rfl, rfl, (by show 3 ≤ sizeLine; decide), fun p hp => left_end q p hp _⟩⟩
/-! ### pick -/
def spPick : Sp := fun vs H Q _ => ∃ (L : Addr) (m : Int) (n : Nat), vs = [.ref L, .int m] ∧ Lf L H n ∧ n < 1000000000 ∧ 0 < m ∧ m < 1073741824 ∧ ∀ (r : Int) (H' : Hp), Go [L] H H' → Lf L H' (n + 1) → 0 ≤ r → r < m → Q (.int r) H'
theorem ok_l_pick (T : Tx K mg) {k : Nat} : FnOk P w K mg base CX0 (k + 2) T.f_l_pick T.d_l_pick ["_law_left_here", "_law_many"] spPick := by
  refine T.F_l_pick.ok sc_l_pick (fun vs H Q E h => ?_) (fun cdv A outer s H vs Q E hr h => ?_)
  · obtain ⟨L, m, n, rfl, _⟩ := h
    rfl
  · obtain ⟨L, m, n, rfl, ⟨a, b, c, hL, a0, c0, cn⟩, hn, m0, m1, q⟩ := h
    refine ⟨_, (pss_cons (ps_asg (pe_op op_add (pe_ix (ix_listK K) (pv 0) pe_int (fun _ _ => rfl)) pe_int) (pg_sub (pv 0) pe_int set_list))
      (pss_cons (ps_if (pt_cmpR op_gt (pe_ix (ix_listK K) (pv 0) pe_int (fun _ _ => rfl)) pe_int (nomark _)) (pss_cons (ps_set (i := 2) sc_l_pick.nd rfl (.inl rfl) (pe_op op_mod (pe_ix (ix_listK K) (pv 0) pe_int (fun _ _ => rfl)) (pv 1)))
      (pss_cons (ps_asg (pe_op op_fdiv (pe_ix (ix_listK K) (pv 0) pe_int (fun _ _ => rfl)) (pv 1)) (pg_sub (pv 0) pe_int set_list))
      (pss_one (ps_ret (pv 2))))) pss_nil)
      (pss_one (ps_ret (pe_op op_mod (pe_op op_fdiv (pe_call (ok_l_mix T (k := k)) hr (by rfl) T.g_l_mix T.F_l_mix.kp T.b_l_mix .nil pass0 (pa_cons (pe_call (ok_l_mix T (k := k)) hr (by rfl) T.g_l_mix T.F_l_mix.kp T.b_l_mix .nil pass0 (pa_cons (pe_ix (ix_listK K) (pv 0) pe_int (fun _ _ => rfl)) (pa_cons (pe_ix (ix_listK K) (pv 0) pe_int (fun _ _ => rfl)) pa_nil))) (pa_cons (pe_op op_add (pe_ix (ix_listK K) (pv 0) pe_int (fun _ _ => rfl)) pe_int) pa_nil))) pe_int) (pv 1)))))), ?_⟩
    refine ⟨_, rfl, L, _, 2, .int c, rfl, rfl, SqL.of hL, rfl, _, _, rfl, rfl, _, rfl, L, _, _, 2, rfl, rfl, hL, rfl, ?_⟩
    generalize hH : upd H L (.lst (List.set [V.int a, V.int b, V.int c] 2 (V.int (c + 1)))) = H1
    have hL1 : H1 L = some (.lst [.int a, .int b, .int (c + 1)]) := by rw [← hH]; exact upd_same
    have g1 : Go [L] H H1 := by rw [← hH]; exact Go.refl.at (List.mem_singleton.mpr rfl)
    refine ⟨_, rfl, L, _, 0, .int a, rfl, rfl, SqL.of hL1, rfl, _, _, rfl, rfl, _, rfl, ite2 (fun e => ?_) (fun e => ?_)⟩
    · have e1 : 0 < a := of_decide_eq_true e
      refine ⟨_, rfl, L, _, 0, .int a, rfl, rfl, SqL.of hL1, rfl, _, rfl, _, _, rfl, rfl, md m0, ?_⟩
      refine ⟨_, rfl, L, _, 0, .int a, rfl, rfl, SqL.of hL1, rfl, _, rfl, _, _, rfl, rfl, ⟨m0, m1⟩, _, rfl, L, _, _, 0, rfl, rfl, hL1, rfl, ?_⟩
      refine ⟨_, rfl, ?_⟩
      exact q _ _ (g1.at (List.mem_singleton.mpr rfl)) ⟨a / m, b, c + 1, upd_same, Int.ediv_nonneg a0 (by omega), by omega, by omega⟩ (Int.emod_nonneg _ (by omega)) (Int.emod_lt_of_pos _ m0)
    · refine ⟨_, rfl, L, _, 1, .int b, rfl, rfl, SqL.of hL1, rfl, _, rfl, L, _, 2, .int (c + 1), rfl, rfl, SqL.of hL1, rfl, _, _, rfl, by omega, by omega, fun r1 _ _ => ?_⟩
      refine ⟨_, rfl, L, _, 2, .int (c + 1), rfl, rfl, SqL.of hL1, rfl, _, _, rfl, rfl, _, _, rfl, by omega, by omega, fun r2 _ _ => ?_⟩
      refine ⟨_, _, rfl, rfl, ⟨by decide, by decide⟩, _, rfl, _, _, rfl, rfl, md m0, ?_⟩
      exact q _ _ g1 ⟨a, b, c + 1, hL1, a0, by omega, by omega⟩ (Int.emod_nonneg _ (by omega)) (Int.emod_lt_of_pos _ m0)
/-! ### kind -/
def spKind : Sp := fun vs H Q _ => ∃ (L : Addr) (n : Nat), vs = [.ref L] ∧ Lf L H n ∧ n < 100000000 ∧ ∀ (v : V) (H' : Hp) (wd sp : Int), Go [L] H H' → Lf L H' (n + 2) → 1 ≤ wd → wd ≤ 5 → 3 ≤ sp → sp ≤ 1000 → Dt [L] H' v (eC [wd, sp]) → Q v H'
theorem ok_l_kind (T : Tx K mg) {k : Nat} : FnOk P w K mg base CX0 (k + 3) T.f_l_kind T.d_l_kind ["_law_left_here"] spKind := by
  refine T.F_l_kind.ok sc_l_kind (fun vs H Q E h => ?_) (fun cdv A outer s H vs Q E hr h => ?_)
  · obtain ⟨L, n, rfl, _⟩ := h
    rfl
  · obtain ⟨L, n, rfl, hL, hn, q⟩ := h
    refine ⟨_, (pss_one (ps_ret (pe_tup (pa_cons (pe_ix (ix_listK K) (pe_lst (pa_cons pe_int (pa_cons pe_int (pa_cons pe_int (pa_cons pe_int (pa_cons pe_int (pa_cons pe_int (pa_cons pe_int (pa_cons pe_int pa_nil))))))))) (pe_call (ok_l_pick T (k := k)) hr (by rfl) T.g_l_pick T.F_l_pick.kp T.b_l_pick .nil pass0 (pa_cons (pv 0) (pa_cons pe_int pa_nil))) (fun _ _ => rfl)) (pa_cons (pe_ix (ix_listK K) (pe_lst (pa_cons pe_int (pa_cons pe_int (pa_cons pe_int (pa_cons pe_int (pa_cons pe_int (pa_cons pe_int pa_nil))))))) (pe_call (ok_l_pick T (k := k)) hr (by rfl) T.g_l_pick T.F_l_pick.kp T.b_l_pick .nil pass0 (pa_cons (pv 0) (pa_cons pe_int pa_nil))) (fun _ _ => rfl)) pa_nil))))), ?_⟩
    refine ⟨(by show 8 ≤ sizeLine; decide), fun p hp => ?_⟩
    refine ⟨_, rfl, L, 8, n, rfl, hL.new hp, by omega, by decide, by decide, fun r1 H1 g1 l1 a1 b1 => ?_⟩
    have e1 : H1 p = some (.lst ([1, 2, 3, 3, 3, 4, 5, 2].map V.int)) := g1.k p _ (hL.bk.ne hp) upd_same
    obtain ⟨wd, mw, ew⟩ := at_int (ns := [1, 2, 3, 3, 3, 4, 5, 2]) a1 b1
    refine ⟨p, _, r1, .int wd, rfl, rfl, SqL.of e1, ew, (by show 6 ≤ sizeLine; decide), fun p2 hp2 => ?_⟩
    refine ⟨_, rfl, L, 6, n + 1, rfl, l1.new hp2, by omega, by decide, by decide, fun r2 H2 g2 l2 a2 b2 => ?_⟩
    have e2 : H2 p2 = some (.lst ([3, 6, 20, 256, 1000, 10].map V.int)) := g2.k p2 _ (l1.bk.ne hp2) upd_same
    obtain ⟨sp, ms, es⟩ := at_int (ns := [3, 6, 20, 256, 1000, 10]) a2 b2
    refine ⟨p2, _, r2, .int sp, rfl, rfl, SqL.of e2, es, (by show 2 ≤ sizeLine; decide), fun p3 hp3 => ?_⟩
    simp at mw ms
    refine q _ _ wd sp (((((Go.new hp).trans g1).trans (Go.new hp2)).trans g2).trans (Go.new hp3)) (l2.new hp3) (by omega) (by omega) (by omega) (by omega) (Dt.ofCol (l2.bk.ne hp3) upd_same)
/-! ### same -/
def spSame : Nat → Sp
  | 0 => fun _ _ _ _ => False
  | k + 1 => fun vs H Q _ => ∃ (B : List Addr) (x y : V) (d : PyData), vs = [x, y] ∧ Dt B H x d ∧ Dt B H y d ∧ Sh d k ∧ k ≤ 60 ∧ ∀ H', Same H H' → Q (.bl true) H'
theorem kT {K : PySem.W.Frag} : PySem.W.kitAny K (.type "tuple") [.type "list", .type "tuple"] = some true := kitAny_cons (b := false) (kit_ty (by decide +kernel)) (fun _ => kitAny_cons (b := true) (kit_ty (by decide +kernel)) (fun h => Bool.noConfusion h) (fun _ => rfl)) (fun h => Bool.noConfusion h)
theorem kL {K : PySem.W.Frag} : PySem.W.kitAny K (.type "list") [.type "list", .type "tuple"] = some true := kitAny_cons (b := true) (kit_ty (by decide +kernel)) (fun h => Bool.noConfusion h) (fun _ => rfl)
theorem kF {K : PySem.W.Frag} {t : String} (h1 : kitB t "list" = some false) (h2 : kitB t "tuple" = some false) : PySem.W.kitAny K (.type t) [.type "list", .type "tuple"] = some false :=
  kitAny_cons (kit_ty (b := "list") h1) (fun _ => kitAny_cons (kit_ty (b := "tuple") h2) (fun _ => kitAny_nil) (fun h => nomatch h)) (fun h => nomatch h)
theorem eqv_sh {d : PyData} {k : Nat} (h : Sh d k) : PyData.eqv d d = true := SeqAt.eqv_refl d h.1
theorem allT : ∀ n : Nat, (List.range n).filterMap (fun _ => some (PyData.bool true)) = (List.replicate n true).map PyData.bool
  | 0 => rfl
  | n + 1 => by
    rw [List.range_succ, List.filterMap_append, allT n, List.replicate_succ', List.map_append]
    rfl
theorem same_all (T : Tx K mg) (k : Nat) : FnOk P w K mg base CX0 k T.f_l_same T.d_l_same ["_law_found", "_law_due"] (spSame k) := by
  induction k with
  | zero => exact ⟨fun _ _ _ _ h => h.elim, fun _ _ _ _ _ _ _ _ _ _ _ _ _ h => h.elim⟩
  | succ k GS =>
    refine T.F_l_same.ok sc_l_same (fun vs H Q E h => ?_) (fun cdv A outer s H vs Q E hr h => ?_)
    · obtain ⟨B, x, y, d, rfl, _⟩ := h
      rfl
    · obtain ⟨B, x, y, d, rfl, hx, hy, hd, k60, q⟩ := h
      have hrS := hr
      refine ⟨_, (pss_cons (ps_if (pt_val (pe_callB (call_isiTK K) (by rfl) T.z_isinstance (by decide +kernel) (pa_cons (pv 1) (pa_cons (pe_tup (pa_cons (pe_bltn (v := .ty "list") (by rfl) T.z_list (by decide +kernel) rfl) (pa_cons (pe_bltn (v := .ty "tuple") (by rfl) T.z_tuple (by decide +kernel) rfl) pa_nil))) pa_nil)))) (pss_cons (ps_if (PW.pt (pw_or (pt_cmpR op_ne (pe_callB (call_isiK1 K) (by rfl) T.z_isinstance (by decide +kernel) (pa_cons (pv 0) (pa_cons (pe_bltn (v := .ty "list") (by rfl) T.z_list (by decide +kernel) rfl) pa_nil))) (pe_callB (call_isiK1 K) (by rfl) T.z_isinstance (by decide +kernel) (pa_cons (pv 1) (pa_cons (pe_bltn (v := .ty "list") (by rfl) T.z_list (by decide +kernel) rfl) pa_nil))) (nomark _)) (pw_or1 (pt_cmpR op_ne (pe_callB (call_isiK1 K) (by rfl) T.z_isinstance (by decide +kernel) (pa_cons (pv 0) (pa_cons (pe_bltn (v := .ty "tuple") (by rfl) T.z_tuple (by decide +kernel) rfl) pa_nil))) (pe_callB (call_isiK1 K) (by rfl) T.z_isinstance (by decide +kernel) (pa_cons (pv 1) (pa_cons (pe_bltn (v := .ty "tuple") (by rfl) T.z_tuple (by decide +kernel) rfl) pa_nil))) (nomark _))))) (pss_one (ps_ret pe_bl)) pss_nil)
      (pss_one (ps_ret (pe_and (pe_cmpR op_eq (pe_callB (len_K K) (by rfl) T.z_len PySem.boot_len (pa_cons (pv 0) pa_nil)) (pe_callB (len_K K) (by rfl) T.z_len PySem.boot_len (pa_cons (pv 1) pa_nil)) (nomark _)) (pe_one (pe_callB (cr_allK K rfl) (by rfl) T.z_all (by decide +kernel) (pa_cons (pe_lc (own := [("_law_one", 2), ("_law_other", 3)]) (by rfl) sc_l_same.nd (RZ.pi_zipA (by rfl) T.z_zip (pa_cons (pv 0) (pa_cons (pv 1) pa_nil))) (blkOk_by (own := [("_law_one", 2), ("_law_other", 3)]) (N := N_l_same) (sc := defScope s_l_same) (by decide +kernel)) (fun _ _ _ _ _ => (pg_tupK K (n := 2) rfl (pgs_cons (pg_name (i := 2) sc_l_same.nd rfl (.inl rfl)) (pgs_cons (pg_name (i := 3) sc_l_same.nd rfl (.inl rfl)) pgs_nil)))) (fun _ _ _ _ _ => pts_nil) (fun _ _ _ _ _ => (pe_call GS hrS (by rfl) T.g_l_same T.F_l_same.kp T.b_l_same .nil pass0 (pa_cons (pv 2) (pa_cons (pv 3) pa_nil))))) pa_nil))))))) pss_nil)
      (pss_cons (ps_if (PW.pt (pw_or (pt_cmpR op_isN (pv 1) pe_non (nomark _)) (pw_or1 (pt_val (pe_callB (call_isiK1 K) (by rfl) T.z_isinstance (by decide +kernel) (pa_cons (pv 1) (pa_cons (pe_bltn (v := .ty "str") (by rfl) T.z_str (by decide +kernel) rfl) pa_nil))))))) (pss_one (ps_ret (pe_and (pe_cmpR (op_eqDK K hr.units) (pv 0) (pv 1) (nomark _)) (pe_one (pe_cmpR op_eq (pe_callB (call_isiK1 K) (by rfl) T.z_isinstance (by decide +kernel) (pa_cons (pv 0) (pa_cons (pe_bltn (v := .ty "str") (by rfl) T.z_str (by decide +kernel) rfl) pa_nil))) (pe_callB (call_isiK1 K) (by rfl) T.z_isinstance (by decide +kernel) (pa_cons (pv 1) (pa_cons (pe_bltn (v := .ty "str") (by rfl) T.z_str (by decide +kernel) rfl) pa_nil))) (nomark _)))))) pss_nil)
      (pss_cons (ps_if (pt_val (pe_callB (call_isiK1 K) (by rfl) T.z_isinstance (by decide +kernel) (pa_cons (pv 1) (pa_cons (pe_bltn (v := .ty "bool") (by rfl) T.z_bool (by decide +kernel) rfl) pa_nil)))) (pss_one (ps_ret (pe_and (pe_callB (call_isiK1 K) (by rfl) T.z_isinstance (by decide +kernel) (pa_cons (pv 0) (pa_cons (pe_bltn (v := .ty "bool") (by rfl) T.z_bool (by decide +kernel) rfl) pa_nil))) (pe_one (pe_cmpR (op_eqDK K hr.units) (pv 0) (pv 1) (nomark _)))))) pss_nil)
      (pss_one (ps_ret (pe_and (pe_callB (call_isiK1 K) (by rfl) T.z_isinstance (by decide +kernel) (pa_cons (pv 0) (pa_cons (pe_bltn (v := .ty "int") (by rfl) T.z_int (by decide +kernel) rfl) pa_nil))) (pe_and (pe_not (pe_callB (call_isiK1 K) (by rfl) T.z_isinstance (by decide +kernel) (pa_cons (pv 0) (pa_cons (pe_bltn (v := .ty "bool") (by rfl) T.z_bool (by decide +kernel) rfl) pa_nil)))) (pe_one (pe_cmpR (op_eqDK K hr.units) (pv 0) (pv 1) (nomark _)))))))))), ?_⟩
      refine ⟨_, rfl, (by show 2 ≤ sizeLine; decide), fun tp htp => ?_⟩
      have s1 : Same H (upd H tp (.tup [.ty "list", .ty "tuple"])) := sm_new htp
      have hx1 := hx.s s1
      have hy1 := hy.s s1
      have hT : (upd H tp (.tup [.ty "list", .ty "tuple"])) tp = some (.tup [.ty "list", .ty "tuple"]) := upd_same
      generalize upd H tp (.tup [.ty "list", .ty "tuple"]) = H1 at *
      cases d with
      | list ds =>
        have tx : TyX K H1 x (.type "list") := hx1.ty
        have ty : TyX K H1 y (.type "list") := hy1.ty
        refine ⟨y, tp, _, _, [.type "list", .type "tuple"], true, rfl, hT, .cons (.ty _) (.cons (.ty _) .nil), ty, kL, true, rfl, iteT ?_⟩
        refine ⟨_, rfl, _, _, _, _, true, rfl, .ty _, tx, kit_ty (by decide +kernel), _, rfl, _, _, _, _, true, rfl, .ty _, ty, kit_ty (by decide +kernel), rfl, _, rfl, iteNS rfl ?_⟩
        refine ⟨_, rfl, _, _, _, _, false, rfl, .ty _, tx, kit_ty (by decide +kernel), _, rfl, _, _, _, _, false, rfl, .ty _, ty, kit_ty (by decide +kernel), rfl, _, rfl, iteNS rfl ?_⟩
        obtain ⟨a, xs, rfl, na, ha, hA⟩ := hx1.lstI
        obtain ⟨b, ys, rfl, nb, hb, hB⟩ := hy1.lstI
        have l1 := hA.len
        have l2 := hB.len
        refine ⟨_, rfl, a, _, rfl, .inl (SqL.of ha), _, rfl, b, _, rfl, .inl (SqL.of hb), rfl, _, rfl, iteD (by rw [l1, l2]) ?_⟩
        refine ⟨_, rfl, _, rfl, a, b, _, _, rfl, .inl ⟨SqL.of ha, SqL.of hb, fun D hD => ?_⟩⟩
        obtain ⟨j, rfl, hs, hl⟩ := hd.lstI
        refine lc_pure (B := []) (walk_zip (n := ds.length) (xs := xs) (ys := ys) (by rw [l1, l2, Nat.min_self])) hD (fun _ h => nomatch h) (fun H' s' => ⟨SqL.of (s' _ _ ha), SqL.of (s' _ _ hb)⟩) hl
          (fun i => some (.bool true)) (fun i x H' H'' Ny Nn hi s2 bk y ky kn => ?_) (fun H' ws s2 eD hW => ?_)
        · obtain ⟨t, x, y, rfl, ht, rfl, e1, e2⟩ := y
          obtain ⟨d1, f1, g1⟩ := hA.getV e1
          obtain ⟨d2, f2, g2⟩ := hB.getV e2
          have ed : d1 = d2 := Option.some.inj (f1.symm.trans f2)
          subst ed
          refine ⟨t, [x, y], rfl, SqT.of upd_same, rfl, x, _, rfl, y, _, rfl, rfl, rfl, lc_yes ?_⟩
          refine ⟨_, rfl, _, rfl, B, x, y, d1, rfl, (g1.s s2).s (sm_new ht), (g2.s s2).s (sm_new ht), hs _ (List.mem_of_getElem? f1), by omega, fun H3 s3 => ?_⟩
          exact ky _ _ _ rfl ((sm_new ht).trans s3) (.bl _)
        · rw [allT] at hW
          refine ⟨D, _, rfl, SqL.of (by rw [eD, hW.blsV]), ?_⟩
          rw [show (List.replicate ds.length true).all id = true by simp]
          exact q _ (s1.trans s2)
      | tuple ds =>
        have tx : TyX K H1 x (.type "tuple") := hx1.ty
        have ty : TyX K H1 y (.type "tuple") := hy1.ty
        refine ⟨y, tp, _, _, [.type "list", .type "tuple"], true, rfl, hT, .cons (.ty _) (.cons (.ty _) .nil), ty, kT, true, rfl, iteT ?_⟩
        refine ⟨_, rfl, _, _, _, _, false, rfl, .ty _, tx, kit_ty (by decide +kernel), _, rfl, _, _, _, _, false, rfl, .ty _, ty, kit_ty (by decide +kernel), rfl, _, rfl, iteNS rfl ?_⟩
        refine ⟨_, rfl, _, _, _, _, true, rfl, .ty _, tx, kit_ty (by decide +kernel), _, rfl, _, _, _, _, true, rfl, .ty _, ty, kit_ty (by decide +kernel), rfl, _, rfl, iteNS rfl ?_⟩
        obtain ⟨a, xs, rfl, na, ha, hA⟩ := hx1.tupI
        obtain ⟨b, ys, rfl, nb, hb, hB⟩ := hy1.tupI
        have l1 := hA.len
        have l2 := hB.len
        refine ⟨_, rfl, a, _, rfl, .inr (SqT.of ha), _, rfl, b, _, rfl, .inr (SqT.of hb), rfl, _, rfl, iteD (by rw [l1, l2]) ?_⟩
        refine ⟨_, rfl, _, rfl, a, b, _, _, rfl, .inr ⟨SqT.of ha, SqT.of hb, fun D hD => ?_⟩⟩
        obtain ⟨j, rfl, hs, hl⟩ := hd.tupI
        refine lc_pure (B := []) (walk_zipT (n := ds.length) (xs := xs) (ys := ys) (by rw [l1, l2, Nat.min_self])) hD (fun _ h => nomatch h) (fun H' s' => ⟨SqT.of (s' _ _ ha), SqT.of (s' _ _ hb)⟩) hl
          (fun i => some (.bool true)) (fun i x H' H'' Ny Nn hi s2 bk y ky kn => ?_) (fun H' ws s2 eD hW => ?_)
        · obtain ⟨t, x, y, rfl, ht, rfl, e1, e2⟩ := y
          obtain ⟨d1, f1, g1⟩ := hA.getV e1
          obtain ⟨d2, f2, g2⟩ := hB.getV e2
          have ed : d1 = d2 := Option.some.inj (f1.symm.trans f2)
          subst ed
          refine ⟨t, [x, y], rfl, SqT.of upd_same, rfl, x, _, rfl, y, _, rfl, rfl, rfl, lc_yes ?_⟩
          refine ⟨_, rfl, _, rfl, B, x, y, d1, rfl, (g1.s s2).s (sm_new ht), (g2.s s2).s (sm_new ht), hs _ (List.mem_of_getElem? f1), by omega, fun H3 s3 => ?_⟩
          exact ky _ _ _ rfl ((sm_new ht).trans s3) (.bl _)
        · rw [allT] at hW
          refine ⟨D, _, rfl, SqL.of (by rw [eD, hW.blsV]), ?_⟩
          rw [show (List.replicate ds.length true).all id = true by simp]
          exact q _ (s1.trans s2)
      | none =>
        have tx : TyX K H1 x (.type "NoneType") := hx1.ty
        have ty : TyX K H1 y (.type "NoneType") := hy1.ty
        refine ⟨y, tp, _, _, [.type "list", .type "tuple"], false, rfl, hT, .cons (.ty _) (.cons (.ty _) .nil), ty, kF (by decide +kernel) (by decide +kernel), false, rfl, iteF ?_⟩
        have ey : y = .non := by cases hy1; rfl
        subst ey
        refine ⟨_, rfl, rfl, _, rfl, iteD rfl ?_⟩
        refine iteT ?_
        refine ⟨_, rfl, _, rfl, _, _, hx1.dP, hy1.dP, hd.sh (by omega), hd.sh (by omega), _, rfl, iteE (eqv_sh hd) ?_⟩
        refine ⟨_, rfl, _, _, _, _, false, rfl, .ty _, tx, kit_ty (by decide +kernel), _, rfl, _, _, _, _, false, rfl, .ty _, ty, kit_ty (by decide +kernel), rfl, ?_⟩
        exact q _ s1
      | bool b =>
        have tx : TyX K H1 x (.type "bool") := hx1.ty
        have ty : TyX K H1 y (.type "bool") := hy1.ty
        refine ⟨y, tp, _, _, [.type "list", .type "tuple"], false, rfl, hT, .cons (.ty _) (.cons (.ty _) .nil), ty, kF (by decide +kernel) (by decide +kernel), false, rfl, iteF ?_⟩
        have ey : y = .bl b := by cases hy1; rfl
        subst ey
        refine ⟨_, rfl, rfl, _, rfl, iteN (decide_eq_false (fun h => nomatch h)) ?_⟩
        refine ⟨_, rfl, _, _, _, _, false, rfl, .ty _, ty, kit_ty (by decide +kernel), _, rfl, iteF ?_⟩
        refine ⟨_, rfl, _, _, _, _, true, rfl, .ty _, ty, kit_ty (by decide +kernel), _, rfl, iteT ?_⟩
        refine ⟨_, rfl, _, _, _, _, true, rfl, .ty _, tx, kit_ty (by decide +kernel), _, rfl, iteT ?_⟩
        refine ⟨_, rfl, _, rfl, _, _, hx1.dP, hy1.dP, hd.sh (by omega), hd.sh (by omega), ?_⟩
        rw [eqv_sh hd]
        exact q _ s1
      | int i =>
        have tx : TyX K H1 x (.type "int") := hx1.ty
        have ty : TyX K H1 y (.type "int") := hy1.ty
        refine ⟨y, tp, _, _, [.type "list", .type "tuple"], false, rfl, hT, .cons (.ty _) (.cons (.ty _) .nil), ty, kF (by decide +kernel) (by decide +kernel), false, rfl, iteF ?_⟩
        have ey := hy1.intI
        subst ey
        refine ⟨_, rfl, rfl, _, rfl, iteN (decide_eq_false (fun h => nomatch h)) ?_⟩
        refine ⟨_, rfl, _, _, _, _, false, rfl, .ty _, ty, kit_ty (by decide +kernel), _, rfl, iteF ?_⟩
        refine ⟨_, rfl, _, _, _, _, false, rfl, .ty _, ty, kit_ty (by decide +kernel), _, rfl, iteF ?_⟩
        refine ⟨_, rfl, _, _, _, _, true, rfl, .ty _, tx, kit_ty (by decide +kernel), _, rfl, iteT ?_⟩
        refine ⟨_, rfl, _, _, _, _, false, rfl, .ty _, tx, kit_ty (by decide +kernel), _, rfl, _, rfl, iteT ?_⟩
        refine ⟨_, rfl, _, rfl, _, _, hx1.dP, hy1.dP, hd.sh (by omega), hd.sh (by omega), ?_⟩
        rw [eqv_sh hd]
        exact q _ s1
      | str z =>
        have tx : TyX K H1 x (.type "str") := hx1.ty
        have ty : TyX K H1 y (.type "str") := hy1.ty
        refine ⟨y, tp, _, _, [.type "list", .type "tuple"], false, rfl, hT, .cons (.ty _) (.cons (.ty _) .nil), ty, kF (by decide +kernel) (by decide +kernel), false, rfl, iteF ?_⟩
        have ey : y = .str z := by cases hy1; rfl
        subst ey
        refine ⟨_, rfl, rfl, _, rfl, iteN (decide_eq_false (fun h => nomatch h)) ?_⟩
        refine ⟨_, rfl, _, _, _, _, true, rfl, .ty _, ty, kit_ty (by decide +kernel), _, rfl, iteT ?_⟩
        refine ⟨_, rfl, _, rfl, _, _, hx1.dP, hy1.dP, hd.sh (by omega), hd.sh (by omega), _, rfl, iteE (eqv_sh hd) ?_⟩
        refine ⟨_, rfl, _, _, _, _, true, rfl, .ty _, tx, kit_ty (by decide +kernel), _, rfl, _, _, _, _, true, rfl, .ty _, ty, kit_ty (by decide +kernel), rfl, ?_⟩
        exact q _ s1
      | dict kvs => cases hx
theorem ok_l_same (T : Tx K mg) {k : Nat} : FnOk P w K mg base CX0 (k + 1) T.f_l_same T.d_l_same ["_law_found", "_law_due"] (spSame (k + 1)) := same_all T (k + 1)
/-! ### colour -/
def spColour : Sp := fun vs H Q _ => ∃ (L : Addr) (B : List Addr) (n : Nat) (kv : V) (wd sp : Int), vs = [.ref L, kv] ∧ Lf L H n ∧ L ∈ B ∧ Bk B H ∧ n < 100000000 ∧ Dt [L] H kv (eC [wd, sp]) ∧ 0 ≤ wd ∧ wd ≤ 5 ∧ 1 ≤ sp ∧ sp ≤ 1000 ∧
  ∀ (v : V) (H' : Hp) (ns : List Int), Go [L] H H' → Lf L H' (n + 10) → Dt B H' v (eC ns) → (ns.length : Int) = wd → cIn 0 999 ns → Q v H'
theorem ok_l_colour (T : Tx K mg) {k : Nat} : FnOk P w K mg base CX0 (k + 3) T.f_l_colour T.d_l_colour ["_law_left_here", "_law_kind_here"] spColour := by
  refine T.F_l_colour.ok sc_l_colour (fun vs H Q E h => ?_) (fun cdv A outer s H vs Q E hr h => ?_)
  · obtain ⟨L, B, n, kv, wd, sp, rfl, _⟩ := h
    rfl
  · obtain ⟨L, B, n, kv, wd, sp, rfl, hL, LB, hB, hn, hk, w0, w1, s0, s1, q⟩ := h
    obtain ⟨ka, rfl, nk, hkT⟩ := hk.col
    refine ⟨_, (pss_cons (ps_asg (pv 1) (pg_tupK K (n := 2) rfl (pgs_cons (pg_name (i := 2) sc_l_colour.nd rfl (.inl rfl)) (pgs_cons (pg_name (i := 3) sc_l_colour.nd rfl (.inr rfl)) pgs_nil))))
      (pss_one (ps_ret (pe_callTy (tuple_K K) (by rfl) T.z_tuple (by decide +kernel) (pa_cons (pe_lc (own := [("_law_place", 4)]) (by rfl) sc_l_colour.nd (pi_range1 (by rfl) T.z_range (pa_cons (pv 2) pa_nil)) (blkOk_by (own := [("_law_place", 4)]) (N := N_l_colour) (sc := defScope s_l_colour) (by decide +kernel)) (fun _ _ _ _ _ => (pg_name (i := 4) sc_l_colour.nd rfl (.inl rfl))) (fun _ _ _ _ _ => pts_nil) (fun _ _ _ _ _ => (pe_ix (ix_listK K) (pe_lst (pa_cons (pe_call (ok_l_pick T (k := k)) hr (by rfl) T.g_l_pick T.F_l_pick.kp T.b_l_pick .nil pass0 (pa_cons (pv 0) (pa_cons (pv 3) pa_nil))) (pa_cons pe_int pa_nil))) (pe_callTy call_int1 (by rfl) T.z_int (by decide +kernel) (pa_cons (pe_cmpR op_eq (pe_call (ok_l_pick T (k := k)) hr (by rfl) T.g_l_pick T.F_l_pick.kp T.b_l_pick .nil pass0 (pa_cons (pv 0) (pa_cons pe_int pa_nil))) pe_int (nomark _)) pa_nil)) (fun _ _ => rfl)))) pa_nil))))), ?_⟩
    refine ⟨_, rfl, ka, [.int wd, .int sp], rfl, SqT.of hkT, rfl, .int wd, _, rfl, .int sp, _, rfl, rfl, ?_⟩
    refine ⟨_, rfl, wd, rfl, by omega, by omega, fun D hD => ?_⟩
    refine lc_range (lo := 0) (n := wd.toNat) (fun i H' => ∃ ns : List Int, ns.length = i ∧ cIn 0 999 ns ∧ Go [L] H H' ∧ Lf L H' (n + 2 * i) ∧ H' D = some (.lst (ns.map V.int)))
      ⟨[], rfl, cIn.nil, Go.new hD, hL.new hD, upd_same⟩ (fun i H1 hi h1 => ?_) (fun H1 h1 => ?_)
    · obtain ⟨ns, en, cn, g, l, eD⟩ := h1
      have nD : D ∉ [L] := hL.bk.ne hD
      refine ⟨rfl, lc_yes ?_⟩
      refine ⟨_, rfl, _, rfl, L, sp, n + 2 * i, rfl, l, by omega, by omega, by omega, fun r1 H2 g2 l2 a1 b1 => ?_⟩
      refine ⟨(by show 2 ≤ sizeLine; decide), fun p hp => ?_⟩
      refine ⟨_, rfl, L, 8, n + 2 * i + 1, rfl, l2.new hp, by omega, by decide, by decide, fun r2 H3 g3 l3 a2 b2 => ?_⟩
      have e3 : H3 p = some (.lst [.int r1, .int 999]) := g3.k p _ (l2.bk.ne hp) upd_same
      refine ⟨rfl, .inr ⟨_, rfl, p, _, _, _, rfl, rfl, SqL.of e3, at2 _ _ _, ns.map V.int, ?_⟩⟩
      have gg : Go [L] H1 H3 := (g2.trans (Go.new hp)).trans g3
      obtain ⟨x, ex, x0, x1⟩ : ∃ x : Int, (if decide (V.int r2 = V.int 0) = true then V.int 999 else V.int r1) = .int x ∧ 0 ≤ x ∧ x ≤ 999 := by
        by_cases hb : decide (V.int r2 = V.int 0) = true
        · rw [if_pos hb]
          exact ⟨999, rfl, by decide, by decide⟩
        · rw [if_neg hb]
          exact ⟨r1, rfl, by omega, by omega⟩
      refine ⟨gg.k D _ nD eD, sz (by rw [List.length_map]; omega), ns ++ [x], ?_, cn.app x0 x1, (g.trans gg).mut hD, (l3.up (hL.ne hD)).mono (by omega), ?_⟩
      · rw [List.length_append]
        simp
        omega
      · rw [upd_same, List.map_append, ex]
        rfl
    · obtain ⟨ns, en, cn, g, l, eD⟩ := h1
      refine ⟨D, _, rfl, .inl ⟨SqL.of eD, fun t ht => ?_⟩⟩
      exact q _ _ ns (g.trans (Go.new ht)) ((l.new ht).mono (by omega)) (Dt.ofCol ((hB.go g).ne ht) upd_same) (by omega) cn
/-! ### palette -/
def cOk (wd : Int) (c : List Int) : Prop := (c.length : Int) = wd ∧ cIn 0 999 c
def spPalette : Sp := fun vs H Q _ => ∃ (L : Addr) (n : Nat) (kv : V) (wd sp : Int), vs = [.ref L, kv] ∧ Lf L H n ∧ n < 10000000 ∧ Dt [L] H kv (eC [wd, sp]) ∧ 0 ≤ wd ∧ wd ≤ 5 ∧ 1 ≤ sp ∧ sp ≤ 1000 ∧
  ∀ (v : V) (H' : Hp) (cs : List (List Int)), Go [L] H H' → Lf L H' (n + 1000) → Dt [L] H' v (eP cs) → 0 < cs.length → cs.length ≤ 40 → (∀ c ∈ cs, cOk wd c) → Q v H'
theorem ok_l_palette (T : Tx K mg) {k : Nat} : FnOk P w K mg base CX0 (k + 4) T.f_l_palette T.d_l_palette ["_law_left_here", "_law_kind_here"] spPalette := by
  refine T.F_l_palette.ok sc_l_palette (fun vs H Q E h => ?_) (fun cdv A outer s H vs Q E hr h => ?_)
  · obtain ⟨L, n, kv, wd, sp, rfl, _⟩ := h
    rfl
  · obtain ⟨L, n, kv, wd, sp, rfl, hL, hn, hk, w0, w1, s0, s1, q⟩ := h
    refine ⟨_, (pss_cons (ps_set (i := 2) sc_l_palette.nd rfl (.inl rfl) (pe_ix (ix_listK K) (pe_lst (pa_cons pe_int (pa_cons pe_int (pa_cons pe_int (pa_cons pe_int (pa_cons pe_int (pa_cons pe_int (pa_cons pe_int (pa_cons (pe_op op_add pe_int (pe_call (ok_l_pick T (k := k + 1)) hr (by rfl) T.g_l_pick T.F_l_pick.kp T.b_l_pick .nil pass0 (pa_cons (pv 0) (pa_cons pe_int pa_nil)))) pa_nil))))))))) (pe_call (ok_l_pick T (k := k + 1)) hr (by rfl) T.g_l_pick T.F_l_pick.kp T.b_l_pick .nil pass0 (pa_cons (pv 0) (pa_cons pe_int pa_nil))) (fun _ _ => rfl)))
      (pss_cons (ps_set (i := 3) sc_l_palette.nd rfl (.inl rfl) (pe_lst pa_nil))
      (pss_cons (ps_for PassesOwn.never rfl (pi_range1 (by rfl) T.z_range (pa_cons (pv 2) pa_nil)) (pg_name (i := 4) sc_l_palette.nd rfl (.inl rfl)) (pss_cons (ps_set (i := 5) sc_l_palette.nd rfl (.inl rfl) (pe_call (ok_l_colour T (k := k)) hr (by rfl) T.g_l_colour T.F_l_colour.kp T.b_l_colour .nil pass0 (pa_cons (pv 0) (pa_cons (pv 1) pa_nil))))
      (Evl.pss_cut (ps_if (PW.pt (pw_and (pt_cmpR (op_neDK K hr.units) (pv 3) (pe_lst pa_nil) (nomark _)) (pw_and1 (pt_cmpR op_eq (pe_call (ok_l_pick T (k := k + 1)) hr (by rfl) T.g_l_pick T.F_l_pick.kp T.b_l_pick .nil pass0 (pa_cons (pv 0) (pa_cons pe_int pa_nil))) pe_int (nomark _))))) (pss_one (ps_set (i := 5) sc_l_palette.nd rfl (.inl rfl) (pe_ix (ix_listK K) (pv 3) (pe_call (ok_l_pick T (k := k + 1)) hr (by rfl) T.g_l_pick T.F_l_pick.kp T.b_l_pick .nil pass0 (pa_cons (pv 0) (pa_cons (pe_callB (len_K K) (by rfl) T.z_len PySem.boot_len (pa_cons (pv 3) pa_nil)) pa_nil))) (fun _ _ => rfl)))) pss_nil)
      (pss_one (ps_expr (pe_bm PySem.F.plainAttrs_list PySem.F.slot_list_append PySem.F.type_list_append mt_append (pv 3) (pa_cons (pv 5) pa_nil)))))))
      (pss_one (ps_ret (pv 3)))))), ?_⟩
    refine ⟨_, rfl, L, 31, n, rfl, hL, by omega, by decide, by decide, fun r1 H1 g1 l1 a1 b1 => ?_⟩
    refine ⟨_, _, rfl, rfl, (by show 8 ≤ sizeLine; decide), fun p hp => ?_⟩
    refine ⟨_, rfl, L, 8, n + 1, rfl, l1.new hp, by omega, by decide, by decide, fun r2 H2 g2 l2 a2 b2 => ?_⟩
    have e2 : H2 p = some (.lst ([1, 2, 3, 4, 5, 7, 9, 10 + r1].map V.int)) := g2.k p _ (l1.bk.ne hp) upd_same
    obtain ⟨m, mm, em⟩ := at_int (ns := [1, 2, 3, 4, 5, 7, 9, 10 + r1]) a2 b2
    refine ⟨p, _, r2, .int m, rfl, rfl, SqL.of e2, em, ?_⟩
    have hm : 1 ≤ m ∧ m ≤ 40 := by
      simp at mm
      omega
    have gH : Go [L] H H2 := (g1.trans (Go.new hp)).trans g2
    refine ⟨Nat.zero_le _, fun D hD => ?_⟩
    have hD0 : H D = none := gH.free hD
    refine ⟨_, rfl, m, rfl, by omega, by omega, for_range (lo := 0) (n := m.toNat) (fun i σ H' => ∃ y4 y5 vs cs, σ = [some (.ref L), some kv, some (.int m), some (.ref D), y4, y5] ∧ Go [L] H H' ∧ Lf L H' (n + 2 + 12 * i) ∧ H' D = some (.lst vs) ∧ DtA [D, L] H' vs (cs.map eC) ∧ cs.length = i ∧ ∀ c ∈ cs, cOk wd c)
      ⟨none, none, [], [], rfl, gH.mut hD0, (l2.new hD).mono (by omega), upd_same, .nil, rfl, fun _ h => nomatch h⟩ (fun i σ H3 hi h3 => ?_) (fun σ H3 h3 => ?_)⟩
    · obtain ⟨y4, y5, vs, cs, rfl, g3, l3, eD, hA, hl, hc⟩ := h3
      have nD : D ∉ [L] := hL.bk.ne hD0
      have bk3 : Bk [D, L] H3 := l3.bk.cons eD
      refine ⟨_, rfl, _, rfl, L, [D, L], n + 2 + 12 * i, kv, wd, sp, rfl, l3, by simp, bk3, by omega, hk.g g3, w0, w1, s0, s1, fun v H4 ns g4 l4 d4 n4 c4 => ?_⟩
      have eD4 := g4.k D _ nD eD
      refine ⟨fun σ' H' => ∃ y4 v c, σ' = [some (.ref L), some kv, some (.int m), some (.ref D), y4, some v] ∧ Go [L] H3 H' ∧ Lf L H' (n + 2 + 12 * i + 12) ∧ Dt [D, L] H' v (eC c) ∧ cOk wd c, ?_, fun σ' H' hM => ?_⟩
      · refine ⟨_, rfl, Nat.zero_le _, fun z hz => ⟨eP cs, .list [], ?_, .lst (SqL.of upd_same) .nil, ?_, rfl, _, rfl, ite2 (fun e => ?_) (fun e => ?_)⟩⟩
        · exact Dt.dP (B := [L]) (.lst nD ((Go.new (B := [L]) hz).k D _ nD eD4) (((hA.g (g4.w1 (by simp))).un).g (Go.new hz)))
        · exact (sh_eP (by omega) fun c h => by have := (hc c h).1; omega).sh (by omega)
        · have hcs : cs ≠ [] := fun z => by
            subst z
            exact absurd e (by decide)
          have hlen : 0 < cs.length := List.length_pos_iff.mpr hcs
          refine ⟨_, rfl, L, 6, n + 2 + 12 * i + 10, rfl, l4.new hz, by omega, by decide, by decide, fun r5 H5 g5 l5 a5 b5 => ?_⟩
          have g45 : Go [L] H4 H5 := (Go.new hz).trans g5
          refine ⟨rfl, _, rfl, ite2 (fun e => ?_) (fun e => ?_)⟩
          · have eD5 := g45.k D _ nD eD4
            have hA5 := hA.g ((g4.trans g45).w1 (B := [D, L]) (by simp))
            have lv := hA5.len
            rw [List.length_map] at lv
            refine ⟨_, rfl, _, rfl, _, rfl, D, _, rfl, .inl (SqL.of eD5), L, _, n + 2 + 12 * i + 11, rfl, l5, by omega, by omega, by omega, fun r6 H6 g6 l6 a6 b6 => ?_⟩
            have eD6 := g6.k D _ nD eD5
            have hr6 : r6.toNat < cs.length := by omega
            obtain ⟨v6, f6, d6⟩ := (hA5.g (g6.w1 (B := [D, L]) (by simp))).get (i := r6.toNat) (d := eC cs[r6.toNat]) (by rw [List.getElem?_map, List.getElem?_eq_getElem hr6]; rfl)
            refine ⟨D, _, _, _, rfl, rfl, SqL.of eD6, at0 a6 f6, ?_⟩
            exact ⟨_, v6, _, rfl, (g4.trans g45).trans g6, l6.mono (by omega), d6, hc _ (List.getElem_mem hr6)⟩
          · exact ⟨_, v, ns, rfl, g4.trans g45, l5.mono (by omega), d4.g (g45.w1 (by simp)), n4, c4⟩
        · exact iteF ⟨_, v, ns, rfl, g4.trans (Go.new hz), (l4.new hz).mono (by omega), d4.g (Go.new hz), n4, c4⟩
      · obtain ⟨z4, v7, c7, rfl, g7, l7, d7, o7⟩ := hM
        have eD7 := g7.k D _ nD eD
        have hA7 := hA.g (g7.w1 (B := [D, L]) (by simp))
        have lv := hA7.len
        rw [List.length_map] at lv
        have gm : Go [D, L] H' (upd H' D (.lst (vs ++ [v7]))) := Go.refl.at (by simp)
        refine ⟨_, rfl, .inl ⟨rfl, _, SqL.of eD7⟩, _, rfl, D, _, _, rfl, rfl, eD7, sz (by omega), ?_⟩
        refine ⟨z4, some v7, vs ++ [v7], cs ++ [c7], rfl, (g3.trans g7).mut hD0, (l7.up (hL.ne hD0)).mono (by omega), upd_same, ?_, by simp; omega, fun c h => ?_⟩
        · rw [List.map_append]
          exact (hA7.g gm).app (.one (d7.g gm))
        · rcases List.mem_append.mp h with h | h
          · exact hc c h
          · rw [List.mem_singleton.mp h]
            exact o7
    · obtain ⟨y4, y5, vs, cs, rfl, g3, l3, eD, hA, hl, hc⟩ := h3
      exact ⟨_, rfl, q _ _ cs g3 (l3.mono (by omega)) (.lst (hL.bk.ne hD0) eD hA.un) (by omega) (by omega) hc⟩
/-! ### apart, both ways -/
def ap (a b : List Int) : Int := ((a.zip b).map fun p => (p.1 - p.2) ^ 2).sum
theorem ap_len (a b : List Int) : ((a.zip b).map fun p => (p.1 - p.2) ^ 2).length = min a.length b.length := by simp
theorem zat {a b : List Int} {i : Nat} {f : Int × Int → PyData} (h1 : i < a.length) (h2 : i < b.length) : ((a.zip b).map f)[i]? = some (f (a[i], b[i])) := by
  rw [List.getElem?_map, List.getElem?_eq_getElem (by simp; omega)]
  simp
def spApart : Sp := fun vs H Q _ => ∃ (B : List Addr) (x y : V) (a b : List Int), vs = [x, y] ∧ Dt B H x (eC a) ∧ Dt B H y (eC b) ∧ a.length = b.length ∧ b.length ≤ 100 ∧ wIn a ∧ wIn b ∧ ∀ H', Same H H' → Q (.int (ap a b)) H'
theorem ok_apart (T : Tx K mg) {k : Nat} : FnOk P w K mg base CX0 (k + 1) T.f_apart T.d_apart ["one", "other"] spApart := by
  refine T.F_apart.ok sc_apart (fun vs H Q E h => ?_) (fun cdv A outer s H vs Q E hr h => ?_)
  · obtain ⟨B, x, y, a, b, rfl, _⟩ := h
    rfl
  · obtain ⟨B, x, y, a, b, rfl, ha, hb, hl, hz, ca, cb, q⟩ := h
    obtain ⟨pa, rfl, na, ta⟩ := ha.col
    obtain ⟨pb, rfl, nb, tb⟩ := hb.col
    refine ⟨_, (pss_one (ps_ret (pe_callB (cr_sumK K rfl) (by rfl) T.z_sum (by decide +kernel) (pa_cons (pe_lc (own := [("a", 2), ("b", 3)]) (by rfl) sc_apart.nd (RZ.pi_zipA (by rfl) T.z_zip (pa_cons (pv 0) (pa_cons (pv 1) pa_nil))) (blkOk_by (own := [("a", 2), ("b", 3)]) (N := N_apart) (sc := defScope s_apart) (by decide +kernel)) (fun _ _ _ _ _ => (pg_tupK K (n := 2) rfl (pgs_cons (pg_name (i := 2) sc_apart.nd rfl (.inl rfl)) (pgs_cons (pg_name (i := 3) sc_apart.nd rfl (.inl rfl)) pgs_nil)))) (fun _ _ _ _ _ => pts_nil) (fun _ _ _ _ _ => (pe_op op_powW (pe_op op_sub (pv 2) (pv 3)) pe_int))) pa_nil)))), ?_⟩
    refine ⟨_, rfl, _, rfl, pa, pb, _, _, rfl, .inr ⟨SqT.of ta, SqT.of tb, fun D hD => ?_⟩⟩
    refine lc_pure (B := []) (walk_zipT (n := a.length) (xs := a.map V.int) (ys := b.map V.int) (by simp; omega)) hD (fun _ h => nomatch h) (fun H' s' => ⟨SqT.of (s' _ _ ta), SqT.of (s' _ _ tb)⟩) (by omega)
      (fun i => ((a.zip b).map fun p => PyData.int ((p.1 - p.2) ^ 2))[i]?) (fun i x H' H'' Ny Nn hi s1 bk y ky kn => ?_) (fun H' ws s1 eD hA => ?_)
    · obtain ⟨t, x, y, rfl, ht, rfl, e1, e2⟩ := y
      have i2 : i < b.length := by omega
      have x1 := mat hi e1
      have x2 := mat i2 e2
      have c1 := ca _ (List.getElem_mem hi)
      have c2 := cb _ (List.getElem_mem i2)
      refine ⟨t, [x, y], rfl, SqT.of upd_same, rfl, x, _, rfl, y, _, rfl, rfl, rfl, lc_yes ?_⟩
      refine ⟨_, rfl, _, rfl, _, _, x1, x2, _, _, rfl, rfl, powW c1 c2, ?_⟩
      exact ky _ _ _ (zat hi i2) (sm_new ht) (.int _)
    · rw [fm_all (by simp; omega)] at hA
      have hA2 : DtA (D :: []) H' ws (((a.zip b).map fun p => (p.1 - p.2) ^ 2).map PyData.int) := by rw [List.map_map]; exact hA
      refine ⟨D, _, rfl, SqL.of (by rw [eD, hA2.intsV]), ?_⟩
      exact q _ s1
/-! ### the nearest -/
def near (cs : List (List Int)) (c : List Int) (i : Nat) : Prop := ∃ h : i < cs.length, ∀ (j : Nat) (hj : j < cs.length), ap cs[i] c < ap cs[j] c ∨ (ap cs[i] c = ap cs[j] c ∧ i ≤ j)
theorem near_one {cs : List (List Int)} {c : List Int} {i j : Nat} (h1 : near cs c i) (h2 : near cs c j) : i = j := by
  obtain ⟨a, f⟩ := h1
  obtain ⟨b, g⟩ := h2
  have x := f j b
  have y := g i a
  omega
def pOk (cs : List (List Int)) (c : List Int) : Prop := cs.length ≤ 1000 ∧ c.length ≤ 100 ∧ wIn c ∧ ∀ x ∈ cs, x.length = c.length ∧ wIn x
def spNear : Sp := fun vs H Q _ => ∃ (B : List Addr) (pl cv : V) (cs : List (List Int)) (c : List Int), vs = [pl, cv] ∧ Dt B H pl (eP cs) ∧ Dt B H cv (eC c) ∧ pOk cs c ∧ 0 < cs.length ∧
  ∀ H' (i : Nat), Same H H' → near cs c i → Q (.int i) H'
theorem first_at {ns : List Int} {m : Int} (h : m ∈ ns) : ∃ j : Nat, ns[j]? = some m ∧ ∀ i x, i < j → ns[i]? = some x → x ≠ m := by
  induction ns with
  | nil => cases h
  | cons n ns ih =>
    by_cases e : n = m
    · exact ⟨0, by rw [e]; rfl, fun i x hi => by omega⟩
    · have hm : m ∈ ns := by
        rcases List.mem_cons.mp h with z | z
        · exact absurd z.symm e
        · exact z
      obtain ⟨j, h1, h2⟩ := ih hm
      refine ⟨j + 1, h1, fun i x hi hx => ?_⟩
      cases i with
      | zero =>
        have : n = x := Option.some.inj hx
        rw [← this]; exact e
      | succ i => exact h2 i x (by omega) hx
theorem near_of {cs : List (List Int)} {c : List Int} {j : Nat} {m : Int} (hle : ∀ y ∈ cs.map (fun x => ap x c), m ≤ y) (h1 : (cs.map fun x => ap x c)[j]? = some m) (h2 : ∀ i x, i < j → (cs.map fun x => ap x c)[i]? = some x → x ≠ m) : near cs c j := by
  have hj : j < cs.length := by
    have := (List.getElem?_eq_some_iff.mp h1).1
    rwa [List.length_map] at this
  rw [List.getElem?_map, List.getElem?_eq_getElem hj] at h1
  have e : ap cs[j] c = m := Option.some.inj h1
  refine ⟨hj, fun i hi => ?_⟩
  have l := hle (ap cs[i] c) (List.mem_map.mpr ⟨_, List.getElem_mem hi, rfl⟩)
  by_cases hij : i < j
  · have := h2 i (ap cs[i] c) hij (by rw [List.getElem?_map, List.getElem?_eq_getElem hi]; rfl)
    omega
  · omega
theorem flat_ints (ns : List Int) : (ns.map V.int).all flatV = true := by
  induction ns with
  | nil => rfl
  | cons n ns ih => rw [List.map_cons, List.all_cons, ih]; rfl
theorem ok_nearest (T : Tx K mg) {k : Nat} : FnOk P w K mg base CX0 (k + 2) T.f_nearest T.d_nearest ["palette", "colour"] spNear := by
  refine T.F_nearest.ok sc_nearest (fun vs H Q E h => ?_) (fun cdv A outer s H vs Q E hr h => ?_)
  · obtain ⟨B, pl, cv, cs, c, rfl, _⟩ := h
    rfl
  · obtain ⟨B, pl, cv, cs, c, rfl, hp, hc, ⟨o1, o2, o3, o4⟩, c0, q⟩ := h
    obtain ⟨pa, vs, rfl, np, ep, hA⟩ := hp.pal
    have lv := hA.len
    rw [List.length_map] at lv
    refine ⟨_, (pss_cons (ps_setLc (i := 2) (own := [("one", 3)]) (by rfl) sc_nearest.nd rfl rfl (sw_true rfl rfl rfl (by decide +kernel)) (pi_listK K (pv 0)) (blkOk_by (own := [("one", 3)]) (N := N_nearest) (sc := defScope s_nearest) (by decide +kernel)) (fun _ _ _ _ _ => (pg_name (i := 3) sc_nearest.nd rfl (.inl rfl))) (fun _ _ _ _ _ => pts_nil) (fun _ _ _ _ _ => (pe_call (ok_apart T (k := k)) hr (by rfl) T.g_apart T.F_apart.kp T.b_apart .nil pass0 (pa_cons (pv 3) (pa_cons (pv 1) pa_nil)))))
      (pss_one (ps_ret (pe_bm PySem.F.plainAttrs_list PySem.F.slot_list_index PySem.F.type_list_index (mt_indexK K) (pv 2) (pa_cons (pe_callB (cr_minK K rfl) (by rfl) T.z_min (by decide +kernel) (pa_cons (pv 2) pa_nil)) pa_nil))))), ?_⟩
    refine ⟨_, rfl, pa, rfl, ⟨_, SqL.of ep⟩, fun D hD => ?_⟩
    refine lc_pure (B := []) (walk_list (xs := vs)) hD (fun _ h => nomatch h) (fun H' s' => SqL.of (s' _ _ ep)) (by omega)
      (fun i => (cs.map fun x => PyData.int (ap x c))[i]?) (fun i x H' H'' Ny Nn hi t1 bk y ky kn => ?_) (fun H8 ws s8 eS hW => ?_)
    · obtain ⟨rfl, y⟩ := y
      obtain ⟨d1, f1, h1⟩ := hA.getV y
      have hi2 : i < cs.length := by omega
      rw [List.getElem?_map, List.getElem?_eq_getElem hi2] at f1
      have ed : d1 = eC cs[i] := (Option.some.inj f1).symm
      subst ed
      have oc := o4 _ (List.getElem_mem hi2)
      refine ⟨rfl, lc_yes ⟨_, rfl, _, rfl, B, x, cv, cs[i], c, rfl, h1.s t1, hc.s t1, oc.1, o2, oc.2, o3, fun H3 s3 => ?_⟩⟩
      exact ky _ _ _ (by rw [List.getElem?_map, List.getElem?_eq_getElem hi2]; rfl) s3 (.int _)
    · rw [fm_all (by simp; omega)] at hW
      have hW2 : DtA [D] H8 ws ((cs.map fun x => ap x c).map PyData.int) := by rw [List.map_map]; exact hW
      have ews := hW2.intsV
      subst ews
      refine ⟨_, rfl, .inl ⟨rfl, _, SqL.of eS⟩, _, rfl, D, _, rfl, SqL.of eS, (by rw [List.length_map]; omega), fun m hm hle => ?_⟩
      obtain ⟨j, h1, h2⟩ := first_at hm
      refine ⟨D, _, _, j, .int m, rfl, rfl, SqL.of eS, rfl, flat_ints _, (by rw [List.getElem?_map, h1]; rfl), (by unfold eqV; simp), fun i z hi hz => ?_, ?_⟩
      · rw [List.getElem?_map] at hz
        cases hx : (cs.map fun x => ap x c)[i]? with
        | none => rw [hx] at hz; cases hz
        | some x =>
          rw [hx] at hz
          have ez : V.int x = z := Option.some.inj hz
          rw [← ez]
          have := h2 i x hi hx
          unfold eqV
          simp [this]
      · exact q _ j s8 (near_of hle h1 h2)
/-! ### pictures that are drawn -/
def picOk (wd : Int) (ps : List (List (List Int))) : Prop := 0 < ps.length ∧ ps.length ≤ 16 ∧ ∃ wz : Nat, 1 ≤ wz ∧ wz ≤ 16 ∧ ∀ p ∈ ps, p.length = wz ∧ ∀ c ∈ p, cOk wd c
def spPicture : Sp := fun vs H Q _ => ∃ (L : Addr) (n : Nat) (kv : V) (wd sp : Int), vs = [.ref L, kv] ∧ Lf L H n ∧ n < 1000000 ∧ Dt [L] H kv (eC [wd, sp]) ∧ 0 ≤ wd ∧ wd ≤ 5 ∧ 1 ≤ sp ∧ sp ≤ 1000 ∧
  ∀ (a : Addr) (vs : List V) (H' : Hp) (ps : List (List (List Int))), Go [L] H H' → Lf L H' (n + 4000) → H a = none → H' a = some (.lst vs) → DtA [a, L] H' vs (ps.map eP) → picOk wd ps → Q (.ref a) H'
set_option maxHeartbeats 1000000 in
theorem ok_l_picture (T : Tx K mg) {k : Nat} : FnOk P w K mg base CX0 (k + 4) T.f_l_picture T.d_l_picture ["_law_left_here", "_law_kind_here"] spPicture := by
  refine T.F_l_picture.ok sc_l_picture (fun vs H Q E h => ?_) (fun cdv A outer s H vs Q E hr h => ?_)
  · obtain ⟨L, n, kv, wd, sp, rfl, _⟩ := h
    rfl
  · obtain ⟨L, n, kv, wd, sp, rfl, hL, hn, hk, w0, w1, s0, s1, q⟩ := h
    refine ⟨_, (pss_cons (ps_asg (pe_lc (own := [("_law_side", 10)]) (by rfl) sc_l_picture.nd (pi_range1 (by rfl) T.z_range (pa_cons pe_int pa_nil)) (blkOk_by (own := [("_law_side", 10)]) (N := N_l_picture) (sc := defScope s_l_picture) (by decide +kernel)) (fun _ _ _ _ _ => (pg_name (i := 10) sc_l_picture.nd rfl (.inl rfl))) (fun _ _ _ _ _ => pts_nil) (fun _ _ _ _ _ => (pe_ix (ix_listK K) (pe_lst (pa_cons (pe_op op_add pe_int (pe_call (ok_l_pick T (k := k + 1)) hr (by rfl) T.g_l_pick T.F_l_pick.kp T.b_l_pick .nil pass0 (pa_cons (pv 0) (pa_cons pe_int pa_nil)))) (pa_cons (pe_op op_add pe_int (pe_call (ok_l_pick T (k := k + 1)) hr (by rfl) T.g_l_pick T.F_l_pick.kp T.b_l_pick .nil pass0 (pa_cons (pv 0) (pa_cons pe_int pa_nil)))) pa_nil))) (pe_callTy call_int1 (by rfl) T.z_int (by decide +kernel) (pa_cons (pe_cmpR op_eq (pe_call (ok_l_pick T (k := k + 1)) hr (by rfl) T.g_l_pick T.F_l_pick.kp T.b_l_pick .nil pass0 (pa_cons (pv 0) (pa_cons pe_int pa_nil))) pe_int (nomark _)) pa_nil)) (fun _ _ => rfl)))) (pg_lstK K (n := 2) rfl (pgs_cons (pg_name (i := 2) sc_l_picture.nd rfl (.inl rfl)) (pgs_cons (pg_name (i := 3) sc_l_picture.nd rfl (.inl rfl)) pgs_nil))))
      (pss_cons (ps_setLc (i := 4) (own := [("_law_k", 11)]) (by rfl) sc_l_picture.nd rfl rfl (sw_true rfl rfl rfl (by decide +kernel)) (pi_range1 (by rfl) T.z_range (pa_cons (pe_op op_add pe_int (pe_call (ok_l_pick T (k := k + 1)) hr (by rfl) T.g_l_pick T.F_l_pick.kp T.b_l_pick .nil pass0 (pa_cons (pv 0) (pa_cons pe_int pa_nil)))) pa_nil)) (blkOk_by (own := [("_law_k", 11)]) (N := N_l_picture) (sc := defScope s_l_picture) (by decide +kernel)) (fun _ _ _ _ _ => (pg_name (i := 11) sc_l_picture.nd rfl (.inl rfl))) (fun _ _ _ _ _ => pts_nil) (fun _ _ _ _ _ => (pe_call (ok_l_colour T (k := k)) hr (by rfl) T.g_l_colour T.F_l_colour.kp T.b_l_colour .nil pass0 (pa_cons (pv 0) (pa_cons (pv 1) pa_nil)))))
      (pss_cons (ps_set (i := 5) sc_l_picture.nd rfl (.inl rfl) (pe_lst pa_nil))
      (pss_cons (ps_for PassesOwn.never rfl (pi_range1 (by rfl) T.z_range (pa_cons (pv 2) pa_nil)) (pg_name (i := 6) sc_l_picture.nd rfl (.inl rfl)) (pss_cons (ps_set (i := 7) sc_l_picture.nd rfl (.inl rfl) (pe_lst pa_nil))
      (pss_cons (ps_for PassesOwn.never rfl (pi_range1 (by rfl) T.z_range (pa_cons (pv 3) pa_nil)) (pg_name (i := 8) sc_l_picture.nd rfl (.inl rfl)) (pss_cons (ps_set (i := 9) sc_l_picture.nd rfl (.inl rfl) (pe_ix (ix_listK K) (pv 4) (pe_call (ok_l_pick T (k := k + 1)) hr (by rfl) T.g_l_pick T.F_l_pick.kp T.b_l_pick .nil pass0 (pa_cons (pv 0) (pa_cons (pe_callB (len_K K) (by rfl) T.z_len PySem.boot_len (pa_cons (pv 4) pa_nil)) pa_nil))) (fun _ _ => rfl)))
      (Evl.pss_cut (ps_if (pt_cmpR op_eq (pe_call (ok_l_pick T (k := k + 1)) hr (by rfl) T.g_l_pick T.F_l_pick.kp T.b_l_pick .nil pass0 (pa_cons (pv 0) (pa_cons pe_int pa_nil))) pe_int (nomark _)) (pss_one (ps_set (i := 9) sc_l_picture.nd rfl (.inl rfl) (pe_call (ok_l_colour T (k := k)) hr (by rfl) T.g_l_colour T.F_l_colour.kp T.b_l_colour .nil pass0 (pa_cons (pv 0) (pa_cons (pv 1) pa_nil))))) pss_nil)
      (pss_one (ps_expr (pe_bm PySem.F.plainAttrs_list PySem.F.slot_list_append PySem.F.type_list_append mt_append (pv 7) (pa_cons (pv 9) pa_nil)))))))
      (pss_one (ps_expr (pe_bm PySem.F.plainAttrs_list PySem.F.slot_list_append PySem.F.type_list_append mt_append (pv 5) (pa_cons (pv 7) pa_nil)))))))
      (pss_one (ps_ret (pv 5))))))), ?_⟩
    refine ⟨2, rfl, by decide, by decide, fun D hD => ?_⟩
    refine lc_ints (walk_range (lo := 0) (n := 2)) n 3 1 16 hD hL (fun _ _ => True.intro) (by omega) (fun i x H' H'' Ny Nn hi g' l' y ky => ?_) (fun H1 xs g1 l1 eD ln cn => ?_)
    · obtain ⟨rfl, rfl⟩ := y
      refine ⟨rfl, lc_yes ⟨_, rfl, L, 6, _, rfl, l', by omega, by decide, by decide, fun r1 H1 g1 l1 a1 b1 => ?_⟩⟩
      refine ⟨_, _, rfl, rfl, _, rfl, L, 16, _, rfl, l1, by omega, by decide, by decide, fun r2 H2 g2 l2 a2 b2 => ?_⟩
      refine ⟨_, _, rfl, rfl, (by show 2 ≤ sizeLine; decide), fun p hp => ?_⟩
      refine ⟨_, rfl, L, 8, _, rfl, l2.new hp, by omega, by decide, by decide, fun r3 H3 g3 l3 a3 b3 => ?_⟩
      have e3 : H3 p = some (.lst [.int (1 + r1), .int (1 + r2)]) := g3.k p _ (l2.bk.ne hp) upd_same
      obtain ⟨z3, f3, hz3⟩ := at2i (1 + r1) (1 + r2) (decide (V.int r3 = V.int 0))
      refine ⟨rfl, .inr ⟨_, rfl, p, _, _, _, rfl, rfl, SqL.of e3, f3, ?_⟩⟩
      exact ky z3 _ (((g1.trans g2).trans (Go.new hp)).trans g3) (l3.mono (by omega)) (by omega) (by omega)
    obtain ⟨hi, wz, rfl⟩ : ∃ hi wz, xs = [hi, wz] := by
      match xs, ln with
      | [a, b], _ => exact ⟨a, b, rfl⟩
    have chi := cn hi (by simp)
    have cwz := cn wz (by simp)
    refine ⟨D, [.int hi, .int wz], rfl, SqL.of eD, rfl, _, _, rfl, _, _, rfl, rfl, ?_⟩
    refine ⟨_, rfl, L, 8, _, rfl, l1, by omega, by decide, by decide, fun r2 H2 g2 l2 a2 b2 => ?_⟩
    have hk2 := hk.g (g1.trans g2)
    refine ⟨_, _, rfl, rfl, 1 + r2, rfl, by omega, by omega, fun D2 hD2 => ?_⟩
    refine lc_dtsB (walk_range (lo := 0) (n := (1 + r2).toNat)) (B := [L]) (n + 7) 10 (fun d => ∃ c, d = eC c ∧ cOk wd c) hD2 (l2.mono (by omega)) (by simp) l2.bk (fun _ _ => True.intro) (by omega) (fun j x H4 H5 Ny Nn hj g4 l4 bk4 y ky => ?_) (fun H4 ws ds g4 l4 eD4 hW hn4 hp4 => ?_)
    · obtain ⟨rfl, rfl⟩ := y
      refine ⟨rfl, lc_yes ⟨_, rfl, _, rfl, L, [D2, L], n + 7 + 10 * j, kv, wd, sp, rfl, l4, by simp, bk4, by omega, hk2.g g4, w0, w1, s0, s1, fun v H5 c g5 l5 d5 n5 c5 => ?_⟩⟩
      exact ky _ _ _ g5 l5 d5 ⟨c, rfl, n5, c5⟩
    obtain ⟨cs, rfl, hcs⟩ := colsOf hp4
    rw [List.length_map] at hn4
    have lw := hW.len
    rw [List.length_map] at lw
    have hk4 := hk2.g g4
    have gH4 := (g1.trans g2).trans g4
    have nD2 : D2 ∉ [L] := l2.bk.ne hD2
    have hW1 := hW.un
    refine ⟨Nat.zero_le _, fun F hF => ?_⟩
    have hFH : H F = none := gH4.free hF
    have nF : F ∉ [L] := l4.bk.ne hF
    have sF := sm_new (o := .lst []) hF
    have g5 := gH4.trans (Go.new (o := .lst []) hF)
    have l5 := l4.new (o := .lst []) hF
    have eF5 : (upd H4 F (.lst [])) F = some (.lst []) := upd_same
    have eD5 := sF _ _ eD4
    have hW5 := (hW1.fr hF).s sF
    have hk5 := (hk4.fr hF).s sF
    have nDF : D2 ∉ [F, L] := fun z => by
      rcases List.mem_cons.mp z with e | e
      · rw [← e, eD4] at hF
        cases hF
      · exact nD2 e
    generalize upd H4 F (.lst []) = H5 at *
    refine ⟨_, rfl, hi, rfl, by omega, by omega, for_range (lo := 0) (n := hi.toNat) (fun i σ H' => ∃ y6 y7 y8 y9 y10 y11 vs ps, σ = [some (.ref L), some kv, some (.int hi), some (.int wz), some (.ref D2), some (.ref F), y6, y7, y8, y9, y10, y11] ∧ Go [L] H H' ∧ Lf L H' (n + 100 + 200 * i) ∧ H' D2 = some (.lst ws) ∧ DtA [F, L] H' ws (cs.map eC) ∧ Dt [F, L] H' kv (eC [wd, sp]) ∧ H' F = some (.lst vs) ∧ DtA [F, L] H' vs (ps.map eP) ∧ ps.length = i ∧ ∀ p ∈ ps, p.length = wz.toNat ∧ ∀ c ∈ p, cOk wd c)
      ⟨_, _, _, _, _, _, [], [], rfl, g5, l5.mono (by omega), eD5, hW5, hk5, eF5, .nil, rfl, fun _ h => nomatch h⟩ (fun i σ H6 hi6 h6 => ?_) (fun σ H6 h6 => ?_)⟩
    · obtain ⟨y6, y7, y8, y9, y10, y11, vs, ps, rfl, g6, l6, eD6, hW6, hk6, eF6, hA6, lp6, hp6⟩ := h6
      have bk6 : Bk [F, L] H6 := l6.bk.cons eF6
      have lv6 := hA6.len
      rw [List.length_map] at lv6
      refine ⟨Nat.zero_le _, fun S hS => ?_⟩
      have hSH : H S = none := g6.free hS
      have nS : S ∉ [F, L] := bk6.ne hS
      have nSF : F ≠ S := fun z => nS (by rw [z]; exact List.mem_cons_self ..)
      have nSL : S ∉ [L] := fun z => nS (List.mem_cons_of_mem _ z)
      have nDS : D2 ∉ [S, F, L] := fun z => by
        rcases List.mem_cons.mp z with e | e
        · rw [← e, eD6] at hS
          cases hS
        · exact nDF e
      have s7 := sm_new (o := .lst []) hS
      have eS7 : (upd H6 S (.lst [])) S = some (.lst []) := upd_same
      have g7 := g6.trans (Go.of s7)
      have l7 := l6.same s7
      have eD7 := s7 _ _ eD6
      have hW7 := (hW6.fr hS).s s7
      have hk7 := (hk6.fr hS).s s7
      have eF7 := s7 _ _ eF6
      have hA7 := (hA6.fr hS).s s7
      generalize upd H6 S (.lst []) = H7 at *
      refine ⟨_, rfl, wz, rfl, by omega, by omega, for_range (lo := 0) (n := wz.toNat) (fun j σ H' => ∃ y6 y8 y9 y10 y11 us qs, σ = [some (.ref L), some kv, some (.int hi), some (.int wz), some (.ref D2), some (.ref F), y6, some (.ref S), y8, y9, y10, y11] ∧ Go [S, L] H7 H' ∧ Lf L H' (n + 100 + 200 * i + 12 * j) ∧ H' S = some (.lst us) ∧ DtA [S, F, L] H' us (qs.map eC) ∧ qs.length = j ∧ ∀ c ∈ qs, cOk wd c)
        ⟨_, _, _, _, _, [], [], rfl, Go.refl, l7.mono (by omega), eS7, .nil, rfl, fun _ h => nomatch h⟩ (fun j σ H8 hj h8 => ?_) (fun σ H8 h8 => ?_)⟩
      · obtain ⟨y6, y8, y9, y10, y11, us, qs, rfl, g8, l8, eS8, hU, lq, hq⟩ := h8
        have g8' : Go [S, F, L] H7 H8 := g8.w (by simp)
        have eD8 := g8'.k D2 _ nDS eD7
        have hW8 := hW7.g g8'
        have hk8 := hk7.g g8'
        have bk8 : Bk [S, F, L] H8 := ((bk6.go (Go.of (B := []) s7)).go g8).cons eS8
        have lu := hU.len
        rw [List.length_map] at lu
        refine ⟨_, rfl, _, rfl, _, rfl, D2, _, rfl, .inl (SqL.of eD8), L, _, _, rfl, l8, by omega, by omega, by omega, fun r9 H9 g9 l9 a9 b9 => ?_⟩
        have g9' : Go [S, F, L] H8 H9 := g9.w1 (by simp)
        have eD9 := g9'.k D2 _ nDS eD8
        have hr9 : r9.toNat < cs.length := by omega
        obtain ⟨v9, f9, d9⟩ := (hW8.g g9').get (i := r9.toNat) (d := eC cs[r9.toNat]) (by rw [List.getElem?_map, List.getElem?_eq_getElem hr9]; rfl)
        have o9 := hcs _ (List.getElem_mem hr9)
        refine ⟨D2, _, _, _, rfl, rfl, SqL.of eD9, at0 a9 f9, ?_⟩
        refine ⟨fun σ' H' => ∃ y6 y8 y10 y11 v c, σ' = [some (.ref L), some kv, some (.int hi), some (.int wz), some (.ref D2), some (.ref F), y6, some (.ref S), y8, some v, y10, y11] ∧ Go [L] H8 H' ∧ Lf L H' (n + 100 + 200 * i + 12 * j + 12) ∧ Dt [S, F, L] H' v (eC c) ∧ cOk wd c, ?_, fun σ' H' hM => ?_⟩
        · refine ⟨_, rfl, L, 4, _, rfl, l9, by omega, by decide, by decide, fun r10 H10 g10 l10 a10 b10 => ?_⟩
          have g10' : Go [S, F, L] H9 H10 := g10.w1 (by simp)
          refine ⟨rfl, _, rfl, ite2 (fun e => ?_) (fun e => ?_)⟩
          · refine ⟨_, rfl, _, rfl, L, [S, F, L], _, kv, wd, sp, rfl, l10, by simp, (bk8.go g9).go g10, by omega, ((hk8.g g9').g g10').sub (by simp), w0, w1, s0, s1, fun v H11 c g11 l11 d11 n11 c11 => ?_⟩
            exact ⟨_, _, _, _, v, c, rfl, (g9.trans g10).trans g11, l11.mono (by omega), d11, n11, c11⟩
          · exact ⟨_, _, _, _, v9, _, rfl, g9.trans g10, l10.mono (by omega), d9.g g10', o9⟩
        · obtain ⟨y6, y8, y10, y11, v, c, rfl, gM, lM, dM, oM⟩ := hM
          have eSM := gM.k S _ nSL eS8
          have gm : Go [S, F, L] H' (upd H' S (.lst (us ++ [v]))) := Go.refl.at (by simp)
          refine ⟨_, rfl, .inl ⟨rfl, _, SqL.of eSM⟩, _, rfl, S, _, _, rfl, rfl, eSM, sz (by omega), ?_⟩
          refine ⟨_, _, _, _, _, us ++ [v], qs ++ [c], rfl, (g8.trans (gM.w1 (by simp))).at (by simp), (lM.up (show S ≠ L by simpa using nSL)).mono (by omega), upd_same, ?_, by simp; omega, fun c' h => ?_⟩
          · rw [List.map_append]
            exact ((hU.g (gM.w1 (by simp))).g gm).app (.one (dM.g gm))
          · rcases List.mem_append.mp h with h | h
            · exact hq c' h
            · rw [List.mem_singleton.mp h]
              exact oM
      · obtain ⟨y6, y8, y9, y10, y11, us, qs, rfl, g8, l8, eS8, hU, lq, hq⟩ := h8
        have g8' : Go [S, F, L] H7 H8 := g8.w (by simp)
        have nFS : F ∉ [S, L] := fun z => by
          rcases List.mem_cons.mp z with e | e
          · exact nSF e
          · exact nF e
        have eF8 := g8.k F _ nFS eF7
        have gm : Go [F, L] H8 (upd H8 F (.lst (vs ++ [.ref S]))) := Go.refl.at (by simp)
        refine ⟨_, rfl, .inl ⟨rfl, _, SqL.of eF8⟩, _, rfl, F, _, _, rfl, rfl, eF8, sz (by omega), ?_⟩
        refine ⟨_, _, _, _, _, _, vs ++ [.ref S], ps ++ [qs], rfl, ((g8.cons g7 hSH).mut hFH), (l8.up (show F ≠ L by simpa using nF)).mono (by omega), gm.k D2 _ nDF (g8'.k D2 _ nDS eD7), ((hW7.g g8').un).g gm, ((hk7.g g8').un).g gm, upd_same, ?_, by simp; omega, fun p h => ?_⟩
        · rw [List.map_append]
          exact (((hA7.g g8').un).g gm).app (.one (Dt.g (.lst nS eS8 hU.un) gm))
        · rcases List.mem_append.mp h with h | h
          · exact hp6 p h
          · rw [List.mem_singleton.mp h]
            exact ⟨by omega, hq⟩
    · obtain ⟨y6, y7, y8, y9, y10, y11, vs, ps, rfl, g6, l6, eD6, hW6, hk6, eF6, hA6, lp6, hp6⟩ := h6
      exact ⟨_, rfl, q F vs H6 ps g6 (l6.mono (by omega)) hFH eF6 hA6 ⟨by omega, by omega, wz.toNat, by omega, by omega, hp6⟩⟩
/-! ### colours put together, and less by another -/
def adC (a b : List Int) : List Int := (a.zip b).map fun p => p.1 + p.2
def leC (a b : List Int) : List Int := (a.zip b).map fun p => p.1 - p.2
def spCC (f : List Int → List Int → List Int) : Sp := fun vs H Q _ => ∃ (B : List Addr) (x y : V) (a b : List Int), vs = [x, y] ∧ Dt B H x (eC a) ∧ Dt B H y (eC b) ∧ Bk B H ∧ a.length = b.length ∧ b.length ≤ 100 ∧ ∀ v H', Same H H' → Dt B H' v (eC (f a b)) → Q v H'
theorem ok_added (T : Tx K mg) {k : Nat} : FnOk P w K mg base CX0 (k + 1) T.f_added T.d_added ["one", "other"] (spCC adC) := by
  refine T.F_added.ok sc_added (fun vs H Q E h => ?_) (fun cdv A outer s H vs Q E hr h => ?_)
  · obtain ⟨B, x, y, a, b, rfl, _⟩ := h
    rfl
  · obtain ⟨B, x, y, a, b, rfl, ha, hb, hB, hl, hz, q⟩ := h
    obtain ⟨pa, rfl, na, ta⟩ := ha.col
    obtain ⟨pb, rfl, nb, tb⟩ := hb.col
    refine ⟨_, (pss_one (ps_ret (pe_callTy (tuple_K K) (by rfl) T.z_tuple (by decide +kernel) (pa_cons (pe_lc (own := [("a", 2), ("b", 3)]) (by rfl) sc_added.nd (RZ.pi_zipA (by rfl) T.z_zip (pa_cons (pv 0) (pa_cons (pv 1) pa_nil))) (blkOk_by (own := [("a", 2), ("b", 3)]) (N := N_added) (sc := defScope s_added) (by decide +kernel)) (fun _ _ _ _ _ => (pg_tupK K (n := 2) rfl (pgs_cons (pg_name (i := 2) sc_added.nd rfl (.inl rfl)) (pgs_cons (pg_name (i := 3) sc_added.nd rfl (.inl rfl)) pgs_nil)))) (fun _ _ _ _ _ => pts_nil) (fun _ _ _ _ _ => (pe_op op_add (pv 2) (pv 3)))) pa_nil)))), ?_⟩
    refine ⟨_, rfl, _, rfl, pa, pb, _, _, rfl, .inr ⟨SqT.of ta, SqT.of tb, fun D hD => ?_⟩⟩
    refine lc_pure (B := []) (walk_zipT (n := a.length) (xs := a.map V.int) (ys := b.map V.int) (by simp; omega)) hD (fun _ h => nomatch h) (fun H' s' => ⟨SqT.of (s' _ _ ta), SqT.of (s' _ _ tb)⟩) (by omega)
      (fun i => ((a.zip b).map fun p => PyData.int (p.1 + p.2))[i]?) (fun i x H' H'' Ny Nn hi s1 bk y ky kn => ?_) (fun H' ws s1 eD hA => ?_)
    · obtain ⟨t, x, y, rfl, ht, rfl, e1, e2⟩ := y
      have i2 : i < b.length := by omega
      have x1 := mat hi e1
      have x2 := mat i2 e2
      refine ⟨t, [x, y], rfl, SqT.of upd_same, rfl, x, _, rfl, y, _, rfl, rfl, rfl, lc_yes ?_⟩
      refine ⟨_, rfl, _, rfl, _, _, x1, x2, ?_⟩
      exact ky _ _ _ (zat hi i2) (sm_new ht) (.int _)
    · rw [fm_all (by simp; omega)] at hA
      have hA2 : DtA (D :: []) H' ws ((adC a b).map PyData.int) := by unfold adC; rw [List.map_map]; exact hA
      refine ⟨D, _, rfl, .inl ⟨SqL.of (by rw [eD, hA2.intsV]), fun t ht => ?_⟩⟩
      exact q _ _ (s1.trans (sm_new ht)) (Dt.ofCol ((hB.go (Go.of (B := []) s1)).ne ht) upd_same)
theorem ok_lessened (T : Tx K mg) {k : Nat} : FnOk P w K mg base CX0 (k + 1) T.f_lessened T.d_lessened ["one", "other"] (spCC leC) := by
  refine T.F_lessened.ok sc_lessened (fun vs H Q E h => ?_) (fun cdv A outer s H vs Q E hr h => ?_)
  · obtain ⟨B, x, y, a, b, rfl, _⟩ := h
    rfl
  · obtain ⟨B, x, y, a, b, rfl, ha, hb, hB, hl, hz, q⟩ := h
    obtain ⟨pa, rfl, na, ta⟩ := ha.col
    obtain ⟨pb, rfl, nb, tb⟩ := hb.col
    refine ⟨_, (pss_one (ps_ret (pe_callTy (tuple_K K) (by rfl) T.z_tuple (by decide +kernel) (pa_cons (pe_lc (own := [("a", 2), ("b", 3)]) (by rfl) sc_lessened.nd (RZ.pi_zipA (by rfl) T.z_zip (pa_cons (pv 0) (pa_cons (pv 1) pa_nil))) (blkOk_by (own := [("a", 2), ("b", 3)]) (N := N_lessened) (sc := defScope s_lessened) (by decide +kernel)) (fun _ _ _ _ _ => (pg_tupK K (n := 2) rfl (pgs_cons (pg_name (i := 2) sc_lessened.nd rfl (.inl rfl)) (pgs_cons (pg_name (i := 3) sc_lessened.nd rfl (.inl rfl)) pgs_nil)))) (fun _ _ _ _ _ => pts_nil) (fun _ _ _ _ _ => (pe_op op_sub (pv 2) (pv 3)))) pa_nil)))), ?_⟩
    refine ⟨_, rfl, _, rfl, pa, pb, _, _, rfl, .inr ⟨SqT.of ta, SqT.of tb, fun D hD => ?_⟩⟩
    refine lc_pure (B := []) (walk_zipT (n := a.length) (xs := a.map V.int) (ys := b.map V.int) (by simp; omega)) hD (fun _ h => nomatch h) (fun H' s' => ⟨SqT.of (s' _ _ ta), SqT.of (s' _ _ tb)⟩) (by omega)
      (fun i => ((a.zip b).map fun p => PyData.int (p.1 - p.2))[i]?) (fun i x H' H'' Ny Nn hi s1 bk y ky kn => ?_) (fun H' ws s1 eD hA => ?_)
    · obtain ⟨t, x, y, rfl, ht, rfl, e1, e2⟩ := y
      have i2 : i < b.length := by omega
      have x1 := mat hi e1
      have x2 := mat i2 e2
      refine ⟨t, [x, y], rfl, SqT.of upd_same, rfl, x, _, rfl, y, _, rfl, rfl, rfl, lc_yes ?_⟩
      refine ⟨_, rfl, _, rfl, _, _, x1, x2, ?_⟩
      exact ky _ _ _ (zat hi i2) (sm_new ht) (.int _)
    · rw [fm_all (by simp; omega)] at hA
      have hA2 : DtA (D :: []) H' ws ((leC a b).map PyData.int) := by unfold leC; rw [List.map_map]; exact hA
      refine ⟨D, _, rfl, .inl ⟨SqL.of (by rw [eD, hA2.intsV]), fun t ht => ?_⟩⟩
      exact q _ _ (s1.trans (sm_new ht)) (Dt.ofCol ((hB.go (Go.of (B := []) s1)).ne ht) upd_same)
/-! ### the spots in their order -/
theorem fm_some2 {α : Type} (f : Nat → α) : ∀ n : Nat, (List.range n).filterMap (fun i => some (f i)) = (List.range n).map f := fun n => by
  rw [← List.filterMap_eq_map]
  rfl
def spRow (t : Bool) (r n : Nat) : List (List Int) := if t = true ∧ r % 2 = 1 then (List.range n).map fun (c : Nat) => [(r : Int), ((n - 1 - c : Nat) : Int), -1] else (List.range n).map fun (c : Nat) => [(r : Int), (c : Int), 1]
def spotsOf (t : Bool) (ps : List (List (List Int))) (m : Nat) : List (List Int) := ((List.range m).map fun r => spRow t r (ps.getD r []).length).flatten
theorem spots_succ (t : Bool) (ps : List (List (List Int))) (m : Nat) : spotsOf t ps (m + 1) = spotsOf t ps m ++ spRow t m (ps.getD m []).length := by
  unfold spotsOf
  rw [List.range_succ, List.map_append, List.flatten_append]
  simp
theorem rgV0 (n : Nat) : rgV 0 (n : Int) = (List.range n).map fun (i : Nat) => V.int (i : Int) := by
  unfold rgV
  rw [show (((n : Int) - 0).toNat) = n by omega]
  exact List.map_congr_left fun i _ => by rw [Int.zero_add]
theorem spRow_len (t : Bool) (r n : Nat) : (spRow t r n).length = n := by
  unfold spRow
  split <;> simp
theorem spots_le (t : Bool) (ps : List (List (List Int))) (hz : ∀ p ∈ ps, p.length ≤ 100) : ∀ m, (spotsOf t ps m).length ≤ 100 * m
  | 0 => by simp [spotsOf]
  | m + 1 => by
    rw [spots_succ, List.length_append, spRow_len]
    have := spots_le t ps hz m
    have h2 : (ps.getD m []).length ≤ 100 := by
      rw [List.getD_eq_getElem?_getD]
      cases e : ps[m]? with
      | none => simp
      | some p => exact hz p (List.mem_of_getElem? e)
    omega
def spSpots : Sp := fun vs H Q _ => ∃ (B : List Addr) (pv : V) (ps : List (List (List Int))) (t : Bool), vs = [pv, .str (if t = true then "turned" else "same")] ∧ Dt B H pv (eG ps) ∧ Bk B H ∧ ps.length ≤ 100 ∧ (∀ p ∈ ps, p.length ≤ 100) ∧ ∀ v H', Same H H' → Dt B H' v (eP (spotsOf t ps ps.length)) → Q v H'
theorem ok_spots_in_order (T : Tx K mg) {k : Nat} : FnOk P w K mg base CX0 (k + 1) T.f_spots_in_order T.d_spots_in_order ["picture", "way"] spSpots := by
  refine T.F_spots_in_order.ok sc_spots_in_order (fun vs H Q E h => ?_) (fun cdv A outer s H vs Q E hr h => ?_)
  · obtain ⟨B, pv, ps, t, rfl, _⟩ := h
    rfl
  · obtain ⟨B, pv, ps, t, rfl, hp, hB, hl, hz, q⟩ := h
    obtain ⟨pa, vs, rfl, na, ep, hA⟩ := hp.lst2
    have lv := hA.len
    rw [List.length_map] at lv
    refine ⟨_, (pss_cons (ps_set (i := 2) sc_spots_in_order.nd rfl (.inl rfl) (pe_lst pa_nil))
      (pss_cons (ps_for PassesOwn.never rfl (pi_enum (by rfl) T.z_enumerate (pa_cons (pv 0) pa_nil)) (pg_tupK K (n := 2) rfl (pgs_cons (pg_name (i := 3) sc_spots_in_order.nd rfl (.inr rfl)) (pgs_cons (pg_name (i := 4) sc_spots_in_order.nd rfl (.inl rfl)) pgs_nil))) (pss_cons (ps_set (i := 5) sc_spots_in_order.nd rfl (.inl rfl) (pe_listRg rfl (by rfl) T.z_list (prg_1 (by rfl) T.z_range (pe_callB (len_K K) (by rfl) T.z_len PySem.boot_len (pa_cons (pv 4) pa_nil)))))
      (pss_one (ps_if (PW.pt (pw_and (pt_cmpR op_eq (pv 1) pe_str (nomark _)) (pw_and1 (pt_cmpR op_eq (pe_op op_mod (pv 3) pe_int) pe_int (nomark _))))) (pss_one (ps_expr (pe_bm PySem.F.plainAttrs_list PySem.F.slot_list_extend PySem.F.type_list_extend mt_extend (pv 2) (pa_cons (pe_lc (own := [("column", 6)]) (by rfl) sc_spots_in_order.nd (pi_listK K (pe_revL (pv 5))) (blkOk_by (own := [("column", 6)]) (N := N_spots_in_order) (sc := defScope s_spots_in_order) (by decide +kernel)) (fun _ _ _ _ _ => (pg_name (i := 6) sc_spots_in_order.nd rfl (.inl rfl))) (fun _ _ _ _ _ => pts_nil) (fun _ _ _ _ _ => (pe_tup (pa_cons (pv 3) (pa_cons (pv 6) (pa_cons (pe_un un_neg pe_int) pa_nil)))))) pa_nil)))) (pss_one (ps_expr (pe_bm PySem.F.plainAttrs_list PySem.F.slot_list_extend PySem.F.type_list_extend mt_extend (pv 2) (pa_cons (pe_lc (own := [("column", 6)]) (by rfl) sc_spots_in_order.nd (pi_listK K (pv 5)) (blkOk_by (own := [("column", 6)]) (N := N_spots_in_order) (sc := defScope s_spots_in_order) (by decide +kernel)) (fun _ _ _ _ _ => (pg_name (i := 6) sc_spots_in_order.nd rfl (.inl rfl))) (fun _ _ _ _ _ => pts_nil) (fun _ _ _ _ _ => (pe_tup (pa_cons (pv 3) (pa_cons (pv 6) (pa_cons pe_int pa_nil)))))) pa_nil))))))))
      (pss_one (ps_ret (pv 2))))), ?_⟩
    refine ⟨Nat.zero_le _, fun S hS => ?_⟩
    have s0 := sm_new (o := .lst []) hS
    have eS : (upd H S (.lst [])) S = some (.lst []) := upd_same
    have nS : S ∉ B := hB.ne hS
    generalize upd H S (.lst []) = H1 at *
    refine ⟨_, rfl, pa, _, rfl, SqL.of (s0 _ _ ep), for_it (walk_enum (xs := vs)) (fun i σ H' => ∃ y3 y4 y5 y6 us, σ = [some (.ref pa), some (.str (if t = true then "turned" else "same")), some (.ref S), y3, y4, y5, y6] ∧ Same H H' ∧ H' S = some (.lst us) ∧ DtA (S :: B) H' us ((spotsOf t ps i).map eC))
      ⟨_, _, _, _, _, rfl, s0, eS, .nil⟩ (fun i σ H' _ h => ?_) (fun i x σ H2 H3 hi h y => ?_) (fun σ H2 h => ?_)⟩
    · obtain ⟨y3, y4, y5, y6, us, rfl, s1, _⟩ := h
      exact SqL.of (s1 _ _ ep)
    · obtain ⟨y3, y4, y5, y6, us, rfl, s1, eS2, dS⟩ := h
      obtain ⟨tp, x1, x2, rfl, htp, rfl, e1, e2⟩ := y
      have ex : V.int i = x1 := Option.some.inj e1
      subst ex
      have hi2 : i < ps.length := by omega
      obtain ⟨d2, f2, g2⟩ := (hA.s s1).getV e2
      rw [List.getElem?_map, List.getElem?_eq_getElem hi2] at f2
      have ed : d2 = eP ps[i] := (Option.some.inj f2).symm
      subst ed
      obtain ⟨ca, cvs, rfl, nca, eca, hC⟩ := g2.pal
      have lc := hC.len
      rw [List.length_map] at lc
      have lz := hz _ (List.getElem_mem hi2)
      have s2 := sm_new (o := .tup [.int i, .ref ca]) htp
      refine ⟨tp, _, rfl, SqT.of upd_same, rfl, _, _, rfl, _, _, rfl, rfl, ?_⟩
      generalize upd H2 tp (.tup [.int i, .ref ca]) = H3 at *
      have eca3 := s2 _ _ eca
      have eS3 := s2 _ _ eS2
      have dS3 := dS.s s2
      refine ⟨_, rfl, ca, _, rfl, .inl (SqL.of eca3), _, rfl, RgOk.of_le (by omega) (by omega) (by omega) (by omega), fun c hc => ?_⟩
      have s3 := sm_new (o := .lst (rgV 0 (cvs.length : Int))) hc
      have ec : (upd H3 c (.lst (rgV 0 (cvs.length : Int)))) c = some (.lst ((List.range cvs.length).map fun (i : Nat) => V.int (i : Int))) := by rw [upd_same, rgV0]
      generalize upd H3 c (.lst (rgV 0 (cvs.length : Int))) = H4 at *
      have eS4 := s3 _ _ eS3
      have dS4 := dS3.s s3
      have t4 := s1.trans (s2.trans s3)
      have bk4 : Bk (S :: B) H4 := (hB.go (Go.of (B := []) t4)).cons eS4
      have le : us.length ≤ 10000 := by
        have := spots_le t ps hz i
        have l2 := dS.len
        rw [List.length_map] at l2
        omega
      have en : (ps.getD i []).length = cvs.length := by rw [List.getD_eq_getElem?_getD, List.getElem?_eq_getElem hi2]; simp; omega
      -- what is put behind
      have key : ∀ (ws : List V) (H6 : Hp), Same H4 H6 → DtA (S :: B) H6 ws ((spRow t i cvs.length).map eC) → us.length + ws.length ≤ sizeLine ∧ Same H (upd H6 S (.lst (us ++ ws))) ∧ DtA (S :: B) (upd H6 S (.lst (us ++ ws))) (us ++ ws) ((spotsOf t ps (i + 1)).map eC) := fun ws H6 s6 d6 => by
        have lw := d6.len
        rw [List.length_map, spRow_len] at lw
        refine ⟨Nat.le_of_lt (sz (by omega)), sm_mut (t4.trans s6) hS, ?_⟩
        rw [spots_succ, List.map_append, en]
        exact ((dS4.s s6).app d6).g (Go.refl.at (by simp))
      have lr : ((List.range cvs.length).map fun (i : Nat) => V.int (i : Int)).length = cvs.length := by simp
      refine ⟨_, rfl, rfl, _, rfl, ite2 (fun e => ?_) (fun e => ?_)⟩
      · have et : t = true := by
          cases t with
          | true => rfl
          | false => exact absurd e (by decide +kernel)
        subst et
        refine ⟨_, rfl, _, _, rfl, rfl, md (by decide), rfl, _, rfl, ite2 (fun e2 => ?_) (fun e2 => ?_)⟩
        · have e2 : (i : Int) % 2 = 1 := by simpa using e2
          have er : spRow true i cvs.length = (List.range cvs.length).map fun (c : Nat) => [(i : Int), ((cvs.length - 1 - c : Nat) : Int), -1] := by
            unfold spRow
            rw [if_pos ⟨rfl, by omega⟩]
          refine ⟨_, rfl, .inl ⟨rfl, _, SqL.of eS4⟩, _, rfl, c, _, rfl, SqL.of ec, fun c5 hc5 => ?_⟩
          have s5 := sm_new (o := .lst ((List.range cvs.length).map fun (i : Nat) => V.int (i : Int)).reverse) hc5
          have e5 : (upd H4 c5 (.lst ((List.range cvs.length).map fun (i : Nat) => V.int (i : Int)).reverse)) c5 = some (.lst ((List.range cvs.length).map fun (i : Nat) => V.int (i : Int)).reverse) := upd_same
          generalize upd H4 c5 (.lst ((List.range cvs.length).map fun (i : Nat) => V.int (i : Int)).reverse) = H5 at *
          have bk5 := bk4.go (Go.of (B := []) s5)
          refine ⟨c5, rfl, ⟨_, SqL.of e5⟩, fun D hD => ?_⟩
          refine lc_pure (B := S :: B) (walk_list (xs := ((List.range cvs.length).map fun (i : Nat) => V.int (i : Int)).reverse)) hD bk5 (fun H' s' => SqL.of (s' _ _ e5)) (by rw [List.length_reverse, lr]; omega)
            (fun j => some (eC [(i : Int), ((cvs.length - 1 - j : Nat) : Int), -1])) (fun j x H' H'' Ny Nn hj t1 bk y ky kn => ?_) (fun H6 ws s6 eD hW => ?_)
          · obtain ⟨rfl, y⟩ := y
            rw [List.length_reverse, lr] at hj
            rw [List.getElem?_reverse (by rw [lr]; exact hj), lr, List.getElem?_map, List.getElem?_range (by omega)] at y
            have ex : V.int ((cvs.length - 1 - j : Nat) : Int) = x := Option.some.inj y
            subst ex
            refine ⟨rfl, lc_yes ⟨_, rfl, _, rfl, _, rfl, (by show 3 ≤ sizeLine; decide), fun p hp => ?_⟩⟩
            exact ky _ _ _ rfl (sm_new hp) (Dt.ofCol (bk.ne hp) upd_same)
          · rw [List.length_reverse, lr, fm_some2] at hW
            obtain ⟨k1, k2, k3⟩ := key ws H6 (s5.trans s6) (by rw [er, List.map_map]; exact hW.un)
            exact ⟨S, D, _, _, rfl, rfl, s6 _ _ (s5 _ _ eS4), eD, k1, _, _, _, _, _, rfl, k2, upd_same, k3⟩
        · have e2 : ¬ (i : Int) % 2 = 1 := by simpa using e2
          have er : spRow true i cvs.length = (List.range cvs.length).map fun (c : Nat) => [(i : Int), (c : Int), 1] := by
            unfold spRow
            rw [if_neg (fun h => e2 (by have := h.2; omega))]
          refine ⟨_, rfl, .inl ⟨rfl, _, SqL.of eS4⟩, _, rfl, c, rfl, ⟨_, SqL.of ec⟩, fun D hD => ?_⟩
          refine lc_pure (B := S :: B) (walk_list (xs := (List.range cvs.length).map fun (i : Nat) => V.int (i : Int))) hD bk4 (fun H' s' => SqL.of (s' _ _ ec)) (by rw [lr]; omega)
            (fun j => some (eC [(i : Int), (j : Int), 1])) (fun j x H' H'' Ny Nn hj t1 bk y ky kn => ?_) (fun H6 ws s6 eD hW => ?_)
          · obtain ⟨rfl, y⟩ := y
            rw [lr] at hj
            rw [List.getElem?_map, List.getElem?_range hj] at y
            have ex : V.int (j : Int) = x := Option.some.inj y
            subst ex
            refine ⟨rfl, lc_yes ⟨_, rfl, _, rfl, (by show 3 ≤ sizeLine; decide), fun p hp => ?_⟩⟩
            exact ky _ _ _ rfl (sm_new hp) (Dt.ofCol (bk.ne hp) upd_same)
          · rw [lr, fm_some2] at hW
            obtain ⟨k1, k2, k3⟩ := key ws H6 s6 (by rw [er, List.map_map]; exact hW.un)
            exact ⟨S, D, _, _, rfl, rfl, s6 _ _ eS4, eD, k1, _, _, _, _, _, rfl, k2, upd_same, k3⟩
      · have et : t = false := by
          cases t with
          | false => rfl
          | true => exact absurd (by decide +kernel) e
        subst et
        refine iteF ?_
        have er : spRow false i cvs.length = (List.range cvs.length).map fun (c : Nat) => [(i : Int), (c : Int), 1] := by
          unfold spRow
          rw [if_neg (fun h => nomatch h.1)]
        refine ⟨_, rfl, .inl ⟨rfl, _, SqL.of eS4⟩, _, rfl, c, rfl, ⟨_, SqL.of ec⟩, fun D hD => ?_⟩
        refine lc_pure (B := S :: B) (walk_list (xs := (List.range cvs.length).map fun (i : Nat) => V.int (i : Int))) hD bk4 (fun H' s' => SqL.of (s' _ _ ec)) (by rw [lr]; omega)
          (fun j => some (eC [(i : Int), (j : Int), 1])) (fun j x H' H'' Ny Nn hj t1 bk y ky kn => ?_) (fun H6 ws s6 eD hW => ?_)
        · obtain ⟨rfl, y⟩ := y
          rw [lr] at hj
          rw [List.getElem?_map, List.getElem?_range hj] at y
          have ex : V.int (j : Int) = x := Option.some.inj y
          subst ex
          refine ⟨rfl, lc_yes ⟨_, rfl, _, rfl, (by show 3 ≤ sizeLine; decide), fun p hp => ?_⟩⟩
          exact ky _ _ _ rfl (sm_new hp) (Dt.ofCol (bk.ne hp) upd_same)
        · rw [lr, fm_some2] at hW
          obtain ⟨k1, k2, k3⟩ := key ws H6 s6 (by rw [er, List.map_map]; exact hW.un)
          exact ⟨S, D, _, _, rfl, rfl, s6 _ _ eS4, eD, k1, _, _, _, _, _, rfl, k2, upd_same, k3⟩
    · obtain ⟨y3, y4, y5, y6, us, rfl, s1, eS2, dS⟩ := h
      refine ⟨_, rfl, q _ _ s1 ?_⟩
      exact .lst nS eS2 (by rw [← lv]; exact dS.un)
/-! ### the shares that lie within -/
def e3 (s : Int × Int × Int) : List Int := [s.1, s.2.1, s.2.2]
def al3 (r c sd : Int) (s : Int × Int × Int) : Int × Int × Int := (r + s.2.1, c + sd * s.1, s.2.2)
def in3 (h w : Int) (e : Int × Int × Int) : Bool := decide (e.1 < h) && (decide (0 ≤ e.2.1) && decide (e.2.1 < w))
def thereOf (h w : Nat) (shs : List (Int × Int × Int)) (r c sd : Int) : List (Int × Int × Int) := (shs.map (al3 r c sd)).filter (in3 h w)
theorem fm_bind {α β : Type} (ms : List α) (f : α → Option β) : (List.range ms.length).filterMap (fun j => (ms[j]?).bind f) = ms.filterMap f := by
  have h : (List.range ms.length).filterMap (fun j => ms[j]?) = ms := fm_all rfl
  rw [← List.filterMap_filterMap, h]
theorem fm_filter {α β : Type} (p : α → Bool) (f : α → β) : ∀ ms : List α, ms.filterMap (fun e => if p e = true then some (f e) else none) = (ms.filter p).map f
  | [] => rfl
  | m :: ms => by
    by_cases c : p m = true
    · rw [List.filterMap_cons_some (b := f m) (by rw [if_pos c]), List.filter_cons_of_pos c, List.map_cons, fm_filter p f ms]
    · rw [List.filterMap_cons_none (by rw [if_neg c]), List.filter_cons_of_neg c, fm_filter p f ms]
def spThere : Sp := fun vs H Q _ => ∃ (B : List Addr) (pa ra : Addr) (sv pv : V) (xs ys : List V) (shs : List (Int × Int × Int)) (r c sd : Int), vs = [.ref pa, sv, pv] ∧ H pa = some (.lst (.ref ra :: xs)) ∧ H ra = some (.lst ys) ∧ Dt B H sv (eP (shs.map e3)) ∧ Dt B H pv (eC [r, c, sd]) ∧ Bk B H ∧ shs.length ≤ 100 ∧ -1 ≤ sd ∧ sd ≤ 1 ∧
  ∀ v H', Same H H' → Dt B H' v (eP ((thereOf (xs.length + 1) ys.length shs r c sd).map e3)) → Q v H'
set_option maxHeartbeats 4000000 in
theorem ok_shares_there (T : Tx K mg) {k : Nat} : FnOk P w K mg base CX0 (k + 1) T.f_shares_there T.d_shares_there ["picture", "shares", "spot"] spThere := by
  refine T.F_shares_there.ok sc_shares_there (fun vs H Q E h => ?_) (fun cdv A outer s H vs Q E hr h => ?_)
  · obtain ⟨B, pa, ra, sv, pv, xs, ys, shs, r, c, sd, rfl, _⟩ := h
    rfl
  · obtain ⟨B, pa, ra, sv, pv, xs, ys, shs, r, c, sd, rfl, epa, era, hs, hp, hB, hl, d1, d2, q⟩ := h
    obtain ⟨sa, vs, rfl, nsa, esa, hA⟩ := hs.pal
    have lv := hA.len
    rw [List.length_map, List.length_map] at lv
    obtain ⟨pp, rfl, npp, epp⟩ := hp.col
    refine ⟨_, (pss_cons (ps_asg (pv 2) (pg_tupK K (n := 3) rfl (pgs_cons (pg_name (i := 3) sc_shares_there.nd rfl (.inr rfl)) (pgs_cons (pg_name (i := 4) sc_shares_there.nd rfl (.inr rfl)) (pgs_cons (pg_name (i := 5) sc_shares_there.nd rfl (.inr rfl)) pgs_nil)))))
      (pss_cons (ps_setLc (i := 6) (own := [("across", 7), ("down", 8), ("parts", 9)]) (by rfl) sc_shares_there.nd rfl rfl (sw_true rfl rfl rfl (by decide +kernel)) (pi_listK K (pv 1)) (blkOk_by (own := [("across", 7), ("down", 8), ("parts", 9)]) (N := N_shares_there) (sc := defScope s_shares_there) (by decide +kernel)) (fun _ _ _ _ _ => (pg_tupK K (n := 3) rfl (pgs_cons (pg_name (i := 7) sc_shares_there.nd rfl (.inl rfl)) (pgs_cons (pg_name (i := 8) sc_shares_there.nd rfl (.inl rfl)) (pgs_cons (pg_name (i := 9) sc_shares_there.nd rfl (.inl rfl)) pgs_nil))))) (fun _ _ _ _ _ => pts_nil) (fun _ _ _ _ _ => (pe_tup (pa_cons (pe_op op_add (pv 3) (pv 8)) (pa_cons (pe_op op_add (pv 4) (pe_op op_mul (pv 5) (pv 7))) (pa_cons (pv 9) pa_nil))))))
      (pss_one (ps_ret (pe_lc (own := [("each", 10)]) (by rfl) sc_shares_there.nd (pi_listK K (pv 6)) (blkOk_by (own := [("each", 10)]) (N := N_shares_there) (sc := defScope s_shares_there) (by decide +kernel)) (fun _ _ _ _ _ => (pg_name (i := 10) sc_shares_there.nd rfl (.inl rfl))) (fun _ _ _ _ _ => pts_one (PW.pt (pw_and (pt_cmpR op_lt (pe_ix (ix_tupK K) (pv 10) pe_int (fun _ _ => rfl)) (pe_callB (len_K K) (by rfl) T.z_len PySem.boot_len (pa_cons (pv 0) pa_nil)) (nomark _)) (pw_and1 (pt_chain op_le op_lt pe_int (pe_ix (ix_tupK K) (pv 10) pe_int (fun _ _ => rfl)) (pe_callB (len_K K) (by rfl) T.z_len PySem.boot_len (pa_cons (pe_ix (ix_listK K) (pv 0) pe_int (fun _ _ => rfl)) pa_nil))))))) (fun _ _ _ _ _ => (pv 10))))))), ?_⟩
    refine ⟨_, rfl, pp, _, rfl, SqT.of epp, rfl, _, _, rfl, _, _, rfl, _, _, rfl, rfl, ?_⟩
    refine ⟨_, rfl, sa, rfl, ⟨_, SqL.of esa⟩, fun D hD => ?_⟩
    refine lc_pure (B := B) (walk_list (xs := vs)) hD hB (fun H' s' => SqL.of (s' _ _ esa)) (by omega)
      (fun j => ((shs.map (al3 r c sd)).map fun e => eC (e3 e))[j]?) (fun j x H' H'' Ny Nn hj t1 bk y ky kn => ?_) (fun H6 ws s6 eD hW => ?_)
    · obtain ⟨rfl, y⟩ := y
      have hj2 : j < shs.length := by omega
      obtain ⟨d, f1, g1⟩ := hA.getV y
      rw [List.getElem?_map, List.getElem?_map, List.getElem?_eq_getElem hj2] at f1
      have ed : d = eC (e3 shs[j]) := (Option.some.inj f1).symm
      subst ed
      have hm : ((shs.map (al3 r c sd)).map fun e => eC (e3 e))[j]? = some (eC (e3 (al3 r c sd shs[j]))) := by rw [List.getElem?_map, List.getElem?_map, List.getElem?_eq_getElem hj2]; rfl
      generalize shs[j] = sj at *
      obtain ⟨s1, s2, s3⟩ := sj
      obtain ⟨xa, rfl, nxa, exa⟩ := (g1.s t1).col
      change _ = some (HO.tup [V.int s1, V.int s2, V.int s3]) at exa
      refine ⟨xa, [.int s1, .int s2, .int s3], rfl, SqT.of exa, rfl, .int s1, [.int s2, .int s3], rfl, .int s2, [.int s3], rfl, .int s3, [], rfl, rfl, rfl, lc_yes ?_⟩
      refine ⟨_, rfl, _, rfl, _, _, rfl, rfl, _, rfl, _, rfl, _, rfl, _, _, rfl, rfl, .inl ⟨by omega, by omega⟩, _, _, rfl, rfl, _, rfl, (by show 3 ≤ sizeLine; decide), fun p hp => ?_⟩
      exact ky _ _ _ hm (sm_new hp) (Dt.ofCol (bk.ne hp) upd_same)
    rw [fm_all (by simp; omega)] at hW
    have lw := hW.len
    simp only [List.length_map] at lw
    generalize hm : shs.map (al3 r c sd) = ms at *
    have lm : ms.length = shs.length := by rw [← hm, List.length_map]
    have bk6 := hB.go (Go.of (B := []) s6)
    refine ⟨_, rfl, D, rfl, ⟨_, SqL.of eD⟩, fun D2 hD2 => ?_⟩
    refine lc_pure (B := B) (walk_list (xs := ws)) hD2 bk6 (fun H' s' => SqL.of (s' _ _ eD)) (by omega)
      (fun j => (ms[j]?).bind fun e => if in3 ((xs.length + 1 : Nat) : Int) (ys.length : Int) e = true then some (eC (e3 e)) else none) (fun j x H' H'' Ny Nn hj t1 bk y ky kn => ?_) (fun H7 us s7 eD2 hU => ?_)
    · obtain ⟨rfl, y⟩ := y
      have hj2 : j < ms.length := by omega
      obtain ⟨d, f1, g1⟩ := hW.un.getV y
      rw [List.getElem?_map, List.getElem?_eq_getElem hj2] at f1
      have ed : d = eC (e3 ms[j]) := (Option.some.inj f1).symm
      subst ed
      have em : ms[j]? = some ms[j] := List.getElem?_eq_getElem hj2
      generalize ms[j] = sj at *
      obtain ⟨s1, s2, s3⟩ := sj
      have g2 := g1.s t1
      obtain ⟨xa, rfl, nxa, exa⟩ := g2.col
      change _ = some (HO.tup [V.int s1, V.int s2, V.int s3]) at exa
      have st := s6.trans t1
      have epa' := st _ _ epa
      have era' := st _ _ era
      have yes : in3 ((xs.length + 1 : Nat) : Int) (ys.length : Int) (s1, s2, s3) = true → ((ms[j]?).bind fun e => if in3 ((xs.length + 1 : Nat) : Int) (ys.length : Int) e = true then some (eC (e3 e)) else none) = some (eC (e3 (s1, s2, s3))) := fun h => by rw [em, Option.bind_some, if_pos h]
      have no : ¬ in3 ((xs.length + 1 : Nat) : Int) (ys.length : Int) (s1, s2, s3) = true → ((ms[j]?).bind fun e => if in3 ((xs.length + 1 : Nat) : Int) (ys.length : Int) e = true then some (eC (e3 e)) else none) = none := fun h => by rw [em, Option.bind_some, if_neg h]
      refine ⟨rfl, ?_⟩
      refine ⟨_, rfl, xa, _, 0, .int s1, rfl, rfl, SqT.of exa, rfl, _, rfl, pa, _, rfl, .inl (SqL.of epa'), _, _, rfl, rfl, _, rfl, ite2 (fun e => ?_) (fun e => ?_)⟩
      · have c1 : s1 < ((xs.length + 1 : Nat) : Int) := by simpa using e
        refine ⟨_, rfl, xa, _, 1, .int s2, rfl, rfl, SqT.of exa, rfl, _, _, rfl, rfl, _, rfl, ite2 (fun e => ?_) (fun e => ?_)⟩
        · have c2 : 0 ≤ s2 := by simpa using e
          refine ⟨_, rfl, pa, _, 0, .ref ra, rfl, rfl, SqL.of epa', atI_nat (j := 0) rfl, ra, _, rfl, .inl (SqL.of era'), _, _, rfl, rfl, _, rfl, ite2 (fun e => ?_) (fun e => ?_)⟩
          · have c3 : s2 < (ys.length : Int) := by simpa using e
            exact ⟨_, rfl, ky _ _ _ (yes (by unfold in3; rw [decide_eq_true c1, decide_eq_true c2, decide_eq_true c3]; rfl)) (Same.refl _) ((g1.fr hD2).s t1)⟩
          · have c3 : ¬ s2 < (ys.length : Int) := by simpa using e
            exact kn _ (no (by unfold in3; rw [decide_eq_false c3]; simp)) (Same.refl _)
        · have c2 : ¬ 0 ≤ s2 := by simpa using e
          exact ⟨_, rfl, iteF (kn _ (no (by unfold in3; rw [decide_eq_false c2]; simp)) (Same.refl _))⟩
      · have c1 : ¬ s1 < ((xs.length + 1 : Nat) : Int) := by simpa using e
        exact iteF (kn _ (no (by unfold in3; rw [decide_eq_false c1]; simp)) (Same.refl _))
    · refine q _ _ (s6.trans s7) (.lst (bk6.ne hD2) eD2 ?_)
      rw [show ws.length = ms.length by omega, fm_bind, fm_filter] at hU
      have := hU.un
      unfold thereOf
      rw [hm, List.map_map]
      exact this
/-! ### what is left, handed over -/
def getC (W : List (List (List Int))) (r c : Nat) : List Int := (W.getD r []).getD c []
def putC (W : List (List (List Int))) (r c : Nat) (v : List Int) : List (List (List Int)) := W.set r ((W.getD r []).set c v)
def hdC (left : List Int) (p t : Int) : List Int := left.map fun x => x * p / t
def hStep (left : List Int) (t : Int) (z : List (List (List Int)) × List Int) (e : Int × Int × Int) : List (List (List Int)) × List Int :=
  (putC z.1 e.1.toNat e.2.1.toNat (adC (getC z.1 e.1.toNat e.2.1.toNat) (hdC left e.2.2 t)), leC z.2 (hdC left e.2.2 t))
def total3 (shs : List (Int × Int × Int)) : Int := (shs.map fun s => s.2.2).sum
def handW (h w : Nat) (W : List (List (List Int))) (shs : List (Int × Int × Int)) (r c : Nat) (sd : Int) (col : List Int) : List (List (List Int)) × List Int :=
  match thereOf h w shs r c sd with
  | [] => (W, leC (getC W r c) col)
  | e :: es =>
    let z := (e :: es).foldl (hStep (leC (getC W r c) col) (total3 shs)) (W, leC (getC W r c) col)
    (putC z.1 e.1.toNat e.2.1.toNat (adC (getC z.1 e.1.toNat e.2.1.toNat) z.2), List.replicate (leC (getC W r c) col).length 0)
def Rect (h w n : Nat) (W : List (List (List Int))) : Prop := W.length = h ∧ ∀ p ∈ W, p.length = w ∧ ∀ c ∈ p, c.length = n
def gD (W : List (List (List Int))) : List (List PyData) := W.map fun p => p.map eC
theorem rect_row {h w n : Nat} {W : List (List (List Int))} (hR : Rect h w n W) {r : Nat} (hr : r < h) : W[r]? = some (W.getD r []) ∧ (W.getD r []).length = w ∧ ∀ c ∈ W.getD r [], c.length = n := by
  have hl : r < W.length := by rw [hR.1]; exact hr
  have e : W.getD r [] = W[r] := by rw [List.getD_eq_getElem?_getD, List.getElem?_eq_getElem hl]; rfl
  rw [e]
  exact ⟨List.getElem?_eq_getElem hl, hR.2 _ (List.getElem_mem hl)⟩
theorem rect_get {h w n : Nat} {W : List (List (List Int))} (hR : Rect h w n W) {r c : Nat} (hr : r < h) (hc : c < w) : (W.getD r [])[c]? = some (getC W r c) ∧ (getC W r c).length = n := by
  obtain ⟨_, l, a⟩ := rect_row hR hr
  have hl : c < (W.getD r []).length := by rw [l]; exact hc
  have e : getC W r c = (W.getD r [])[c] := by unfold getC; rw [List.getD_eq_getElem?_getD (l := W.getD r []), List.getElem?_eq_getElem hl]; rfl
  rw [e]
  exact ⟨List.getElem?_eq_getElem hl, a _ (List.getElem_mem hl)⟩
theorem rect_put {h w n : Nat} {W : List (List (List Int))} (hR : Rect h w n W) {r c : Nat} (hr : r < h) {v : List Int} (hv : v.length = n) : Rect h w n (putC W r c v) := by
  obtain ⟨_, l, a⟩ := rect_row hR hr
  refine ⟨by unfold putC; rw [List.length_set]; exact hR.1, fun p hp => ?_⟩
  rcases List.mem_or_eq_of_mem_set hp with z | z
  · exact hR.2 p z
  · rw [z]
    refine ⟨by rw [List.length_set]; exact l, fun x hx => ?_⟩
    rcases List.mem_or_eq_of_mem_set hx with y | y
    · exact a x y
    · rw [y]; exact hv
theorem Gr.at {B : List Addr} {H : Hp} {wa : Addr} {ras : List Addr} {W : List (List (List Int))} {h w n r c : Nat} (g : Gr B H wa ras (gD W)) (hR : Rect h w n W) (hr : r < h) (hc : c < w) :
    ∃ ra vs v, ras[r]? = some ra ∧ H ra = some (.lst vs) ∧ vs.length = w ∧ vs[c]? = some v ∧ Dt (wa :: ras ++ B) H v (eC (getC W r c)) ∧ ∀ u x, Dt (wa :: ras ++ B) H u (eC x) → Gr B (upd H ra (.lst (vs.set c u))) wa ras (gD (putC W r c x)) := by
  obtain ⟨e1, l1, _⟩ := rect_row hR hr
  have e2 : (gD W)[r]? = some ((W.getD r []).map eC) := by unfold gD; rw [List.getElem?_map, e1]; rfl
  have hl : r < ras.length := by rw [g.l]; unfold gD; rw [List.length_map, hR.1]; exact hr
  obtain ⟨vs, e3, d3⟩ := g.r r ras[r] _ (List.getElem?_eq_getElem hl) e2
  obtain ⟨v, e4, d4⟩ := d3.get (i := c) (d := eC (getC W r c)) (by rw [List.getElem?_map, (rect_get hR hr hc).1]; rfl)
  refine ⟨ras[r], vs, v, List.getElem?_eq_getElem hl, e3, by rw [d3.len, List.length_map, l1], e4, d4, fun u x hu => ?_⟩
  have := g.set (j := c) (List.getElem?_eq_getElem hl) e2 e3 hu
  unfold gD putC
  rw [List.map_set, List.map_set]
  exact this
theorem there_in {h w : Nat} {shs : List (Int × Int × Int)} {r c : Nat} {sd : Int} (sok : ∀ s ∈ shs, 0 ≤ s.2.1 ∧ 0 < s.2.2 ∧ s.2.2 ≤ 1000) : ∀ e ∈ thereOf h w shs r c sd, 0 ≤ e.1 ∧ e.1 < h ∧ 0 ≤ e.2.1 ∧ e.2.1 < w ∧ 0 < e.2.2 ∧ e.2.2 ≤ 1000 := fun e he => by
  unfold thereOf at he
  obtain ⟨m, i⟩ := List.mem_filter.mp he
  obtain ⟨s, hs, rfl⟩ := List.mem_map.mp m
  have o := sok s hs
  unfold in3 al3 at i
  simp only [Bool.and_eq_true, decide_eq_true_eq] at i
  unfold al3
  simp only
  omega
theorem tot_in {shs : List (Int × Int × Int)} (sok : ∀ s ∈ shs, 0 ≤ s.2.1 ∧ 0 < s.2.2 ∧ s.2.2 ≤ 1000) : 0 ≤ total3 shs ∧ (shs ≠ [] → 0 < total3 shs) ∧ total3 shs ≤ 1000 * shs.length := by
  induction shs with
  | nil => exact ⟨by decide, fun h => absurd rfl h, by simp [total3]⟩
  | cons s shs ih =>
    have o := sok s (List.mem_cons_self ..)
    obtain ⟨a, _, b⟩ := ih fun x hx => sok x (List.mem_cons_of_mem _ hx)
    have e : total3 (s :: shs) = s.2.2 + total3 shs := by unfold total3; rw [List.map_cons, List.sum_cons]
    rw [e, List.length_cons]
    exact ⟨by omega, fun _ => by omega, by omega⟩
theorem leC_len {a b : List Int} (h : a.length = b.length) : (leC a b).length = b.length := by unfold leC; simp; omega
theorem adC_len {a b : List Int} (h : a.length = b.length) : (adC a b).length = b.length := by unfold adC; simp; omega
theorem ixN0 {n : Nat} {i : Int} (h0 : 0 ≤ i) (h1 : i < n) : ixN n i = some i.toNat := by
  unfold ixN
  rw [if_pos h0, if_pos h1]
def spHand : Sp := fun vs H Q _ => ∃ (B : List Addr) (wa : Addr) (ras : List Addr) (sv qv cv : V) (W : List (List (List Int))) (shs : List (Int × Int × Int)) (h w n r c : Nat) (sd : Int) (col : List Int), vs = [.ref wa, sv, qv, cv] ∧ Gr B H wa ras (gD W) ∧ Rect h w n W ∧ h ≤ 100 ∧ w ≤ 100 ∧ 0 < n ∧ n ≤ 100 ∧ r < h ∧ c < w ∧ col.length = n ∧
  Dt (wa :: ras ++ B) H sv (eP (shs.map e3)) ∧ Dt (wa :: ras ++ B) H qv (eC [(r : Int), (c : Int), sd]) ∧ Dt (wa :: ras ++ B) H cv (eC col) ∧ Bk (wa :: ras ++ B) H ∧ shs.length ≤ 100 ∧ (∀ s ∈ shs, 0 ≤ s.2.1 ∧ 0 < s.2.2 ∧ s.2.2 ≤ 1000) ∧ -1 ≤ sd ∧ sd ≤ 1 ∧
  ∀ v H', Go ras H H' → Gr B H' wa ras (gD (handW h w W shs r c sd col).1) → Dt (wa :: ras ++ B) H' v (eC (handW h w W shs r c sd col).2) → Q v H'
set_option maxHeartbeats 2000000 in
theorem ok_hand_over (T : Tx K mg) {k : Nat} : FnOk P w K mg base CX0 (k + 2) T.f_hand_over T.d_hand_over ["wanted", "shares", "spot", "colour"] spHand := by
  refine T.F_hand_over.ok sc_hand_over (fun vs H Q E h => ?_) (fun cdv A outer s H vs Q E hr h => ?_)
  · obtain ⟨B, wa, ras, sv, qv, cv, W, shs, h, w, n, r, c, sd, col, rfl, _⟩ := h
    rfl
  · obtain ⟨B, wa, ras, sv, qv, cv, W, shs, h, w, n, r, c, sd, col, rfl, hG, hR, h1, w1, n0, n1, rh, cw, cl, ds, dp, dc, hB, sl, sok, d1, d2, q⟩ := h
    refine ⟨_, (pss_cons (ps_set (i := 4) sc_hand_over.nd rfl (.inl rfl) (pe_call (ok_lessened T (k := k)) hr (by rfl) T.g_lessened T.F_lessened.kp T.b_lessened .nil pass0 (pa_cons (pe_ix (ix_listK K) (pe_ix (ix_listK K) (pv 0) (pe_ix (ix_tupK K) (pv 2) pe_int (fun _ _ => rfl)) (fun _ _ => rfl)) (pe_ix (ix_tupK K) (pv 2) pe_int (fun _ _ => rfl)) (fun _ _ => rfl)) (pa_cons (pv 3) pa_nil))))
      (pss_cons (ps_set (i := 5) sc_hand_over.nd rfl (.inl rfl) (pe_call (ok_shares_there T (k := k)) hr (by rfl) T.g_shares_there T.F_shares_there.kp T.b_shares_there .nil pass0 (pa_cons (pv 0) (pa_cons (pv 1) (pa_cons (pv 2) pa_nil)))))
      (pss_cons (ps_if (pt_cmpR (op_eqDK K hr.units) (pv 5) (pe_lst pa_nil) (nomark _)) (pss_one (ps_ret (pv 4))) pss_nil)
      (pss_cons (ps_set (i := 6) sc_hand_over.nd rfl (.inr rfl) (pe_callB (cr_sumK K rfl) (by rfl) T.z_sum (by decide +kernel) (pa_cons (pe_lc (own := [("across", 12), ("down", 13), ("parts", 10)]) (by rfl) sc_hand_over.nd (pi_listK K (pv 1)) (blkOk_by (own := [("across", 12), ("down", 13), ("parts", 10)]) (N := N_hand_over) (sc := defScope s_hand_over) (by decide +kernel)) (fun _ _ _ _ _ => (pg_tupK K (n := 3) rfl (pgs_cons (pg_name (i := 12) sc_hand_over.nd rfl (.inl rfl)) (pgs_cons (pg_name (i := 13) sc_hand_over.nd rfl (.inl rfl)) (pgs_cons (pg_name (i := 10) sc_hand_over.nd rfl (.inl rfl)) pgs_nil))))) (fun _ _ _ _ _ => pts_nil) (fun _ _ _ _ _ => (pv 10))) pa_nil)))
      (pss_cons (ps_set (i := 7) sc_hand_over.nd rfl (.inl rfl) (pv 4))
      (pss_cons (ps_for PassesOwn.never rfl (pi_listK K (pv 5)) (pg_tupK K (n := 3) rfl (pgs_cons (pg_name (i := 8) sc_hand_over.nd rfl (.inl rfl)) (pgs_cons (pg_name (i := 9) sc_hand_over.nd rfl (.inl rfl)) (pgs_cons (pg_name (i := 10) sc_hand_over.nd rfl (.inr rfl)) pgs_nil)))) (pss_cons (ps_set (i := 11) sc_hand_over.nd rfl (.inl rfl) (pe_callTy (tuple_K K) (by rfl) T.z_tuple (by decide +kernel) (pa_cons (pe_lc (own := [("number", 14)]) (by rfl) sc_hand_over.nd (pi_tupK K (pv 4)) (blkOk_by (own := [("number", 14)]) (N := N_hand_over) (sc := defScope s_hand_over) (by decide +kernel)) (fun _ _ _ _ _ => (pg_name (i := 14) sc_hand_over.nd rfl (.inl rfl))) (fun _ _ _ _ _ => pts_nil) (fun _ _ _ _ _ => (pe_op op_fdiv (pe_op op_mul (pv 14) (pv 10)) (pv 6)))) pa_nil)))
      (pss_cons (ps_asg (pe_call (ok_added T (k := k)) hr (by rfl) T.g_added T.F_added.kp T.b_added .nil pass0 (pa_cons (pe_ix (ix_listK K) (pe_ix (ix_listK K) (pv 0) (pv 8) (fun _ _ => rfl)) (pv 9) (fun _ _ => rfl)) (pa_cons (pv 11) pa_nil))) (pg_sub (pe_ix (ix_listK K) (pv 0) (pv 8) (fun _ _ => rfl)) (pv 9) set_list))
      (pss_one (ps_set (i := 7) sc_hand_over.nd rfl (.inl rfl) (pe_call (ok_lessened T (k := k)) hr (by rfl) T.g_lessened T.F_lessened.kp T.b_lessened .nil pass0 (pa_cons (pv 7) (pa_cons (pv 11) pa_nil))))))))
      (pss_cons (ps_asg (pe_ix (ix_listK K) (pv 5) pe_int (fun _ _ => rfl)) (pg_tupK K (n := 3) rfl (pgs_cons (pg_name (i := 8) sc_hand_over.nd rfl (.inl rfl)) (pgs_cons (pg_name (i := 9) sc_hand_over.nd rfl (.inl rfl)) (pgs_cons (pg_name (i := 10) sc_hand_over.nd rfl (.inr rfl)) pgs_nil)))))
      (pss_cons (ps_asg (pe_call (ok_added T (k := k)) hr (by rfl) T.g_added T.F_added.kp T.b_added .nil pass0 (pa_cons (pe_ix (ix_listK K) (pe_ix (ix_listK K) (pv 0) (pv 8) (fun _ _ => rfl)) (pv 9) (fun _ _ => rfl)) (pa_cons (pv 7) pa_nil))) (pg_sub (pe_ix (ix_listK K) (pv 0) (pv 8) (fun _ _ => rfl)) (pv 9) set_list))
      (pss_one (ps_ret (pe_op op_repTT (pe_tup (pa_cons pe_int pa_nil)) (pe_callB (len_K K) (by rfl) T.z_len PySem.boot_len (pa_cons (pv 4) pa_nil))))))))))))), ?_⟩
    have dp0 := dp
    obtain ⟨qa, rfl, nqa, eqa⟩ := dp.col
    obtain ⟨ra, vs, v, fr, era, lvs, fv, dv, _⟩ := hG.at hR rh cw
    obtain ⟨gv, gl⟩ := rect_get hR rh cw
    have fr' : (ras.map V.ref)[r]? = some (.ref ra) := by rw [List.getElem?_map, fr]; rfl
    refine ⟨_, rfl, _, rfl, qa, _, 0, .int r, rfl, rfl, SqT.of eqa, rfl, wa, _, r, .ref ra, rfl, rfl, SqL.of hG.a, atI_nat fr', _, rfl, qa, _, 1, .int c, rfl, rfl, SqT.of eqa, rfl, ra, _, c, v, rfl, rfl, SqL.of era, atI_nat fv, _, rfl, wa :: ras ++ B, v, cv, getC W r c, col, rfl, dv, dc, hB, by omega, by omega, fun lv H1 s1 dl => ?_⟩
    obtain ⟨ra0, ys, _, f0, e0, l0, _⟩ := hG.at hR (r := 0) (c := c) (by omega) cw
    obtain ⟨rest, er⟩ : ∃ rest, ras = ra0 :: rest := by
      cases ras with
      | nil => simp at f0
      | cons x xs => exact ⟨xs, by rw [Option.some.inj (show some x = some ra0 from f0)]⟩
    have lr : rest.length + 1 = h := by
      have := hG.l
      rw [er] at this
      unfold gD at this
      rw [List.length_map, hR.1] at this
      simpa using this
    have ewa : H1 wa = some (.lst (.ref ra0 :: rest.map V.ref)) := by
      have := s1 _ _ hG.a
      rw [er] at this
      exact this
    refine ⟨_, rfl, _, rfl, _, rfl, wa :: ras ++ B, wa, ra0, sv, .ref qa, rest.map V.ref, ys, shs, r, c, sd, rfl, ewa, s1 _ _ e0, ds.s s1, dp0.s s1, hB.go (Go.of (B := []) s1), sl, d1, d2, fun tv H2 s2 dt => ?_⟩
    rw [List.length_map, lr, l0] at dt
    have tin := there_in (h := h) (w := w) (shs := shs) (r := r) (c := c) (sd := sd) sok
    have tl : (thereOf h w shs r c sd).length ≤ 100 := by
      unfold thereOf
      exact Nat.le_trans (List.length_filter_le _ _) (by simpa using sl)
    have shT : Sh (eP ((thereOf h w shs r c sd).map e3)) 2 := sh_eP (by simp; omega) fun x hx => by
      obtain ⟨e, _, rfl⟩ := List.mem_map.mp hx
      simp [e3]
    have t2 := s1.trans s2
    refine ⟨_, rfl, Nat.zero_le _, fun z hz => ⟨_, .list [], (dt.s (sm_new hz)).dP, .lst (SqL.of upd_same) .nil, shT.sh (by omega), rfl, _, rfl, ite2 (fun e => ?_) (fun e => ?_)⟩⟩
    · have te : thereOf h w shs r c sd = [] := by
        cases hc : thereOf h w shs r c sd with
        | nil => rfl
        | cons a b =>
          rw [hc] at e
          exact absurd e (by simp [eP, PyData.eqv, PyData.eqvAll])
      have t3 := s2.trans (sm_new (o := .lst []) hz)
      have eh : handW h w W shs r c sd col = (W, leC (getC W r c) col) := by unfold handW; rw [te]
      exact ⟨_, rfl, q _ _ (Go.of (s1.trans t3)) (by rw [eh]; exact hG.s (s1.trans t3)) (by rw [eh]; exact dl.s t3)⟩
    have s3 := sm_new (o := .lst []) hz
    generalize upd H2 z (.lst []) = H3 at *
    have t3 := t2.trans s3
    obtain ⟨e1, es, te⟩ : ∃ e1 es, thereOf h w shs r c sd = e1 :: es := by
      cases hc : thereOf h w shs r c sd with
      | nil =>
        rw [hc] at e
        exact absurd (show PyData.eqv (eP (List.map e3 [])) (.list []) = true by simp [eP, PyData.eqv, PyData.eqvAll]) e
      | cons a b => exact ⟨a, b, rfl⟩
    have eh : handW h w W shs r c sd col = (let z := (e1 :: es).foldl (hStep (leC (getC W r c) col) (total3 shs)) (W, leC (getC W r c) col)
      (putC z.1 e1.1.toNat e1.2.1.toNat (adC (getC z.1 e1.1.toNat e1.2.1.toNat) z.2), List.replicate (leC (getC W r c) col).length 0)) := by unfold handW; rw [te]
    rw [te] at dt tin tl shT
    have sne : shs ≠ [] := fun z => by
      rw [z] at te
      simp [thereOf] at te
    obtain ⟨tt0, tt1, tt2⟩ := tot_in sok
    have tt1 := tt1 sne
    obtain ⟨sa, svs, rfl, nsa, esa, hS⟩ := ds.pal
    have lsv := hS.len
    rw [List.length_map, List.length_map] at lsv
    have esa3 := t3 _ _ esa
    refine ⟨_, rfl, sa, rfl, ⟨_, SqL.of esa3⟩, fun D hD => ?_⟩
    refine lc_pure (σ := [some (.ref wa), some (.ref sa), some (.ref qa), some cv, some lv, some tv, none, none, none, none, none, none, none, none, none]) (B := []) (walk_list (xs := svs)) hD (fun _ h => nomatch h) (fun H' s' => SqL.of (s' _ _ esa3)) (by omega)
      (fun j => ((shs.map fun s => s.2.2).map PyData.int)[j]?) (fun j x H' H'' Ny Nn hj t1 bk y ky kn => ?_) (fun H4 ws s4 eD hW => ?_)
    · obtain ⟨rfl, y⟩ := y
      have hj2 : j < shs.length := by omega
      obtain ⟨d, f1, g1⟩ := (hS.s t3).getV y
      rw [List.getElem?_map, List.getElem?_map, List.getElem?_eq_getElem hj2] at f1
      have ed : d = eC (e3 shs[j]) := (Option.some.inj f1).symm
      subst ed
      have hm : ((shs.map fun s => s.2.2).map PyData.int)[j]? = some (PyData.int shs[j].2.2) := by rw [List.getElem?_map, List.getElem?_map, List.getElem?_eq_getElem hj2]; rfl
      generalize shs[j] = sj at *
      obtain ⟨a1, a2, a3⟩ := sj
      obtain ⟨xa, rfl, nxa, exa⟩ := (g1.s t1).col
      change _ = some (HO.tup [V.int a1, V.int a2, V.int a3]) at exa
      refine ⟨xa, [.int a1, .int a2, .int a3], rfl, SqT.of exa, rfl, .int a1, [.int a2, .int a3], rfl, .int a2, [.int a3], rfl, .int a3, [], rfl, rfl, rfl, lc_yes ⟨_, rfl, ?_⟩⟩
      exact ky _ _ _ hm (Same.refl _) (.int _)
    rw [fm_all (by simp; omega)] at hW
    have ew := hW.intsV
    subst ew
    refine ⟨D, _, rfl, SqL.of eD, ?_⟩
    refine ⟨_, rfl, ?_⟩
    have t4 := t3.trans s4
    obtain ⟨ta, tvs, rfl, nta, eta, hT⟩ := dt.pal
    have lt := hT.len
    rw [List.length_map, List.length_map] at lt
    have u24 := s3.trans s4
    have eta4 := u24 _ _ eta
    have hT4 := hT.s u24
    have dl4 := (dl.s s2).s u24
    obtain ⟨la, rfl, nla, ela⟩ := dl4.col
    have ll : (leC (getC W r c) col).length = n := by rw [leC_len (by omega)]; exact cl
    have hG4 := hG.s t4
    have B4 := hB.go (Go.of (B := []) t4)
    refine ⟨_, rfl, ta, rfl, ⟨_, SqL.of eta4⟩, for_it (walk_list (xs := tvs)) (fun i σ H' => ∃ y8 y9 y10 y11 y12 y13 y14 rv, σ = [some (.ref wa), some (.ref sa), some (.ref qa), some cv, some (.ref la), some (.ref ta), some (.int (total3 shs)), some rv, y8, y9, y10, y11, y12, y13, y14] ∧ Go ras H4 H' ∧ Gr B H' wa ras (gD (((e1 :: es).take i).foldl (hStep (leC (getC W r c) col) (total3 shs)) (W, leC (getC W r c) col)).1) ∧ Dt (wa :: ras ++ B) H' rv (eC (((e1 :: es).take i).foldl (hStep (leC (getC W r c) col) (total3 shs)) (W, leC (getC W r c) col)).2) ∧ Rect h w n (((e1 :: es).take i).foldl (hStep (leC (getC W r c) col) (total3 shs)) (W, leC (getC W r c) col)).1 ∧ (((e1 :: es).take i).foldl (hStep (leC (getC W r c) col) (total3 shs)) (W, leC (getC W r c) col)).2.length = n)
      ⟨_, _, _, _, _, _, _, _, rfl, Go.refl, hG4, dl4, hR, ll⟩ (fun i σ H' _ h => ?_) (fun i x σ H5 H6 hi h y => ?_) (fun σ H5 h => ?_)⟩
    · obtain ⟨y8, y9, y10, y11, y12, y13, y14, rv, rfl, g5, _⟩ := h
      exact SqL.of (g5.k ta _ (fun z => nta (by simp [z])) eta4)
    · obtain ⟨y8, y9, y10, y11, y12, y13, y14, rv, rfl, g5, hG5, dr, hR5, lr5⟩ := h
      obtain ⟨rfl, y⟩ := y
      have gX : Go (wa :: ras ++ B) H4 H6 := g5.w fun a ha => by simp [ha]
      have hi2 : i < (e1 :: es).length := by omega
      obtain ⟨d, f1, g1⟩ := (hT4.g gX).getV y
      rw [List.getElem?_map, List.getElem?_map, List.getElem?_eq_getElem hi2] at f1
      have ed : d = eC (e3 (e1 :: es)[i]) := (Option.some.inj f1).symm
      subst ed
      have ti := tin _ (List.getElem_mem hi2)
      have hz1 : ((e1 :: es).take (i + 1)).foldl (hStep (leC (getC W r c) col) (total3 shs)) (W, leC (getC W r c) col) = hStep (leC (getC W r c) col) (total3 shs) (((e1 :: es).take i).foldl (hStep (leC (getC W r c) col) (total3 shs)) (W, leC (getC W r c) col)) (e1 :: es)[i] := by
        rw [List.take_add_one, List.getElem?_eq_getElem hi2, List.foldl_append]
        rfl
      rw [hz1]
      clear hz1
      generalize ((e1 :: es).take i).foldl (hStep (leC (getC W r c) col) (total3 shs)) (W, leC (getC W r c) col) = z at *
      generalize (e1 :: es)[i] = sj at *
      obtain ⟨a1, a2, a3⟩ := sj
      obtain ⟨i1, i2, i3, i4, i5, i6⟩ := ti
      simp only at i1 i2 i3 i4 i5 i6
      obtain ⟨xa, rfl, nxa, exa⟩ := g1.col
      change _ = some (HO.tup [V.int a1, V.int a2, V.int a3]) at exa
      have ela6 := gX.k la _ nla ela
      have B6 := B4.go gX
      refine ⟨xa, [.int a1, .int a2, .int a3], rfl, SqT.of exa, rfl, .int a1, [.int a2, .int a3], rfl, .int a2, [.int a3], rfl, .int a3, [], rfl, rfl, ?_⟩
      generalize hL : leC (getC W r c) col = left at *
      refine ⟨_, rfl, la, rfl, ⟨_, SqT.of ela6⟩, fun D2 hD2 => ?_⟩
      refine lc_pure (B := []) (walk_tup (xs := left.map V.int)) hD2 (fun _ h => nomatch h) (fun H' s' => SqT.of (s' _ _ ela6)) (by simp; omega)
        (fun j => ((hdC left a3 (total3 shs)).map PyData.int)[j]?) (fun j x H' H'' Ny Nn hj t1 bk y ky kn => ?_) (fun H7 ws7 s7 eD7 hW7 => ?_)
      · obtain ⟨rfl, y⟩ := y
        rw [List.length_map] at hj
        have ex := mat hj y
        subst ex
        refine ⟨rfl, lc_yes ⟨_, rfl, _, rfl, _, _, rfl, rfl, .inr ⟨by omega, by omega⟩, _, rfl, _, _, rfl, rfl, ⟨tt1, by omega⟩, ?_⟩⟩
        exact ky _ _ _ (by unfold hdC; rw [List.getElem?_map, List.getElem?_map, List.getElem?_eq_getElem hj]; rfl) (Same.refl _) (.int _)
      rw [fm_all (by simp [hdC])] at hW7
      have ew7 := hW7.intsV
      subst ew7
      refine ⟨D2, _, rfl, .inl ⟨SqL.of eD7, fun t ht => ?_⟩⟩
      have s8 := s7.trans (sm_new (o := .tup ((hdC left a3 (total3 shs)).map V.int)) ht)
      have dh : Dt (wa :: ras ++ B) (upd H7 t (.tup ((hdC left a3 (total3 shs)).map V.int))) (.ref t) (eC (hdC left a3 (total3 shs))) := Dt.ofCol ((B6.go (Go.of (B := []) s7)).ne ht) upd_same
      generalize upd H7 t (.tup ((hdC left a3 (total3 shs)).map V.int)) = H8 at *
      have hdl : (hdC left a3 (total3 shs)).length = n := by unfold hdC; rw [List.length_map]; exact ll
      have hG8 := hG5.s s8
      have dr8 := dr.s s8
      have B8 := B6.go (Go.of (B := []) s8)
      have ra1 : a1.toNat < h := by omega
      have ca1 : a2.toNat < w := by omega
      obtain ⟨rb, us, v2, fb, eb, lb, fv2, dv2, put2⟩ := hG8.at hR5 ra1 ca1
      obtain ⟨gv2, gl2⟩ := rect_get hR5 ra1 ca1
      have fb' : (ras.map V.ref)[a1.toNat]? = some (.ref rb) := by rw [List.getElem?_map, fb]; rfl
      refine ⟨_, rfl, _, rfl, wa, _, _, .ref rb, rfl, rfl, SqL.of hG8.a, at0 i1 fb', _, rfl, rb, _, _, v2, rfl, rfl, SqL.of eb, at0 i3 fv2, _, rfl, wa :: ras ++ B, v2, .ref t, _, _, rfl, dv2, dh, B8, by omega, by omega, fun nv H9 s9 dn => ?_⟩
      obtain ⟨rb', us', v2', fb2, eb', lb', _, _, put9⟩ := (hG8.s s9).at hR5 ra1 ca1
      rw [fb] at fb2
      cases fb2
      have mrb : rb ∈ ras := List.mem_of_getElem? fb
      refine ⟨_, rfl, _, rfl, wa, _, _, .ref rb, rfl, rfl, SqL.of (hG8.s s9).a, at0 i1 fb', _, rfl, rb, _, _, a2.toNat, rfl, rfl, eb', ixN0 i3 (by omega), ?_⟩
      have hG10 := put9 nv _ dn
      have gm : Go (wa :: ras ++ B) H9 (upd H9 rb (.lst (us'.set a2.toNat nv))) := Go.refl.at (by simp [mrb])
      have g10 : Go ras H4 (upd H9 rb (.lst (us'.set a2.toNat nv))) := (g5.trans (Go.of (s8.trans s9))).trans (Go.refl.at mrb)
      have dr10 := (dr8.s s9).g gm
      have dh10 := (dh.s s9).g gm
      have B10 := (B8.go (Go.of (B := []) s9)).go gm
      generalize upd H9 rb (.lst (us'.set a2.toNat nv)) = H10 at *
      refine ⟨_, rfl, _, rfl, wa :: ras ++ B, rv, .ref t, _, _, rfl, dr10, dh10, B10, by omega, by omega, fun nr H11 s11 dnr => ?_⟩
      refine ⟨_, _, _, _, _, _, _, nr, rfl, g10.trans (Go.of s11), hG10.s s11, dnr, rect_put (v := adC (getC z.1 a1.toNat a2.toNat) (hdC left a3 (total3 shs))) hR5 ra1 ((adC_len (gl2.trans hdl.symm)).trans hdl), ?_⟩
      show (leC z.2 (hdC left a3 (total3 shs))).length = n
      rw [leC_len (by omega)]
      exact hdl
    · obtain ⟨y8, y9, y10, y11, y12, y13, y14, rv, rfl, g5, hG5, dr, hR5, lr5⟩ := h
      rw [lt, List.take_length] at hG5 dr hR5 lr5
      generalize hz : (e1 :: es).foldl (hStep (leC (getC W r c) col) (total3 shs)) (W, leC (getC W r c) col) = z at *
      have gX : Go (wa :: ras ++ B) H4 H5 := g5.w fun a ha => by simp [ha]
      have ti := tin e1 (List.mem_cons_self ..)
      have nta' : ta ∉ ras := fun z => nta (by simp [z])
      obtain ⟨x1, f1, g1⟩ := (hT4.g gX).get (i := 0) (d := eC (e3 e1)) rfl
      obtain ⟨a1, a2, a3⟩ := e1
      obtain ⟨i1, i2, i3, i4, i5, i6⟩ := ti
      simp only at i1 i2 i3 i4 i5 i6
      obtain ⟨xa, rfl, nxa, exa⟩ := g1.col
      change _ = some (HO.tup [V.int a1, V.int a2, V.int a3]) at exa
      refine ⟨_, rfl, ta, _, 0, .ref xa, rfl, rfl, SqL.of (g5.k ta _ nta' eta4), atI_nat (j := 0) f1, xa, [.int a1, .int a2, .int a3], rfl, SqT.of exa, rfl, .int a1, [.int a2, .int a3], rfl, .int a2, [.int a3], rfl, .int a3, [], rfl, rfl, ?_⟩
      have B5 := B4.go gX
      have ra1 : a1.toNat < h := by omega
      have ca1 : a2.toNat < w := by omega
      obtain ⟨rb, us, v2, fb, eb, lb, fv2, dv2, put2⟩ := hG5.at hR5 ra1 ca1
      obtain ⟨gv2, gl2⟩ := rect_get hR5 ra1 ca1
      have fb' : (ras.map V.ref)[a1.toNat]? = some (.ref rb) := by rw [List.getElem?_map, fb]; rfl
      refine ⟨_, rfl, _, rfl, wa, _, _, .ref rb, rfl, rfl, SqL.of hG5.a, at0 i1 fb', _, rfl, rb, _, _, v2, rfl, rfl, SqL.of eb, at0 i3 fv2, _, rfl, wa :: ras ++ B, v2, rv, _, _, rfl, dv2, dr, B5, by omega, by omega, fun nv H9 s9 dn => ?_⟩
      obtain ⟨rb', us', v2', fb2, eb', lb', _, _, put9⟩ := (hG5.s s9).at hR5 ra1 ca1
      rw [fb] at fb2
      cases fb2
      have mrb : rb ∈ ras := List.mem_of_getElem? fb
      refine ⟨_, rfl, _, rfl, wa, _, _, .ref rb, rfl, rfl, SqL.of (hG5.s s9).a, at0 i1 fb', _, rfl, rb, _, _, a2.toNat, rfl, rfl, eb', ixN0 i3 (by omega), ?_⟩
      have hG10 := put9 nv _ dn
      have g10 : Go ras H4 (upd H9 rb (.lst (us'.set a2.toNat nv))) := (g5.trans (Go.of s9)).trans (Go.refl.at mrb)
      generalize upd H9 rb (.lst (us'.set a2.toNat nv)) = H10 at *
      have gX10 : Go (wa :: ras ++ B) H4 H10 := g10.w fun a ha => by simp [ha]
      have B10 := B4.go gX10
      refine ⟨(by show 1 ≤ sizeLine; decide), fun p hp => ?_⟩
      have s11 := sm_new (o := .tup [.int 0]) hp
      have e11 : (upd H10 p (.tup [.int 0])) p = some (.tup [.int 0]) := upd_same
      have np := B10.ne hp
      generalize upd H10 p (.tup [.int 0]) = H11 at *
      have ela11 := s11 _ _ (gX10.k la _ nla ela)
      have gHf : Go ras H H11 := ((Go.of t4).trans g10).trans (Go.of s11)
      refine ⟨_, rfl, la, _, rfl, .inr (SqT.of ela11), p, _, [.int 0], rfl, rfl, SqT.of e11, by simp, ?_, ?_, by simp, fun k1 => ?_, fun k2 p2 hp2 => ?_⟩
      · rw [List.length_map, ll]; omega
      · rw [List.length_map, ll]; omega
      · rw [List.length_map, ll] at k1
        refine q _ _ gHf (by rw [eh]; exact hG10.s s11) ?_
        rw [eh, ll, show n = 1 by omega]
        exact Dt.ofCol np e11
      · rw [List.length_map, ll] at *
        have s12 := sm_new (o := .tup (List.replicate (((n : Nat) : Int).toNat) [V.int 0]).flatten) hp2
        refine q _ _ (gHf.trans (Go.of s12)) (by rw [eh]; exact (hG10.s s11).s s12) ?_
        rw [eh, ll]
        refine Dt.ofCol ((B10.go (Go.of (B := []) s11)).ne hp2) ?_
        rw [upd_same, Int.toNat_natCast, List.flatten_replicate_singleton, List.map_replicate]
/-! ### what is wanted -/
theorem rect_fold {h w n : Nat} {left : List Int} {t : Int} (ll : left.length = n) : ∀ (es : List (Int × Int × Int)) (z : List (List (List Int)) × List Int), (∀ e ∈ es, 0 ≤ e.1 ∧ e.1 < h ∧ 0 ≤ e.2.1 ∧ e.2.1 < w ∧ 0 < e.2.2 ∧ e.2.2 ≤ 1000) → Rect h w n z.1 → z.2.length = n → Rect h w n (es.foldl (hStep left t) z).1 ∧ (es.foldl (hStep left t) z).2.length = n
  | [], z, _, h1, h2 => ⟨h1, h2⟩
  | e :: es, z, he, h1, h2 => by
    have o := he e (List.mem_cons_self ..)
    have hdl : (hdC left e.2.2 t).length = n := by unfold hdC; rw [List.length_map]; exact ll
    have g := rect_get h1 (r := e.1.toNat) (c := e.2.1.toNat) (by omega) (by omega)
    refine rect_fold ll es _ (fun x hx => he x (List.mem_cons_of_mem _ hx)) ?_ ?_
    · exact rect_put h1 (by omega) ((adC_len (g.2.trans hdl.symm)).trans hdl)
    · exact (leC_len (h2.trans hdl.symm)).trans hdl
theorem rect_hand {h w n : Nat} {W : List (List (List Int))} {shs : List (Int × Int × Int)} {r c : Nat} {sd : Int} {col : List Int} (hR : Rect h w n W) (hr : r < h) (hc : c < w) (cl : col.length = n) (sok : ∀ s ∈ shs, 0 ≤ s.2.1 ∧ 0 < s.2.2 ∧ s.2.2 ≤ 1000) :
    Rect h w n (handW h w W shs r c sd col).1 ∧ (handW h w W shs r c sd col).2.length = n := by
  have gl := (rect_get hR hr hc).2
  have ll : (leC (getC W r c) col).length = n := by rw [leC_len (by omega)]; exact cl
  have tin := there_in (h := h) (w := w) (shs := shs) (r := r) (c := c) (sd := sd) sok
  unfold handW
  split
  · exact ⟨hR, ll⟩
  · rename_i e es te
    rw [te] at tin
    obtain ⟨h1, h2⟩ := rect_fold (t := total3 shs) ll (e :: es) (W, leC (getC W r c) col) tin hR ll
    have o := tin e (List.mem_cons_self ..)
    have g := rect_get h1 (r := e.1.toNat) (c := e.2.1.toNat) (by omega) (by omega)
    refine ⟨rect_put h1 (by omega) ((adC_len (g.2.trans h2.symm)).trans h2), ?_⟩
    show (List.replicate _ _).length = n
    rw [List.length_replicate]
    exact ll
theorem spots_in {h w n : Nat} {ps : List (List (List Int))} (hR : Rect h w n ps) (t : Bool) : ∀ m, m ≤ h → ∀ s ∈ spotsOf t ps m, ∃ (r c : Nat) (sd : Int), s = [(r : Int), (c : Int), sd] ∧ r < h ∧ c < w ∧ -1 ≤ sd ∧ sd ≤ 1
  | 0, _, s, hs => by simp [spotsOf] at hs
  | m + 1, hm, s, hs => by
    rw [spots_succ] at hs
    rcases List.mem_append.mp hs with y | y
    · exact spots_in hR t m (by omega) s y
    · rw [(rect_row hR (r := m) (by omega)).2.1] at y
      unfold spRow at y
      split at y
      · obtain ⟨c, hc, rfl⟩ := List.mem_map.mp y
        have := List.mem_range.mp hc
        exact ⟨m, w - 1 - c, -1, rfl, by omega, by omega, by omega, by omega⟩
      · obtain ⟨c, hc, rfl⟩ := List.mem_map.mp y
        have := List.mem_range.mp hc
        exact ⟨m, c, 1, rfl, by omega, by omega, by omega, by omega⟩
theorem DtA.frs {B : List Addr} {H : Hp} {vs : List V} {ds : List PyData} (h : DtA B H vs ds) : ∀ rs : List Addr, (∀ r ∈ rs, H r = none) → DtA (rs ++ B) H vs ds
  | [], _ => h
  | r :: rs, hr => (DtA.frs h rs fun x hx => hr x (List.mem_cons_of_mem _ hx)).fr (hr r (List.mem_cons_self ..))
theorem Dt.frs {B : List Addr} {H : Hp} {v : V} {d : PyData} (h : Dt B H v d) : ∀ rs : List Addr, (∀ r ∈ rs, H r = none) → Dt (rs ++ B) H v d
  | [], _ => h
  | r :: rs, hr => (Dt.frs h rs fun x hx => hr x (List.mem_cons_of_mem _ hx)).fr (hr r (List.mem_cons_self ..))
theorem rng_getD {α β : Type} (l : List α) (d : α) (f : α → β) : (List.range l.length).map (fun i => f (l.getD i d)) = l.map f := by
  refine List.ext_getElem (by simp) fun i h1 h2 => ?_
  have hi : i < l.length := by simpa using h2
  simp [List.getD_eq_getElem?_getD, List.getElem?_eq_getElem hi]
theorem Rws.gr {B : List Addr} {H H' : Hp} {D : Addr} {rs : List Addr} {dss : List (List PyData)} (R : Rws B H H' D rs dss) (s : Same H H') (e : H' D = some (.lst (rs.map V.ref))) (hD : H D = none) (hB : Bk B H) : Gr B H' D rs dss := by
  refine ⟨e, hB.ne hD, List.nodup_cons.mpr ⟨R.nD, R.nd⟩, fun r hr => hB.ne (R.fr r hr), R.len, fun i ra ds h1 h2 => ?_⟩
  obtain ⟨ws, e1, d1⟩ := R.row i ra ds h1 h2
  refine ⟨ws, e1, ?_⟩
  have := d1.frs (D :: rs) fun r hr => by
    rcases List.mem_cons.mp hr with z | z
    · rw [z]; exact hD
    · exact R.fr r z
  exact this.s s
theorem Gr.bk {B : List Addr} {H : Hp} {wa : Addr} {ras : List Addr} {W : List (List PyData)} (g : Gr B H wa ras W) (hB : Bk B H) : Bk (wa :: ras ++ B) H := fun a ha => by
  rcases List.mem_append.mp ha with z | z
  · rcases List.mem_cons.mp z with y | y
    · rw [y, g.a]; exact fun h => nomatch h
    · obtain ⟨i, hi⟩ := List.mem_iff_getElem?.mp y
      have hl : i < W.length := by
        rw [← g.l]
        exact (List.getElem?_eq_some_iff.mp hi).1
      obtain ⟨vs, e, _⟩ := g.r i a _ hi (List.getElem?_eq_getElem hl)
      rw [e]
      exact fun h => nomatch h
  · exact hB a z
def sR (s : List Int) : Nat := (s.getD 0 0).toNat
def sC (s : List Int) : Nat := (s.getD 1 0).toNat
def sS (s : List Int) : Int := s.getD 2 0
def wantStep (h w : Nat) (shs : List (Int × Int × Int)) (cs : List (List Int)) (ns : List (List Int)) (W : List (List (List Int))) (s : List Int) : List (List (List Int)) :=
  (handW h w W shs (sR s) (sC s) (sS s) (cs.getD ((ns.getD (sR s) []).getD (sC s) 0).toNat [])).1
def wantW (h w : Nat) (t : Bool) (ps : List (List (List Int))) (shs : List (Int × Int × Int)) (cs : List (List Int)) (ns : List (List Int)) : List (List (List Int)) := (spotsOf t ps ps.length).foldl (wantStep h w shs cs ns) ps
/-! ### how great what is wanted gets -/
def bC (M : Nat) (c : List Int) : Prop := ∀ x ∈ c, x.natAbs ≤ M
def bW (M : Nat) (W : List (List (List Int))) : Prop := ∀ p ∈ W, ∀ c ∈ p, bC M c
theorem bC.mono {M N : Nat} {c : List Int} (h : bC M c) (l : M ≤ N) : bC N c := fun x hx => Nat.le_trans (h x hx) l
theorem bW.mono {M N : Nat} {W : List (List (List Int))} (h : bW M W) (l : M ≤ N) : bW N W := fun p hp c hc => (h p hp c hc).mono l
theorem bC.add {M N : Nat} {a b : List Int} (h1 : bC M a) (h2 : bC N b) : bC (M + N) (adC a b) := fun x hx => by
  unfold adC at hx
  obtain ⟨p, hp, rfl⟩ := List.mem_map.mp hx
  have := h1 _ (List.of_mem_zip hp).1
  have := h2 _ (List.of_mem_zip hp).2
  omega
theorem bC.le {M N : Nat} {a b : List Int} (h1 : bC M a) (h2 : bC N b) : bC (M + N) (leC a b) := fun x hx => by
  unfold leC at hx
  obtain ⟨p, hp, rfl⟩ := List.mem_map.mp hx
  have := h1 _ (List.of_mem_zip hp).1
  have := h2 _ (List.of_mem_zip hp).2
  omega
theorem div_abs {x p t : Int} (p0 : 0 < p) (pt : p ≤ t) : (x * p / t).natAbs ≤ x.natAbs := by
  have t0 : 0 < t := by omega
  by_cases c : 0 ≤ x
  · have h1 : 0 ≤ x * p := Int.mul_nonneg c (by omega)
    have h2 : 0 ≤ x * p / t := Int.ediv_nonneg h1 (by omega)
    have h3 : x * p / t ≤ x := Int.ediv_le_of_le_mul t0 (Int.mul_le_mul_of_nonneg_left pt c)
    omega
  · have h1 : x * t ≤ x * p := Int.mul_le_mul_of_nonpos_left (by omega) pt
    have h2 : x ≤ x * p / t := Int.le_ediv_of_mul_le t0 h1
    have h3 : x * p ≤ 0 * t := by
      rw [Int.zero_mul]
      exact Int.mul_nonpos_of_nonpos_of_nonneg (by omega) (by omega)
    have h4 : x * p / t ≤ 0 := Int.ediv_le_of_le_mul t0 h3
    omega
theorem bC.hd {M : Nat} {c : List Int} {p t : Int} (h : bC M c) (p0 : 0 < p) (pt : p ≤ t) : bC M (hdC c p t) := fun x hx => by
  unfold hdC at hx
  obtain ⟨y, hy, rfl⟩ := List.mem_map.mp hx
  exact Nat.le_trans (div_abs p0 pt) (h y hy)
theorem bW.get {M : Nat} {W : List (List (List Int))} (h : bW M W) (r c : Nat) : bC M (getC W r c) := by
  unfold getC
  rw [List.getD_eq_getElem?_getD, List.getD_eq_getElem?_getD]
  cases e : W[r]? with
  | none => exact fun x hx => by simp at hx
  | some p =>
    simp only [Option.getD_some]
    cases e2 : p[c]? with
    | none => exact fun x hx => by simp at hx
    | some v => exact h p (List.mem_of_getElem? e) v (List.mem_of_getElem? e2)
theorem bW.put {M : Nat} {W : List (List (List Int))} (h : bW M W) {v : List Int} (hv : bC M v) (r c : Nat) : bW M (putC W r c v) := fun p hp x hx => by
  rcases List.mem_or_eq_of_mem_set hp with z | z
  · exact h p z x hx
  · rw [z] at hx
    rcases List.mem_or_eq_of_mem_set hx with y | y
    · rw [List.getD_eq_getElem?_getD] at y
      cases e : W[r]? with
      | none => rw [e] at y; simp at y
      | some q => rw [e] at y; exact h q (List.mem_of_getElem? e) x y
    · rw [y]; exact hv
theorem part_le {shs : List (Int × Int × Int)} (sok : ∀ s ∈ shs, 0 ≤ s.2.1 ∧ 0 < s.2.2 ∧ s.2.2 ≤ 1000) : ∀ s ∈ shs, s.2.2 ≤ total3 shs := by
  induction shs with
  | nil => exact fun _ h => nomatch h
  | cons a shs ih =>
    intro s hs
    have e : total3 (a :: shs) = a.2.2 + total3 shs := by unfold total3; rw [List.map_cons, List.sum_cons]
    have so : ∀ s ∈ shs, 0 ≤ s.2.1 ∧ 0 < s.2.2 ∧ s.2.2 ≤ 1000 := fun x hx => sok x (List.mem_cons_of_mem _ hx)
    have := (tot_in so).1
    have := sok a (List.mem_cons_self ..)
    rw [e]
    rcases List.mem_cons.mp hs with z | z
    · rw [z]; omega
    · have := ih so s z
      omega
theorem bnd_fold {L : Nat} {left : List Int} {t : Int} (hl : bC L left) : ∀ (es : List (Int × Int × Int)) (z : List (List (List Int)) × List Int) (M N : Nat), (∀ e ∈ es, 0 < e.2.2 ∧ e.2.2 ≤ t) → bW M z.1 → bC N z.2 → bW (M + L * es.length) (es.foldl (hStep left t) z).1 ∧ bC (N + L * es.length) (es.foldl (hStep left t) z).2
  | [], z, M, N, _, h1, h2 => ⟨h1, h2⟩
  | e :: es, z, M, N, he, h1, h2 => by
    have o := he e (List.mem_cons_self ..)
    have hd := hl.hd o.1 o.2
    have := bnd_fold hl es (hStep left t z e) (M + L) (N + L) (fun x hx => he x (List.mem_cons_of_mem _ hx)) ((h1.mono (Nat.le_add_right ..)).put ((h1.get _ _).add hd) _ _) (h2.le hd)
    have e1 : L * (e :: es).length = L + L * es.length := by rw [List.length_cons, Nat.mul_add, Nat.mul_one, Nat.add_comm]
    rw [e1, ← Nat.add_assoc, ← Nat.add_assoc]
    exact this
theorem bnd_hand {h w : Nat} {W : List (List (List Int))} {shs : List (Int × Int × Int)} {r c : Nat} {sd : Int} {col : List Int} {M : Nat} (sok : ∀ s ∈ shs, 0 ≤ s.2.1 ∧ 0 < s.2.2 ∧ s.2.2 ≤ 1000) (sl : shs.length ≤ 12) (hW : bW M W) (hc : bC M col) :
    bW (64 * M) (handW h w W shs r c sd col).1 ∧ bC (64 * M) (handW h w W shs r c sd col).2 := by
  have hl : bC (M + M) (leC (getC W r c) col) := (hW.get r c).le hc
  have tl : (thereOf h w shs r c sd).length ≤ 12 := by
    unfold thereOf
    exact Nat.le_trans (List.length_filter_le _ _) (by simpa using sl)
  have tin : ∀ e ∈ thereOf h w shs r c sd, 0 < e.2.2 ∧ e.2.2 ≤ total3 shs := fun e he => by
    unfold thereOf at he
    obtain ⟨m, _⟩ := List.mem_filter.mp he
    obtain ⟨s, hs, rfl⟩ := List.mem_map.mp m
    exact ⟨(sok s hs).2.1, part_le sok s hs⟩
  unfold handW
  split
  · exact ⟨hW.mono (by omega), hl.mono (by omega)⟩
  · rename_i e es te
    rw [te] at tin tl
    obtain ⟨h1, h2⟩ := bnd_fold hl (e :: es) (W, leC (getC W r c) col) M (M + M) tin hW hl
    have hm : (M + M) * (e :: es).length ≤ (M + M) * 12 := Nat.mul_le_mul_left _ tl
    have b1 := h1.mono (N := 25 * M) (by omega)
    have b2 := h2.mono (N := 26 * M) (by omega)
    refine ⟨(b1.mono (by omega)).put (((b1.get _ _).add b2).mono (by omega)) _ _, fun x hx => ?_⟩
    have hx : x ∈ List.replicate _ (0 : Int) := hx
    rw [(List.mem_replicate.mp hx).2]
    exact Nat.zero_le _
theorem wIn_of {k : Nat} {c : List Int} (hk : k < 2000) (h : bC (2 ^ k) c) : wIn c := fun x hx => Nat.lt_of_le_of_lt (h x hx) (Nat.pow_lt_pow_right (by decide) hk)
/-! ### numbers of the nearest -/
open Classical in
noncomputable def nrI (cs : List (List Int)) (c : List Int) : Nat := if h : ∃ i, near cs c i then h.choose else 0
theorem nr_of {cs : List (List Int)} {c : List Int} {i : Nat} (h : near cs c i) : nrI cs c = i := by
  unfold nrI
  rw [dif_pos ⟨i, h⟩]
  exact near_one (Exists.choose_spec (⟨i, h⟩ : ∃ i, near cs c i)) h
/-! ### handed on -/
noncomputable def hoStep (h w : Nat) (shs : List (Int × Int × Int)) (cs : List (List Int)) (z : List (List (List Int)) × List (List Int) × List Int) (s : List Int) : List (List (List Int)) × List (List Int) × List Int :=
  ((handW h w z.1 shs (sR s) (sC s) (sS s) (cs.getD (nrI cs (getC z.1 (sR s) (sC s))) [])).1,
   z.2.1.set (sR s) ((z.2.1.getD (sR s) []).set (sC s) (nrI cs (getC z.1 (sR s) (sC s)) : Int)),
   adC z.2.2 (handW h w z.1 shs (sR s) (sC s) (sS s) (cs.getD (nrI cs (getC z.1 (sR s) (sC s))) [])).2)
noncomputable def hoW (h w n : Nat) (t : Bool) (ps : List (List (List Int))) (shs : List (Int × Int × Int)) (cs : List (List Int)) : List (List (List Int)) × List (List Int) × List Int :=
  (spotsOf t ps ps.length).foldl (hoStep h w shs cs) (ps, ps.map (fun p => List.replicate p.length 0), List.replicate n 0)
theorem Gr.frs {B : List Addr} {H : Hp} {wa : Addr} {ras : List Addr} {W : List (List PyData)} (g : Gr B H wa ras W) (cs : List Addr) (hc : ∀ r ∈ cs, H r = none) : Gr (cs ++ B) H wa ras W := by
  have no : ∀ a, H a ≠ none → a ∉ B → a ∉ cs ++ B := fun a h1 h2 h3 => by
    rcases List.mem_append.mp h3 with z | z
    · exact h1 (hc a z)
    · exact h2 z
  refine ⟨g.a, no wa (by rw [g.a]; exact fun h => nomatch h) g.nw, g.nd, fun r hr => ?_, g.l, fun i ra ds h1 h2 => ?_⟩
  · obtain ⟨i, hi⟩ := List.mem_iff_getElem?.mp hr
    have hl : i < W.length := by
      rw [← g.l]
      exact (List.getElem?_eq_some_iff.mp hi).1
    obtain ⟨vs, e, _⟩ := g.r i r _ hi (List.getElem?_eq_getElem hl)
    exact no r (by rw [e]; exact fun h => nomatch h) (g.nb r hr)
  · obtain ⟨vs, e, d⟩ := g.r i ra ds h1 h2
    refine ⟨vs, e, (d.frs cs hc).sub fun a ha => ?_⟩
    rcases List.mem_append.mp ha with z | z
    · exact List.mem_append_right _ (List.mem_append_left _ z)
    · rcases List.mem_append.mp z with y | y
      · exact List.mem_append_left _ y
      · exact List.mem_append_right _ (List.mem_append_right _ y)
theorem repTT_use {K : PySem.W.Frag} {H : Hp} {p : Addr} {n : Nat} {Q : VK} (e : H p = some (.tup [.int 0])) (n0 : 0 < n) (n1 : n ≤ 100) (q : ∀ v H4, Same H H4 → (∀ B, p ∉ B → Bk B H → Dt B H4 v (eC (List.replicate n 0))) → Q v H4) : rRepTT K (.ref p) (.int (n : Int)) H Q := by
  refine ⟨p, _, [.int 0], rfl, rfl, SqT.of e, by simp, by omega, by omega, by simp, fun k1 => ?_, fun k2 p2 hp2 => ?_⟩
  · refine q _ _ (Same.refl _) fun B np _ => ?_
    rw [show n = 1 by omega]
    exact Dt.ofCol np e
  · refine q _ _ (sm_new hp2) fun B _ hB => ?_
    refine Dt.ofCol (hB.ne hp2) ?_
    rw [upd_same, Int.toNat_natCast, List.flatten_replicate_singleton, List.map_replicate]
def nRect (h w : Nat) (N : List (List Int)) : Prop := N.length = h ∧ ∀ r ∈ N, r.length = w
theorem Gr.atN {B : List Addr} {H : Hp} {wa : Addr} {ras : List Addr} {N : List (List Int)} {h w r c : Nat} (g : Gr B H wa ras (N.map fun r => r.map PyData.int)) (hR : nRect h w N) (hr : r < h) :
    ∃ ra vs, ras[r]? = some ra ∧ H ra = some (.lst vs) ∧ vs.length = w ∧ ∀ x : Int, Gr B (upd H ra (.lst (vs.set c (.int x)))) wa ras ((N.set r ((N.getD r []).set c x)).map fun r => r.map PyData.int) := by
  have hl : r < N.length := by rw [hR.1]; exact hr
  have en : N.getD r [] = N[r] := by rw [List.getD_eq_getElem?_getD, List.getElem?_eq_getElem hl]; rfl
  have e2 : (N.map fun r => r.map PyData.int)[r]? = some (N[r].map PyData.int) := by rw [List.getElem?_map, List.getElem?_eq_getElem hl]; rfl
  have hl2 : r < ras.length := by rw [g.l, List.length_map]; exact hl
  obtain ⟨vs, e3, d3⟩ := g.r r ras[r] _ (List.getElem?_eq_getElem hl2) e2
  refine ⟨ras[r], vs, List.getElem?_eq_getElem hl2, e3, by rw [d3.len, List.length_map]; exact hR.2 _ (List.getElem_mem hl), fun x => ?_⟩
  have := g.set (j := c) (List.getElem?_eq_getElem hl2) e2 e3 (Dt.int x)
  rw [en, List.map_set, List.map_set]
  exact this
theorem nRect.set {h w r c : Nat} {N : List (List Int)} {x : Int} (hR : nRect h w N) (hr : r < h) : nRect h w (N.set r ((N.getD r []).set c x)) := by
  have hl : r < N.length := by rw [hR.1]; exact hr
  have en : N.getD r [] = N[r] := by rw [List.getD_eq_getElem?_getD, List.getElem?_eq_getElem hl]; rfl
  refine ⟨by rw [List.length_set]; exact hR.1, fun p hp => ?_⟩
  rcases List.mem_or_eq_of_mem_set hp with z | z
  · exact hR.2 p z
  · rw [z, List.length_set, en]
    exact hR.2 _ (List.getElem_mem hl)
theorem Gr.less {B C : List Addr} {H : Hp} {wa : Addr} {ras : List Addr} {W : List (List PyData)} (g : Gr B H wa ras W) (h : ∀ a ∈ C, a ∈ B) : Gr C H wa ras W := ⟨g.a, fun z => g.nw (h _ z), g.nd, fun r hr z => g.nb r hr (h _ z), g.l, fun i ra ds h1 h2 => by
  obtain ⟨vs, e, d⟩ := g.r i ra ds h1 h2
  refine ⟨vs, e, d.sub fun a ha => ?_⟩
  rcases List.mem_append.mp ha with y | y
  · exact List.mem_append_left _ y
  · exact List.mem_append_right _ (h a y)⟩
def spHo : Sp := fun vs H Q _ => ∃ (B : List Addr) (gv plv sv : V) (ps : List (List (List Int))) (cs : List (List Int)) (shs : List (Int × Int × Int)) (h w n : Nat) (t : Bool), vs = [gv, plv, sv, .str (if t = true then "turned" else "same")] ∧ Dt B H gv (eG ps) ∧ Dt B H plv (eP cs) ∧ Dt B H sv (eP (shs.map e3)) ∧ Bk B H ∧ Rect h w n ps ∧ 0 < h ∧ h ≤ 16 ∧ 0 < w ∧ w ≤ 16 ∧ 0 < n ∧ n ≤ 100 ∧
  0 < cs.length ∧ cs.length ≤ 1000 ∧ (∀ c ∈ cs, c.length = n ∧ bC 2048 c) ∧ bW 2048 ps ∧ shs.length ≤ 12 ∧ (∀ s ∈ shs, 0 ≤ s.2.1 ∧ 0 < s.2.2 ∧ s.2.2 ≤ 1000) ∧
  ∀ t0 na ras lv H', Same H H' → H' t0 = some (.tup [.ref na, lv]) → t0 ∉ B → Gr B H' na ras ((hoW h w n t ps shs cs).2.1.map fun r => r.map PyData.int) → Dt (na :: ras ++ B) H' lv (eC (hoW h w n t ps shs cs).2.2) → H t0 = none → H na = none → (∀ r ∈ ras, H r = none) → Q (.ref t0) H'
set_option maxHeartbeats 2000000 in
theorem ok_handed_on (T : Tx K mg) {k : Nat} : FnOk P w K mg base CX0 (k + 3) T.f_handed_on T.d_handed_on ["picture", "palette", "shares", "way"] spHo := by
  refine T.F_handed_on.ok sc_handed_on (fun vs H Q E h => ?_) (fun cdv A outer s H vs Q E hr h => ?_)
  · obtain ⟨B, gv, plv, sv, ps, cs, shs, h, w, n, t, rfl, _⟩ := h
    rfl
  · obtain ⟨B, gv, plv, sv, ps, cs, shs, h, w, n, t, rfl, dg, dpl, ds, hB, hR, h0, h1, w0, w1, n0, n1, c0, c1, cl, bps, sl, sok, q⟩ := h
    refine ⟨_, (pss_cons (ps_setLc (i := 4) (own := [("row", 8)]) (by rfl) sc_handed_on.nd rfl rfl (sw_true rfl rfl rfl (by decide +kernel)) (pi_listK K (pv 0)) (blkOk_by (own := [("row", 8)]) (N := N_handed_on) (sc := defScope s_handed_on) (by decide +kernel)) (fun _ _ _ _ _ => (pg_name (i := 8) sc_handed_on.nd rfl (.inl rfl))) (fun _ _ _ _ _ => pts_nil) (fun _ _ _ _ _ => (pe_callTy (list_K K) (by rfl) T.z_list (by decide +kernel) (pa_cons (pv 8) pa_nil))))
      (pss_cons (ps_setLc (i := 5) (own := [("row", 8)]) (by rfl) sc_handed_on.nd rfl rfl (sw_true rfl rfl rfl (by decide +kernel)) (pi_listK K (pv 0)) (blkOk_by (own := [("row", 8)]) (N := N_handed_on) (sc := defScope s_handed_on) (by decide +kernel)) (fun _ _ _ _ _ => (pg_name (i := 8) sc_handed_on.nd rfl (.inl rfl))) (fun _ _ _ _ _ => pts_nil) (fun _ _ _ _ _ => (pe_op op_rep (pe_lst (pa_cons pe_int pa_nil)) (pe_callB (len_K K) (by rfl) T.z_len PySem.boot_len (pa_cons (pv 8) pa_nil)))))
      (pss_cons (ps_set (i := 6) sc_handed_on.nd rfl (.inl rfl) (pe_op op_repTT (pe_tup (pa_cons pe_int pa_nil)) (pe_callB (len_K K) (by rfl) T.z_len PySem.boot_len (pa_cons (pe_ix (ix_listK K) (pe_ix (ix_listK K) (pv 0) pe_int (fun _ _ => rfl)) pe_int (fun _ _ => rfl)) pa_nil))))
      (pss_cons (ps_for PassesOwn.never rfl (pi_listK K (pe_call (ok_spots_in_order T (k := k + 1)) hr (by rfl) T.g_spots_in_order T.F_spots_in_order.kp T.b_spots_in_order .nil pass0 (pa_cons (pv 0) (pa_cons (pv 3) pa_nil)))) (pg_name (i := 7) sc_handed_on.nd rfl (.inl rfl)) (pss_cons (ps_asg (pv 7) (pg_tupK K (n := 3) rfl (pgs_cons (pg_name (i := 8) sc_handed_on.nd rfl (.inl rfl)) (pgs_cons (pg_name (i := 9) sc_handed_on.nd rfl (.inl rfl)) (pgs_cons (pg_name (i := 10) sc_handed_on.nd rfl (.inl rfl)) pgs_nil)))))
      (pss_cons (ps_set (i := 11) sc_handed_on.nd rfl (.inl rfl) (pe_call (ok_nearest T (k := k)) hr (by rfl) T.g_nearest T.F_nearest.kp T.b_nearest .nil pass0 (pa_cons (pv 1) (pa_cons (pe_ix (ix_listK K) (pe_ix (ix_listK K) (pv 4) (pv 8) (fun _ _ => rfl)) (pv 9) (fun _ _ => rfl)) pa_nil))))
      (pss_cons (ps_asg (pv 11) (pg_sub (pe_ix (ix_listK K) (pv 5) (pv 8) (fun _ _ => rfl)) (pv 9) set_list))
      (pss_one (ps_set (i := 6) sc_handed_on.nd rfl (.inl rfl) (pe_call (ok_added T (k := k + 1)) hr (by rfl) T.g_added T.F_added.kp T.b_added .nil pass0 (pa_cons (pv 6) (pa_cons (pe_call (ok_hand_over T (k := k)) hr (by rfl) T.g_hand_over T.F_hand_over.kp T.b_hand_over .nil pass0 (pa_cons (pv 4) (pa_cons (pv 2) (pa_cons (pv 7) (pa_cons (pe_ix (ix_listK K) (pv 1) (pv 11) (fun _ _ => rfl)) pa_nil))))) pa_nil)))))))))
      (pss_one (ps_ret (pe_tup (pa_cons (pv 5) (pa_cons (pv 6) pa_nil))))))))), ?_⟩
    obtain ⟨ga, gvs, rfl, nga, ega, hGv⟩ := dg.lst2
    have lg := hGv.len
    rw [List.length_map] at lg
    refine ⟨_, rfl, ga, rfl, ⟨_, SqL.of ega⟩, fun D hD => ?_⟩
    refine lc_rows (walk_list (xs := gvs)) B hD (fun H' s' => SqL.of (s' _ _ ega)) (by have := hR.1; omega) (fun i => (ps.getD i []).map eC) (fun j x H' H'' Ny Nn hj t1 y ky => ?_) (fun H1 rs s1 eD hRw => ?_)
    · obtain ⟨rfl, y⟩ := y
      have hj2 : j < ps.length := by omega
      obtain ⟨d, f1, g1⟩ := hGv.getV y
      rw [List.getElem?_map, List.getElem?_eq_getElem hj2] at f1
      have ed : d = eP ps[j] := (Option.some.inj f1).symm
      subst ed
      obtain ⟨xa, xvs, rfl, nxa, exa, hX⟩ := g1.pal
      refine ⟨rfl, lc_yes ⟨_, rfl, xa, _, rfl, .inl (SqL.of (t1 _ _ exa)), fun l hl => ?_⟩⟩
      exact ky l xvs _ (sm_new hl) hl upd_same (by rw [List.getD_eq_getElem?_getD, List.getElem?_eq_getElem hj2]; exact hX)
    rw [lg, rng_getD ps [] (fun p => p.map eC)] at hRw
    have hG1 : Gr B H1 D rs (gD ps) := hRw.gr s1 eD hD hB
    have frs : ∀ r ∈ D :: rs, H r = none := fun r hr => by
      rcases List.mem_cons.mp hr with z | z
      · rw [z]; exact hD
      · exact hRw.fr r z
    have B1 := hG1.bk (hB.go (Go.of (B := []) s1))
    have ega1 := s1 _ _ ega
    -- the numbers
    refine ⟨_, rfl, ga, rfl, ⟨_, SqL.of ega1⟩, fun D2 hD2 => ?_⟩
    refine lc_rows (walk_list (xs := gvs)) (D :: rs ++ B) hD2 (fun H' s' => SqL.of (s' _ _ ega1)) (by have := hR.1; omega) (fun i => (List.replicate (ps.getD i []).length (0 : Int)).map PyData.int) (fun j x H' H'' Ny Nn hj t1 y ky => ?_) (fun H2 rs2 s2 eD2 hRw2 => ?_)
    · obtain ⟨rfl, y⟩ := y
      have hj2 : j < ps.length := by omega
      obtain ⟨d, f1, g1⟩ := hGv.getV y
      rw [List.getElem?_map, List.getElem?_eq_getElem hj2] at f1
      have ed : d = eP ps[j] := (Option.some.inj f1).symm
      subst ed
      obtain ⟨xa, xvs, rfl, nxa, exa, hX⟩ := g1.pal
      have lx := hX.len
      rw [List.length_map] at lx
      have lw := (hR.2 _ (List.getElem_mem hj2)).1
      refine ⟨rfl, lc_yes ⟨(by show 1 ≤ sizeLine; decide), fun p hp => ⟨_, rfl, xa, _, rfl, .inl (SqL.of ((s1.trans (t1.trans (sm_new hp))) _ _ exa)), p, _, [.int 0], rfl, rfl, upd_same, by omega, by omega, sz (by simp; omega) |> Nat.le_of_lt, fun l hl => ?_⟩⟩⟩
      refine ky l _ _ ((sm_new hp).trans (sm_new hl)) ((sm_new hp).free hl) upd_same ?_
      rw [Int.toNat_natCast, List.flatten_replicate_singleton, List.getD_eq_getElem?_getD, List.getElem?_eq_getElem hj2, lx]
      have := DtA.ints (B := D :: rs ++ B) (H := H1) (List.replicate ps[j].length 0)
      rw [List.map_replicate] at this
      exact this
    rw [lg, rng_getD ps [] (fun p => (List.replicate p.length (0 : Int)).map PyData.int)] at hRw2
    have hN2 : Gr (D :: rs ++ B) H2 D2 rs2 ((ps.map fun p => List.replicate p.length (0 : Int)).map fun r => r.map PyData.int) := by
      have := hRw2.gr s2 eD2 hD2 B1
      rw [List.map_map]
      exact this
    have frs2 : ∀ r ∈ D2 :: rs2, H1 r = none := fun r hr => by
      rcases List.mem_cons.mp hr with z | z
      · rw [z]; exact hD2
      · exact hRw2.fr r z
    have hG2 : Gr (D2 :: rs2 ++ B) H2 D rs (gD ps) := (hG1.frs (D2 :: rs2) frs2).s s2
    have t2 := s1.trans s2
    have B2 : Bk (D2 :: rs2 ++ B) H2 := fun a ha => by
      rcases List.mem_append.mp ha with z | z
      · exact hN2.bk (B1.go (Go.of (B := []) s2)) a (List.mem_append_left _ z)
      · exact hB.go (Go.of (B := []) t2) a z
    have BX := hG2.bk B2
    have mv : ∀ {v d}, Dt B H v d → Dt (D :: rs ++ (D2 :: rs2 ++ B)) H2 v d := fun h => by
      have h1 := ((h.frs (D :: rs) frs).s s1)
      have h2 := (h1.frs (D2 :: rs2) frs2).s s2
      refine h2.sub fun a ha => ?_
      rcases List.mem_append.mp ha with z | z
      · exact List.mem_append_right _ (List.mem_append_left _ z)
      · rcases List.mem_append.mp z with y | y
        · exact List.mem_append_left _ y
        · exact List.mem_append_right _ (List.mem_append_right _ y)
    have dgX := mv dg
    have dsX := mv ds
    have dplX := mv dpl
    -- lost
    have hps : ps.length = h := hR.1
    obtain ⟨ga', gvs', e', _, ega2, hGv2⟩ := dgX.lst2
    cases e'
    obtain ⟨v0, f0, dv0⟩ := hGv2.get (i := 0) (d := eP ps[0]) (by rw [List.getElem?_map, List.getElem?_eq_getElem (by omega)]; rfl)
    have h00 := hR.2 _ (List.getElem_mem (l := ps) (n := 0) (by omega))
    generalize ps[0] = p0 at *
    obtain ⟨ra0, rvs0, rfl, _, era0, hr0⟩ := dv0.pal
    have hl0 : 0 < p0.length := by omega
    obtain ⟨v1, f1, dv1⟩ := hr0.get (i := 0) (d := eC p0[0]) (by rw [List.getElem?_map, List.getElem?_eq_getElem hl0]; rfl)
    have lc0 := h00.2 _ (List.getElem_mem hl0)
    generalize p0[0] = q0 at *
    obtain ⟨qa, rfl, _, eqa⟩ := dv1.col
    refine ⟨(by show 1 ≤ sizeLine; decide), fun p hp => ?_⟩
    have s3 := sm_new (o := .tup [.int 0]) hp
    have e3' : (upd H2 p (.tup [.int 0])) p = some (.tup [.int 0]) := upd_same
    have np := BX.ne hp
    generalize upd H2 p (.tup [.int 0]) = H3 at *
    have ega3 := s3 _ _ ega2
    have era3 := s3 _ _ era0
    have eqa3 := s3 _ _ eqa
    refine ⟨_, rfl, ga, _, 0, .ref ra0, rfl, rfl, SqL.of ega3, atI_nat (j := 0) f0, ra0, _, 0, .ref qa, rfl, rfl, SqL.of era3, atI_nat (j := 0) f1, qa, _, rfl, .inr (SqT.of eqa3), ?_⟩
    rw [List.length_map, lc0]
    refine repTT_use e3' n0 n1 fun lv H4 s4 dl4 => ?_
    have dl := dl4 _ np (BX.go (Go.of (B := []) s3))
    clear dl4
    have t4 := t2.trans (s3.trans s4)
    have u4 := s3.trans s4
    have B4 := BX.go (Go.of (B := []) u4)
    have dg4 := dgX.s u4
    have ds4 := dsX.s u4
    have hG4 := hG2.s u4
    have hN4 := hN2.s u4
    refine ⟨_, rfl, _, rfl, D :: rs ++ (D2 :: rs2 ++ B), .ref ga, ps, t, rfl, dg4, B4, by omega, fun p hp => by have := (hR.2 p hp).1; omega, fun spv H5 s5 dsp => ?_⟩
    obtain ⟨sa, svs, rfl, nsa, esa, hS⟩ := dsp.pal
    have lsv := hS.len
    rw [List.length_map] at lsv
    have sin := spots_in hR t h (Nat.le_refl _)
    rw [hps] at hS lsv
    have sle : (spotsOf t ps h).length ≤ 256 := by
      have : ∀ m, m ≤ h → (spotsOf t ps m).length = w * m := fun m => by
        induction m with
        | zero => intro _; simp [spotsOf]
        | succ m ih =>
          intro hm
          rw [spots_succ, List.length_append, spRow_len, ih (by omega), (rect_row hR (r := m) (by omega)).2.1, Nat.mul_succ]
      rw [this h (Nat.le_refl _)]
      exact Nat.mul_le_mul w1 h1
    have hG5 := hG4.s s5
    have hN5 := hN4.s s5
    have B5 := B4.go (Go.of (B := []) s5)
    have ds5 := ds4.s s5
    have dl5 := dl.s s5
    have dpl5 := dplX.s (u4.trans s5)
    have dpl50 := dpl5
    obtain ⟨pla, plvs, rfl, npl, epl, hPl⟩ := dpl5.pal
    have ew : hoW h w n t ps shs cs = (spotsOf t ps h).foldl (hoStep h w shs cs) (ps, ps.map (fun p => List.replicate p.length 0), List.replicate n 0) := by unfold hoW; rw [hps]
    generalize hz0 : ((ps, ps.map (fun p => List.replicate p.length (0 : Int)), List.replicate n (0 : Int)) : List (List (List Int)) × List (List Int) × List Int) = z0 at *
    refine ⟨sa, rfl, ⟨_, SqL.of esa⟩, for_it (walk_list (xs := svs)) (fun i σ H' => ∃ y7 y8 y9 y10 y11 lv, σ = [some (.ref ga), some (.ref pla), some sv, some (.str (if t = true then "turned" else "same")), some (.ref D), some (.ref D2), some lv, y7, y8, y9, y10, y11] ∧ Go (rs ++ rs2) H5 H' ∧ Gr (D2 :: rs2 ++ B) H' D rs (gD (((spotsOf t ps h).take i).foldl (hoStep h w shs cs) z0).1) ∧ Rect h w n (((spotsOf t ps h).take i).foldl (hoStep h w shs cs) z0).1 ∧ bW (2048 * 64 ^ i) (((spotsOf t ps h).take i).foldl (hoStep h w shs cs) z0).1 ∧ Gr (D :: rs ++ B) H' D2 rs2 ((((spotsOf t ps h).take i).foldl (hoStep h w shs cs) z0).2.1.map fun r => r.map PyData.int) ∧ nRect h w (((spotsOf t ps h).take i).foldl (hoStep h w shs cs) z0).2.1 ∧ Dt (D :: rs ++ (D2 :: rs2 ++ B)) H' lv (eC (((spotsOf t ps h).take i).foldl (hoStep h w shs cs) z0).2.2) ∧ (((spotsOf t ps h).take i).foldl (hoStep h w shs cs) z0).2.2.length = n)
      ?_ (fun i σ H' _ h => ?_) (fun i x σ H7 H6 hi h y => ?_) (fun σ H6 h => ?_)⟩
    · rw [← hz0]
      refine ⟨_, _, _, _, _, _, rfl, Go.refl, hG5, hR, bps.mono (by omega), hN5, ⟨by simp; exact hps, fun r hr' => ?_⟩, dl5, by simp⟩
      obtain ⟨p, hp, rfl⟩ := List.mem_map.mp hr'
      rw [List.length_replicate]
      exact (hR.2 p hp).1
    · obtain ⟨y7, y8, y9, y10, y11, lv, rfl, g5, _⟩ := h
      exact SqL.of (g5.k sa _ (fun z => nsa (by
        rcases List.mem_append.mp z with y | y <;> simp [y])) esa)
    · obtain ⟨y7, y8, y9, y10, y11, lv, rfl, g6, hG6, hR6, hb6, hN6, nr6, dl6, ll6⟩ := h
      obtain ⟨rfl, y⟩ := y
      have mX : ∀ a ∈ rs ++ rs2, a ∈ D :: rs ++ (D2 :: rs2 ++ B) := fun a ha => by
        rcases List.mem_append.mp ha with z | z <;> simp [z]
      have gX : Go (D :: rs ++ (D2 :: rs2 ++ B)) H5 H6 := g6.w mX
      have hi2 : i < (spotsOf t ps h).length := by omega
      obtain ⟨d, f1, g1⟩ := (hS.g gX).getV y
      rw [List.getElem?_map, List.getElem?_eq_getElem hi2] at f1
      have ed : d = eC (spotsOf t ps h)[i] := (Option.some.inj f1).symm
      subst ed
      obtain ⟨r, c, sd, es, rh, cw, sd1, sd2⟩ := sin _ (List.getElem_mem hi2)
      have hz1 : ((spotsOf t ps h).take (i + 1)).foldl (hoStep h w shs cs) z0 = hoStep h w shs cs (((spotsOf t ps h).take i).foldl (hoStep h w shs cs) z0) (spotsOf t ps h)[i] := by
        rw [List.take_add_one, List.getElem?_eq_getElem hi2, List.foldl_append]
        rfl
      rw [hz1]
      clear hz1
      generalize ((spotsOf t ps h).take i).foldl (hoStep h w shs cs) z0 = z at *
      obtain ⟨W, N, lo⟩ := z
      simp only at hG6 hR6 hb6 hN6 nr6 dl6 ll6
      rw [es] at g1 ⊢
      have hst : hoStep h w shs cs (W, N, lo) [(r : Int), (c : Int), sd] = ((handW h w W shs r c sd (cs.getD (nrI cs (getC W r c)) [])).1, N.set r ((N.getD r []).set c (nrI cs (getC W r c) : Int)), adC lo (handW h w W shs r c sd (cs.getD (nrI cs (getC W r c)) [])).2) := by
        unfold hoStep
        show ((handW h w W shs ((r : Int).toNat) ((c : Int).toNat) sd (cs.getD (nrI cs (getC W (r : Int).toNat (c : Int).toNat)) [])).1, N.set (r : Int).toNat ((N.getD (r : Int).toNat []).set (c : Int).toNat (nrI cs (getC W (r : Int).toNat (c : Int).toNat) : Int)), adC lo (handW h w W shs ((r : Int).toNat) ((c : Int).toNat) sd (cs.getD (nrI cs (getC W (r : Int).toNat (c : Int).toNat)) [])).2) = _
        rw [Int.toNat_natCast, Int.toNat_natCast]
      rw [hst]
      clear hst
      have g10 := g1
      obtain ⟨xa, rfl, nxa, exa⟩ := g1.col
      change _ = some (HO.tup [V.int r, V.int c, V.int sd]) at exa
      obtain ⟨ra, vs, v, fr, era, lvs, fv, dv, _⟩ := hG6.at hR6 rh cw
      obtain ⟨gv, gl⟩ := rect_get hR6 rh cw
      have fr' : (rs.map V.ref)[r]? = some (.ref ra) := by rw [List.getElem?_map, fr]; rfl
      have epl6 := gX.k pla _ npl epl
      have B6 := B5.go gX
      have bg := hb6.get r c
      have pok : pOk cs (getC W r c) := ⟨c1, by omega, wIn_of (k := 11 + 6 * i) (by omega) (by
        rw [show 2 ^ (11 + 6 * i) = 2048 * 64 ^ i by rw [Nat.pow_add, Nat.pow_mul]]
        exact bg), fun x hx => ⟨by rw [(cl x hx).1, gl], wIn_of (k := 11) (by decide) (cl x hx).2⟩⟩
      refine ⟨_, rfl, xa, [.int r, .int c, .int sd], rfl, SqT.of exa, rfl, .int r, [.int c, .int sd], rfl, .int c, [.int sd], rfl, .int sd, [], rfl, rfl, ?_⟩
      refine ⟨_, rfl, _, rfl, _, rfl, D, _, r, .ref ra, rfl, rfl, SqL.of hG6.a, atI_nat fr', _, rfl, ra, _, c, v, rfl, rfl, SqL.of era, atI_nat fv, D :: rs ++ (D2 :: rs2 ++ B), .ref pla, v, cs, getC W r c, rfl, dpl50.g gX, dv, pok, c0, fun H8 num s8 hnear => ?_⟩
      rw [nr_of hnear]
      obtain ⟨hnc, _⟩ := hnear
      obtain ⟨hcl, hcb⟩ := cl _ (List.getElem_mem hnc)
      have ecs : cs.getD num [] = cs[num] := by rw [List.getD_eq_getElem?_getD, List.getElem?_eq_getElem hnc]; rfl
      rw [ecs]
      -- the number
      obtain ⟨rn, nvs, fn, ern, lnv, put⟩ := (hN6.s s8).atN (c := c) nr6 rh
      have fn' : (rs2.map V.ref)[r]? = some (.ref rn) := by rw [List.getElem?_map, fn]; rfl
      have mrn : rn ∈ rs2 := List.mem_of_getElem? fn
      refine ⟨_, rfl, _, rfl, _, rfl, D2, _, r, .ref rn, rfl, rfl, SqL.of (hN6.s s8).a, atI_nat fn', _, rfl, rn, _, c, c, rfl, rfl, ern, ixN0 (i := (c : Int)) (by omega) (by omega), ?_⟩
      have hN9 := put (num : Int)
      have gm : ∀ {C : List Addr}, rn ∈ C → Go C H8 (upd H8 rn (.lst (nvs.set c (.int (num : Int))))) := fun h => Go.refl.at h
      have hG9 := (hG6.s s8).g (gm (C := D2 :: rs2 ++ B) (by simp [mrn]))
      have gX9 : Go (D :: rs ++ (D2 :: rs2 ++ B)) H5 (upd H8 rn (.lst (nvs.set c (.int (num : Int))))) := (gX.trans (Go.of s8)).trans (gm (by simp [mrn]))
      have g69 : Go (D :: rs ++ (D2 :: rs2 ++ B)) H6 (upd H8 rn (.lst (nvs.set c (.int (num : Int))))) := (Go.of s8).trans (gm (by simp [mrn]))
      have g9 : Go (rs ++ rs2) H5 (upd H8 rn (.lst (nvs.set c (.int (num : Int))))) := (g6.trans (Go.of s8)).trans (gm (by simp [mrn]))
      generalize upd H8 rn (.lst (nvs.set c (.int (num : Int)))) = H9 at *
      have epl9 := gX9.k pla _ npl epl
      obtain ⟨cv, fc, dc⟩ := (hPl.g gX9).get (i := num) (d := eC cs[num]) (by rw [List.getElem?_map, List.getElem?_eq_getElem hnc]; rfl)
      refine ⟨_, rfl, _, rfl, _, rfl, _, rfl, _, rfl, _, rfl, pla, _, num, cv, rfl, rfl, SqL.of epl9, atI_nat fc, ?_⟩
      obtain ⟨rr, lh⟩ := rect_hand (sd := sd) hR6 rh cw hcl sok
      have hb64 := bnd_hand (h := h) (w := w) (r := r) (c := c) (sd := sd) (col := cs[num]) sok sl hb6 (hcb.mono (Nat.le_mul_of_pos_right _ (Nat.pow_pos (by decide))))
      refine ⟨D2 :: rs2 ++ B, D, rs, sv, .ref xa, cv, W, shs, h, w, n, r, c, sd, cs[num], rfl, hG9, hR6, by omega, by omega, n0, n1, rh, cw, hcl, ds5.g gX9, g10.g g69, dc, B5.go gX9, by omega, sok, sd1, sd2, fun v9 H10 g910 hG10 dv10 => ?_⟩
      have gX10 : Go (D :: rs ++ (D2 :: rs2 ++ B)) H9 H10 := g910.w fun a ha => by simp [ha]
      refine ⟨D :: rs ++ (D2 :: rs2 ++ B), lv, v9, lo, _, rfl, (dl6.g g69).g gX10, dv10, (B5.go gX9).go gX10, ll6.trans lh.symm, by omega, fun nl H11 s11 dnl => ?_⟩
      refine ⟨_, _, _, _, _, nl, rfl, (g9.trans (g910.w fun a ha => by simp [ha])).trans (Go.of s11), hG10.s s11, rr, ?_, (hN9.g (g910.w fun a ha => by simp [ha])).s s11, nr6.set rh, dnl, (adC_len (ll6.trans lh.symm)).trans lh⟩
      have := hb64.1
      rw [show 2048 * 64 ^ (i + 1) = 64 * (2048 * 64 ^ i) by rw [Nat.pow_succ]; omega]
      exact this
    · obtain ⟨y7, y8, y9, y10, y11, lv, rfl, g6, hG6, hR6, hb6, hN6, nr6, dl6, ll6⟩ := h
      rw [lsv, List.take_length, ← ew] at hN6 dl6
      refine ⟨_, rfl, _, rfl, (by show 2 ≤ sizeLine; decide), fun t0 ht0 => ?_⟩
      have s7 := sm_new (o := .tup [.ref D2, lv]) ht0
      have sH : Same H H6 := g6.sm (t4.trans s5) fun a ha => by
        rcases List.mem_append.mp ha with z | z
        · exact hRw.fr a z
        · exact s1.free (hRw2.fr a z)
      refine q t0 D2 rs2 lv _ (sH.trans s7) upd_same (hB.ne (sH.free ht0)) ((Gr.less (hN6.s s7) ?_)) ((dl6.s s7).sub ?_) (sH.free ht0) (s1.free hD2) (fun r hr' => s1.free (hRw2.fr r hr'))
      · exact fun a ha => List.mem_append_right _ ha
      · exact fun a ha => List.mem_append_right _ ha
/-! ### handed on alike -/
def dbl (s : Int × Int × Int) : Int × Int × Int := (s.1, s.2.1, 2 * s.2.2)
theorem hdC_dbl (left : List Int) (p t : Int) (h : 0 < t) : hdC left (2 * p) (2 * t) = hdC left p t := by
  unfold hdC
  refine List.map_congr_left fun x _ => ?_
  rw [show x * (2 * p) = 2 * (x * p) by rw [← Int.mul_assoc, Int.mul_comm x 2, Int.mul_assoc], Int.mul_ediv_mul_of_pos _ _ (by decide)]
theorem there_dbl (h w : Nat) (shs : List (Int × Int × Int)) (r c sd : Int) : thereOf h w (shs.map dbl) r c sd = (thereOf h w shs r c sd).map dbl := by
  unfold thereOf
  rw [List.map_map, List.filter_map, List.filter_map, List.map_map]
  rfl
theorem tot_dbl (shs : List (Int × Int × Int)) : total3 (shs.map dbl) = 2 * total3 shs := by
  induction shs with
  | nil => rfl
  | cons s shs ih =>
    unfold total3 at *
    rw [List.map_cons, List.map_cons, List.sum_cons, ih, List.map_cons, List.sum_cons]
    unfold dbl
    simp only
    omega
theorem step_dbl (left : List Int) (t : Int) (h : 0 < t) : ∀ (es : List (Int × Int × Int)) (z : List (List (List Int)) × List Int), (es.map dbl).foldl (hStep left (2 * t)) z = es.foldl (hStep left t) z
  | [], z => rfl
  | e :: es, z => by
    rw [List.map_cons, List.foldl_cons, List.foldl_cons, ← step_dbl left t h es]
    congr 1
    unfold hStep dbl
    simp only
    rw [hdC_dbl _ _ _ h]
theorem hand_dbl {h w : Nat} {W : List (List (List Int))} {shs : List (Int × Int × Int)} {r c : Nat} {sd : Int} {col : List Int} (sok : ∀ s ∈ shs, 0 ≤ s.2.1 ∧ 0 < s.2.2 ∧ s.2.2 ≤ 1000) : handW h w W (shs.map dbl) r c sd col = handW h w W shs r c sd col := by
  unfold handW
  rw [there_dbl, tot_dbl]
  cases e : thereOf h w shs r c sd with
  | nil => rfl
  | cons a es =>
    have sne : shs ≠ [] := fun z => by
      rw [z] at e
      simp [thereOf] at e
    have t0 := (tot_in sok).2.1 sne
    simp only [List.map_cons]
    rw [← List.map_cons, step_dbl _ _ t0]
    rfl
theorem ho_dbl {h w n : Nat} {t : Bool} {ps : List (List (List Int))} {shs : List (Int × Int × Int)} {cs : List (List Int)} (sok : ∀ s ∈ shs, 0 ≤ s.2.1 ∧ 0 < s.2.2 ∧ s.2.2 ≤ 1000) : hoW h w n t ps (shs.map dbl) cs = hoW h w n t ps shs cs := by
  unfold hoW
  congr 1
  funext z s
  unfold hoStep
  rw [hand_dbl sok]
/-! moved alike -/
theorem adC_at {a b : List Int} {i : Nat} (h : i < (adC a b).length) : (adC a b)[i] = a[i]'(by unfold adC at h; simp at h; omega) + b[i]'(by unfold adC at h; simp at h; omega) := by
  have e : (adC a b)[i]'h = (fun p : Int × Int => p.1 + p.2) ((a.zip b)[i]'(by unfold adC at h; simpa using h)) := List.getElem_map (fun p : Int × Int => p.1 + p.2) (l := a.zip b) (i := i) (h := h)
  rw [e, List.getElem_zip]
theorem leC_at {a b : List Int} {i : Nat} (h : i < (leC a b).length) : (leC a b)[i] = a[i]'(by unfold leC at h; simp at h; omega) - b[i]'(by unfold leC at h; simp at h; omega) := by
  have e : (leC a b)[i]'h = (fun p : Int × Int => p.1 - p.2) ((a.zip b)[i]'(by unfold leC at h; simpa using h)) := List.getElem_map (fun p : Int × Int => p.1 - p.2) (l := a.zip b) (i := i) (h := h)
  rw [e, List.getElem_zip]
theorem adC_ln (a b : List Int) : (adC a b).length = min a.length b.length := by unfold adC; simp
theorem leC_ln (a b : List Int) : (leC a b).length = min a.length b.length := by unfold leC; simp
theorem adC_swap {x y b : List Int} : adC (adC x b) y = adC (adC x y) b := by
  refine List.ext_getElem (by simp only [adC_ln]; omega) fun i h1 h2 => ?_
  rw [adC_at, adC_at, adC_at, adC_at]
  omega
theorem leC_mv {x y b : List Int} (h1 : x.length = b.length) (h2 : y.length = b.length) : leC (adC x b) (adC y b) = leC x y := by
  refine List.ext_getElem (by simp only [adC_ln, leC_ln]; omega) fun i g1 g2 => ?_
  rw [leC_at, leC_at, adC_at, adC_at]
  omega
theorem ap_mv {x y b : List Int} (h1 : x.length = b.length) (h2 : y.length = b.length) : ap (adC x b) (adC y b) = ap x y := by
  unfold ap
  congr 1
  refine List.ext_getElem (by simp only [List.length_map, List.length_zip, adC_ln]; omega) fun i g1 g2 => ?_
  simp only [List.getElem_map, List.getElem_zip]
  rw [adC_at, adC_at]
  congr 1
  omega
def mvP (b : List Int) (cs : List (List Int)) : List (List Int) := cs.map fun c => adC c b
def mvW (b : List Int) (W : List (List (List Int))) : List (List (List Int)) := W.map (mvP b)
theorem mv_row (b : List Int) (W : List (List (List Int))) (r : Nat) : (mvW b W).getD r [] = mvP b (W.getD r []) := by
  unfold mvW
  rw [List.getD_eq_getElem?_getD, List.getD_eq_getElem?_getD, List.getElem?_map]
  cases W[r]? <;> rfl
theorem mv_get {b : List Int} {W : List (List (List Int))} (r c : Nat) : getC (mvW b W) r c = adC (getC W r c) b := by
  unfold getC
  rw [mv_row]
  unfold mvP
  rw [List.getD_eq_getElem?_getD, List.getD_eq_getElem?_getD (l := W.getD r []), List.getElem?_map]
  cases (W.getD r [])[c]? <;> rfl
theorem mv_put {b v : List Int} {W : List (List (List Int))} (r c : Nat) : putC (mvW b W) r c (adC v b) = mvW b (putC W r c v) := by
  unfold putC
  rw [mv_row]
  unfold mvW
  rw [List.map_set]
  congr 1
  unfold mvP
  rw [List.map_set]
theorem mv_fold {b left : List Int} {t : Int} : ∀ (es : List (Int × Int × Int)) (z : List (List (List Int)) × List Int), es.foldl (hStep left t) (mvW b z.1, z.2) = (mvW b (es.foldl (hStep left t) z).1, (es.foldl (hStep left t) z).2)
  | [], z => rfl
  | e :: es, z => by
    rw [List.foldl_cons, List.foldl_cons, ← mv_fold es (hStep left t z e)]
    congr 1
    unfold hStep
    simp only
    rw [mv_get, adC_swap, mv_put]
theorem mv_hand {h w n : Nat} {b : List Int} {W : List (List (List Int))} {shs : List (Int × Int × Int)} {r c : Nat} {sd : Int} {col : List Int} (hR : Rect h w n W) (hr : r < h) (hc : c < w) (cl : col.length = n) (bl : b.length = n) : handW h w (mvW b W) shs r c sd (adC col b) = (mvW b (handW h w W shs r c sd col).1, (handW h w W shs r c sd col).2) := by
  have gl := (rect_get hR hr hc).2
  unfold handW
  rw [mv_get, leC_mv (by omega) (by omega)]
  cases thereOf h w shs r c sd with
  | nil => rfl
  | cons e es =>
    simp only
    rw [mv_fold (e :: es) (W, leC (getC W r c) col)]
    simp only
    rw [mv_get, adC_swap, mv_put]
theorem nr_mv {n : Nat} {b c : List Int} {cs : List (List Int)} (hc : c.length = n) (bl : b.length = n) (hs : ∀ x ∈ cs, x.length = n) : nrI (mvP b cs) (adC c b) = nrI cs c := by
  have e : ∀ i, near (mvP b cs) (adC c b) i ↔ near cs c i := fun i => by
    have l : (mvP b cs).length = cs.length := by unfold mvP; rw [List.length_map]
    have ea : ∀ (j : Nat) (h1 : j < (mvP b cs).length) (h2 : j < cs.length), ap (mvP b cs)[j] (adC c b) = ap cs[j] c := fun j h1 h2 => by
      have e1 : (mvP b cs)[j]'h1 = adC cs[j] b := List.getElem_map (fun c => adC c b) (l := cs) (i := j) (h := h1)
      rw [e1]
      exact ap_mv (by rw [hs _ (List.getElem_mem h2), bl]) (by omega)
    constructor
    · rintro ⟨h1, h2⟩
      refine ⟨by omega, fun j hj => ?_⟩
      have := h2 j (by omega)
      rw [ea i h1 (by omega), ea j (by omega) hj] at this
      exact this
    · rintro ⟨h1, h2⟩
      refine ⟨by omega, fun j hj => ?_⟩
      rw [ea i (by omega) h1, ea j hj (by omega)]
      exact h2 j (by omega)
  unfold nrI
  have e2 : near (mvP b cs) (adC c b) = near cs c := funext fun i => propext (e i)
  rw [e2]
theorem near_ex {cs : List (List Int)} (h : 0 < cs.length) (c : List Int) : ∃ i, near cs c i := by
  have : ∀ m, 0 < m → m ≤ cs.length → ∃ i, i < m ∧ ∃ hi : i < cs.length, ∀ (j : Nat) (hj : j < cs.length), j < m → ap cs[i] c < ap cs[j] c ∨ (ap cs[i] c = ap cs[j] c ∧ i ≤ j) := by
    intro m
    induction m with
    | zero => intro h; omega
    | succ m ih =>
      intro _ hm
      rcases Nat.eq_zero_or_pos m with z | z
      · subst z
        exact ⟨0, by omega, h, fun j hj hj2 => by
          have : j = 0 := by omega
          subst this
          exact .inr ⟨rfl, Nat.le_refl _⟩⟩
      · obtain ⟨i, him, hi, hb⟩ := ih z (by omega)
        by_cases c1 : ap (cs[m]'(by omega)) c < ap cs[i] c
        · refine ⟨m, by omega, by omega, fun j hj hj2 => ?_⟩
          by_cases e : j = m
          · subst e; exact .inr ⟨rfl, Nat.le_refl _⟩
          · have := hb j hj (by omega)
            omega
        · refine ⟨i, by omega, hi, fun j hj hj2 => ?_⟩
          by_cases e : j = m
          · subst e; omega
          · exact hb j hj (by omega)
  obtain ⟨i, _, hi, hb⟩ := this cs.length h (Nat.le_refl _)
  exact ⟨i, hi, fun j hj => hb j hj hj⟩
theorem nr_lt {cs : List (List Int)} (h : 0 < cs.length) (c : List Int) : nrI cs c < cs.length := by
  obtain ⟨i, hi⟩ := near_ex h c
  rw [nr_of hi]
  exact hi.1
theorem mv_col (b : List Int) (cs : List (List Int)) (i : Nat) : (mvP b cs).getD i [] = adC (cs.getD i []) b := by
  unfold mvP
  rw [List.getD_eq_getElem?_getD, List.getD_eq_getElem?_getD, List.getElem?_map]
  cases cs[i]? <;> rfl
theorem ho_mv_fold {h w n : Nat} {b : List Int} {shs : List (Int × Int × Int)} {cs : List (List Int)} (c0 : 0 < cs.length) (cl : ∀ c ∈ cs, c.length = n) (bl : b.length = n) (sok : ∀ s ∈ shs, 0 ≤ s.2.1 ∧ 0 < s.2.2 ∧ s.2.2 ≤ 1000) : ∀ (ss : List (List Int)) (z : List (List (List Int)) × List (List Int) × List Int), (∀ s ∈ ss, ∃ (r c : Nat) (sd : Int), s = [(r : Int), (c : Int), sd] ∧ r < h ∧ c < w ∧ -1 ≤ sd ∧ sd ≤ 1) → Rect h w n z.1 →
    ss.foldl (hoStep h w shs (mvP b cs)) (mvW b z.1, z.2) = (mvW b (ss.foldl (hoStep h w shs cs) z).1, (ss.foldl (hoStep h w shs cs) z).2)
  | [], z, _, _ => rfl
  | s :: ss, z, hs, hR => by
    obtain ⟨r, c, sd, rfl, rh, cw, _⟩ := hs s (List.mem_cons_self ..)
    have gl := (rect_get hR rh cw).2
    have hl : (cs.getD (nrI cs (getC z.1 r c)) []).length = n := by
      have := nr_lt c0 (getC z.1 r c)
      rw [List.getD_eq_getElem?_getD, List.getElem?_eq_getElem this]
      exact cl _ (List.getElem_mem this)
    have hR2 := (rect_hand (sd := sd) hR rh cw hl sok).1
    have e1 : sR [(r : Int), (c : Int), sd] = r := Int.toNat_natCast r
    have e2 : sC [(r : Int), (c : Int), sd] = c := Int.toNat_natCast c
    have e3 : sS [(r : Int), (c : Int), sd] = sd := rfl
    have st : hoStep h w shs (mvP b cs) (mvW b z.1, z.2) [(r : Int), (c : Int), sd] = (mvW b (hoStep h w shs cs z [(r : Int), (c : Int), sd]).1, (hoStep h w shs cs z [(r : Int), (c : Int), sd]).2) := by
      unfold hoStep
      rw [e1, e2, e3]
      simp only
      rw [mv_get, nr_mv gl bl cl, mv_col, mv_hand hR rh cw hl bl]
    rw [List.foldl_cons, List.foldl_cons, st]
    refine ho_mv_fold c0 cl bl sok ss _ (fun x hx => hs x (List.mem_cons_of_mem _ hx)) ?_
    unfold hoStep
    rw [e1, e2, e3]
    exact hR2
theorem spots_mv (t : Bool) (b : List Int) (ps : List (List (List Int))) : ∀ m, spotsOf t (mvW b ps) m = spotsOf t ps m
  | 0 => rfl
  | m + 1 => by
    rw [spots_succ, spots_succ, spots_mv t b ps m, mv_row]
    unfold mvP
    rw [List.length_map]
theorem ho_mv {h w n : Nat} {t : Bool} {b : List Int} {ps : List (List (List Int))} {shs : List (Int × Int × Int)} {cs : List (List Int)} (c0 : 0 < cs.length) (cl : ∀ c ∈ cs, c.length = n) (bl : b.length = n) (sok : ∀ s ∈ shs, 0 ≤ s.2.1 ∧ 0 < s.2.2 ∧ s.2.2 ≤ 1000) (hR : Rect h w n ps) :
    (hoW h w n t (mvW b ps) shs (mvP b cs)).2 = (hoW h w n t ps shs cs).2 := by
  unfold hoW
  have e1 : (mvW b ps).length = ps.length := by unfold mvW; rw [List.length_map]
  have e2 : ((mvW b ps).map fun p => List.replicate p.length (0 : Int)) = ps.map fun p => List.replicate p.length 0 := by
    unfold mvW mvP
    rw [List.map_map]
    exact List.map_congr_left fun p _ => by simp
  rw [e1, e2, spots_mv, hR.1]
  have := ho_mv_fold (h := h) (w := w) (b := b) (shs := shs) c0 cl bl sok (spotsOf t ps h) (ps, ps.map (fun p => List.replicate p.length 0), List.replicate n 0) (spots_in hR t h (Nat.le_refl _)) hR
  rw [this]
/-! one row, one column -/
theorem ho_row {h w n : Nat} {ps : List (List (List Int))} {shs : List (Int × Int × Int)} {cs : List (List Int)} (h1 : ps.length = 1) (t : Bool) : hoW h w n t ps shs cs = hoW h w n false ps shs cs := by
  unfold hoW
  have : spotsOf t ps ps.length = spotsOf false ps ps.length := by
    rw [h1, spots_succ, spots_succ]
    congr 1
    unfold spRow
    rw [if_neg (by omega), if_neg (by omega)]
  rw [this]
theorem there_col {h : Nat} {shs : List (Int × Int × Int)} {r sd : Int} (hs : sd = 1 ∨ sd = -1) : thereOf h 1 shs r 0 sd = thereOf h 1 shs r 0 1 := by
  unfold thereOf
  rw [show ((1 : Nat) : Int) = 1 from rfl]
  induction shs with
  | nil => rfl
  | cons s shs ih =>
    rw [List.map_cons, List.map_cons]
    by_cases c : s.1 = 0
    · have e : al3 r 0 sd s = al3 r 0 1 s := by
        unfold al3
        rw [c, Int.mul_zero, Int.mul_zero]
      rw [e]
      by_cases d : in3 h 1 (al3 r 0 1 s) = true
      · rw [List.filter_cons_of_pos d, List.filter_cons_of_pos d, ih]
      · rw [List.filter_cons_of_neg d, List.filter_cons_of_neg d, ih]
    · have no : ∀ x : Int, (x = 1 ∨ x = -1) → ¬ in3 h 1 (al3 r 0 x s) = true := fun x hx z => by
        unfold in3 al3 at z
        simp only [Bool.and_eq_true, decide_eq_true_eq] at z
        rcases hx with rfl | rfl <;> omega
      rw [List.filter_cons_of_neg (no sd hs), List.filter_cons_of_neg (no 1 (.inl rfl)), ih]
theorem fold_rel {α β : Type} (f : β → α → β) : ∀ (xs ys : List α), xs.length = ys.length → (∀ (i : Nat) (a b : α), xs[i]? = some a → ys[i]? = some b → ∀ z, f z a = f z b) → ∀ z, xs.foldl f z = ys.foldl f z
  | [], [], _, _, _ => rfl
  | x :: xs, y :: ys, hl, h, z => by
    rw [List.foldl_cons, List.foldl_cons, h 0 x y rfl rfl]
    exact fold_rel f xs ys (by simpa using hl) (fun i a b h1 h2 => h (i + 1) a b h1 h2) _
theorem sp_col (t : Bool) (r : Nat) : spRow t r 1 = [[(r : Int), 0, if t = true ∧ r % 2 = 1 then -1 else 1]] := by
  unfold spRow
  split <;> rfl
theorem spots_col (t : Bool) {ps : List (List (List Int))} {n h : Nat} (hR : Rect h 1 n ps) : ∀ m, m ≤ h → spotsOf t ps m = (List.range m).map fun (r : Nat) => [(r : Int), 0, if t = true ∧ r % 2 = 1 then -1 else 1]
  | 0, _ => rfl
  | m + 1, hm => by
    rw [spots_succ, spots_col t hR m (by omega), (rect_row hR (r := m) (by omega)).2.1, sp_col, List.range_succ, List.map_append]
    rfl
theorem ho_col {h n : Nat} {ps : List (List (List Int))} {shs : List (Int × Int × Int)} {cs : List (List Int)} (hR : Rect h 1 n ps) (t : Bool) : hoW h 1 n t ps shs cs = hoW h 1 n false ps shs cs := by
  unfold hoW
  rw [hR.1, spots_col t hR h (Nat.le_refl _), spots_col false hR h (Nat.le_refl _)]
  refine fold_rel _ _ _ (by simp) (fun i a b h1 h2 z => ?_) _
  have hi : i < h := by
    have := (List.getElem?_eq_some_iff.mp h1).1
    simpa using this
  rw [List.getElem?_map, List.getElem?_range hi] at h1 h2
  have ea := Option.some.inj h1
  have eb := Option.some.inj h2
  rw [← ea, ← eb]
  show hoStep h 1 shs cs z [(i : Int), 0, if t = true ∧ i % 2 = 1 then -1 else 1] = hoStep h 1 shs cs z [(i : Int), 0, if false = true ∧ i % 2 = 1 then -1 else 1]
  rw [if_neg (c := false = true ∧ i % 2 = 1) (fun h => nomatch h.1)]
  have key : ∀ (sd : Int) (W : List (List (List Int))) (col : List Int), (sd = 1 ∨ sd = -1) → handW h 1 W shs i 0 sd col = handW h 1 W shs i 0 1 col := fun sd W col hs => by
    unfold handW
    rw [show ((0 : Nat) : Int) = 0 from rfl, there_col hs]
  have hsd : (if t = true ∧ i % 2 = 1 then (-1 : Int) else 1) = 1 ∨ (if t = true ∧ i % 2 = 1 then (-1 : Int) else 1) = -1 := by
    split
    · exact .inr rfl
    · exact .inl rfl
  generalize (if t = true ∧ i % 2 = 1 then (-1 : Int) else 1) = sd at *
  unfold hoStep
  have e1 : ∀ x : Int, sR [(i : Int), 0, x] = i := fun x => Int.toNat_natCast i
  have e2 : ∀ x : Int, sC [(i : Int), 0, x] = 0 := fun x => rfl
  have e3 : ∀ x : Int, sS [(i : Int), 0, x] = x := fun x => rfl
  rw [e1, e1, e2, e2, e3, e3, key sd _ _ hsd]
/-! ### what is told stays -/
theorem get_put_ne {W : List (List (List Int))} {r c r' c' : Nat} {v : List Int} (h : r' ≠ r ∨ c' ≠ c) : getC (putC W r' c' v) r c = getC W r c := by
  unfold getC putC
  by_cases e : r' = r
  · subst e
    have hc : c' ≠ c := by
      rcases h with z | z
      · exact absurd rfl z
      · exact z
    by_cases hl : r' < W.length
    · have e1 : (W.set r' ((W.getD r' []).set c' v)).getD r' [] = (W.getD r' []).set c' v := by
        rw [List.getD_eq_getElem?_getD, List.getElem?_set_self hl]
        rfl
      rw [e1, List.getD_eq_getElem?_getD, List.getElem?_set_ne hc, ← List.getD_eq_getElem?_getD]
    · rw [List.set_eq_of_length_le (by omega)]
  · have e1 : (W.set r' ((W.getD r' []).set c' v)).getD r [] = W.getD r [] := by
      rw [List.getD_eq_getElem?_getD, List.getElem?_set_ne e, ← List.getD_eq_getElem?_getD]
    rw [e1]
theorem get_fold_ne {left : List Int} {t : Int} {r c : Nat} : ∀ (es : List (Int × Int × Int)) (z : List (List (List Int)) × List Int), (∀ e ∈ es, e.1.toNat ≠ r ∨ e.2.1.toNat ≠ c) → getC (es.foldl (hStep left t) z).1 r c = getC z.1 r c
  | [], _, _ => rfl
  | e :: es, z, h => by
    rw [List.foldl_cons, get_fold_ne es _ fun x hx => h x (List.mem_cons_of_mem _ hx)]
    exact get_put_ne (h e (List.mem_cons_self ..))
theorem get_hand_ne {h w : Nat} {W : List (List (List Int))} {shs : List (Int × Int × Int)} {r' c' : Nat} {sd : Int} {col : List Int} {r c : Nat} (hn : ∀ e ∈ thereOf h w shs r' c' sd, e.1.toNat ≠ r ∨ e.2.1.toNat ≠ c) : getC (handW h w W shs r' c' sd col).1 r c = getC W r c := by
  unfold handW
  cases e : thereOf h w shs r' c' sd with
  | nil => rfl
  | cons a es =>
    rw [e] at hn
    show getC (putC _ _ _ _) r c = _
    rw [get_put_ne (hn a (List.mem_cons_self ..)), get_fold_ne _ _ hn]
/-- a share goes to a spot that comes later -/
theorem there_ne {h w : Nat} {shs : List (Int × Int × Int)} {r' c' r c : Nat} {sd : Int} (ord : ∀ s ∈ shs, 0 < s.2.1 ∨ (s.2.1 = 0 ∧ 0 < s.1)) (hs : sd = 1 ∨ sd = -1) (hb : r < r' ∨ (r = r' ∧ sd * (c : Int) ≤ sd * (c' : Int))) :
    ∀ e ∈ thereOf h w shs r' c' sd, e.1.toNat ≠ r ∨ e.2.1.toNat ≠ c := fun e he => by
  unfold thereOf at he
  obtain ⟨m, i⟩ := List.mem_filter.mp he
  obtain ⟨s, hs', rfl⟩ := List.mem_map.mp m
  unfold in3 at i
  simp only [Bool.and_eq_true, decide_eq_true_eq] at i
  obtain ⟨_, i2, _⟩ := i
  unfold al3 at i2 ⊢
  simp only at i2 ⊢
  have o := ord s hs'
  rcases hs with rfl | rfl
  · rcases o with o | o <;> rcases hb with b | b <;> omega
  · rcases o with o | o <;> rcases hb with b | b <;> omega
/-! ### what is told is the nearest to what is wanted -/
def bef (s s' : List Int) : Prop := sR s < sR s' ∨ (sR s = sR s' ∧ sS s' * (sC s : Int) < sS s' * (sC s' : Int))
theorem sR3 (r c : Nat) (x : Int) : sR [(r : Int), (c : Int), x] = r := Int.toNat_natCast r
theorem sC3 (r c : Nat) (x : Int) : sC [(r : Int), (c : Int), x] = c := Int.toNat_natCast c
theorem sS3 (r c : Int) (x : Int) : sS [r, c, x] = x := rfl
theorem spRow_ok {t : Bool} {r n : Nat} : ∀ s ∈ spRow t r n, sR s = r ∧ sC s < n ∧ (sS s = 1 ∨ sS s = -1) := fun s hs => by
  unfold spRow at hs
  split at hs
  · obtain ⟨c, hc, rfl⟩ := List.mem_map.mp hs
    have := List.mem_range.mp hc
    rw [sR3, sC3, sS3]
    exact ⟨rfl, by omega, .inr rfl⟩
  · obtain ⟨c, hc, rfl⟩ := List.mem_map.mp hs
    have := List.mem_range.mp hc
    rw [sR3, sC3, sS3]
    exact ⟨rfl, by omega, .inl rfl⟩
theorem spRow_pw (t : Bool) (r n : Nat) : (spRow t r n).Pairwise bef := by
  unfold spRow
  split
  · rw [List.pairwise_map]
    refine List.Pairwise.imp_of_mem (fun {a b} ha hb h => ?_) (List.pairwise_lt_range (n := n))
    have := List.mem_range.mp ha
    have := List.mem_range.mp hb
    unfold bef
    rw [sR3, sR3, sC3, sC3, sS3]
    omega
  · rw [List.pairwise_map]
    refine List.Pairwise.imp_of_mem (fun {a b} ha hb h => ?_) (List.pairwise_lt_range (n := n))
    unfold bef
    rw [sR3, sR3, sC3, sC3, sS3]
    omega
theorem spRow_all {t : Bool} {r n c : Nat} (hc : c < n) : ∃ s ∈ spRow t r n, sR s = r ∧ sC s = c := by
  unfold spRow
  split
  · refine ⟨_, List.mem_map.mpr ⟨n - 1 - c, List.mem_range.mpr (by omega), rfl⟩, ?_⟩
    rw [sR3, sC3]
    omega
  · refine ⟨_, List.mem_map.mpr ⟨c, List.mem_range.mpr hc, rfl⟩, ?_⟩
    rw [sR3, sC3]
    exact ⟨rfl, rfl⟩
theorem sp_ok {h w n : Nat} {ps : List (List (List Int))} (hR : Rect h w n ps) (t : Bool) : ∀ m, m ≤ h → ∀ s ∈ spotsOf t ps m, sR s < m ∧ sC s < w ∧ (sS s = 1 ∨ sS s = -1)
  | 0, _, s, hs => by simp [spotsOf] at hs
  | m + 1, hm, s, hs => by
    rw [spots_succ, (rect_row hR (r := m) (by omega)).2.1] at hs
    rcases List.mem_append.mp hs with z | z
    · have := sp_ok hR t m (by omega) s z
      exact ⟨by omega, this.2⟩
    · have := spRow_ok s z
      exact ⟨by omega, this.2⟩
theorem sp_pw {h w n : Nat} {ps : List (List (List Int))} (hR : Rect h w n ps) (t : Bool) : ∀ m, m ≤ h → (spotsOf t ps m).Pairwise bef
  | 0, _ => by simp [spotsOf]
  | m + 1, hm => by
    rw [spots_succ, List.pairwise_append]
    refine ⟨sp_pw hR t m (by omega), spRow_pw .., fun a ha b hb => .inl ?_⟩
    have h1 := sp_ok hR t m (by omega) a ha
    have h2 := spRow_ok b hb
    omega
theorem sp_all {h w n : Nat} {ps : List (List (List Int))} (hR : Rect h w n ps) (t : Bool) {r c : Nat} (hc : c < w) : ∀ m, m ≤ h → r < m → ∃ s ∈ spotsOf t ps m, sR s = r ∧ sC s = c
  | 0, _, hr => by omega
  | m + 1, hm, hr => by
    rw [spots_succ, (rect_row hR (r := m) (by omega)).2.1]
    by_cases e : r = m
    · subst e
      obtain ⟨s, hs, h2⟩ := spRow_all (t := t) (r := r) hc
      exact ⟨s, List.mem_append_right _ hs, h2⟩
    · obtain ⟨s, hs, h2⟩ := sp_all hR t (r := r) hc m (by omega) (by omega)
      exact ⟨s, List.mem_append_left _ hs, h2⟩
theorem keep_fold {h w : Nat} {shs : List (Int × Int × Int)} {cs : List (List Int)} (ord : ∀ s ∈ shs, 0 < s.2.1 ∨ (s.2.1 = 0 ∧ 0 < s.1)) {r c : Nat} : ∀ (ss : List (List Int)) (z : List (List (List Int)) × List (List Int) × List Int), (∀ s ∈ ss, (sS s = 1 ∨ sS s = -1) ∧ (r < sR s ∨ (r = sR s ∧ sS s * (c : Int) ≤ sS s * (sC s : Int)))) → getC (ss.foldl (hoStep h w shs cs) z).1 r c = getC z.1 r c
  | [], _, _ => rfl
  | s :: ss, z, hs => by
    rw [List.foldl_cons, keep_fold ord ss _ fun x hx => hs x (List.mem_cons_of_mem _ hx)]
    have h1 := hs s (List.mem_cons_self ..)
    exact get_hand_ne (there_ne ord h1.1 h1.2)
theorem get2_set {N : List (List Int)} {r c r' c' : Nat} {v : Int} (h : r' ≠ r ∨ c' ≠ c) : ((N.set r' ((N.getD r' []).set c' v)).getD r []).getD c 0 = (N.getD r []).getD c 0 := by
  by_cases e : r' = r
  · subst e
    have hc : c' ≠ c := by
      rcases h with z | z
      · exact absurd rfl z
      · exact z
    by_cases hl : r' < N.length
    · have e1 : (N.set r' ((N.getD r' []).set c' v)).getD r' [] = (N.getD r' []).set c' v := by
        rw [List.getD_eq_getElem?_getD, List.getElem?_set_self hl]
        rfl
      rw [e1, List.getD_eq_getElem?_getD, List.getElem?_set_ne hc, ← List.getD_eq_getElem?_getD]
    · rw [List.set_eq_of_length_le (by omega)]
  · have e1 : (N.set r' ((N.getD r' []).set c' v)).getD r [] = N.getD r [] := by
      rw [List.getD_eq_getElem?_getD, List.getElem?_set_ne e, ← List.getD_eq_getElem?_getD]
    rw [e1]
theorem get2_same {h w : Nat} {N : List (List Int)} {r c : Nat} {v : Int} (hN : nRect h w N) (hr : r < h) (hc : c < w) : ((N.set r ((N.getD r []).set c v)).getD r []).getD c 0 = v := by
  have hl : r < N.length := by rw [hN.1]; exact hr
  have en : N.getD r [] = N[r] := by rw [List.getD_eq_getElem?_getD, List.getElem?_eq_getElem hl]; rfl
  have lw := hN.2 _ (List.getElem_mem hl)
  have e1 : (N.set r ((N.getD r []).set c v)).getD r [] = (N.getD r []).set c v := by
    rw [List.getD_eq_getElem?_getD, List.getElem?_set_self hl]
    rfl
  rw [e1, en, List.getD_eq_getElem?_getD, List.getElem?_set_self (by omega)]
  rfl
theorem num_fold {h w : Nat} {shs : List (Int × Int × Int)} {cs : List (List Int)} {r c : Nat} : ∀ (ss : List (List Int)) (z : List (List (List Int)) × List (List Int) × List Int), (∀ s ∈ ss, sR s ≠ r ∨ sC s ≠ c) → ((ss.foldl (hoStep h w shs cs) z).2.1.getD r []).getD c 0 = (z.2.1.getD r []).getD c 0
  | [], _, _ => rfl
  | s :: ss, z, hs => by
    rw [List.foldl_cons, num_fold ss _ fun x hx => hs x (List.mem_cons_of_mem _ hx)]
    exact get2_set (hs s (List.mem_cons_self ..))
theorem told_fold {h w : Nat} {shs : List (Int × Int × Int)} {cs : List (List Int)} (ord : ∀ s ∈ shs, 0 < s.2.1 ∨ (s.2.1 = 0 ∧ 0 < s.1)) : ∀ (ss : List (List Int)) (z : List (List (List Int)) × List (List Int) × List Int), (∀ s ∈ ss, sR s < h ∧ sC s < w ∧ (sS s = 1 ∨ sS s = -1)) → ss.Pairwise bef → nRect h w z.2.1 →
    ∀ s ∈ ss, ((ss.foldl (hoStep h w shs cs) z).2.1.getD (sR s) []).getD (sC s) 0 = (nrI cs (getC (ss.foldl (hoStep h w shs cs) z).1 (sR s) (sC s)) : Int)
  | [], _, _, _, _, _, hm => nomatch hm
  | a :: ss, z, ok, pw, hN, s, hm => by
    obtain ⟨p1, p2⟩ := List.pairwise_cons.mp pw
    have oa := ok a (List.mem_cons_self ..)
    rw [List.foldl_cons]
    rcases List.mem_cons.mp hm with e | e
    · subst e
      have hne : ∀ x ∈ ss, sR x ≠ sR s ∨ sC x ≠ sC s := fun x hx => by
        rcases p1 x hx with b | b
        · exact .inl (by omega)
        · refine .inr fun q => ?_
          have := b.2
          rw [q] at this
          omega
      have hb : ∀ x ∈ ss, (sS x = 1 ∨ sS x = -1) ∧ (sR s < sR x ∨ (sR s = sR x ∧ sS x * (sC s : Int) ≤ sS x * (sC x : Int))) := fun x hx => by
        refine ⟨(ok x (List.mem_cons_of_mem _ hx)).2.2, ?_⟩
        rcases p1 x hx with b | b
        · exact .inl b
        · exact .inr ⟨b.1, Int.le_of_lt b.2⟩
      rw [num_fold ss _ hne, keep_fold ord ss _ hb]
      have e1 : getC (hoStep h w shs cs z s).1 (sR s) (sC s) = getC z.1 (sR s) (sC s) := get_hand_ne (there_ne ord oa.2.2 (.inr ⟨rfl, Int.le_refl _⟩))
      rw [e1]
      exact get2_same hN oa.1 oa.2.1
    · exact told_fold ord ss (hoStep h w shs cs z a) (fun x hx => ok x (List.mem_cons_of_mem _ hx)) p2 (hN.set oa.1) s e
theorem want_fold {h w : Nat} {shs : List (Int × Int × Int)} {cs : List (List Int)} (ord : ∀ s ∈ shs, 0 < s.2.1 ∨ (s.2.1 = 0 ∧ 0 < s.1)) (ns : List (List Int)) : ∀ (ss : List (List Int)) (z : List (List (List Int)) × List (List Int) × List Int), (∀ s ∈ ss, sR s < h ∧ sC s < w ∧ (sS s = 1 ∨ sS s = -1)) → ss.Pairwise bef →
    (∀ s ∈ ss, (ns.getD (sR s) []).getD (sC s) 0 = (nrI cs (getC (ss.foldl (hoStep h w shs cs) z).1 (sR s) (sC s)) : Int)) → ss.foldl (wantStep h w shs cs ns) z.1 = (ss.foldl (hoStep h w shs cs) z).1
  | [], _, _, _, _ => rfl
  | a :: ss, z, ok, pw, hn => by
    obtain ⟨p1, p2⟩ := List.pairwise_cons.mp pw
    have oa := ok a (List.mem_cons_self ..)
    have hb : ∀ x ∈ a :: ss, (sS x = 1 ∨ sS x = -1) ∧ (sR a < sR x ∨ (sR a = sR x ∧ sS x * (sC a : Int) ≤ sS x * (sC x : Int))) := fun x hx => by
      rcases List.mem_cons.mp hx with e | e
      · subst e
        exact ⟨oa.2.2, .inr ⟨rfl, Int.le_refl _⟩⟩
      · refine ⟨(ok x hx).2.2, ?_⟩
        rcases p1 x e with b | b
        · exact .inl b
        · exact .inr ⟨b.1, Int.le_of_lt b.2⟩
    have ha := hn a (List.mem_cons_self ..)
    rw [keep_fold ord (a :: ss) z hb] at ha
    have st : wantStep h w shs cs ns z.1 a = (hoStep h w shs cs z a).1 := by
      unfold wantStep hoStep
      rw [ha, Int.toNat_natCast]
    rw [List.foldl_cons, List.foldl_cons, st]
    refine want_fold ord ns ss (hoStep h w shs cs z a) (fun x hx => ok x (List.mem_cons_of_mem _ hx)) p2 fun x hx => ?_
    have := hn x (List.mem_cons_of_mem _ hx)
    rw [List.foldl_cons] at this
    exact this
theorem ho_rect_fold {h w n : Nat} {shs : List (Int × Int × Int)} {cs : List (List Int)} (c0 : 0 < cs.length) (cl : ∀ c ∈ cs, c.length = n) (sok : ∀ s ∈ shs, 0 ≤ s.2.1 ∧ 0 < s.2.2 ∧ s.2.2 ≤ 1000) : ∀ (ss : List (List Int)) (z : List (List (List Int)) × List (List Int) × List Int), (∀ s ∈ ss, sR s < h ∧ sC s < w ∧ (sS s = 1 ∨ sS s = -1)) → Rect h w n z.1 → nRect h w z.2.1 → Rect h w n (ss.foldl (hoStep h w shs cs) z).1 ∧ nRect h w (ss.foldl (hoStep h w shs cs) z).2.1
  | [], _, _, h1, h2 => ⟨h1, h2⟩
  | a :: ss, z, ok, h1, h2 => by
    have oa := ok a (List.mem_cons_self ..)
    have hl : (cs.getD (nrI cs (getC z.1 (sR a) (sC a))) []).length = n := by
      have := nr_lt c0 (getC z.1 (sR a) (sC a))
      rw [List.getD_eq_getElem?_getD, List.getElem?_eq_getElem this]
      exact cl _ (List.getElem_mem this)
    rw [List.foldl_cons]
    exact ho_rect_fold c0 cl sok ss _ (fun x hx => ok x (List.mem_cons_of_mem _ hx)) (rect_hand (sd := sS a) h1 oa.1 oa.2.1 hl sok).1 (h2.set oa.1)
theorem nrect0 {h w n : Nat} {ps : List (List (List Int))} (hR : Rect h w n ps) : nRect h w (ps.map fun p => List.replicate p.length (0 : Int)) := by
  refine ⟨by rw [List.length_map]; exact hR.1, fun r hr => ?_⟩
  obtain ⟨p, hp, rfl⟩ := List.mem_map.mp hr
  rw [List.length_replicate]
  exact (hR.2 p hp).1
theorem ho_rect {h w n : Nat} {t : Bool} {ps : List (List (List Int))} {shs : List (Int × Int × Int)} {cs : List (List Int)} (c0 : 0 < cs.length) (cl : ∀ c ∈ cs, c.length = n) (sok : ∀ s ∈ shs, 0 ≤ s.2.1 ∧ 0 < s.2.2 ∧ s.2.2 ≤ 1000) (hR : Rect h w n ps) : Rect h w n (hoW h w n t ps shs cs).1 ∧ nRect h w (hoW h w n t ps shs cs).2.1 := by
  unfold hoW
  rw [hR.1]
  exact ho_rect_fold c0 cl sok _ _ (sp_ok hR t h (Nat.le_refl _)) hR (nrect0 hR)
theorem ho_told {h w n : Nat} {t : Bool} {ps : List (List (List Int))} {shs : List (Int × Int × Int)} {cs : List (List Int)} (ord : ∀ s ∈ shs, 0 < s.2.1 ∨ (s.2.1 = 0 ∧ 0 < s.1)) (hR : Rect h w n ps) {r c : Nat} (hr : r < h) (hc : c < w) :
    ((hoW h w n t ps shs cs).2.1.getD r []).getD c 0 = (nrI cs (getC (hoW h w n t ps shs cs).1 r c) : Int) := by
  obtain ⟨s, hs, e1, e2⟩ := sp_all hR t hc h (Nat.le_refl _) hr
  unfold hoW
  rw [hR.1]
  have := told_fold (h := h) (w := w) (cs := cs) ord (spotsOf t ps h) (ps, ps.map (fun p => List.replicate p.length 0), List.replicate n 0) (sp_ok hR t h (Nat.le_refl _)) (sp_pw hR t h (Nat.le_refl _)) (nrect0 hR) s hs
  rw [e1, e2] at this
  exact this
theorem ho_want {h w n : Nat} {t : Bool} {ps : List (List (List Int))} {shs : List (Int × Int × Int)} {cs : List (List Int)} (ord : ∀ s ∈ shs, 0 < s.2.1 ∨ (s.2.1 = 0 ∧ 0 < s.1)) (hR : Rect h w n ps) :
    wantW h w t ps shs cs (hoW h w n t ps shs cs).2.1 = (hoW h w n t ps shs cs).1 := by
  have ht := fun r c hr hc => ho_told (t := t) (cs := cs) ord hR (r := r) (c := c) hr hc
  generalize hN : (hoW h w n t ps shs cs).2.1 = N at *
  unfold wantW hoW
  unfold hoW at ht
  rw [hR.1] at ht ⊢
  exact want_fold ord N (spotsOf t ps h) (ps, ps.map (fun p => List.replicate p.length 0), List.replicate n 0) (sp_ok hR t h (Nat.le_refl _)) (sp_pw hR t h (Nat.le_refl _)) fun s hs => by
    have o := sp_ok hR t h (Nat.le_refl _) s hs
    exact ht _ _ o.1 o.2.1
theorem ho_row_told {h w n : Nat} {t : Bool} {ps : List (List (List Int))} {shs : List (Int × Int × Int)} {cs : List (List Int)} (c0 : 0 < cs.length) (cl : ∀ c ∈ cs, c.length = n) (sok : ∀ s ∈ shs, 0 ≤ s.2.1 ∧ 0 < s.2.2 ∧ s.2.2 ≤ 1000) (ord : ∀ s ∈ shs, 0 < s.2.1 ∨ (s.2.1 = 0 ∧ 0 < s.1)) (hR : Rect h w n ps) {r : Nat} (hr : r < h) :
    (hoW h w n t ps shs cs).2.1.getD r [] = ((hoW h w n t ps shs cs).1.getD r []).map fun c => (nrI cs c : Int) := by
  obtain ⟨q1, q2⟩ := ho_rect (t := t) c0 cl sok hR
  have ht := fun c hc => ho_told (t := t) (cs := cs) ord hR (r := r) (c := c) hr hc
  generalize (hoW h w n t ps shs cs).2.1 = N at *
  generalize (hoW h w n t ps shs cs).1 = W at *
  have hl : r < N.length := by rw [q2.1]; exact hr
  have en : N.getD r [] = N[r] := by rw [List.getD_eq_getElem?_getD, List.getElem?_eq_getElem hl]; rfl
  have lw := q2.2 _ (List.getElem_mem hl)
  have lW := (rect_row q1 hr).2.1
  rw [en] at ht ⊢
  refine List.ext_getElem (by rw [List.length_map]; omega) fun i h1 h2 => ?_
  have := ht i (by omega)
  rw [List.getD_eq_getElem?_getD, List.getElem?_eq_getElem h1] at this
  rw [List.getElem_map]
  have e2 : getC W r i = (W.getD r [])[i]'(by omega) := by
    unfold getC
    rw [List.getD_eq_getElem?_getD (l := W.getD r []), List.getElem?_eq_getElem (by omega)]
    rfl
  rw [← e2]
  exact this
/-! ### the nearest ones to what is wanted -/
theorem Gr.dt {B : List Addr} {H : Hp} {wa : Addr} {ras : List Addr} {W : List (List PyData)} (g : Gr B H wa ras W) : Dt B H (.ref wa) (.list (W.map PyData.list)) := by
  refine .lst g.nw g.a (DtA.mk (by rw [List.length_map, List.length_map]; exact g.l) fun i v d h1 h2 => ?_)
  rw [List.getElem?_map] at h1 h2
  cases e1 : ras[i]? with
  | none => rw [e1] at h1; cases h1
  | some r =>
    cases e2 : W[i]? with
    | none => rw [e2] at h2; cases h2
    | some ds =>
      rw [e1] at h1
      rw [e2] at h2
      cases h1
      cases h2
      obtain ⟨vs, e, a⟩ := g.r i r ds e1 e2
      exact .lst (g.nb r (List.mem_of_getElem? e1)) e (a.sub fun a ha => List.mem_append_right _ ha)
theorem ho_bnd_fold {h w : Nat} {shs : List (Int × Int × Int)} {cs : List (List Int)} (c0 : 0 < cs.length) (sok : ∀ s ∈ shs, 0 ≤ s.2.1 ∧ 0 < s.2.2 ∧ s.2.2 ≤ 1000) (sl : shs.length ≤ 12) : ∀ (ss : List (List Int)) (z : List (List (List Int)) × List (List Int) × List Int) (M : Nat), (∀ c ∈ cs, bC M c) → bW M z.1 → bW (M * 64 ^ ss.length) (ss.foldl (hoStep h w shs cs) z).1
  | [], z, M, _, hz => by simpa using hz
  | a :: ss, z, M, hc, hz => by
    have hl : bC M (cs.getD (nrI cs (getC z.1 (sR a) (sC a))) []) := by
      have := nr_lt c0 (getC z.1 (sR a) (sC a))
      rw [List.getD_eq_getElem?_getD, List.getElem?_eq_getElem this]
      exact hc _ (List.getElem_mem this)
    rw [List.foldl_cons]
    have := ho_bnd_fold (h := h) (w := w) c0 sok sl ss (hoStep h w shs cs z a) (64 * M) (fun c hcc => (hc c hcc).mono (by omega)) (bnd_hand (sd := sS a) sok sl hz hl).1
    refine this.mono (Nat.le_of_eq ?_)
    rw [List.length_cons, Nat.pow_succ, Nat.mul_comm 64 M, Nat.mul_assoc, Nat.mul_comm 64]
theorem sp_len {h w n : Nat} {ps : List (List (List Int))} (hR : Rect h w n ps) (t : Bool) : ∀ m, m ≤ h → (spotsOf t ps m).length = w * m := fun m => by
  induction m with
  | zero => intro _; simp [spotsOf]
  | succ m ih =>
    intro hm
    rw [spots_succ, List.length_append, spRow_len, ih (by omega), (rect_row hR (r := m) (by omega)).2.1, Nat.mul_succ]
theorem ho_wIn {h w n : Nat} {t : Bool} {ps : List (List (List Int))} {shs : List (Int × Int × Int)} {cs : List (List Int)} (c0 : 0 < cs.length) (sok : ∀ s ∈ shs, 0 ≤ s.2.1 ∧ 0 < s.2.2 ∧ s.2.2 ≤ 1000) (sl : shs.length ≤ 12) (hR : Rect h w n ps) (h1 : h ≤ 16) (w1 : w ≤ 16) (hc : ∀ c ∈ cs, bC 2048 c) (hb : bW 2048 ps) : ∀ p ∈ (hoW h w n t ps shs cs).1, ∀ c ∈ p, wIn c := fun p hp c hcp => by
  have hf := ho_bnd_fold (h := h) (w := w) c0 sok sl (spotsOf t ps h) (ps, ps.map (fun p => List.replicate p.length 0), List.replicate n 0) 2048 hc hb
  unfold hoW at hp
  rw [hR.1] at hp
  have hl := sp_len hR t h (Nat.le_refl _)
  have hm : w * h ≤ 16 * 16 := Nat.mul_le_mul w1 h1
  have hx := hf p hp c hcp
  refine wIn_of (k := 1547) (by decide) (hx.mono ?_)
  rw [hl]
  have e : (2 : Nat) ^ 1547 = 2048 * 64 ^ 256 := by decide
  rw [e]
  exact Nat.mul_le_mul_left _ (Nat.pow_le_pow_right (by decide) (by omega))
def HoOk (h w n : Nat) (ps : List (List (List Int))) (cs : List (List Int)) (shs : List (Int × Int × Int)) : Prop := Rect h w n ps ∧ 0 < h ∧ h ≤ 16 ∧ 0 < w ∧ w ≤ 16 ∧ 0 < n ∧ n ≤ 100 ∧ 0 < cs.length ∧ cs.length ≤ 1000 ∧ (∀ c ∈ cs, c.length = n ∧ bC 2048 c) ∧ bW 2048 ps ∧ shs.length ≤ 12 ∧ (∀ s ∈ shs, 0 ≤ s.2.1 ∧ 0 < s.2.2 ∧ s.2.2 ≤ 1000)
/-! ### handed on by given numbers, place by place -/
def gStep (h w : Nat) (shs : List (Int × Int × Int)) (cs ns : List (List Int)) (z : List (List (List Int)) × List Int) (s : List Int) : List (List (List Int)) × List Int :=
  ((handW h w z.1 shs (sR s) (sC s) (sS s) (cs.getD ((ns.getD (sR s) []).getD (sC s) 0).toNat [])).1, adC z.2 (handW h w z.1 shs (sR s) (sC s) (sS s) (cs.getD ((ns.getD (sR s) []).getD (sC s) 0).toNat [])).2)
def gW (h w n : Nat) (t : Bool) (ps : List (List (List Int))) (shs : List (Int × Int × Int)) (cs ns : List (List Int)) : List (List (List Int)) × List Int := (spotsOf t ps ps.length).foldl (gStep h w shs cs ns) (ps, List.replicate n 0)
theorem g_want_fold {h w : Nat} {shs : List (Int × Int × Int)} {cs ns : List (List Int)} : ∀ (ss : List (List Int)) (z : List (List (List Int)) × List Int), (ss.foldl (gStep h w shs cs ns) z).1 = ss.foldl (wantStep h w shs cs ns) z.1
  | [], _ => rfl
  | s :: ss, z => by
    rw [List.foldl_cons, List.foldl_cons, g_want_fold ss]
    rfl
theorem g_want {h w n : Nat} {t : Bool} {ps : List (List (List Int))} {shs : List (Int × Int × Int)} {cs ns : List (List Int)} : (gW h w n t ps shs cs ns).1 = wantW h w t ps shs cs ns := g_want_fold _ _
theorem g_ho_fold {h w : Nat} {shs : List (Int × Int × Int)} {cs : List (List Int)} (ord : ∀ s ∈ shs, 0 < s.2.1 ∨ (s.2.1 = 0 ∧ 0 < s.1)) (ns : List (List Int)) : ∀ (ss : List (List Int)) (z : List (List (List Int)) × List (List Int) × List Int), (∀ s ∈ ss, sR s < h ∧ sC s < w ∧ (sS s = 1 ∨ sS s = -1)) → ss.Pairwise bef →
    (∀ s ∈ ss, (ns.getD (sR s) []).getD (sC s) 0 = (nrI cs (getC (ss.foldl (hoStep h w shs cs) z).1 (sR s) (sC s)) : Int)) → ss.foldl (gStep h w shs cs ns) (z.1, z.2.2) = ((ss.foldl (hoStep h w shs cs) z).1, (ss.foldl (hoStep h w shs cs) z).2.2)
  | [], _, _, _, _ => rfl
  | a :: ss, z, ok, pw, hn => by
    obtain ⟨p1, p2⟩ := List.pairwise_cons.mp pw
    have oa := ok a (List.mem_cons_self ..)
    have hb : ∀ x ∈ a :: ss, (sS x = 1 ∨ sS x = -1) ∧ (sR a < sR x ∨ (sR a = sR x ∧ sS x * (sC a : Int) ≤ sS x * (sC x : Int))) := fun x hx => by
      rcases List.mem_cons.mp hx with e | e
      · subst e
        exact ⟨oa.2.2, .inr ⟨rfl, Int.le_refl _⟩⟩
      · refine ⟨(ok x hx).2.2, ?_⟩
        rcases p1 x e with b | b
        · exact .inl b
        · exact .inr ⟨b.1, Int.le_of_lt b.2⟩
    have ha := hn a (List.mem_cons_self ..)
    rw [keep_fold ord (a :: ss) z hb] at ha
    have st : gStep h w shs cs ns (z.1, z.2.2) a = ((hoStep h w shs cs z a).1, (hoStep h w shs cs z a).2.2) := by
      unfold gStep hoStep
      simp only
      rw [ha, Int.toNat_natCast]
    rw [List.foldl_cons, List.foldl_cons, st]
    refine g_ho_fold ord ns ss (hoStep h w shs cs z a) (fun x hx => ok x (List.mem_cons_of_mem _ hx)) p2 fun x hx => ?_
    have := hn x (List.mem_cons_of_mem _ hx)
    rw [List.foldl_cons] at this
    exact this
theorem g_ho {h w n : Nat} {t : Bool} {ps : List (List (List Int))} {shs : List (Int × Int × Int)} {cs : List (List Int)} (ord : ∀ s ∈ shs, 0 < s.2.1 ∨ (s.2.1 = 0 ∧ 0 < s.1)) (hR : Rect h w n ps) :
    gW h w n t ps shs cs (hoW h w n t ps shs cs).2.1 = ((hoW h w n t ps shs cs).1, (hoW h w n t ps shs cs).2.2) := by
  have ht := fun r c hr hc => ho_told (t := t) (cs := cs) ord hR (r := r) (c := c) hr hc
  generalize hN : (hoW h w n t ps shs cs).2.1 = N at *
  unfold gW hoW
  unfold hoW at ht
  rw [hR.1] at ht ⊢
  exact g_ho_fold ord N (spotsOf t ps h) (ps, ps.map (fun p => List.replicate p.length 0), List.replicate n 0) (sp_ok hR t h (Nat.le_refl _)) (sp_pw hR t h (Nat.le_refl _)) fun s hs => by
    have o := sp_ok hR t h (Nat.le_refl _) s hs
    exact ht _ _ o.1 o.2.1
theorem keepg_fold {h w : Nat} {shs : List (Int × Int × Int)} {cs ns : List (List Int)} (ord : ∀ s ∈ shs, 0 < s.2.1 ∨ (s.2.1 = 0 ∧ 0 < s.1)) {r c : Nat} : ∀ (ss : List (List Int)) (z : List (List (List Int)) × List Int), (∀ s ∈ ss, (sS s = 1 ∨ sS s = -1) ∧ (r < sR s ∨ (r = sR s ∧ sS s * (c : Int) ≤ sS s * (sC s : Int)))) → getC (ss.foldl (gStep h w shs cs ns) z).1 r c = getC z.1 r c
  | [], _, _ => rfl
  | s :: ss, z, hs => by
    rw [List.foldl_cons, keepg_fold ord ss _ fun x hx => hs x (List.mem_cons_of_mem _ hx)]
    have h1 := hs s (List.mem_cons_self ..)
    exact get_hand_ne (there_ne ord h1.1 h1.2)
/-! one place -/
def cz (x : List Int) (i : Nat) : Int := x.getD i 0
theorem cz_at {x : List Int} {i : Nat} (h : i < x.length) : cz x i = x[i] := by
  unfold cz
  rw [List.getD_eq_getElem?_getD, List.getElem?_eq_getElem h]
  rfl
theorem cz_out {x : List Int} {i : Nat} (h : ¬ i < x.length) : cz x i = 0 := by
  unfold cz
  rw [List.getD_eq_getElem?_getD, List.getElem?_eq_none (by omega)]
  rfl
theorem adC_cz {a b : List Int} (h : a.length = b.length) (i : Nat) : cz (adC a b) i = cz a i + cz b i := by
  have l := adC_ln a b
  by_cases c : i < a.length
  · rw [cz_at (by omega), cz_at c, cz_at (by omega), adC_at]
  · rw [cz_out (by omega), cz_out c, cz_out (by omega)]
    rfl
theorem leC_cz {a b : List Int} (h : a.length = b.length) (i : Nat) : cz (leC a b) i = cz a i - cz b i := by
  have l := leC_ln a b
  by_cases c : i < a.length
  · rw [cz_at (by omega), cz_at c, cz_at (by omega), leC_at]
  · rw [cz_out (by omega), cz_out c, cz_out (by omega)]
    rfl
theorem hdC_cz (left : List Int) (p t : Int) (i : Nat) : cz (hdC left p t) i = cz left i * p / t := by
  have l : (hdC left p t).length = left.length := by unfold hdC; rw [List.length_map]
  by_cases c : i < left.length
  · rw [cz_at (by omega), cz_at c]
    unfold hdC
    rw [List.getElem_map]
  · rw [cz_out (by omega), cz_out c, Int.zero_mul, Int.zero_ediv]
theorem cz_rep (n i : Nat) : cz (List.replicate n (0 : Int)) i = 0 := by
  by_cases c : i < n
  · rw [cz_at (by simpa using c), List.getElem_replicate]
  · rw [cz_out (by simpa using c)]
def sumAt : List (Int × Int × Int) → Nat → Nat → Int
  | [], _, _ => 0
  | e :: es, r, c => (if e.1.toNat = r ∧ e.2.1.toNat = c then e.2.2 else 0) + sumAt es r c
def fsOf (x t : Int) (es : List (Int × Int × Int)) : List (Int × Int × Int) := es.map fun e => (e.1, e.2.1, x * e.2.2 / t)
def pcs (x t : Int) (es : List (Int × Int × Int)) : List (Int × Int × Int) := match fsOf x t es with
  | [] => []
  | f :: fs => (f.1, f.2.1, f.2.2 + (x - total3 (f :: fs))) :: fs
theorem tot_cons (e : Int × Int × Int) (es : List (Int × Int × Int)) : total3 (e :: es) = e.2.2 + total3 es := by unfold total3; rw [List.map_cons, List.sum_cons]
theorem pcs_cons (x t : Int) (e : Int × Int × Int) (es : List (Int × Int × Int)) : pcs x t (e :: es) = (e.1, e.2.1, x * e.2.2 / t + (x - total3 (fsOf x t (e :: es)))) :: fsOf x t es := by
  unfold pcs fsOf
  rw [List.map_cons]
theorem pcs_sum (x t : Int) (e : Int × Int × Int) (es : List (Int × Int × Int)) : total3 (pcs x t (e :: es)) = x := by
  rw [pcs_cons, tot_cons]
  unfold fsOf
  rw [List.map_cons, tot_cons]
  simp only
  omega
theorem get_put_same {h w n : Nat} {W : List (List (List Int))} (hR : Rect h w n W) {r c : Nat} (hr : r < h) (hc : c < w) (v : List Int) : getC (putC W r c v) r c = v := by
  obtain ⟨_, l, _⟩ := rect_row hR hr
  have hl : r < W.length := by rw [hR.1]; exact hr
  unfold getC putC
  have e1 : (W.set r ((W.getD r []).set c v)).getD r [] = (W.getD r []).set c v := by
    rw [List.getD_eq_getElem?_getD, List.getElem?_set_self hl]
    rfl
  rw [e1, List.getD_eq_getElem?_getD, List.getElem?_set_self (by omega)]
  rfl
theorem put_cz {h w n : Nat} {W : List (List (List Int))} (hR : Rect h w n W) {r' c' : Nat} (hr : r' < h) (hc : c' < w) {v : List Int} (hv : v.length = n) (r c i : Nat) : cz (getC (putC W r' c' (adC (getC W r' c') v)) r c) i = cz (getC W r c) i + (if r' = r ∧ c' = c then cz v i else 0) := by
  by_cases e : r' = r ∧ c' = c
  · obtain ⟨e1, e2⟩ := e
    subst e1 e2
    rw [get_put_same hR hr hc, adC_cz (by rw [(rect_get hR hr hc).2, hv]), if_pos ⟨rfl, rfl⟩]
  · rw [if_neg e, get_put_ne (by omega), Int.add_zero]
theorem rect_add {h w n : Nat} {W : List (List (List Int))} (hR : Rect h w n W) {r' c' : Nat} (hr : r' < h) (hc : c' < w) {v : List Int} (hv : v.length = n) : Rect h w n (putC W r' c' (adC (getC W r' c') v)) := rect_put hR hr (by rw [adC_ln, (rect_get hR hr hc).2, hv, Nat.min_self])
def inG (h w : Nat) (es : List (Int × Int × Int)) : Prop := ∀ e ∈ es, 0 ≤ e.1 ∧ e.1 < h ∧ 0 ≤ e.2.1 ∧ e.2.1 < w
theorem fold_cz {h w n : Nat} {left : List Int} {t : Int} (ll : left.length = n) : ∀ (es : List (Int × Int × Int)) (z : List (List (List Int)) × List Int), Rect h w n z.1 → z.2.length = n → inG h w es →
    (∀ r c i, cz (getC (es.foldl (hStep left t) z).1 r c) i = cz (getC z.1 r c) i + sumAt (fsOf (cz left i) t es) r c) ∧ (∀ i, cz (es.foldl (hStep left t) z).2 i = cz z.2 i - total3 (fsOf (cz left i) t es)) ∧ Rect h w n (es.foldl (hStep left t) z).1 ∧ (es.foldl (hStep left t) z).2.length = n
  | [], z, hR, hl, _ => ⟨fun r c i => by show _ = _ + (0 : Int); rw [Int.add_zero]; rfl, fun i => by show _ = _ - (0 : Int); rw [Int.sub_zero]; rfl, hR, hl⟩
  | e :: es, z, hR, hl, hi => by
    obtain ⟨i1, i2, i3, i4⟩ := hi e (List.mem_cons_self ..)
    have hd : (hdC left e.2.2 t).length = n := by unfold hdC; rw [List.length_map]; exact ll
    have hr : e.1.toNat < h := by omega
    have hc : e.2.1.toNat < w := by omega
    obtain ⟨k1, k2, k3, k4⟩ := fold_cz ll es (hStep left t z e) (rect_add hR hr hc hd) (by show (leC _ _).length = n; rw [leC_ln, hl, hd, Nat.min_self]) fun x hx => hi x (List.mem_cons_of_mem _ hx)
    rw [List.foldl_cons]
    refine ⟨fun r c i => ?_, fun i => ?_, k3, k4⟩
    · rw [k1]
      show cz (getC (putC z.1 _ _ (adC (getC z.1 _ _) _)) r c) i + _ = _
      rw [put_cz hR hr hc hd, hdC_cz]
      show _ = _ + (_ + sumAt (fsOf (cz left i) t es) r c)
      show _ = _ + ((if e.1.toNat = r ∧ e.2.1.toNat = c then cz left i * e.2.2 / t else 0) + _)
      omega
    · rw [k2]
      show cz (leC z.2 _) i - _ = _
      rw [leC_cz (by rw [hl, hd]), hdC_cz]
      have : total3 (fsOf (cz left i) t (e :: es)) = cz left i * e.2.2 / t + total3 (fsOf (cz left i) t es) := by unfold fsOf; rw [List.map_cons, tot_cons]
      omega
theorem hand_cz {h w n : Nat} {W : List (List (List Int))} {shs : List (Int × Int × Int)} {r c : Nat} {sd : Int} {col : List Int} (hR : Rect h w n W) (hr : r < h) (hc : c < w) (cl : col.length = n) (hi : inG h w (thereOf h w shs r c sd)) :
    (∀ r' c' i, cz (getC (handW h w W shs r c sd col).1 r' c') i = cz (getC W r' c') i + sumAt (pcs (cz (leC (getC W r c) col) i) (total3 shs) (thereOf h w shs r c sd)) r' c') ∧ (∀ i, cz (handW h w W shs r c sd col).2 i = if thereOf h w shs r c sd = [] then cz (leC (getC W r c) col) i else 0) := by
  have ll : (leC (getC W r c) col).length = n := by rw [leC_ln, (rect_get hR hr hc).2, cl, Nat.min_self]
  unfold handW
  cases te : thereOf h w shs r c sd with
  | nil =>
    refine ⟨fun r' c' i => ?_, fun i => ?_⟩
    · show _ = _ + (0 : Int)
      rw [Int.add_zero]
    · rw [if_pos rfl]
  | cons e es =>
    rw [te] at hi
    obtain ⟨i1, i2, i3, i4⟩ := hi e (List.mem_cons_self ..)
    obtain ⟨k1, k2, k3, k4⟩ := fold_cz (t := total3 shs) ll (e :: es) (W, leC (getC W r c) col) hR ll hi
    simp only at k1 k2
    refine ⟨fun r' c' i => ?_, fun i => ?_⟩
    · simp only
      rw [put_cz k3 (by omega) (by omega) k4, k1, k2, pcs_cons]
      show _ + ((if e.1.toNat = r' ∧ e.2.1.toNat = c' then cz (leC (getC W r c) col) i * e.2.2 / total3 shs else 0) + sumAt (fsOf (cz (leC (getC W r c) col) i) (total3 shs) es) r' c') + _ = _ + ((if e.1.toNat = r' ∧ e.2.1.toNat = c' then cz (leC (getC W r c) col) i * e.2.2 / total3 shs + (cz (leC (getC W r c) col) i - total3 (fsOf (cz (leC (getC W r c) col) i) (total3 shs) (e :: es))) else 0) + sumAt (fsOf (cz (leC (getC W r c) col) i) (total3 shs) es) r' c')
      split <;> omega
    · rw [if_neg (fun z => nomatch z)]
      exact cz_rep _ _
/-! all together -/
def gS (W : List (List (List Int))) (i : Nat) : Int := (W.map fun p => (p.map fun c => cz c i).sum).sum
theorem sum_set : ∀ (l : List Int) (k : Nat) (x : Int) (h : k < l.length), (l.set k x).sum = l.sum - l[k] + x
  | [], _, _, h => by simp at h
  | a :: l, 0, x, _ => by simp; omega
  | a :: l, k + 1, x, h => by
    have := sum_set l k x (by simpa using h)
    simp only [List.set_cons_succ, List.sum_cons, List.getElem_cons_succ]
    omega
theorem gS_put {h w n : Nat} {W : List (List (List Int))} (hR : Rect h w n W) {r c : Nat} (hr : r < h) (hc : c < w) (v : List Int) (i : Nat) : gS (putC W r c v) i = gS W i - cz (getC W r c) i + cz v i := by
  obtain ⟨e1, l, _⟩ := rect_row hR hr
  have hl : r < W.length := by rw [hR.1]; exact hr
  obtain ⟨e2, _⟩ := rect_get hR hr hc
  unfold gS putC
  rw [List.map_set, List.map_set, sum_set _ _ _ (by simpa using hl), sum_set _ _ _ (by rw [List.length_map, l]; exact hc)]
  have e3 : W[r] = W.getD r [] := by
    rw [List.getElem?_eq_getElem hl] at e1
    exact Option.some.inj e1
  have e4 : (W.getD r [])[c]'(by omega) = getC W r c := by
    rw [List.getElem?_eq_getElem (by omega)] at e2
    exact Option.some.inj e2
  simp only [List.getElem_map, e3, e4]
  omega
theorem gS_add {h w n : Nat} {W : List (List (List Int))} (hR : Rect h w n W) {r c : Nat} (hr : r < h) (hc : c < w) {v : List Int} (hv : v.length = n) (i : Nat) : gS (putC W r c (adC (getC W r c) v)) i = gS W i + cz v i := by
  rw [gS_put hR hr hc, adC_cz (by rw [(rect_get hR hr hc).2, hv])]
  omega
theorem gS_fold {h w n : Nat} {left : List Int} {t : Int} (ll : left.length = n) (i : Nat) : ∀ (es : List (Int × Int × Int)) (z : List (List (List Int)) × List Int), Rect h w n z.1 → z.2.length = n → inG h w es → gS (es.foldl (hStep left t) z).1 i = gS z.1 i + total3 (fsOf (cz left i) t es)
  | [], z, _, _, _ => by
    show _ = _ + (0 : Int)
    rw [Int.add_zero]
    rfl
  | e :: es, z, hR, hl, hi => by
    obtain ⟨i1, i2, i3, i4⟩ := hi e (List.mem_cons_self ..)
    have hd : (hdC left e.2.2 t).length = n := by unfold hdC; rw [List.length_map]; exact ll
    have hr : e.1.toNat < h := by omega
    have hc : e.2.1.toNat < w := by omega
    rw [List.foldl_cons, gS_fold ll i es (hStep left t z e) (rect_add hR hr hc hd) (by show (leC _ _).length = n; rw [leC_ln, hl, hd, Nat.min_self]) fun x hx => hi x (List.mem_cons_of_mem _ hx)]
    show gS (putC z.1 _ _ (adC (getC z.1 _ _) _)) i + _ = _
    rw [gS_add hR hr hc hd, hdC_cz]
    have : total3 (fsOf (cz left i) t (e :: es)) = cz left i * e.2.2 / t + total3 (fsOf (cz left i) t es) := by unfold fsOf; rw [List.map_cons, tot_cons]
    omega
theorem gS_hand {h w n : Nat} {W : List (List (List Int))} {shs : List (Int × Int × Int)} {r c : Nat} {sd : Int} {col : List Int} (hR : Rect h w n W) (hr : r < h) (hc : c < w) (cl : col.length = n) (hi : inG h w (thereOf h w shs r c sd)) (i : Nat) :
    gS (handW h w W shs r c sd col).1 i + cz (handW h w W shs r c sd col).2 i = gS W i + cz (leC (getC W r c) col) i := by
  have ll : (leC (getC W r c) col).length = n := by rw [leC_ln, (rect_get hR hr hc).2, cl, Nat.min_self]
  unfold handW
  cases te : thereOf h w shs r c sd with
  | nil => rfl
  | cons e es =>
    rw [te] at hi
    obtain ⟨i1, i2, i3, i4⟩ := hi e (List.mem_cons_self ..)
    obtain ⟨k1, k2, k3, k4⟩ := fold_cz (t := total3 shs) ll (e :: es) (W, leC (getC W r c) col) hR ll hi
    simp only
    rw [gS_add k3 (by omega) (by omega) k4, gS_fold ll i (e :: es) (W, leC (getC W r c) col) hR ll hi, k2, cz_rep]
    simp only
    omega
theorem sum_rev (xs : List Int) : xs.reverse.sum = xs.sum := by
  induction xs with
  | nil => rfl
  | cons x xs ih =>
    rw [List.reverse_cons, List.sum_append, ih, List.sum_cons, List.sum_cons, List.sum_nil]
    omega
theorem spRow_sum (t : Bool) (r n : Nat) (f : Nat → Nat → Int) : ((spRow t r n).map fun s => f (sR s) (sC s)).sum = ((List.range n).map fun c => f r c).sum := by
  unfold spRow
  split
  · rw [List.map_map]
    have e : ((fun s => f (sR s) (sC s)) ∘ fun (c : Nat) => [(r : Int), ((n - 1 - c : Nat) : Int), -1]) = (fun c => f r c) ∘ fun c => n - 1 - c := by
      funext c
      show f (sR _) (sC _) = f r (n - 1 - c)
      rw [sR3, sC3]
    rw [e, ← List.map_map, PySem.W.krv_range, List.map_reverse, sum_rev]
  · rw [List.map_map]
    have e : ((fun s => f (sR s) (sC s)) ∘ fun (c : Nat) => [(r : Int), (c : Int), 1]) = fun c => f r c := by
      funext c
      show f (sR _) (sC _) = f r c
      rw [sR3, sC3]
    rw [e]
theorem spots_sum {h w n : Nat} {ps : List (List (List Int))} (hR : Rect h w n ps) (t : Bool) (f : Nat → Nat → Int) : ∀ m, m ≤ h → ((spotsOf t ps m).map fun s => f (sR s) (sC s)).sum = ((List.range m).map fun r => ((List.range w).map fun c => f r c).sum).sum
  | 0, _ => by simp [spotsOf]
  | m + 1, hm => by
    rw [spots_succ, List.map_append, List.sum_append, spots_sum hR t f m (by omega), spRow_sum, (rect_row hR (r := m) (by omega)).2.1, List.range_succ, List.map_append, List.sum_append]
    simp
theorem gS_eq {h w n : Nat} {W : List (List (List Int))} (hR : Rect h w n W) (i : Nat) : gS W i = ((List.range h).map fun r => ((List.range w).map fun c => cz (getC W r c) i).sum).sum := by
  unfold gS
  congr 1
  refine List.ext_getElem (by simp; exact hR.1) fun r h1 h2 => ?_
  have hr : r < h := by simpa using h2
  rw [List.getElem_map, List.getElem_map, List.getElem_range]
  congr 1
  obtain ⟨e1, l, _⟩ := rect_row hR hr
  have hl : r < W.length := by rw [hR.1]; exact hr
  have e3 : W[r] = W.getD r [] := by
    rw [List.getElem?_eq_getElem hl] at e1
    exact Option.some.inj e1
  rw [e3]
  refine List.ext_getElem (by rw [List.length_map, l, List.length_map, List.length_range]) fun c h3 h4 => ?_
  have hc : c < w := by simpa using h4
  obtain ⟨e2, _⟩ := rect_get hR hr hc
  rw [List.getElem_map, List.getElem_map, List.getElem_range]
  rw [List.getElem?_eq_getElem (by omega)] at e2
  rw [Option.some.inj e2]
theorem told_eq {h w : Nat} {N : List (List Int)} (hN : nRect h w N) (f : Int → Int) : (N.map fun p => (p.map f).sum).sum = ((List.range h).map fun r => ((List.range w).map fun c => f ((N.getD r []).getD c 0)).sum).sum := by
  congr 1
  refine List.ext_getElem (by simp; exact hN.1) fun r h1 h2 => ?_
  have hr : r < h := by simpa using h2
  have hl : r < N.length := by rw [hN.1]; exact hr
  rw [List.getElem_map, List.getElem_map, List.getElem_range]
  congr 1
  have en : N.getD r [] = N[r] := by rw [List.getD_eq_getElem?_getD, List.getElem?_eq_getElem hl]; rfl
  have lw := hN.2 _ (List.getElem_mem hl)
  rw [en]
  refine List.ext_getElem (by rw [List.length_map, lw, List.length_map, List.length_range]) fun c h3 h4 => ?_
  have hc : c < w := by simpa using h4
  rw [List.getElem_map, List.getElem_map, List.getElem_range]
  rw [List.getD_eq_getElem?_getD, List.getElem?_eq_getElem (by omega)]
  rfl
def numAt (ns : List (List Int)) (s : List Int) : Nat := ((ns.getD (sR s) []).getD (sC s) 0).toNat
def numsOk (h w m : Nat) (ns : List (List Int)) : Prop := ns.length = h ∧ ∀ r ∈ ns, r.length = w ∧ ∀ x ∈ r, 0 ≤ x ∧ x < (m : Int)
theorem num_in {h w m : Nat} {ns : List (List Int)} (o : numsOk h w m ns) {r c : Nat} (hr : r < h) (hc : c < w) : ∃ row x, ns[r]? = some row ∧ row[c]? = some x ∧ (ns.getD r []).getD c 0 = x ∧ 0 ≤ x ∧ x < (m : Int) := by
  have hl : r < ns.length := by rw [o.1]; exact hr
  have o2 := o.2 _ (List.getElem_mem hl)
  have hc2 : c < ns[r].length := by rw [o2.1]; exact hc
  refine ⟨ns[r], ns[r][c], List.getElem?_eq_getElem hl, List.getElem?_eq_getElem hc2, ?_, o2.2 _ (List.getElem_mem hc2)⟩
  rw [List.getD_eq_getElem?_getD, List.getD_eq_getElem?_getD, List.getElem?_eq_getElem hl, Option.getD_some, List.getElem?_eq_getElem hc2]
  rfl
theorem col_len {h w n m : Nat} {cs ns : List (List Int)} (hm : cs.length = m) (o : numsOk h w m ns) (cl : ∀ c ∈ cs, c.length = n) {s : List Int} (hr : sR s < h) (hc : sC s < w) : (cs.getD ((ns.getD (sR s) []).getD (sC s) 0).toNat []).length = n := by
  obtain ⟨row, x, _, _, e, x0, x1⟩ := num_in o hr hc
  rw [e]
  have : x.toNat < cs.length := by omega
  rw [List.getD_eq_getElem?_getD, List.getElem?_eq_getElem this]
  exact cl _ (List.getElem_mem this)
theorem there_inG {h w : Nat} {shs : List (Int × Int × Int)} {r c : Nat} {sd : Int} (sok : ∀ s ∈ shs, 0 ≤ s.2.1 ∧ 0 < s.2.2 ∧ s.2.2 ≤ 1000) : inG h w (thereOf h w shs r c sd) := fun e he => by
  obtain ⟨h1, h2, h3, h4, _⟩ := there_in sok e he
  exact ⟨h1, h2, h3, h4⟩
theorem g_rect {h w n m : Nat} {shs : List (Int × Int × Int)} {cs ns : List (List Int)} (hm : cs.length = m) (o : numsOk h w m ns) (cl : ∀ c ∈ cs, c.length = n) (sok : ∀ s ∈ shs, 0 ≤ s.2.1 ∧ 0 < s.2.2 ∧ s.2.2 ≤ 1000) : ∀ (ss : List (List Int)) (z : List (List (List Int)) × List Int), (∀ s ∈ ss, sR s < h ∧ sC s < w ∧ (sS s = 1 ∨ sS s = -1)) → Rect h w n z.1 → z.2.length = n → Rect h w n (ss.foldl (gStep h w shs cs ns) z).1 ∧ (ss.foldl (gStep h w shs cs ns) z).2.length = n
  | [], _, _, h1, h2 => ⟨h1, h2⟩
  | a :: ss, z, ok, h1, h2 => by
    have oa := ok a (List.mem_cons_self ..)
    rw [List.foldl_cons]
    obtain ⟨k1, k2⟩ := rect_hand (sd := sS a) h1 oa.1 oa.2.1 (col_len hm o cl oa.1 oa.2.1) sok
    refine g_rect hm o cl sok ss _ (fun x hx => ok x (List.mem_cons_of_mem _ hx)) k1 ?_
    show (adC z.2 _).length = n
    rw [adC_ln, h2, k2, Nat.min_self]
theorem g_all {h w n m : Nat} {shs : List (Int × Int × Int)} {cs ns : List (List Int)} (hm : cs.length = m) (o : numsOk h w m ns) (cl : ∀ c ∈ cs, c.length = n) (sok : ∀ s ∈ shs, 0 ≤ s.2.1 ∧ 0 < s.2.2 ∧ s.2.2 ≤ 1000) (ord : ∀ s ∈ shs, 0 < s.2.1 ∨ (s.2.1 = 0 ∧ 0 < s.1)) (i : Nat) : ∀ (ss : List (List Int)) (z : List (List (List Int)) × List Int), (∀ s ∈ ss, sR s < h ∧ sC s < w ∧ (sS s = 1 ∨ sS s = -1)) → ss.Pairwise bef → Rect h w n z.1 → z.2.length = n →
    gS (ss.foldl (gStep h w shs cs ns) z).1 i + cz (ss.foldl (gStep h w shs cs ns) z).2 i = gS z.1 i + cz z.2 i + (ss.map fun s => cz (getC (ss.foldl (gStep h w shs cs ns) z).1 (sR s) (sC s)) i - cz (cs.getD (numAt ns s) []) i).sum
  | [], z, _, _, _, _ => by simp
  | a :: ss, z, ok, pw, h1, h2 => by
    obtain ⟨p1, p2⟩ := List.pairwise_cons.mp pw
    have oa := ok a (List.mem_cons_self ..)
    have hcl := col_len hm o cl oa.1 oa.2.1
    obtain ⟨k1, k2⟩ := rect_hand (sd := sS a) h1 oa.1 oa.2.1 hcl sok
    have hz2 : (gStep h w shs cs ns z a).2.length = n := by
      show (adC z.2 _).length = n
      rw [adC_ln, h2, k2, Nat.min_self]
    have hb : ∀ x ∈ a :: ss, (sS x = 1 ∨ sS x = -1) ∧ (sR a < sR x ∨ (sR a = sR x ∧ sS x * (sC a : Int) ≤ sS x * (sC x : Int))) := fun x hx => by
      rcases List.mem_cons.mp hx with e | e
      · subst e
        exact ⟨oa.2.2, .inr ⟨rfl, Int.le_refl _⟩⟩
      · refine ⟨(ok x hx).2.2, ?_⟩
        rcases p1 x e with b | b
        · exact .inl b
        · exact .inr ⟨b.1, Int.le_of_lt b.2⟩
    have hk := keepg_fold (ns := ns) (cs := cs) (h := h) (w := w) ord (a :: ss) z hb
    have ih := g_all hm o cl sok ord i ss (gStep h w shs cs ns z a) (fun x hx => ok x (List.mem_cons_of_mem _ hx)) p2 k1 hz2
    rw [List.foldl_cons] at hk
    rw [List.foldl_cons, ih, List.map_cons, List.sum_cons, hk]
    have hh := gS_hand (sd := sS a) h1 oa.1 oa.2.1 hcl (there_inG sok) i
    have el := leC_cz (show (getC z.1 (sR a) (sC a)).length = (cs.getD ((ns.getD (sR a) []).getD (sC a) 0).toNat []).length by rw [hcl, (rect_get h1 oa.1 oa.2.1).2]) i
    have ea : cz (gStep h w shs cs ns z a).2 i = cz z.2 i + cz (handW h w z.1 shs (sR a) (sC a) (sS a) (cs.getD ((ns.getD (sR a) []).getD (sC a) 0).toNat [])).2 i := adC_cz (by rw [h2, k2]) i
    have eg : gS (gStep h w shs cs ns z a).1 i = gS (handW h w z.1 shs (sR a) (sC a) (sS a) (cs.getD ((ns.getD (sR a) []).getD (sC a) 0).toNat [])).1 i := rfl
    show _ = _ + _ + (cz (getC z.1 (sR a) (sC a)) i - cz (cs.getD ((ns.getD (sR a) []).getD (sC a) 0).toNat []) i + _)
    omega
theorem g_kept {h w n m : Nat} {t : Bool} {ps : List (List (List Int))} {shs : List (Int × Int × Int)} {cs ns : List (List Int)} (hm : cs.length = m) (o : numsOk h w m ns) (cl : ∀ c ∈ cs, c.length = n) (sok : ∀ s ∈ shs, 0 ≤ s.2.1 ∧ 0 < s.2.2 ∧ s.2.2 ≤ 1000) (ord : ∀ s ∈ shs, 0 < s.2.1 ∨ (s.2.1 = 0 ∧ 0 < s.1)) (hR : Rect h w n ps) (i : Nat) :
    gS ps i = (ns.map fun p => (p.map fun x => cz (cs.getD x.toNat []) i).sum).sum + cz (gW h w n t ps shs cs ns).2 i := by
  have ha := g_all hm o cl sok ord i (spotsOf t ps h) (ps, List.replicate n 0) (sp_ok hR t h (Nat.le_refl _)) (sp_pw hR t h (Nat.le_refl _)) hR (by simp)
  obtain ⟨k1, _⟩ := g_rect hm o cl sok (spotsOf t ps h) (ps, List.replicate n 0) (sp_ok hR t h (Nat.le_refl _)) hR (by simp)
  have e0 : gW h w n t ps shs cs ns = (spotsOf t ps h).foldl (gStep h w shs cs ns) (ps, List.replicate n 0) := by unfold gW; rw [hR.1]
  rw [← e0] at ha k1
  rw [cz_rep] at ha
  have hs := spots_sum hR t (fun r c => cz (getC (gW h w n t ps shs cs ns).1 r c) i - cz (cs.getD ((ns.getD r []).getD c 0).toNat []) i) h (Nat.le_refl _)
  have h1 := gS_eq k1 i
  have h2 := told_eq (h := h) (w := w) ⟨o.1, fun r hr => (o.2 r hr).1⟩ (fun x => cz (cs.getD x.toNat []) i)
  have split2 : ∀ (f g : Nat → Nat → Int), ((List.range h).map fun r => ((List.range w).map fun c => f r c - g r c).sum).sum = ((List.range h).map fun r => ((List.range w).map fun c => f r c).sum).sum - ((List.range h).map fun r => ((List.range w).map fun c => g r c).sum).sum := fun f g => by
    have one : ∀ (xs : List Nat) (f g : Nat → Int), (xs.map fun c => f c - g c).sum = (xs.map f).sum - (xs.map g).sum := fun xs f g => by
      induction xs with
      | nil => rfl
      | cons x xs ih => simp only [List.map_cons, List.sum_cons, ih]; omega
    rw [← one (List.range h) (fun r => ((List.range w).map fun c => f r c).sum) (fun r => ((List.range w).map fun c => g r c).sum)]
    congr 1
    exact List.map_congr_left fun r _ => one _ _ _
  rw [split2] at hs
  unfold numAt at ha
  rw [hs] at ha
  simp only at ha
  omega
/-! ### put on what is handed: a dict of lists -/
def adL (h w : Nat) (ad : Nat → Nat → Addr) : List Addr := ((List.range h).map fun r => (List.range w).map fun c => ad r c).flatten
theorem mem_adL {h w : Nat} {ad : Nat → Nat → Addr} {r c : Nat} (hr : r < h) (hc : c < w) : ad r c ∈ adL h w ad := by
  unfold adL
  refine List.mem_flatten.mpr ⟨(List.range w).map fun c => ad r c, List.mem_map.mpr ⟨r, List.mem_range.mpr hr, rfl⟩, List.mem_map.mpr ⟨c, List.mem_range.mpr hc, rfl⟩⟩
theorem of_adL {h w : Nat} {ad : Nat → Nat → Addr} {a : Addr} (m : a ∈ adL h w ad) : ∃ r c, r < h ∧ c < w ∧ a = ad r c := by
  unfold adL at m
  obtain ⟨l, m1, m2⟩ := List.mem_flatten.mp m
  obtain ⟨r, hr, rfl⟩ := List.mem_map.mp m1
  obtain ⟨c, hc, rfl⟩ := List.mem_map.mp m2
  exact ⟨r, c, List.mem_range.mp hr, List.mem_range.mp hc, rfl⟩
structure Hd (B : List Addr) (H : Hp) (da : Addr) (ad : Nat → Nat → Addr) (h w n : Nat) (G : Nat → Nat → List Int) : Prop where
  kv : ∃ kvs, H da = some (.dT kvs) ∧ ∀ r c : Nat, r < h → c < w → valV kvs [.inl (r : Int), .inl (c : Int)] = some (.ref (ad r c))
  nd : da ∉ B
  nb : ∀ r c, r < h → c < w → ad r c ∉ B ∧ ad r c ≠ da
  inj : ∀ r c r' c', r < h → c < w → r' < h → c' < w → ad r c = ad r' c' → r = r' ∧ c = c'
  l : ∀ r c, r < h → c < w → H (ad r c) = some (.lst ((G r c).map V.int)) ∧ (G r c).length = n
section
variable {B : List Addr} {H H' : Hp} {da : Addr} {ad : Nat → Nat → Addr} {h w n : Nat} {G : Nat → Nat → List Int}
theorem Hd.g (x : Hd B H da ad h w n G) (g : Go B H H') : Hd B H' da ad h w n G := by
  obtain ⟨⟨kvs, e, f⟩, nd, nb, inj, l⟩ := x
  exact ⟨⟨kvs, g.k _ _ nd e, f⟩, nd, nb, inj, fun r c hr hc => ⟨g.k _ _ (nb r c hr hc).1 (l r c hr hc).1, (l r c hr hc).2⟩⟩
theorem Hd.s (x : Hd B H da ad h w n G) (s : Same H H') : Hd B H' da ad h w n G := x.g (Go.of s)
def putG (G : Nat → Nat → List Int) (r c : Nat) (v : List Int) : Nat → Nat → List Int := fun r' c' => if r = r' ∧ c = c' then v else G r' c'
theorem Hd.set (x : Hd B H da ad h w n G) {r c : Nat} (hr : r < h) (hc : c < w) {v : List Int} (hv : v.length = n) : Hd B (upd H (ad r c) (.lst (v.map V.int))) da ad h w n (putG G r c v) := by
  obtain ⟨⟨kvs, e, f⟩, nd, nb, inj, l⟩ := x
  refine ⟨⟨kvs, by rw [upd_ne (Ne.symm (nb r c hr hc).2)]; exact e, f⟩, nd, nb, inj, fun r' c' hr' hc' => ?_⟩
  unfold putG
  by_cases q : r = r' ∧ c = c'
  · rw [if_pos q, ← q.1, ← q.2]
    exact ⟨upd_same, hv⟩
  · rw [if_neg q, upd_ne (fun z => q (by obtain ⟨a, b⟩ := inj _ _ _ _ hr' hc' hr hc z; exact ⟨a.symm, b.symm⟩))]
    exact l r' c' hr' hc'
theorem Hd.get (x : Hd B H da ad h w n G) {r c : Nat} (hr : r < h) (hc : c < w) {p : Addr} (e : H p = some (.tup [.int (r : Int), .int (c : Int)])) : DGet H da (.ref p) (some (.ref (ad r c))) := by
  obtain ⟨⟨kvs, e1, f⟩, _⟩ := x
  rw [← f r c hr hc]
  exact DGet.t e1 e
end
theorem czV {xs : List Int} {c : Nat} (h : c < xs.length) : (xs.map V.int)[c]? = some (.int (cz xs c)) := by
  rw [List.getElem?_map, List.getElem?_eq_getElem h, cz_at h]
  rfl
theorem fm_get3 {α β : Type} {n : Nat} (xs : List α) (f : α → β) (h : n = xs.length) : (List.range n).filterMap (fun i => (xs[i]?).map f) = xs.map f := by
  have e : (fun i : Nat => (xs[i]?).map f) = fun i : Nat => (xs.map f)[i]? := by funext i; rw [List.getElem?_map]
  rw [e, fm_all (by rw [List.length_map]; exact h.symm)]
theorem sumAt_snoc : ∀ (es : List (Int × Int × Int)) (e : Int × Int × Int) (r c : Nat), sumAt (es ++ [e]) r c = sumAt es r c + (if e.1.toNat = r ∧ e.2.1.toNat = c then e.2.2 else 0)
  | [], e, r, c => by show _ + (0 : Int) = (0 : Int) + _; omega
  | a :: es, e, r, c => by
    show _ + sumAt (es ++ [e]) r c = _ + sumAt es r c + _
    rw [sumAt_snoc es e r c]
    omega
theorem pcs_in {h w : Nat} {x t : Int} {es : List (Int × Int × Int)} (hi : inG h w es) : inG h w (pcs x t es) := by
  cases es with
  | nil => exact fun _ h => nomatch h
  | cons e es =>
    rw [pcs_cons]
    intro z hz
    rcases List.mem_cons.mp hz with y | y
    · rw [y]
      exact hi e (List.mem_cons_self ..)
    · obtain ⟨a, ha, rfl⟩ := List.mem_map.mp y
      exact hi a (List.mem_cons_of_mem _ ha)
theorem pcs_len (x t : Int) (es : List (Int × Int × Int)) : (pcs x t es).length = es.length := by
  cases es with
  | nil => rfl
  | cons e es => rw [pcs_cons, List.length_cons, List.length_cons]; unfold fsOf; rw [List.length_map]
theorem pcs_vals {x t : Int} {es es1 : List (Int × Int × Int)} {e1 : Int × Int × Int} (h : es = e1 :: es1) : (es.map fun s => x * s.2.2 / t).set 0 (x * e1.2.2 / t + x - (es.map fun s => x * s.2.2 / t).sum) = (pcs x t es).map fun s => s.2.2 := by
  subst h
  have e : (fsOf x t (e1 :: es1)).map (fun s => s.2.2) = (e1 :: es1).map fun s => x * s.2.2 / t := by unfold fsOf; rw [List.map_map]; rfl
  have e2 : (fsOf x t es1).map (fun s => s.2.2) = es1.map fun s => x * s.2.2 / t := by unfold fsOf; rw [List.map_map]; rfl
  rw [pcs_cons]
  unfold total3
  rw [e]
  simp only [List.map_cons, List.set_cons_zero]
  rw [e2]
  congr 1
  omega
theorem pcs_pos (x t : Int) (es : List (Int × Int × Int)) : ∀ j : Nat, ((pcs x t es)[j]?).map (fun e => (e.1, e.2.1)) = (es[j]?).map fun e => (e.1, e.2.1) := by
  cases es with
  | nil => intro j; rfl
  | cons e es =>
    rw [pcs_cons]
    intro j
    cases j with
    | zero => rfl
    | succ j =>
      rw [List.getElem?_cons_succ, List.getElem?_cons_succ]
      unfold fsOf
      rw [List.getElem?_map, Option.map_map]
      rfl
theorem cz_set {x : List Int} {i : Nat} (h : i < x.length) (v : Int) (j : Nat) : cz (x.set i v) j = if j = i then v else cz x j := by
  unfold cz
  rw [List.getD_eq_getElem?_getD, List.getD_eq_getElem?_getD]
  by_cases e : j = i
  · subst e
    rw [if_pos rfl, List.getElem?_set_self h]
    rfl
  · rw [if_neg e, List.getElem?_set_ne (Ne.symm e)]
theorem ints_set (x : List Int) (i : Nat) (v : Int) : (x.map V.int).set i (.int v) = (x.set i v).map V.int := by rw [List.map_set]
def spPutOn : Sp := fun vs H Q _ => ∃ (B : List Addr) (da la : Addr) (iv : V) (ad : Nat → Nat → Addr) (h w n i : Nat) (G : Nat → Nat → List Int) (lo : List Int) (es : List (Int × Int × Int)) (t x : Int), vs = [.ref da, .ref la, iv, .int t, .int (i : Int), .int x] ∧ Hd (la :: B) H da ad h w n G ∧ H la = some (.lst (lo.map V.int)) ∧ lo.length = n ∧ i < n ∧ Dt (da :: la :: adL h w ad ++ B) H iv (eP (es.map e3)) ∧ inG h w es ∧ Bk (da :: la :: adL h w ad ++ B) H ∧ es.length ≤ 100 ∧ (es ≠ [] → 0 < t) ∧ t ≤ 100000 ∧ (∀ e ∈ es, 0 < e.2.2 ∧ e.2.2 ≤ 1000) ∧
  ∀ H' G' lo', Go (la :: adL h w ad) H H' → Hd (la :: B) H' da ad h w n G' → H' la = some (.lst (lo'.map V.int)) → lo'.length = n → (∀ r c j, r < h → c < w → cz (G' r c) j = cz (G r c) j + if j = i then sumAt (pcs x t es) r c else 0) → (∀ j, cz lo' j = cz lo j + if j = i ∧ es = [] then x else 0) → Q .non H'
set_option maxHeartbeats 2000000 in
theorem ok_l_put_on (T : Tx K mg) {k : Nat} : FnOk P w K mg base CX0 (k + 1) T.f_l_put_on T.d_l_put_on ["_law_handed", "_law_lost", "_law_inside", "_law_total", "_law_place", "_law_rest"] spPutOn := by
  refine T.F_l_put_on.ok sc_l_put_on (fun vs H Q E h => ?_) (fun cdv A outer s H vs Q E hr h => ?_)
  · obtain ⟨B, da, la, iv, ad, h, w, n, i, G, lo, es, t, x, rfl, _⟩ := h
    rfl
  · obtain ⟨B, da, la, iv, ad, h, w, n, i, G, lo, es, t, x, rfl, hd, ela, ll, hi, di, ig, hB, el, t0, t1, eok, q⟩ := h
    obtain ⟨ia, ivs, rfl, nia, eia, hI⟩ := di.pal
    have li := hI.len
    rw [List.length_map, List.length_map] at li
    have shP : Sh (eP (es.map e3)) 2 := sh_eP (by rw [List.length_map]; omega) fun x hx => by
      obtain ⟨e, _, rfl⟩ := List.mem_map.mp hx
      simp [e3]
    refine ⟨_, (pss_cons (ps_if (pt_cmpR (op_eqDK K hr.units) (pv 2) (pe_lst pa_nil) (nomark _)) (pss_cons (ps_asg (pe_op op_add (pe_ix (ix_listK K) (pv 1) (pv 4) (fun _ _ => rfl)) (pv 5)) (pg_sub (pv 1) (pv 4) set_list))
      (pss_one ps_retN)) pss_nil)
      (pss_cons (ps_setLc (i := 6) (own := [("_law_row", 7), ("_law_column", 8), ("_law_parts", 9)]) (by rfl) sc_l_put_on.nd rfl rfl (sw_true rfl rfl rfl (by decide +kernel)) (pi_listK K (pv 2)) (blkOk_by (own := [("_law_row", 7), ("_law_column", 8), ("_law_parts", 9)]) (N := N_l_put_on) (sc := defScope s_l_put_on) (by decide +kernel)) (fun _ _ _ _ _ => (pg_tupK K (n := 3) rfl (pgs_cons (pg_name (i := 7) sc_l_put_on.nd rfl (.inl rfl)) (pgs_cons (pg_name (i := 8) sc_l_put_on.nd rfl (.inl rfl)) (pgs_cons (pg_name (i := 9) sc_l_put_on.nd rfl (.inl rfl)) pgs_nil))))) (fun _ _ _ _ _ => pts_nil) (fun _ _ _ _ _ => (pe_op op_fdiv (pe_op op_mul (pv 5) (pv 9)) (pv 3))))
      (pss_cons (ps_asg (pe_op op_sub (pe_op op_add (pe_ix (ix_listK K) (pv 6) pe_int (fun _ _ => rfl)) (pv 5)) (pe_callB (cr_sumK K rfl) (by rfl) T.z_sum (by decide +kernel) (pa_cons (pv 6) pa_nil))) (pg_sub (pv 6) pe_int set_list))
      (pss_one (ps_for PassesOwn.never rfl (RZ.pi_zipA (by rfl) T.z_zip (pa_cons (pv 2) (pa_cons (pv 6) pa_nil))) (pg_tupK K (n := 2) rfl (pgs_cons (pg_tupK K (n := 3) rfl (pgs_cons (pg_name (i := 7) sc_l_put_on.nd rfl (.inl rfl)) (pgs_cons (pg_name (i := 8) sc_l_put_on.nd rfl (.inl rfl)) (pgs_cons (pg_name (i := 9) sc_l_put_on.nd rfl (.inl rfl)) pgs_nil)))) (pgs_cons (pg_name (i := 10) sc_l_put_on.nd rfl (.inl rfl)) pgs_nil))) (pss_one (ps_asg (pe_op op_add (pe_ix (ix_listK K) (pe_dget (hu_of hr) (pv 0) (pe_tup (pa_cons (pv 7) (pa_cons (pv 8) pa_nil))) (fun _ _ => rfl)) (pv 4) (fun _ _ => rfl)) (pv 10)) (pg_sub (pe_dget (hu_of hr) (pv 0) (pe_tup (pa_cons (pv 7) (pa_cons (pv 8) pa_nil))) (fun _ _ => rfl)) (pv 4) set_list)))))))), ?_⟩
    refine ⟨_, rfl, Nat.zero_le _, fun zz hzz => ⟨_, .list [], (di.s (sm_new hzz)).dP, .lst (SqL.of upd_same) .nil, shP.sh (by omega), rfl, _, rfl, ite2 (fun e => ?_) (fun e => ?_)⟩⟩
    · have te : es = [] := by
        cases hc : es with
        | nil => rfl
        | cons a b =>
          rw [hc] at e
          exact absurd e (by simp [eP, PyData.eqv, PyData.eqvAll])
      subst te
      have s1 := sm_new (o := .lst []) hzz
      generalize upd H zz (.lst []) = H1 at *
      have ela1 := s1 _ _ ela
      refine ⟨_, rfl, _, rfl, la, _, (i : Int), .int (cz lo i), rfl, rfl, SqL.of ela1, atI_nat (czV (by omega)), _, rfl, _, _, rfl, rfl, ?_⟩
      refine ⟨_, rfl, _, rfl, la, _, (i : Int), i, rfl, rfl, ela1, by rw [List.length_map]; exact ixN0 (by omega) (by omega), ?_⟩
      rw [ints_set]
      refine q _ G _ ((Go.of s1).at (by simp)) ((hd.s s1).g (Go.refl.at (by simp))) upd_same (by rw [List.length_set]; exact ll) (fun r c j _ _ => ?_) (fun j => ?_)
      · show _ = _ + (if j = i then (0 : Int) else 0)
        split <;> omega
      · rw [cz_set (by omega)]
        by_cases c : j = i
        · rw [if_pos c, if_pos ⟨c, rfl⟩, c]
        · rw [if_neg c, if_neg (fun z => c z.1)]
          omega
    have s1 := sm_new (o := .lst []) hzz
    generalize upd H zz (.lst []) = H1 at *
    have ne : es ≠ [] := fun z => e (by rw [z]; simp [eP, PyData.eqv, PyData.eqvAll])
    have t0 := t0 ne
    have eia1 := s1 _ _ eia
    have hI1 := hI.s s1
    have hd1 := hd.s s1
    have ela1 := s1 _ _ ela
    have B1 := hB.go (Go.of (B := []) s1)
    refine ⟨_, rfl, ia, rfl, ⟨_, SqL.of eia1⟩, fun D hD => ?_⟩
    refine lc_pure (σ := [some (.ref da), some (.ref la), some (.ref ia), some (.int t), some (.int (i : Int)), some (.int x), none, none, none, none, none]) (B := []) (walk_list (xs := ivs)) hD (fun _ h => nomatch h) (fun H' s' => SqL.of (s' _ _ eia1)) (by omega)
      (fun j => (es[j]?).map fun s => PyData.int (x * s.2.2 / t)) (fun j y H' H'' Ny Nn hj t1' bk yy ky kn => ?_) (fun H2 ws s2 eD2 hW2 => ?_)
    · obtain ⟨rfl, yy⟩ := yy
      have hj2 : j < es.length := by omega
      obtain ⟨d, f1, g1⟩ := (hI1.s t1').getV yy
      rw [List.getElem?_map, List.getElem?_map, List.getElem?_eq_getElem hj2] at f1
      have ed : d = eC (e3 es[j]) := (Option.some.inj f1).symm
      subst ed
      have oe := eok _ (List.getElem_mem hj2)
      rw [List.getElem?_eq_getElem hj2] at ky
      generalize es[j] = sj at *
      obtain ⟨a1, a2, a3⟩ := sj
      simp only at oe
      obtain ⟨ya, rfl, nya, eya⟩ := g1.col
      change _ = some (HO.tup [V.int a1, V.int a2, V.int a3]) at eya
      refine ⟨ya, [.int a1, .int a2, .int a3], rfl, SqT.of eya, rfl, .int a1, [.int a2, .int a3], rfl, .int a2, [.int a3], rfl, .int a3, [], rfl, rfl, rfl, lc_yes ?_⟩
      refine ⟨_, rfl, _, rfl, _, _, rfl, rfl, .inr ⟨by omega, by omega⟩, _, rfl, _, _, rfl, rfl, ⟨by omega, by omega⟩, ?_⟩
      exact ky _ _ _ rfl (Same.refl _) (.int _)
    rw [fm_get3 _ _ li] at hW2
    have hW3 : DtA [D] H2 ws ((es.map fun s => x * s.2.2 / t).map PyData.int) := by rw [List.map_map]; exact hW2
    have ew := hW3.intsV
    subst ew
    obtain ⟨e1, es1, ee⟩ : ∃ e1 es1, es = e1 :: es1 := by
      cases es with
      | nil => exact absurd rfl ne
      | cons a b => exact ⟨a, b, rfl⟩
    have lgv : (es.map fun s => x * s.2.2 / t).length = es.length := List.length_map _
    refine ⟨_, rfl, D, _, 0, .int (x * e1.2.2 / t), rfl, rfl, SqL.of eD2, atI_nat (j := 0) (by rw [ee]; rfl), _, rfl, _, _, rfl, rfl, _, rfl, D, _, rfl, SqL.of eD2, _, _, rfl, rfl, ?_⟩
    refine ⟨_, rfl, D, _, 0, 0, rfl, rfl, eD2, ixN0 (by omega) (by rw [ee]; simp), ?_⟩
    rw [ints_set, pcs_vals ee]
    have s2' := s1.trans s2
    have s3 : Same H (upd H2 D (.lst (((pcs x t es).map fun s => s.2.2).map V.int))) := sm_mut s2' (s1.free hD)
    have eD3 : (upd H2 D (.lst (((pcs x t es).map fun s => s.2.2).map V.int))) D = some (.lst (((pcs x t es).map fun s => s.2.2).map V.int)) := upd_same
    generalize upd H2 D (.lst (((pcs x t es).map fun s => s.2.2).map V.int)) = H3 at *
    have nD : D ∉ da :: la :: adL h w ad ++ B := hB.ne (s1.free hD)
    have hd3 := hd.s s3
    have ela3 := s3 _ _ ela
    have eia3 := s3 _ _ eia
    have hI3 := hI.s s3
    have B3 := hB.go (Go.of (B := []) s3)
    have lp := pcs_len x t es
    have pin := pcs_in (x := x) (t := t) ig
    have ppos := pcs_pos x t es
    refine ⟨_, rfl, _, rfl, ia, D, _, _, rfl, .inl ⟨SqL.of eia3, SqL.of eD3, for_it (walk_zip (n := es.length) (xs := ivs) (ys := ((pcs x t es).map fun s => s.2.2).map V.int) (by simp; omega)) (fun j σ H' => ∃ y7 y8 y9 y10 G', σ = [some (.ref da), some (.ref la), some (.ref ia), some (.int t), some (.int (i : Int)), some (.int x), some (.ref D), y7, y8, y9, y10] ∧ Go (adL h w ad) H3 H' ∧ Hd (la :: B) H' da ad h w n G' ∧ ∀ r c jj, r < h → c < w → cz (G' r c) jj = cz (G r c) jj + if jj = i then sumAt ((pcs x t es).take j) r c else 0)
      ⟨_, _, _, _, G, rfl, Go.refl, hd3, fun r c jj _ _ => by show _ = _ + (if jj = i then (0 : Int) else 0); split <;> omega⟩ (fun j σ H' _ hh => ?_) (fun j yy σ H4 H5 hj hh y => ?_) (fun σ H4 hh => ?_)⟩⟩
    · obtain ⟨y7, y8, y9, y10, G', rfl, g4, _⟩ := hh
      have m1 : ia ∉ adL h w ad := fun z => nia (by simp [z])
      have m2 : D ∉ adL h w ad := fun z => nD (by simp [z])
      exact ⟨SqL.of (g4.k _ _ m1 eia3), SqL.of (g4.k _ _ m2 eD3)⟩
    · obtain ⟨y7, y8, y9, y10, G', rfl, g4, hd4, vG⟩ := hh
      obtain ⟨p0, v1, v2, rfl, hp0, rfl, f1, f2⟩ := y
      have hj2 : j < (pcs x t es).length := by omega
      have pj := pin _ (List.getElem_mem hj2)
      have pp := ppos j
      rw [List.getElem?_eq_getElem hj2, List.getElem?_eq_getElem hj, Option.map_some, Option.map_some] at pp
      have pp := Option.some.inj pp
      change (((pcs x t es).map fun s => s.2.2).map V.int)[j]? = some v2 at f2
      rw [List.getElem?_map, List.getElem?_map, List.getElem?_eq_getElem hj2] at f2
      have ev2 : V.int (pcs x t es)[j].2.2 = v2 := Option.some.inj f2
      subst ev2
      have gY : Go (da :: la :: adL h w ad ++ B) H3 H4 := g4.w fun a ha => by simp [ha]
      obtain ⟨d, f3, g1⟩ := (hI3.g gY).getV f1
      rw [List.getElem?_map, List.getElem?_map, List.getElem?_eq_getElem hj] at f3
      have ed : d = eC (e3 es[j]) := (Option.some.inj f3).symm
      subst ed
      have etk : (pcs x t es).take (j + 1) = (pcs x t es).take j ++ [(pcs x t es)[j]] := by rw [List.take_add_one, List.getElem?_eq_getElem hj2]; rfl
      rw [etk]
      clear etk f2 f3
      generalize (pcs x t es)[j] = pq at *
      generalize es[j] = sj at *
      obtain ⟨b1, b2, b3⟩ := pq
      obtain ⟨a1, a2, a3⟩ := sj
      simp only [Prod.mk.injEq] at pp
      obtain ⟨rfl, rfl⟩ := pp
      simp only at pj ⊢
      obtain ⟨j1, j2, j3, j4⟩ := pj
      obtain ⟨xa, rfl, nxa, exa⟩ := g1.col
      change _ = some (HO.tup [V.int b1, V.int b2, V.int a3]) at exa
      have s5 := sm_new (o := .tup [.ref xa, .int b3]) hp0
      refine ⟨p0, [.ref xa, .int b3], rfl, SqT.of upd_same, rfl, .ref xa, [.int b3], rfl, xa, [.int b1, .int b2, .int a3], rfl, SqT.of (s5 _ _ exa), rfl, .int b1, [.int b2, .int a3], rfl, .int b2, [.int a3], rfl, .int a3, [], rfl, rfl, .int b3, [], rfl, rfl, ?_⟩
      generalize upd H4 p0 (.tup [.ref xa, .int b3]) = H5 at *
      have hd5 := hd4.s s5
      obtain ⟨r, hr0⟩ : ∃ r : Nat, b1 = (r : Int) := ⟨b1.toNat, by omega⟩
      obtain ⟨c, hc0⟩ : ∃ c : Nat, b2 = (c : Int) := ⟨b2.toNat, by omega⟩
      subst hr0 hc0
      have hr1 : r < h := by omega
      have hc1 : c < w := by omega
      refine ⟨_, rfl, _, rfl, _, rfl, (by show 2 ≤ sizeLine; decide), fun p6 hp6 => ?_⟩
      have s6 := sm_new (o := .tup [.int (r : Int), .int (c : Int)]) hp6
      have e6 : (upd H5 p6 (.tup [.int (r : Int), .int (c : Int)])) p6 = some (.tup [.int (r : Int), .int (c : Int)]) := upd_same
      generalize upd H5 p6 (.tup [.int (r : Int), .int (c : Int)]) = H6 at *
      have hd6 := hd5.s s6
      obtain ⟨ec6, lc6⟩ := hd6.l r c hr1 hc1
      refine ⟨da, .ref (ad r c), rfl, hd6.get hr1 hc1 e6, _, rfl, ad r c, _, (i : Int), .int (cz (G' r c) i), rfl, rfl, SqL.of ec6, atI_nat (czV (by omega)), _, rfl, _, _, rfl, rfl, ?_⟩
      refine ⟨_, rfl, _, rfl, _, rfl, (by show 2 ≤ sizeLine; decide), fun p7 hp7 => ?_⟩
      have s7 := sm_new (o := .tup [.int (r : Int), .int (c : Int)]) hp7
      have e7 : (upd H6 p7 (.tup [.int (r : Int), .int (c : Int)])) p7 = some (.tup [.int (r : Int), .int (c : Int)]) := upd_same
      generalize upd H6 p7 (.tup [.int (r : Int), .int (c : Int)]) = H7 at *
      have hd7 := hd6.s s7
      obtain ⟨ec7, lc7⟩ := hd7.l r c hr1 hc1
      refine ⟨da, .ref (ad r c), rfl, hd7.get hr1 hc1 e7, _, rfl, ad r c, _, (i : Int), i, rfl, rfl, ec7, by rw [List.length_map]; exact ixN0 (by omega) (by omega), ?_⟩
      rw [ints_set]
      refine ⟨_, _, _, _, _, rfl, (g4.trans (Go.of ((s5.trans s6).trans s7))).at (mem_adL hr1 hc1), hd7.set hr1 hc1 (by rw [List.length_set]; exact lc7), fun r' c' jj hr' hc' => ?_⟩
      unfold putG
      rw [sumAt_snoc]
      simp only [Int.toNat_natCast]
      by_cases q1 : r = r' ∧ c = c'
      · obtain ⟨rfl, rfl⟩ := q1
        simp only [and_self, if_true]
        rw [cz_set (by omega)]
        have := vG r c i hr1 hc1
        rw [if_pos rfl] at this
        by_cases q2 : jj = i
        · subst q2
          rw [if_pos rfl, if_pos rfl]
          omega
        · rw [if_neg q2, if_neg q2, vG r c jj hr1 hc1, if_neg q2]
      · rw [if_neg q1, if_neg q1, vG r' c' jj hr' hc', Int.add_zero]
    · obtain ⟨y7, y8, y9, y10, G', rfl, g4, hd4, vG⟩ := hh
      rw [List.take_of_length_le (by omega)] at vG
      have nla : la ∉ adL h w ad := fun z => by
        obtain ⟨r, c, hr', hc', e'⟩ := of_adL z
        exact (hd.nb r c hr' hc').1 (by rw [← e']; simp)
      exact q _ G' lo ((Go.of s3).trans (g4.w fun a ha => by simp [ha])) hd4 (g4.k _ _ nla ela3) ll vG (fun j => by rw [if_neg (fun z => ne z.2), Int.add_zero])
/-! ### a dict of new lists, by row and column -/
theorem lc_hd {J : It} {N : Nat} {G : Hp → Prop} {Y : Nat → Hp → V → Hp → Prop} (w : Walk J N G Y) {g : TG} {tt : TT} {te : TE} {vs : List Nat} {σ : L2.St} {H1 : Hp} {D : Addr} {Qd : Hp → Prop} (wd n : Nat)
    (hD : H1 D = none) (hG : ∀ H', Same H1 H' → G H') (hn : N ≤ 100000)
    (hs : ∀ (i : Nat) (x : V) (H' H'' : Hp) (Ny : V → Hp → Prop) (Nn : Hp → Prop), i < N → Same H1 H' → Y i H' x H'' → (∀ p k l H4, Same H' H4 → H4 p = some (.tup [.ref k, .ref l]) → H4 k = some (.tup [.int ((i / wd : Nat) : Int), .int ((i % wd : Nat) : Int)]) → H' l = none → H4 l = some (.lst ((List.replicate n (0 : Int)).map V.int)) → Ny (.ref p) H4) →
      g x (wipe σ vs) H'' fun σ2 H2 => wipe σ2 vs = wipe σ vs ∧ tt σ2 H2 fun b H3 => if b = true then te σ2 H3 Ny else Nn H3)
    (hd : ∀ (H' : Hp) (pf kf lf : Nat → Addr), Same H1 H' → H' D = some (.lst ((List.range N).map fun j => V.ref (pf j))) → (∀ j, j < N → H' (pf j) = some (.tup [.ref (kf j), .ref (lf j)]) ∧ H' (kf j) = some (.tup [.int ((j / wd : Nat) : Int), .int ((j % wd : Nat) : Int)]) ∧ H' (lf j) = some (.lst ((List.replicate n (0 : Int)).map V.int)) ∧ H1 (lf j) = none) → (∀ j j', j < N → j' < N → lf j = lf j' → j = j') → Qd H') :
    ∃ W : Nat → Nat → Hp → Prop, (∃ m, W 0 m (upd H1 D (.lst []))) ∧ ∀ i m H, W i m H →
      (J.stop i H ∧ Qd H) ∨ (J.go i H ∧ ∃ Nx : Hp → Prop, (∀ H', Nx H' → ∃ m', m' < m ∧ W (i + 1) m' H') ∧ ∀ x H', J.yld i H x H' → g x (wipe σ vs) H' fun σ2 H2 => wipe σ2 vs = wipe σ vs ∧ tt σ2 H2 fun b H3 =>
        if b = true then te σ2 H3 fun y H4 => ∃ acc, H4 D = some (.lst acc) ∧ acc.length < sizeLine ∧ Nx (upd H4 D (.lst (acc ++ [y]))) else Nx H3) := by
  refine lc_it w (fun i H' => Same H1 H' ∧ ∃ pf kf lf : Nat → Addr, H' D = some (.lst ((List.range i).map fun j => V.ref (pf j))) ∧ (∀ j, j < i → H' (pf j) = some (.tup [.ref (kf j), .ref (lf j)]) ∧ H' (kf j) = some (.tup [.int ((j / wd : Nat) : Int), .int ((j % wd : Nat) : Int)]) ∧ H' (lf j) = some (.lst ((List.replicate n (0 : Int)).map V.int)) ∧ H1 (lf j) = none ∧ lf j ≠ D) ∧ ∀ j j', j < i → j' < i → lf j = lf j' → j = j')
    ⟨sm_new hD, fun _ => 0, fun _ => 0, fun _ => 0, upd_same, fun j h => absurd h (Nat.not_lt_zero j), fun j j' h => absurd h (Nat.not_lt_zero j)⟩ (fun i H' _ h => hG H' h.1) (fun i x H' H'' hi h y => ?_) (fun H' h => ?_)
  · obtain ⟨s1, pf, kf, lf, eD, a1, a2⟩ := h
    refine hs i x H' H'' _ _ hi s1 y (fun p k l H4 s4 hp hk hl el => ?_)
    have eD4 := s4 _ _ eD
    have nl : l ≠ D := fun z => by rw [z, eD] at hl; cases hl
    have np : p ≠ D := fun z => by rw [z, eD4] at hp; cases hp
    have nk : k ≠ D := fun z => by rw [z, eD4] at hk; cases hk
    refine ⟨_, eD4, sz (by rw [List.length_map, List.length_range]; omega), sm_mut (s1.trans s4) hD, fun j => if j = i then p else pf j, fun j => if j = i then k else kf j, fun j => if j = i then l else lf j, ?_, fun j hj => ?_, fun j j' hj hj' e => ?_⟩
    · rw [upd_same, List.range_succ, List.map_append]
      have e : (List.range i).map (fun j => V.ref (if j = i then p else pf j)) = (List.range i).map fun j => V.ref (pf j) := List.map_congr_left fun j hj => by
        have := List.mem_range.mp hj
        rw [if_neg (by omega)]
      rw [e]
      simp
    · by_cases c : j = i
      · subst c
        simp only [if_true]
        exact ⟨by rw [upd_ne np]; exact hp, by rw [upd_ne nk]; exact hk, by rw [upd_ne nl]; exact el, s1.free hl, nl⟩
      · simp only [if_neg c]
        obtain ⟨b1, b2, b3, b4, b5⟩ := a1 j (by omega)
        have c1 := s4 _ _ b1
        have c2 := s4 _ _ b2
        have c3 := s4 _ _ b3
        exact ⟨by rw [upd_ne (fun z => by rw [z, eD4] at c1; cases c1)]; exact c1, by rw [upd_ne (fun z => by rw [z, eD4] at c2; cases c2)]; exact c2, by rw [upd_ne b5]; exact c3, b4, b5⟩
    · simp only at e
      by_cases c : j = i
      · by_cases c' : j' = i
        · omega
        · rw [if_pos c, if_neg c'] at e
          obtain ⟨_, _, b3, _, _⟩ := a1 j' (by omega)
          rw [← e, hl] at b3
          cases b3
      · by_cases c' : j' = i
        · rw [if_neg c, if_pos c'] at e
          obtain ⟨_, _, b3, _, _⟩ := a1 j (by omega)
          rw [e, hl] at b3
          cases b3
        · rw [if_neg c, if_neg c'] at e
          exact a2 j j' (by omega) (by omega) e
  · obtain ⟨s1, pf, kf, lf, eD, a1, a2⟩ := h
    exact hd H' pf kf lf s1 eD (fun j hj => ⟨(a1 j hj).1, (a1 j hj).2.1, (a1 j hj).2.2.1, (a1 j hj).2.2.2.1⟩) a2
theorem paired_map {α β γ : Type} {R : β → γ → Prop} {f : α → β} {g : α → γ} : ∀ {l : List α}, (∀ j ∈ l, R (f j) (g j)) → Paired R (l.map f) (l.map g)
  | [], _ => .nil
  | a :: l, h => .cons (h a (List.mem_cons_self ..)) (paired_map fun j hj => h j (List.mem_cons_of_mem _ hj))
theorem val_mem {κ : Type} [DecidableEq κ] : ∀ {kvs : List (κ × V)} {k : κ} {v : V}, (kvs.map (·.1)).Nodup → (k, v) ∈ kvs → valV kvs k = some v
  | [], _, _, _, h => nomatch h
  | e :: kvs, k, v, nd, h => by
    rw [List.map_cons, List.nodup_cons] at nd
    rcases List.mem_cons.mp h with z | z
    · rw [← z, valV_pos rfl]
    · rw [valV_neg (fun y => nd.1 (by rw [y]; exact List.mem_map.mpr ⟨_, z, rfl⟩)), val_mem nd.2 z]
def rcK (wd j : Nat) : List L2.Key := [.inl ((j / wd : Nat) : Int), .inl ((j % wd : Nat) : Int)]
theorem rcK_inj {wd i j : Nat} (h : rcK wd i = rcK wd j) : i = j := by
  unfold rcK at h
  simp only [List.cons.injEq, Sum.inl.injEq, Int.natCast_inj, and_true] at h
  have a := Nat.div_add_mod i wd
  have b := Nat.div_add_mod j wd
  rw [h.1, h.2] at a
  omega
theorem nd_map {α : Type} {f : Nat → α} : ∀ {N : Nat}, (∀ i j, i < N → j < N → f i = f j → i = j) → ((List.range N).map f).Nodup
  | 0, _ => List.nodup_nil
  | N + 1, h => by
    rw [List.range_succ, List.map_append, List.nodup_append]
    refine ⟨nd_map fun i j hi hj => h i j (by omega) (by omega), by simp, fun a ha b hb e => ?_⟩
    obtain ⟨i, hi, rfl⟩ := List.mem_map.mp ha
    simp at hb
    have := List.mem_range.mp hi
    have := h i N (by omega) (by omega) (e.trans hb)
    omega
theorem dict_hd {B : List Addr} {H H1 : Hp} {da : Addr} {lf : Nat → Addr} {h w n : Nat} (hB : Bk B H) (s : Same H H1) (hda : H1 da = none) (a1 : ∀ j, j < h * w → H1 (lf j) = some (.lst ((List.replicate n (0 : Int)).map V.int)) ∧ H (lf j) = none) (a2 : ∀ j j', j < h * w → j' < h * w → lf j = lf j' → j = j') :
    Hd B (upd H1 da (.dT (mergeT [] ((List.range (h * w)).map fun j => (rcK w j, V.ref (lf j)))))) da (fun r c => lf (r * w + c)) h w n fun _ _ => List.replicate n 0 := by
  have ix : ∀ r c, r < h → c < w → r * w + c < h * w ∧ (r * w + c) / w = r ∧ (r * w + c) % w = c := fun r c hr hc => by
    have w0 : 0 < w := by omega
    refine ⟨?_, ?_, ?_⟩
    · have : (r + 1) * w ≤ h * w := Nat.mul_le_mul_right w hr
      rw [Nat.succ_mul] at this
      omega
    · rw [Nat.mul_comm r w, Nat.mul_add_div w0, Nat.div_eq_of_lt hc, Nat.add_zero]
    · rw [Nat.mul_comm r w, Nat.mul_add_mod, Nat.mod_eq_of_lt hc]
  have nd : (((List.range (h * w)).map fun j => (rcK w j, V.ref (lf j))).map (·.1)).Nodup := by
    rw [List.map_map]
    exact nd_map fun i j _ _ e => rcK_inj e
  have ne : ∀ r c, r < h → c < w → lf (r * w + c) ≠ da := fun r c hr hc z => by
    have := (a1 _ (ix r c hr hc).1).1
    rw [z, hda] at this
    cases this
  refine ⟨⟨_, upd_same, fun r c hr hc => ?_⟩, (hB.go (Go.of (B := []) s)).ne hda, fun r c hr hc => ⟨hB.ne (a1 _ (ix r c hr hc).1).2, ne r c hr hc⟩, fun r c r' c' hr hc hr' hc' e => ?_, fun r c hr hc => ⟨?_, by simp⟩⟩
  · rw [mergeT_nd _ _ (by rw [List.nil_append]; exact nd), List.nil_append]
    refine val_mem nd (List.mem_map.mpr ⟨r * w + c, List.mem_range.mpr (ix r c hr hc).1, ?_⟩)
    unfold rcK
    rw [(ix r c hr hc).2.1, (ix r c hr hc).2.2]
  · have := a2 _ _ (ix r c hr hc).1 (ix r' c' hr' hc').1 e
    have q1 := (ix r c hr hc).2
    have q2 := (ix r' c' hr' hc').2
    rw [this] at q1
    exact ⟨q1.1.symm.trans q2.1, q1.2.symm.trans q2.2⟩
  · rw [upd_ne (ne r c hr hc)]
    exact (a1 _ (ix r c hr hc).1).1
theorem Hd.frs {B : List Addr} {H : Hp} {da : Addr} {ad : Nat → Nat → Addr} {h w n : Nat} {G : Nat → Nat → List Int} (x : Hd B H da ad h w n G) (cs : List Addr) (hc : ∀ r ∈ cs, H r = none) : Hd (cs ++ B) H da ad h w n G := by
  obtain ⟨⟨kvs, e, f⟩, nd, nb, inj, l⟩ := x
  refine ⟨⟨kvs, e, f⟩, fun z => ?_, fun r c hr hc' => ⟨fun z => ?_, (nb r c hr hc').2⟩, inj, l⟩
  · rcases List.mem_append.mp z with y | y
    · rw [hc _ y] at e
      cases e
    · exact nd y
  · rcases List.mem_append.mp z with y | y
    · have := (l r c hr hc').1
      rw [hc _ y] at this
      cases this
    · exact (nb r c hr hc').1 y
/-! ### what is asked of a handing -/
def GoOk (h w n : Nat) (t : Bool) (ps : List (List (List Int))) (cs : List (List Int)) (shs : List (Int × Int × Int)) (ns : List (List Int)) : Prop := Rect h w n ps ∧ 0 < h ∧ h ≤ 16 ∧ 0 < w ∧ w ≤ 16 ∧ 0 < n ∧ n ≤ 100 ∧ (∀ c ∈ cs, c.length = n) ∧ 0 < cs.length ∧ numsOk h w cs.length ns ∧ shs.length ≤ 12 ∧ (∀ s ∈ shs, 0 ≤ s.2.1 ∧ 0 < s.2.2 ∧ s.2.2 ≤ 1000) ∧ (∀ s ∈ shs, 0 < s.2.1 ∨ (s.2.1 = 0 ∧ 0 < s.1))
theorem gW_len {h w n : Nat} {t : Bool} {ps : List (List (List Int))} {cs : List (List Int)} {shs : List (Int × Int × Int)} {ns : List (List Int)} (ok : GoOk h w n t ps cs shs ns) : (gW h w n t ps shs cs ns).2.length = n := by
  obtain ⟨hR, h0, h1, w0, w1, n0, n1, cl, c0, nok, sl, sok, ord⟩ := ok
  unfold gW
  rw [hR.1]
  exact (g_rect rfl nok cl sok (spotsOf t ps h) (ps, List.replicate n 0) (sp_ok hR t h (Nat.le_refl _)) hR (by simp)).2
theorem cz_all {x : List Int} {n : Nat} (h : x.length = n) : (List.range n).map (fun i => cz x i) = x := by
  refine List.ext_getElem (by simp; omega) fun i h1 h2 => ?_
  rw [List.getElem_map, List.getElem_range, cz_at h2]
/-! ### a spot of a picture -/
theorem eG_at {B : List Addr} {H : Hp} {ga : Addr} {gvs : List V} {W : List (List (List Int))} {h w n r c : Nat} (hG : DtA B H gvs (W.map eP)) (hR : Rect h w n W) (hr : r < h) (hc : c < w) :
    ∃ ra rvs ca, gvs[r]? = some (.ref ra) ∧ H ra = some (.lst rvs) ∧ rvs[c]? = some (.ref ca) ∧ H ca = some (.tup ((getC W r c).map V.int)) := by
  obtain ⟨e1, l1, _⟩ := rect_row hR hr
  obtain ⟨v, f, d⟩ := hG.get (i := r) (d := eP (W.getD r [])) (by rw [List.getElem?_map, e1]; rfl)
  obtain ⟨ra, rvs, rfl, _, era, hr'⟩ := d.pal
  obtain ⟨v2, f2, d2⟩ := hr'.get (i := c) (d := eC (getC W r c)) (by rw [List.getElem?_map, (rect_get hR hr hc).1]; rfl)
  obtain ⟨ca, rfl, _, eca⟩ := d2.col
  exact ⟨ra, rvs, ca, f, era, f2, eca⟩
theorem Gr.atN2 {B : List Addr} {H : Hp} {wa : Addr} {ras : List Addr} {N : List (List Int)} {h w r : Nat} (g : Gr B H wa ras (N.map fun r => r.map PyData.int)) (hR : nRect h w N) (hr : r < h) :
    ∃ ra, (ras.map V.ref)[r]? = some (.ref ra) ∧ ra ∈ ras ∧ H ra = some (.lst ((N.getD r []).map V.int)) ∧ (N.getD r []).length = w ∧ ∀ (c : Nat) (x : Int), Gr B (upd H ra (.lst (((N.getD r []).map V.int).set c (.int x)))) wa ras ((N.set r ((N.getD r []).set c x)).map fun r => r.map PyData.int) := by
  have hl : r < N.length := by rw [hR.1]; exact hr
  have en : N.getD r [] = N[r] := by rw [List.getD_eq_getElem?_getD, List.getElem?_eq_getElem hl]; rfl
  have e2 : (N.map fun r => r.map PyData.int)[r]? = some (N[r].map PyData.int) := by rw [List.getElem?_map, List.getElem?_eq_getElem hl]; rfl
  have hl2 : r < ras.length := by rw [g.l, List.length_map]; exact hl
  obtain ⟨vs, e3, d3⟩ := g.r r ras[r] _ (List.getElem?_eq_getElem hl2) e2
  have ev := d3.intsV
  subst ev
  refine ⟨ras[r], by rw [List.getElem?_map, List.getElem?_eq_getElem hl2]; rfl, List.getElem_mem hl2, by rw [en]; exact e3, by rw [en]; exact hR.2 _ (List.getElem_mem hl), fun c x => ?_⟩
  have := g.set (j := c) (List.getElem?_eq_getElem hl2) e2 e3 (Dt.int x)
  rw [en, List.map_set, List.map_set]
  exact this
theorem get2_any {h w : Nat} {N : List (List Int)} (hN : nRect h w N) {r' c' : Nat} (hr : r' < h) (hc : c' < w) (x : Int) (r c : Nat) : ((N.set r' ((N.getD r' []).set c' x)).getD r []).getD c 0 = if r' = r ∧ c' = c then x else (N.getD r []).getD c 0 := by
  by_cases e : r' = r ∧ c' = c
  · obtain ⟨e1, e2⟩ := e
    subst e1 e2
    rw [if_pos ⟨rfl, rfl⟩]
    exact get2_same hN hr hc
  · rw [if_neg e]
    exact get2_set (by omega)
/-! ### the law's own apart -/
theorem ok_l_apart (T : Tx K mg) {k : Nat} : FnOk P w K mg base CX0 (k + 1) T.f_l_apart T.d_l_apart ["_law_one", "_law_other"] spApart := by
  refine T.F_l_apart.ok sc_l_apart (fun vs H Q E h => ?_) (fun cdv A outer s H vs Q E hr h => ?_)
  · obtain ⟨B, x, y, a, b, rfl, _⟩ := h
    rfl
  · obtain ⟨B, x, y, a, b, rfl, ha, hb, hl, hz, ca, cb, q⟩ := h
    obtain ⟨pa, rfl, na, ta⟩ := ha.col
    obtain ⟨pb, rfl, nb, tb⟩ := hb.col
    refine ⟨_, (pss_one (ps_ret (pe_callB (cr_sumK K rfl) (by rfl) T.z_sum (by decide +kernel) (pa_cons (pe_lc (own := [("_law_a", 2), ("_law_b", 3)]) (by rfl) sc_l_apart.nd (RZ.pi_zipA (by rfl) T.z_zip (pa_cons (pv 0) (pa_cons (pv 1) pa_nil))) (blkOk_by (own := [("_law_a", 2), ("_law_b", 3)]) (N := N_l_apart) (sc := defScope s_l_apart) (by decide +kernel)) (fun _ _ _ _ _ => (pg_tupK K (n := 2) rfl (pgs_cons (pg_name (i := 2) sc_l_apart.nd rfl (.inl rfl)) (pgs_cons (pg_name (i := 3) sc_l_apart.nd rfl (.inl rfl)) pgs_nil)))) (fun _ _ _ _ _ => pts_nil) (fun _ _ _ _ _ => (pe_op op_mulW (pe_op op_sub (pv 2) (pv 3)) (pe_op op_sub (pv 2) (pv 3))))) pa_nil)))), ?_⟩
    refine ⟨_, rfl, _, rfl, pa, pb, _, _, rfl, .inr ⟨SqT.of ta, SqT.of tb, fun D hD => ?_⟩⟩
    refine lc_pure (B := []) (walk_zipT (n := a.length) (xs := a.map V.int) (ys := b.map V.int) (by simp; omega)) hD (fun _ h => nomatch h) (fun H' s' => ⟨SqT.of (s' _ _ ta), SqT.of (s' _ _ tb)⟩) (by omega)
      (fun i => ((a.zip b).map fun p => PyData.int ((p.1 - p.2) ^ 2))[i]?) (fun i x H' H'' Ny Nn hi s1 bk y ky kn => ?_) (fun H' ws s1 eD hA => ?_)
    · obtain ⟨t, x, y, rfl, ht, rfl, e1, e2⟩ := y
      have i2 : i < b.length := by omega
      have x1 := mat hi e1
      have x2 := mat i2 e2
      have c1 := ca _ (List.getElem_mem hi)
      have c2 := cb _ (List.getElem_mem i2)
      refine ⟨t, [x, y], rfl, SqT.of upd_same, rfl, x, _, rfl, y, _, rfl, rfl, rfl, lc_yes ?_⟩
      refine ⟨_, rfl, _, rfl, _, _, x1, x2, _, rfl, _, rfl, _, _, x1, x2, _, _, rfl, rfl, mulW c1 c2, ?_⟩
      exact ky _ _ _ (zat hi i2) (sm_new ht) (by rw [Int.pow_succ, Int.pow_succ, Int.pow_zero, Int.one_mul]; exact .int _)
    · rw [fm_all (by simp; omega)] at hA
      have hA2 : DtA (D :: []) H' ws (((a.zip b).map fun p => (p.1 - p.2) ^ 2).map PyData.int) := by rw [List.map_map]; exact hA
      refine ⟨D, _, rfl, SqL.of (by rw [eD, hA2.intsV]), ?_⟩
      exact q _ s1
/-! ### the law's own nearest -/
def prF (cs : List (List Int)) (c : List Int) (i : Nat) : Option (Int × Int) := (cs[i]?).map fun x => (ap x c, (i : Int))
def prs (cs : List (List Int)) (c : List Int) : List (Int × Int) := (List.range cs.length).filterMap (prF cs c)
theorem prs_map (cs : List (List Int)) (c : List Int) : (List.range cs.length).filterMap (fun i => (prF cs c i).map enc) = (prs cs c).map enc := by
  unfold prs
  rw [List.map_filterMap]
theorem prs_at (cs : List (List Int)) (c : List Int) : prs cs c = cs.zipIdx.map fun x => (ap x.1 c, (x.2 : Int)) := by
  have e : prF cs c = fun i => (cs.zipIdx.map fun x => (ap x.1 c, (x.2 : Int)))[i]? := by
    funext i
    unfold prF
    rw [List.getElem?_map, List.getElem?_zipIdx]
    cases cs[i]? <;> simp
  unfold prs
  rw [e, fm_all (by simp)]
theorem near_min {cs : List (List Int)} {c : List Int} {p : Int × Int} {ps : List (Int × Int)} {i : Nat} (e : prs cs c = p :: ps) (h : (p :: ps)[i]? = some (minP p ps)) : near cs c i ∧ (minP p ps).2 = i := by
  have le := minP_le p ps
  rw [← e, prs_at] at le h
  have hi : i < cs.length := by
    have := (List.getElem?_eq_some_iff.mp h).1
    simpa using this
  rw [List.getElem?_map, List.getElem?_zipIdx, List.getElem?_eq_getElem hi] at h
  have em : (ap cs[i] c, (i : Int)) = minP p ps := by
    have := Option.some.inj h
    simpa using this
  rw [← em] at le
  refine ⟨⟨hi, fun j hj => ?_⟩, by rw [← em]⟩
  have := SrtO.lexB_no.mp (le (ap cs[j] c, (j : Int)) (List.mem_map.mpr ⟨(cs[j], j), by
    rw [List.mem_iff_getElem?]
    exact ⟨j, by rw [List.getElem?_zipIdx, List.getElem?_eq_getElem hj]; simp⟩, rfl⟩))
  simp only at this
  omega
theorem ok_l_nearest (T : Tx K mg) {k : Nat} : FnOk P w K mg base CX0 (k + 2) T.f_l_nearest T.d_l_nearest ["_law_palette_here", "_law_colour_here"] spNear := by
  refine T.F_l_nearest.ok sc_l_nearest (fun vs H Q E h => ?_) (fun cdv A outer s H vs Q E hr h => ?_)
  · obtain ⟨B, pl, cv, cs, c, rfl, _⟩ := h
    rfl
  · obtain ⟨B, pl, cv, cs, c, rfl, hp, hc, ⟨o1, o2, o3, o4⟩, c0, q⟩ := h
    obtain ⟨pa, vs, rfl, np, ep, hA⟩ := hp.pal
    have lv := hA.len
    rw [List.length_map] at lv
    refine ⟨_, (pss_one (ps_ret (pe_ix (ix_tupK K) (pe_callB (cr_minP K rfl hr.units) (by rfl) T.z_min (by decide +kernel) (pa_cons (pe_lc (own := [("_law_k", 2), ("_law_one", 3)]) (by rfl) sc_l_nearest.nd (pi_enum (by rfl) T.z_enumerate (pa_cons (pv 0) pa_nil)) (blkOk_by (own := [("_law_k", 2), ("_law_one", 3)]) (N := N_l_nearest) (sc := defScope s_l_nearest) (by decide +kernel)) (fun _ _ _ _ _ => (pg_tupK K (n := 2) rfl (pgs_cons (pg_name (i := 2) sc_l_nearest.nd rfl (.inl rfl)) (pgs_cons (pg_name (i := 3) sc_l_nearest.nd rfl (.inl rfl)) pgs_nil)))) (fun _ _ _ _ _ => pts_nil) (fun _ _ _ _ _ => (pe_tup (pa_cons (pe_call (ok_l_apart T (k := k)) hr (by rfl) T.g_l_apart T.F_l_apart.kp T.b_l_apart .nil pass0 (pa_cons (pv 3) (pa_cons (pv 1) pa_nil))) (pa_cons (pv 2) pa_nil))))) pa_nil)) pe_int (fun _ _ => rfl)))), ?_⟩
    refine ⟨_, rfl, pa, _, rfl, SqL.of ep, fun D hD => ?_⟩
    refine lc_pure (B := []) (walk_enum (xs := vs)) hD (fun _ h => nomatch h) (fun H' s' => SqL.of (s' _ _ ep)) (by omega)
      (fun i => (prF cs c i).map enc) (fun i x H' H'' Ny Nn hi s1 bk y ky kn => ?_) (fun H1 ws s1 eD hW => ?_)
    · obtain ⟨t, x, y, rfl, ht, rfl, e1, e2⟩ := y
      obtain ⟨d1, f1, g1⟩ := hA.getV e2
      have hi2 : i < cs.length := by omega
      rw [List.getElem?_map, List.getElem?_eq_getElem hi2] at f1
      have ed : d1 = eC cs[i] := (Option.some.inj f1).symm
      subst ed
      have ex : V.int i = x := Option.some.inj e1
      subst ex
      have oc := o4 _ (List.getElem_mem hi2)
      refine ⟨t, _, rfl, SqT.of upd_same, rfl, _, _, rfl, y, _, rfl, rfl, rfl, lc_yes ?_⟩
      refine ⟨_, rfl, _, rfl, B, y, cv, cs[i], c, rfl, (g1.s s1).s (sm_new ht), (hc.s s1).s (sm_new ht), oc.1, o2, oc.2, o3, fun H3 s3 => ?_⟩
      refine ⟨_, rfl, (by show 2 ≤ sizeLine; decide), fun t2 ht2 => ?_⟩
      have s4 := (sm_new ht).trans s3
      refine ky _ _ (enc (ap cs[i] c, (i : Int))) ?_ (s4.trans (sm_new ht2)) (Dt.ofCol ((bk.go (Go.of (B := []) s4)).ne ht2) upd_same)
      unfold prF
      rw [List.getElem?_eq_getElem hi2]
      rfl
    · rw [lv, prs_map] at hW
      have hl : (prs cs c).length = cs.length := by rw [prs_at]; simp
      obtain ⟨p, ps, e⟩ : ∃ p ps, prs cs c = p :: ps := by
        cases h : prs cs c with
        | nil => rw [h] at hl; simp at hl; omega
        | cons p ps => exact ⟨p, ps, rfl⟩
      rw [e] at hW
      refine ⟨D, ws, p, ps, rfl, SqL.of eD, hW.dP, fun i x hx hm => ?_⟩
      obtain ⟨hn, h2⟩ := near_min e hm
      obtain ⟨d, fd', gd⟩ := hW.getV hx
      rw [List.getElem?_map, hm] at fd'
      have ed : d = enc (minP p ps) := (Option.some.inj fd').symm
      subst ed
      obtain ⟨t, rfl, _, et⟩ := gd.col
      refine ⟨t, _, 1, .int (minP p ps).2, rfl, rfl, SqT.of et, rfl, ?_⟩
      rw [h2]
      exact q _ i s1 hn
/-! ### the law's own handing -/
structure GI (h w n : Nat) (ps : List (List (List Int))) (cs : List (List Int)) (shs : List (Int × Int × Int)) (ns : List (List Int)) (zf : List (List (List Int))) (da la wa na : Addr) (ad : Nat → Nat → Addr) (ras rns B : List Addr) (H0 : Hp) (ss : List (List Int)) (H' : Hp) : Prop where
  go : Go (la :: adL h w ad ++ (ras ++ rns)) H0 H'
  hd : ∃ G, Hd (la :: (na :: rns ++ (wa :: ras ++ B))) H' da ad h w n G ∧ ∀ r c j, r < h → c < w → cz (G r c) j = cz (getC (ss.foldl (gStep h w shs cs ns) (ps, List.replicate n 0)).1 r c) j - cz (getC ps r c) j
  wt : ∃ W, Gr (la :: (na :: rns ++ (da :: adL h w ad ++ B))) H' wa ras (gD W) ∧ Rect h w n W ∧ ∀ s ∈ ss, getC W (sR s) (sC s) = getC zf (sR s) (sC s)
  nt : ∃ N, Gr (la :: (wa :: ras ++ (da :: adL h w ad ++ B))) H' na rns (N.map fun r => r.map PyData.int) ∧ nRect h w N ∧ ∀ s ∈ ss, (N.getD (sR s) []).getD (sC s) 0 = (ns.getD (sR s) []).getD (sC s) 0
  lo : ∃ lo, H' la = some (.lst (lo.map V.int)) ∧ lo.length = n ∧ ∀ j, cz lo j = cz (ss.foldl (gStep h w shs cs ns) (ps, List.replicate n 0)).2 j
theorem rev_at {w j : Nat} (b : Bool) (hj : j < w) : (if b = true then ((List.range w).map fun (i : Nat) => V.int (i : Int)).reverse else (List.range w).map fun (i : Nat) => V.int (i : Int))[j]? = some (V.int ((if b = true then w - 1 - j else j : Nat) : Int)) := by
  cases b with
  | true =>
    rw [if_pos rfl, if_pos rfl, List.getElem?_reverse (by simpa using hj), List.length_map, List.length_range, List.getElem?_map, List.getElem?_range (by omega)]
    rfl
  | false =>
    rw [if_neg Bool.false_ne_true, if_neg Bool.false_ne_true, List.getElem?_map, List.getElem?_range hj]
    rfl
theorem GI.g {h w n : Nat} {ps : List (List (List Int))} {cs : List (List Int)} {shs : List (Int × Int × Int)} {ns : List (List Int)} {zf : List (List (List Int))} {da la wa na : Addr} {ad : Nat → Nat → Addr} {ras rns B : List Addr} {H0 : Hp} {ss : List (List Int)} {H' H'' : Hp} (g : GI h w n ps cs shs ns zf da la wa na ad ras rns B H0 ss H') (s : Same H' H'') : GI h w n ps cs shs ns zf da la wa na ad ras rns B H0 ss H'' := by
  obtain ⟨go, ⟨G, a1, a2⟩, ⟨W, b1, b2, b3⟩, ⟨N, c1, c2, c3⟩, ⟨lo, d1, d2, d3⟩⟩ := g
  exact ⟨go.trans (Go.of s), ⟨G, a1.s s, a2⟩, ⟨W, b1.s s, b2, b3⟩, ⟨N, c1.s s, c2, c3⟩, ⟨lo, s _ _ d1, d2, d3⟩⟩
theorem spots_pre (t : Bool) (ps : List (List (List Int))) {m h : Nat} (l : m ≤ h) : ∃ r, spotsOf t ps h = spotsOf t ps m ++ r := by
  induction h with
  | zero => exact ⟨[], by rw [show m = 0 by omega, List.append_nil]⟩
  | succ h ih =>
    by_cases e : m = h + 1
    · exact ⟨[], by rw [e, List.append_nil]⟩
    · obtain ⟨r, hr⟩ := ih (by omega)
      exact ⟨r ++ spRow t h (ps.getD h []).length, by rw [spots_succ, hr, List.append_assoc]⟩
theorem mem_chg {la na wa da a : Addr} {A ras rns B : List Addr} (ha : a ∈ la :: A ++ (ras ++ rns)) : a ∈ la :: (na :: rns ++ (wa :: ras ++ (da :: A ++ B))) := by
  simp only [List.mem_cons, List.mem_append] at ha ⊢
  grind
theorem keep_at {h w : Nat} {shs : List (Int × Int × Int)} {cs ns : List (List Int)} (ord : ∀ s ∈ shs, 0 < s.2.1 ∨ (s.2.1 = 0 ∧ 0 < s.1)) {ss rest : List (List Int)} {s : List Int} {z0 : List (List (List Int)) × List Int} (ok : ∀ x ∈ s :: rest, sS x = 1 ∨ sS x = -1) (pw : (s :: rest).Pairwise bef) :
    getC ((ss ++ s :: rest).foldl (gStep h w shs cs ns) z0).1 (sR s) (sC s) = getC (ss.foldl (gStep h w shs cs ns) z0).1 (sR s) (sC s) := by
  rw [List.foldl_append]
  refine keepg_fold ord _ _ fun x hx => ⟨ok x hx, ?_⟩
  rcases List.mem_cons.mp hx with e | e
  · rw [e]
    exact .inr ⟨rfl, Int.le_refl _⟩
  · have := (List.pairwise_cons.mp pw).1 x e
    unfold bef at this
    rcases this with b | b
    · exact .inl b
    · exact .inr ⟨b.1, Int.le_of_lt b.2⟩
theorem getC_at {h w n : Nat} {W : List (List (List Int))} (hW : Rect h w n W) {r c : Nat} (hr : r < W.length) (hc : c < W[r].length) : W[r][c] = getC W r c := by
  unfold getC
  have e : W.getD r [] = W[r] := by rw [List.getD_eq_getElem?_getD, List.getElem?_eq_getElem hr]; rfl
  rw [e, List.getD_eq_getElem?_getD (l := W[r]), List.getElem?_eq_getElem hc]
  rfl
theorem rect_ext {h w n : Nat} {W Z : List (List (List Int))} (hW : Rect h w n W) (hZ : Rect h w n Z) (e : ∀ r c, r < h → c < w → getC W r c = getC Z r c) : W = Z := by
  refine List.ext_getElem (by rw [hW.1, hZ.1]) fun r h1 h2 => ?_
  have l1 := (hW.2 _ (List.getElem_mem h1)).1
  have l2 := (hZ.2 _ (List.getElem_mem h2)).1
  refine List.ext_getElem (by rw [l1, l2]) fun c h3 h4 => ?_
  rw [getC_at hW h1 h3, getC_at hZ h2 h4]
  exact e r c (by rw [← hW.1]; exact h1) (by rw [← l1]; exact h3)
theorem nrect_ext {h w : Nat} {M N : List (List Int)} (hM : nRect h w M) (hN : nRect h w N) (e : ∀ r c, r < h → c < w → (M.getD r []).getD c 0 = (N.getD r []).getD c 0) : M = N := by
  refine List.ext_getElem (by rw [hM.1, hN.1]) fun r h1 h2 => ?_
  have l1 := hM.2 _ (List.getElem_mem h1)
  have l2 := hN.2 _ (List.getElem_mem h2)
  refine List.ext_getElem (by rw [l1, l2]) fun c h3 h4 => ?_
  have q := e r c (by rw [← hM.1]; exact h1) (by rw [← l1]; exact h3)
  rw [List.getD_eq_getElem?_getD (l := M), List.getElem?_eq_getElem h1, List.getD_eq_getElem?_getD (l := N), List.getElem?_eq_getElem h2] at q
  change (M[r]).getD c 0 = (N[r]).getD c 0 at q
  rw [List.getD_eq_getElem?_getD, List.getElem?_eq_getElem h3, List.getD_eq_getElem?_getD, List.getElem?_eq_getElem h4] at q
  exact q
theorem cz_ext {x y : List Int} (l : x.length = y.length) (e : ∀ j, j < x.length → cz x j = cz y j) : x = y := by
  refine List.ext_getElem l fun j h1 h2 => ?_
  have := e j h1
  rw [cz_at h1, cz_at h2] at this
  exact this
def spGone : Sp := fun vs H Q _ => ∃ (B : List Addr) (gv plv sv nv : V) (ps : List (List (List Int))) (cs : List (List Int)) (shs : List (Int × Int × Int)) (ns : List (List Int)) (h w n : Nat) (t : Bool), vs = [gv, plv, sv, .str (if t = true then "turned" else "same"), nv] ∧ Dt B H gv (eG ps) ∧ Dt B H plv (eP cs) ∧ Dt B H sv (eP (shs.map e3)) ∧ Bk B H ∧ GoOk h w n t ps cs shs ns ∧
  (Dt B H nv (eN ns) ∨ (nv = .non ∧ cs.length ≤ 1000 ∧ (∀ c ∈ cs, wIn c) ∧ (∀ p ∈ (gW h w n t ps shs cs ns).1, ∀ c ∈ p, wIn c) ∧ ∀ r c, r < h → c < w → (ns.getD r []).getD c 0 = (nrI cs (getC (gW h w n t ps shs cs ns).1 r c) : Int))) ∧
  ∀ v H', Same H H' → Dt B H' v (.tuple [eG (gW h w n t ps shs cs ns).1, eN ns, eC (gW h w n t ps shs cs ns).2]) → Q v H'
theorem op_rep0 {n : Nat} : ([V.int 0].length * (n : Int).toNat : Nat) = n := by simp
theorem rep0 (n : Nat) : (List.replicate (n : Int).toNat [V.int 0]).flatten = (List.replicate n (0 : Int)).map V.int := by
  rw [Int.toNat_natCast, List.flatten_replicate_singleton, List.map_replicate]
theorem rg1 {n : Int} (h : 0 ≤ n) : 0 ≤ n := h
set_option maxHeartbeats 4000000 in
theorem ok_l_gone (T : Tx K mg) {k : Nat} : FnOk P w K mg base CX0 (k + 3) T.f_l_gone T.d_l_gone ["_law_picture_here", "_law_palette_here", "_law_shares_here", "_law_way", "_law_numbers"] spGone := by
  refine T.F_l_gone.ok sc_l_gone (fun vs H Q E h => ?_) (fun cdv A outer s H vs Q E hr h => ?_)
  · obtain ⟨B, gv, plv, sv, nv, ps, cs, shs, ns, h, w, n, t, rfl, _⟩ := h
    rfl
  · obtain ⟨B, gv, plv, sv, nv, ps, cs, shs, ns, h, w, n, t, rfl, dg, dpl, ds, hB, ok, dn, q⟩ := h
    have glen := gW_len ok
    obtain ⟨hR, h0, h1, w0, w1, n0, n1, cl, c0, nok, sl, sok, ord⟩ := ok
    refine ⟨_, (pss_cons (ps_asg (pe_tup (pa_cons (pe_callB (len_K K) (by rfl) T.z_len PySem.boot_len (pa_cons (pv 0) pa_nil)) (pa_cons (pe_callB (len_K K) (by rfl) T.z_len PySem.boot_len (pa_cons (pe_ix (ix_listK K) (pv 0) pe_int (fun _ _ => rfl)) pa_nil)) (pa_cons (pe_callB (len_K K) (by rfl) T.z_len PySem.boot_len (pa_cons (pe_ix (ix_listK K) (pe_ix (ix_listK K) (pv 0) pe_int (fun _ _ => rfl)) pe_int (fun _ _ => rfl)) pa_nil)) pa_nil)))) (pg_tupK K (n := 3) rfl (pgs_cons (pg_name (i := 5) sc_l_gone.nd rfl (.inr rfl)) (pgs_cons (pg_name (i := 6) sc_l_gone.nd rfl (.inr rfl)) (pgs_cons (pg_name (i := 7) sc_l_gone.nd rfl (.inr rfl)) pgs_nil)))))
      (pss_cons (ps_set (i := 8) sc_l_gone.nd rfl (.inl rfl) (pe_callTy (call_dictT K rfl hr.units) (by rfl) T.z_dict (by decide +kernel) (pa_cons (pe_lc (own := [("_law_k", 21)]) (by rfl) sc_l_gone.nd (pi_range1 (by rfl) T.z_range (pa_cons (pe_op op_mul (pv 5) (pv 6)) pa_nil)) (blkOk_by (own := [("_law_k", 21)]) (N := N_l_gone) (sc := defScope s_l_gone) (by decide +kernel)) (fun _ _ _ _ _ => (pg_name (i := 21) sc_l_gone.nd rfl (.inl rfl))) (fun _ _ _ _ _ => pts_nil) (fun _ _ _ _ _ => (pe_tup (pa_cons (pe_tup (pa_cons (pe_op op_fdiv (pv 21) (pv 6)) (pa_cons (pe_op op_mod (pv 21) (pv 6)) pa_nil))) (pa_cons (pe_op op_rep (pe_lst (pa_cons pe_int pa_nil)) (pv 7)) pa_nil))))) pa_nil)))
      (pss_cons (ps_par3 (i := 9) (j := 10) (l := 11) (by rfl) sc_l_gone.nd rfl rfl rfl (by decide) (by decide) (by decide) rfl rfl rfl (pa_cons (pe_lc (own := [("_law_row", 13)]) (by rfl) sc_l_gone.nd (pi_listK K (pv 0)) (blkOk_by (own := [("_law_row", 13)]) (N := N_l_gone) (sc := defScope s_l_gone) (by decide +kernel)) (fun _ _ _ _ _ => (pg_name (i := 13) sc_l_gone.nd rfl (.inl rfl))) (fun _ _ _ _ _ => pts_nil) (fun _ _ _ _ _ => (pe_callTy (list_K K) (by rfl) T.z_list (by decide +kernel) (pa_cons (pv 13) pa_nil)))) (pa_cons (pe_lc (own := [("_law_row", 13)]) (by rfl) sc_l_gone.nd (pi_listK K (pv 0)) (blkOk_by (own := [("_law_row", 13)]) (N := N_l_gone) (sc := defScope s_l_gone) (by decide +kernel)) (fun _ _ _ _ _ => (pg_name (i := 13) sc_l_gone.nd rfl (.inl rfl))) (fun _ _ _ _ _ => pts_nil) (fun _ _ _ _ _ => (pe_op op_rep (pe_lst (pa_cons pe_int pa_nil)) (pv 6)))) (pa_cons (pe_op op_rep (pe_lst (pa_cons pe_int pa_nil)) (pv 7)) pa_nil))) (by rfl))
      (pss_cons (ps_set (i := 12) sc_l_gone.nd rfl (.inl rfl) (pe_callB (cr_sumK K rfl) (by rfl) T.z_sum (by decide +kernel) (pa_cons (pe_lc (own := [("_law_across", 22), ("_law_down", 23), ("_law_parts", 24)]) (by rfl) sc_l_gone.nd (pi_listK K (pv 2)) (blkOk_by (own := [("_law_across", 22), ("_law_down", 23), ("_law_parts", 24)]) (N := N_l_gone) (sc := defScope s_l_gone) (by decide +kernel)) (fun _ _ _ _ _ => (pg_tupK K (n := 3) rfl (pgs_cons (pg_name (i := 22) sc_l_gone.nd rfl (.inl rfl)) (pgs_cons (pg_name (i := 23) sc_l_gone.nd rfl (.inl rfl)) (pgs_cons (pg_name (i := 24) sc_l_gone.nd rfl (.inl rfl)) pgs_nil))))) (fun _ _ _ _ _ => pts_nil) (fun _ _ _ _ _ => (pv 24))) pa_nil)))
      (pss_cons (ps_for PassesOwn.never rfl (pi_range1 (by rfl) T.z_range (pa_cons (pv 5) pa_nil)) (pg_name (i := 13) sc_l_gone.nd rfl (.inr rfl)) (Evl.pss_cut (ps_set (i := 14) sc_l_gone.nd rfl (.inr rfl) (pe_ifExp (PW.pt (pw_and (pt_cmpR op_eq (pv 3) pe_str (nomark _)) (pw_and1 (pt_cmpR op_eq (pe_op op_mod (pv 13) pe_int) pe_int (nomark _))))) (pe_un un_neg pe_int) pe_int))
      (pss_one (ps_for PassesOwn.never rfl (pi_listK K (pe_stepL K (pe_listRg rfl (by rfl) T.z_list (prg_1 (by rfl) T.z_range (pv 6))) (pv 14))) (pg_name (i := 15) sc_l_gone.nd rfl (.inr rfl)) (pss_cons (ps_set (i := 16) sc_l_gone.nd rfl (.inl rfl) (pe_callTy (tuple_K K) (by rfl) T.z_tuple (by decide +kernel) (pa_cons (pe_lc (own := [("_law_a", 25), ("_law_b", 26)]) (by rfl) sc_l_gone.nd (pi_zipTX K (by rfl) T.z_zip (pa_cons (pe_ix (ix_listK K) (pe_ix (ix_listK K) (pv 0) (pv 13) (fun _ _ => rfl)) (pv 15) (fun _ _ => rfl)) (pa_cons (pe_dget (hu_of hr) (pv 8) (pe_tup (pa_cons (pv 13) (pa_cons (pv 15) pa_nil))) (fun _ _ => rfl)) pa_nil))) (blkOk_by (own := [("_law_a", 25), ("_law_b", 26)]) (N := N_l_gone) (sc := defScope s_l_gone) (by decide +kernel)) (fun _ _ _ _ _ => (pg_tupK K (n := 2) rfl (pgs_cons (pg_name (i := 25) sc_l_gone.nd rfl (.inl rfl)) (pgs_cons (pg_name (i := 26) sc_l_gone.nd rfl (.inl rfl)) pgs_nil)))) (fun _ _ _ _ _ => pts_nil) (fun _ _ _ _ _ => (pe_op op_add (pv 25) (pv 26)))) pa_nil)))
      (pss_cons (ps_asg (pv 16) (pg_sub (pe_ix (ix_listK K) (pv 9) (pv 13) (fun _ _ => rfl)) (pv 15) set_list))
      (Evl.pss_cut (ps_asg (pe_ifExp (pt_cmpR op_isN (pv 4) pe_non (nomark _)) (pe_call (ok_l_nearest T (k := k)) hr (by rfl) T.g_l_nearest T.F_l_nearest.kp T.b_l_nearest .nil pass0 (pa_cons (pv 1) (pa_cons (pv 16) pa_nil))) (pe_ix (ix_listK K) (pe_ix (ix_listK K) (pv 4) (pv 13) (fun _ _ => rfl)) (pv 15) (fun _ _ => rfl))) (pg_sub (pe_ix (ix_listK K) (pv 10) (pv 13) (fun _ _ => rfl)) (pv 15) set_list))
      (pss_cons (ps_setLc (i := 17) (own := [("_law_across", 22), ("_law_down", 23), ("_law_parts", 24)]) (by rfl) sc_l_gone.nd rfl rfl (sw_true rfl rfl rfl (by decide +kernel)) (pi_listK K (pv 2)) (blkOk_by (own := [("_law_across", 22), ("_law_down", 23), ("_law_parts", 24)]) (N := N_l_gone) (sc := defScope s_l_gone) (by decide +kernel)) (fun _ _ _ _ _ => (pg_tupK K (n := 3) rfl (pgs_cons (pg_name (i := 22) sc_l_gone.nd rfl (.inl rfl)) (pgs_cons (pg_name (i := 23) sc_l_gone.nd rfl (.inl rfl)) (pgs_cons (pg_name (i := 24) sc_l_gone.nd rfl (.inl rfl)) pgs_nil))))) (fun _ _ _ _ _ => pts_nil) (fun _ _ _ _ _ => (pe_tup (pa_cons (pe_op op_add (pv 13) (pv 23)) (pa_cons (pe_op op_add (pv 15) (pe_op op_mul (pv 22) (pv 14))) (pa_cons (pv 24) pa_nil))))))
      (pss_cons (ps_setLc (i := 18) (own := [("_law_one", 27)]) (by rfl) sc_l_gone.nd rfl rfl (sw_true rfl rfl rfl (by decide +kernel)) (pi_listK K (pv 17)) (blkOk_by (own := [("_law_one", 27)]) (N := N_l_gone) (sc := defScope s_l_gone) (by decide +kernel)) (fun _ _ _ _ _ => (pg_name (i := 27) sc_l_gone.nd rfl (.inl rfl))) (fun _ _ _ _ _ => pts_one (PW.pt (pw_and (pt_cmpR op_lt (pe_ix (ix_tupK K) (pv 27) pe_int (fun _ _ => rfl)) (pv 5) (nomark _)) (pw_and1 (pt_chain op_le op_lt pe_int (pe_ix (ix_tupK K) (pv 27) pe_int (fun _ _ => rfl)) (pv 6)))))) (fun _ _ _ _ _ => (pv 27)))
      (pss_one (ps_for PassesOwn.never rfl (pi_range1 (by rfl) T.z_range (pa_cons (pv 7) pa_nil)) (pg_name (i := 19) sc_l_gone.nd rfl (.inl rfl)) (pss_cons (ps_set (i := 20) sc_l_gone.nd rfl (.inl rfl) (pe_op op_sub (pe_ix (ix_tupK K) (pv 16) (pv 19) (fun _ _ => rfl)) (pe_ix (ix_tupK K) (pe_ix (ix_listK K) (pv 1) (pe_ix (ix_listK K) (pe_ix (ix_listK K) (pv 10) (pv 13) (fun _ _ => rfl)) (pv 15) (fun _ _ => rfl)) (fun _ _ => rfl)) (pv 19) (fun _ _ => rfl))))
      (pss_one (ps_expr (pe_call (ok_l_put_on T (k := k + 1)) hr (by rfl) T.g_l_put_on T.F_l_put_on.kp T.b_l_put_on .nil pass0 (pa_cons (pv 8) (pa_cons (pv 11) (pa_cons (pv 18) (pa_cons (pv 12) (pa_cons (pv 19) (pa_cons (pv 20) pa_nil)))))))))))))))))))))
      (pss_one (ps_ret (pe_tup (pa_cons (pv 9) (pa_cons (pv 10) (pa_cons (pe_callTy (tuple_K K) (by rfl) T.z_tuple (by decide +kernel) (pa_cons (pv 11) pa_nil)) pa_nil))))))))))), ?_⟩
    have dg0 := dg
    obtain ⟨ga, gvs, rfl, nga, ega, hG⟩ := dg.lst2
    have lg := hG.len
    rw [List.length_map, hR.1] at lg
    obtain ⟨ra0, rvs0, ca0, f0, era0, f00, eca0⟩ := eG_at (ga := ga) hG hR h0 w0
    have lr0 : rvs0.length = w := by
      obtain ⟨v0, f0', dv0⟩ := hG.get (i := 0) (d := eP (ps.getD 0 [])) (by rw [List.getElem?_map, (rect_row hR (r := 0) h0).1]; rfl)
      rw [f0] at f0'
      cases f0'
      obtain ⟨_, _, e', _, era0', hr0⟩ := dv0.pal
      cases e'
      rw [era0] at era0'
      cases era0'
      have := hr0.len
      rw [List.length_map, (rect_row hR (r := 0) h0).2.1] at this
      exact this
    have lc0 := (rect_get hR h0 w0).2
    refine ⟨_, rfl, ga, _, rfl, .inl (SqL.of ega), _, rfl, ga, _, 0, .ref ra0, rfl, rfl, SqL.of ega, atI_nat (j := 0) f0, ra0, _, rfl, .inl (SqL.of era0), _, rfl, ga, _, 0, .ref ra0, rfl, rfl, SqL.of ega, atI_nat (j := 0) f0, ra0, _, 0, .ref ca0, rfl, rfl, SqL.of era0, atI_nat (j := 0) f00, ca0, _, rfl, .inr (SqT.of eca0), (by show 3 ≤ sizeLine; decide), fun tp htp => ?_⟩
    rw [lg, lr0, List.length_map, lc0]
    have s1 := sm_new (o := .tup [.int (h : Int), .int (w : Int), .int (n : Int)]) htp
    have etp : (upd H tp (.tup [.int (h : Int), .int (w : Int), .int (n : Int)])) tp = some (.tup [.int (h : Int), .int (w : Int), .int (n : Int)]) := upd_same
    generalize upd H tp (.tup [.int (h : Int), .int (w : Int), .int (n : Int)]) = H1 at *
    refine ⟨tp, _, rfl, SqT.of etp, rfl, _, _, rfl, _, _, rfl, _, _, rfl, rfl, ?_⟩
    have B1 := hB.go (Go.of (B := []) s1)
    have hwm : h * w ≤ 16 * 16 := Nat.mul_le_mul h1 w1
    have ehw : ((h : Int) * (w : Int)).toNat = h * w := by rw [← Int.natCast_mul, Int.toNat_natCast]
    have pwh : (0 : Int) ≤ (h : Int) * (w : Int) ∧ (h : Int) * (w : Int) ≤ 256 := by rw [← Int.natCast_mul]; omega
    -- handed
    refine ⟨_, rfl, _, rfl, _, _, rfl, rfl, .inl ⟨by omega, by omega⟩, _, rfl, by omega, by omega, fun D hD => ?_⟩
    refine lc_hd (walk_range (lo := 0) (n := ((h : Int) * (w : Int)).toNat)) w n hD (fun _ _ => trivial) (by omega) (fun j x H' H'' Ny Nn hj t1 y ky => ?_) (fun H2 pf kf lf s2 eD hpf hlf => ?_)
    · obtain ⟨rfl, rfl⟩ := y
      refine ⟨rfl, lc_yes ⟨_, rfl, _, rfl, _, _, rfl, rfl, ⟨by omega, by omega⟩, _, rfl, _, rfl, _, _, rfl, rfl, (by show (0 : Int) < (w : Int); omega), (by show 2 ≤ sizeLine; decide), fun p1 hp1 => ?_⟩⟩
      have e1 : (upd H'' p1 (.tup [.int ((0 + (j : Int)) / (w : Int)), .int ((0 + (j : Int)) % (w : Int))])) p1 = some (.tup [.int ((j / w : Nat) : Int), .int ((j % w : Nat) : Int)]) := by
        rw [upd_same, Int.zero_add]
        rfl
      have q1 := sm_new (o := .tup [.int ((0 + (j : Int)) / (w : Int)), .int ((0 + (j : Int)) % (w : Int))]) hp1
      refine ⟨(by show 1 ≤ sizeLine; decide), fun p2 hp2 => ⟨_, rfl, p2, _, [.int 0], rfl, rfl, upd_same, by omega, by omega, sz (by simp; omega) |> Nat.le_of_lt, fun l hl => ?_⟩⟩
      have q2 := sm_new (o := .lst [.int 0]) hp2
      have q3 := sm_new (o := .lst (List.replicate (n : Int).toNat [V.int 0]).flatten) hl
      refine ⟨(by show 2 ≤ sizeLine; decide), fun p4 hp4 => ?_⟩
      have q4 := sm_new (o := .tup [.ref p1, .ref l]) hp4
      exact ky p4 p1 l _ (((q1.trans q2).trans q3).trans q4) upd_same (((q2.trans q3).trans q4) _ _ e1) ((q1.trans q2).free hl) (q4 _ _ (by rw [upd_same, rep0]))
    rw [ehw] at hpf hlf eD
    refine ⟨D, (List.range (h * w)).map pf, (List.range (h * w)).map fun j => (rcK w j, V.ref (lf j)), rfl, SqL.of (by rw [eD, List.map_map]; rfl), paired_map fun j hj => ?_, fun da hda => ?_⟩
    · obtain ⟨a1, a2, _⟩ := hpf j (List.mem_range.mp hj)
      exact ⟨_, SqT.of a1, a2⟩
    have t2 := s1.trans s2
    have hHd := dict_hd (h := h) (w := w) (n := n) hB t2 hda (fun j hj => ⟨(hpf j hj).2.2.1, s1.free (hpf j hj).2.2.2⟩) hlf
    have s3 := sm_new (o := .dT (mergeT [] ((List.range (h * w)).map fun j => (rcK w j, V.ref (lf j))))) hda
    have hfad : ∀ r c, r < h → c < w → H (lf (r * w + c)) = none := fun r c hr hc => by
      have : (r + 1) * w ≤ h * w := Nat.mul_le_mul_right w hr
      rw [Nat.succ_mul] at this
      exact s1.free (hpf _ (by omega)).2.2.2
    generalize upd H2 da (.dT (mergeT [] ((List.range (h * w)).map fun j => (rcK w j, V.ref (lf j))))) = H3 at *
    obtain ⟨ad, hHd, hfad⟩ : ∃ ad : Nat → Nat → Addr, Hd B H3 da ad h w n (fun _ _ => List.replicate n 0) ∧ ∀ r c, r < h → c < w → H (ad r c) = none := ⟨_, hHd, hfad⟩
    have t3 := t2.trans s3
    have hda0 : H da = none := t2.free hda
    have ega3 := t3 _ _ ega
    have hG3 := hG.s t3
    have B3 : Bk (da :: adL h w ad ++ B) H3 := fun a ha => by
      rcases List.mem_append.mp ha with z | z
      · rcases List.mem_cons.mp z with y | y
        · obtain ⟨⟨kvs, e, _⟩, _⟩ := hHd
          rw [y, e]
          exact fun z => nomatch z
        · obtain ⟨r, c, hr', hc', rfl⟩ := of_adL y
          rw [(hHd.l r c hr' hc').1]
          exact fun z => nomatch z
      · exact hB.go (Go.of (B := []) t3) a z
    have fad : ∀ r ∈ da :: adL h w ad, H r = none := fun r hr => by
      rcases List.mem_cons.mp hr with z | z
      · rw [z]; exact hda0
      · obtain ⟨r', c', hr', hc', rfl⟩ := of_adL z
        exact hfad _ _ hr' hc'
    have hGx : DtA (da :: adL h w ad ++ B) H3 gvs (ps.map eP) := by
      obtain ⟨_, _, e', _, e2, h2⟩ := ((dg0.frs _ fad).s t3).lst2
      cases e'
      rw [ega3] at e2
      cases e2
      exact h2
    -- wanted
    refine ⟨_, rfl, ga, rfl, ⟨_, SqL.of ega3⟩, fun wa hwa => ?_⟩
    refine lc_rows (walk_list (xs := gvs)) (da :: adL h w ad ++ B) hwa (fun H' s' => SqL.of (s' _ _ ega3)) (by omega) (fun i => (ps.getD i []).map eC) (fun j x H' H'' Ny Nn hj t1 y ky => ?_) (fun H4 ras s4 eD4 hRw => ?_)
    · obtain ⟨rfl, y⟩ := y
      have hj2 : j < ps.length := by rw [hR.1]; omega
      obtain ⟨d, f1, g1⟩ := hGx.getV y
      rw [List.getElem?_map, List.getElem?_eq_getElem hj2] at f1
      have ed : d = eP ps[j] := (Option.some.inj f1).symm
      subst ed
      obtain ⟨xa, xvs, rfl, nxa, exa, hX⟩ := g1.pal
      refine ⟨rfl, lc_yes ⟨_, rfl, xa, _, rfl, .inl (SqL.of (t1 _ _ exa)), fun l hl => ?_⟩⟩
      exact ky l xvs _ (sm_new hl) hl upd_same (by rw [List.getD_eq_getElem?_getD, List.getElem?_eq_getElem hj2]; exact hX)
    have hGw : Gr (da :: adL h w ad ++ B) H4 wa ras (gD ps) := by
      rw [lg] at hRw
      have e : (List.range h).map (fun i => (ps.getD i []).map eC) = gD ps := by rw [← hR.1]; exact rng_getD ps [] (fun p => p.map eC)
      rw [e] at hRw
      exact hRw.gr s4 eD4 hwa B3
    have t4 := t3.trans s4
    have ega4 := t4 _ _ ega
    have hG4 := hG.s t4
    have B4 := hGw.bk (B3.go (Go.of (B := []) s4))
    have fw : ∀ r ∈ wa :: ras, H3 r = none := fun r hr => by
      rcases List.mem_cons.mp hr with z | z
      · rw [z]; exact hwa
      · exact hRw.fr r z
    -- told
    refine ⟨_, rfl, ga, rfl, ⟨_, SqL.of ega4⟩, fun na hna => ?_⟩
    refine lc_rows (walk_list (xs := gvs)) (wa :: ras ++ (da :: adL h w ad ++ B)) hna (fun H' s' => SqL.of (s' _ _ ega4)) (by omega) (fun _ => (List.replicate w (0 : Int)).map PyData.int) (fun j x H' H'' Ny Nn hj t1 y ky => ?_) (fun H5 rns s5 eD5 hRn => ?_)
    · obtain ⟨rfl, y⟩ := y
      refine ⟨rfl, lc_yes ⟨(by show 1 ≤ sizeLine; decide), fun p hp => ⟨_, rfl, p, _, [.int 0], rfl, rfl, upd_same, by omega, by omega, sz (by simp; omega) |> Nat.le_of_lt, fun l hl => ?_⟩⟩⟩
      refine ky l _ _ ((sm_new hp).trans (sm_new hl)) ((sm_new hp).free hl) upd_same ?_
      rw [rep0]
      exact DtA.ints _
    have hGn : Gr (wa :: ras ++ (da :: adL h w ad ++ B)) H5 na rns (((List.range h).map fun _ => List.replicate w (0 : Int)).map fun r => r.map PyData.int) := by
      have := hRn.gr s5 eD5 hna B4
      rw [lg] at this
      rw [List.map_map]
      exact this
    have t5 := t4.trans s5
    have B5 := hGn.bk (B4.go (Go.of (B := []) s5))
    have fn : ∀ r ∈ na :: rns, H4 r = none := fun r hr => by
      rcases List.mem_cons.mp hr with z | z
      · rw [z]; exact hna
      · exact hRn.fr r z
    -- lost
    refine ⟨(by show 1 ≤ sizeLine; decide), fun p6 hp6 => ⟨_, rfl, p6, _, [.int 0], rfl, rfl, upd_same, by omega, by omega, sz (by simp; omega) |> Nat.le_of_lt, fun la hla => ?_⟩⟩
    have s6 := (sm_new (o := .lst [.int 0]) hp6).trans (sm_new (o := .lst (List.replicate (n : Int).toNat [V.int 0]).flatten) hla)
    have ela : (upd (upd H5 p6 (.lst [.int 0])) la (.lst (List.replicate (n : Int).toNat [V.int 0]).flatten)) la = some (.lst ((List.replicate n (0 : Int)).map V.int)) := by rw [upd_same, rep0]
    have hla5 : H5 la = none := (sm_new hp6).free hla
    generalize upd (upd H5 p6 (.lst [.int 0])) la (.lst (List.replicate (n : Int).toNat [V.int 0]).flatten) = H6 at *
    have fl : ∀ r ∈ [la], H5 r = none := fun r hr => by rw [List.mem_singleton.mp hr]; exact hla5
    have t6 := t5.trans s6
    have hGw6 : Gr (la :: (na :: rns ++ (da :: adL h w ad ++ B))) H6 wa ras (gD ps) := (((hGw.frs (na :: rns) fn).s s5).frs [la] fl).s s6
    have hGn6 : Gr (la :: (wa :: ras ++ (da :: adL h w ad ++ B))) H6 na rns (((List.range h).map fun _ => List.replicate w (0 : Int)).map fun r => r.map PyData.int) := (hGn.frs [la] fl).s s6
    have hHd6 : Hd (la :: (na :: rns ++ (wa :: ras ++ B))) H6 da ad h w n (fun _ _ => List.replicate n 0) := (((((hHd.frs (wa :: ras) fw).s s4).frs (na :: rns) fn).s s5).frs [la] fl).s s6
    have B6 : Bk (la :: (na :: rns ++ (wa :: ras ++ (da :: adL h w ad ++ B)))) H6 := (B5.go (Go.of (B := []) s6)).cons ela
    have fall : ∀ r ∈ la :: (na :: rns ++ (wa :: ras ++ (da :: adL h w ad))), H r = none := fun r hr => by
      rcases List.mem_cons.mp hr with z | z
      · rw [z]; exact t5.free hla5
      · rcases List.mem_append.mp z with z | z
        · exact t4.free (fn r z)
        · rcases List.mem_append.mp z with z | z
          · exact t3.free (fw r z)
          · exact fad r z
    have mv : ∀ {v d}, Dt B H v d → Dt (la :: (na :: rns ++ (wa :: ras ++ (da :: adL h w ad ++ B)))) H6 v d := fun hx => ((hx.frs _ fall).s t6).sub fun a ha => by
      simp only [List.mem_cons, List.mem_append] at ha ⊢
      grind
    have dg6 := mv dg0
    have dpl6 := mv dpl
    have ds6 := mv ds
    clear hGx hG3 hG4 hG lc0 f00 eca0
    -- total
    obtain ⟨sa, svs, rfl, nsa, esa, hS⟩ := ds6.pal
    have lsv := hS.len
    rw [List.length_map, List.length_map] at lsv
    refine ⟨_, _, _, rfl, ?_⟩
    refine ⟨_, rfl, sa, rfl, ⟨_, SqL.of esa⟩, fun D7 hD7 => ?_⟩
    refine lc_pure (σ := [some (.ref ga), some plv, some (.ref sa), some (.str (if t = true then "turned" else "same")), some nv, some (.int (h : Int)), some (.int (w : Int)), some (.int (n : Int)), some (.ref da), some (.ref wa), some (.ref na), some (.ref la), none, none, none, none, none, none, none, none, none, none, none, none, none, none, none, none]) (B := []) (walk_list (xs := svs)) hD7 (fun _ h => nomatch h) (fun H' s' => SqL.of (s' _ _ esa)) (by omega)
      (fun j => (shs[j]?).map fun s => PyData.int s.2.2) (fun j y H' H'' Ny Nn hj t1' bk yy ky kn => ?_) (fun H7 ws s7 eD7 hW7 => ?_)
    · obtain ⟨rfl, yy⟩ := yy
      have hj2 : j < shs.length := by omega
      obtain ⟨d, f1, g1⟩ := (hS.s t1').getV yy
      rw [List.getElem?_map, List.getElem?_map, List.getElem?_eq_getElem hj2] at f1
      have ed : d = eC (e3 shs[j]) := (Option.some.inj f1).symm
      subst ed
      rw [List.getElem?_eq_getElem hj2] at ky
      generalize shs[j] = sj at *
      obtain ⟨a1, a2, a3⟩ := sj
      obtain ⟨ya, rfl, nya, eya⟩ := g1.col
      change _ = some (HO.tup [V.int a1, V.int a2, V.int a3]) at eya
      refine ⟨ya, [.int a1, .int a2, .int a3], rfl, SqT.of eya, rfl, .int a1, [.int a2, .int a3], rfl, .int a2, [.int a3], rfl, .int a3, [], rfl, rfl, rfl, lc_yes ⟨_, rfl, ?_⟩⟩
      exact ky _ _ _ rfl (Same.refl _) (.int _)
    rw [fm_get3 _ _ lsv] at hW7
    have hW8 : DtA [D7] H7 ws ((shs.map fun s => s.2.2).map PyData.int) := by rw [List.map_map]; exact hW7
    have ew := hW8.intsV
    subst ew
    refine ⟨D7, _, rfl, SqL.of eD7, ?_⟩
    refine ⟨_, rfl, ?_⟩
    have hHd7 := hHd6.s s7
    have hGw7 := hGw6.s s7
    have hGn7 := hGn6.s s7
    have ela7 := s7 _ _ ela
    have B7 := B6.go (Go.of (B := []) s7)
    have dg7 := dg6.s s7
    have dpl7 := dpl6.s s7
    have ds7 : Dt (la :: (na :: rns ++ (wa :: ras ++ (da :: adL h w ad ++ B)))) H7 (.ref sa) (eP (shs.map e3)) := .lst nsa (s7 _ _ esa) (hS.s s7)
    have dn7 : Dt (la :: (na :: rns ++ (wa :: ras ++ (da :: adL h w ad ++ B)))) H7 nv (eN ns) ∨ (nv = .non ∧ cs.length ≤ 1000 ∧ (∀ c ∈ cs, wIn c) ∧ (∀ p ∈ (gW h w n t ps shs cs ns).1, ∀ c ∈ p, wIn c) ∧ ∀ r c, r < h → c < w → (ns.getD r []).getD c 0 = (nrI cs (getC (gW h w n t ps shs cs ns).1 r c) : Int)) := by
      rcases dn with d | d
      · exact .inl ((mv d).s s7)
      · exact .inr d
    have t7 := t6.trans s7
    obtain ⟨tt0, tt1, tt2⟩ := tot_in sok
    have etot : (shs.map fun s => s.2.2).sum = total3 shs := rfl
    rw [etot]
    have hzR := g_rect rfl nok cl sok (spotsOf t ps h) (ps, List.replicate n 0) (sp_ok hR t h (Nat.le_refl _)) hR (by simp)
    have egW : gW h w n t ps shs cs ns = (spotsOf t ps h).foldl (gStep h w shs cs ns) (ps, List.replicate n 0) := by unfold gW; rw [hR.1]
    refine ⟨_, rfl, by omega, by omega, for_range (lo := 0) (n := (h : Int).toNat) (fun i σ H' => ∃ y13 y14 y15 y16 y17 y18 y19 y20 y21 y22 y23 y24 y25 y26 y27, σ = [some (.ref ga), some plv, some (.ref sa), some (.str (if t = true then "turned" else "same")), some nv, some (.int (h : Int)), some (.int (w : Int)), some (.int (n : Int)), some (.ref da), some (.ref wa), some (.ref na), some (.ref la), some (.int (total3 shs)), y13, y14, y15, y16, y17, y18, y19, y20, y21, y22, y23, y24, y25, y26, y27] ∧ GI h w n ps cs shs ns (gW h w n t ps shs cs ns).1 da la wa na ad ras rns B H7 (spotsOf t ps i) H')
      ⟨_, _, _, _, _, _, _, _, _, _, _, _, _, _, _, rfl, ⟨Go.refl, ⟨_, hHd7, fun r c j _ _ => by rw [cz_rep]; show (0 : Int) = cz (getC ps r c) j - cz (getC ps r c) j; omega⟩, ⟨ps, hGw7, hR, fun _ hs => nomatch hs⟩, ⟨_, hGn7, ⟨by simp, fun r hr' => by
        obtain ⟨_, _, rfl⟩ := List.mem_map.mp hr'
        simp⟩, fun _ hs => nomatch hs⟩, ⟨List.replicate n 0, ela7, by simp, fun _ => rfl⟩⟩⟩ (fun i σ H8 hi hh => ?_) (fun σ H8 hh => ?_)⟩
    · obtain ⟨y13, y14, y15, y16, y17, y18, y19, y20, y21, y22, y23, y24, y25, y26, y27, rfl, gi⟩ := hh
      have hi' : i < h := by omega
      have hrow := rect_row hR hi'
      refine ⟨fun σ' H' => ∃ y15 y16 y17 y18 y19 y20 y21 y22 y23 y24 y25 y26 y27, σ' = [some (.ref ga), some plv, some (.ref sa), some (.str (if t = true then "turned" else "same")), some nv, some (.int (h : Int)), some (.int (w : Int)), some (.int (n : Int)), some (.ref da), some (.ref wa), some (.ref na), some (.ref la), some (.int (total3 shs)), some (.int (i : Int)), some (.int (stepI (decide (t = true ∧ i % 2 = 1)))), y15, y16, y17, y18, y19, y20, y21, y22, y23, y24, y25, y26, y27] ∧ H' = H8, ?_, fun σ' H9 hM => ?_⟩
      · refine ⟨_, rfl, rfl, _, rfl, ite2 (fun e => ?_) (fun e => ?_)⟩
        · have et : t = true := by
            cases t with
            | true => rfl
            | false => exact absurd e (by decide +kernel)
          subst et
          refine ⟨_, rfl, _, _, rfl, rfl, md (by decide), rfl, _, rfl, ite2 (fun e2 => ?_) (fun e2 => ?_)⟩
          · have e2 : (0 + (i : Int)) % 2 = 1 := by simpa using e2
            refine ⟨_, rfl, y15, y16, y17, y18, y19, y20, y21, y22, y23, y24, y25, y26, y27, ?_, rfl⟩
            rw [decide_eq_true ⟨rfl, by omega⟩, Int.zero_add]
            rfl
          · have e2 : ¬ (0 + (i : Int)) % 2 = 1 := by simpa using e2
            refine ⟨y15, y16, y17, y18, y19, y20, y21, y22, y23, y24, y25, y26, y27, ?_, rfl⟩
            rw [decide_eq_false (fun z => e2 (by have := z.2; omega)), Int.zero_add]
            rfl
        · have et : t = false := by
            cases t with
            | false => rfl
            | true => exact absurd (by decide +kernel) e
          subst et
          refine iteF ⟨y15, y16, y17, y18, y19, y20, y21, y22, y23, y24, y25, y26, y27, ?_, rfl⟩
          rw [decide_eq_false (fun z => nomatch z.1), Int.zero_add]
          rfl
      obtain ⟨y15, y16, y17, y18, y19, y20, y21, y22, y23, y24, y25, y26, y27, rfl, rfl⟩ := hM
      have B8 := B7.go gi.go
      refine ⟨_, rfl, _, rfl, RgOk.of_le (by omega) (by omega) (by omega) (by omega), fun c9 hc9 => ?_⟩
      have s9 := sm_new (o := .lst (rgV 0 (w : Int))) hc9
      have ec9 : (upd H9 c9 (.lst (rgV 0 (w : Int)))) c9 = some (.lst ((List.range w).map fun (i : Nat) => V.int (i : Int))) := by rw [upd_same, rgV0]
      generalize upd H9 c9 (.lst (rgV 0 (w : Int))) = H10 at *
      refine ⟨_, rfl, _, rfl, c9, _, decide (t = true ∧ i % 2 = 1), rfl, rfl, SqL.of ec9, fun p7 hp7 => ?_⟩
      have s10 := sm_new (o := .lst (if decide (t = true ∧ i % 2 = 1) = true then ((List.range w).map fun (i : Nat) => V.int (i : Int)).reverse else (List.range w).map fun (i : Nat) => V.int (i : Int))) hp7
      have e7 : (upd H10 p7 (.lst (if decide (t = true ∧ i % 2 = 1) = true then ((List.range w).map fun (i : Nat) => V.int (i : Int)).reverse else (List.range w).map fun (i : Nat) => V.int (i : Int)))) p7 = some (.lst (if decide (t = true ∧ i % 2 = 1) = true then ((List.range w).map fun (i : Nat) => V.int (i : Int)).reverse else (List.range w).map fun (i : Nat) => V.int (i : Int))) := upd_same
      generalize upd H10 p7 (.lst (if decide (t = true ∧ i % 2 = 1) = true then ((List.range w).map fun (i : Nat) => V.int (i : Int)).reverse else (List.range w).map fun (i : Nat) => V.int (i : Int))) = H11 at *
      have u11 := s9.trans s10
      have np7 : p7 ∉ la :: (na :: rns ++ (wa :: ras ++ (da :: adL h w ad ++ B))) := (B8.go (Go.of (B := []) s9)).ne hp7
      have lx : (if decide (t = true ∧ i % 2 = 1) = true then ((List.range w).map fun (i : Nat) => V.int (i : Int)).reverse else (List.range w).map fun (i : Nat) => V.int (i : Int)).length = w := by split <;> simp
      have rx := fun j hj => rev_at (w := w) (j := j) (decide (t = true ∧ i % 2 = 1)) hj
      generalize (if decide (t = true ∧ i % 2 = 1) = true then ((List.range w).map fun (i : Nat) => V.int (i : Int)).reverse else (List.range w).map fun (i : Nat) => V.int (i : Int)) = xs at *
      refine ⟨p7, rfl, ⟨_, SqL.of e7⟩, for_it (walk_list (xs := xs)) (fun j σ H' => ∃ y15 y16 y17 y18 y19 y20 y21 y22 y23 y24 y25 y26 y27, σ = [some (.ref ga), some plv, some (.ref sa), some (.str (if t = true then "turned" else "same")), some nv, some (.int (h : Int)), some (.int (w : Int)), some (.int (n : Int)), some (.ref da), some (.ref wa), some (.ref na), some (.ref la), some (.int (total3 shs)), some (.int (i : Int)), some (.int (stepI (decide (t = true ∧ i % 2 = 1)))), y15, y16, y17, y18, y19, y20, y21, y22, y23, y24, y25, y26, y27] ∧ Go (la :: adL h w ad ++ (ras ++ rns)) H11 H' ∧ GI h w n ps cs shs ns (gW h w n t ps shs cs ns).1 da la wa na ad ras rns B H7 (spotsOf t ps i ++ (spRow t i w).take j) H')
        ⟨_, _, _, _, _, _, _, _, _, _, _, _, _, rfl, Go.refl, ?_⟩ (fun j σ H' _ hh => ?_) (fun j xx σ H12' H12 hj hh y => ?_) (fun σ H12 hh => ?_)⟩
      · rw [List.take_zero, List.append_nil]
        exact gi.g u11
      · obtain ⟨y15, y16, y17, y18, y19, y20, y21, y22, y23, y24, y25, y26, y27, rfl, g12, _⟩ := hh
        exact SqL.of (g12.k _ _ (fun z => np7 (mem_chg z)) e7)
      · obtain ⟨y15, y16, y17, y18, y19, y20, y21, y22, y23, y24, y25, y26, y27, rfl, g12, gi12⟩ := hh
        obtain ⟨rfl, y⟩ := y
        rw [rx j (by omega)] at y
        have ex := (Option.some.inj y).symm
        subst ex
        have hj' : j < w := by omega
        obtain ⟨c, sd, hc9', hcw, hsd, hsp⟩ : ∃ (c : Nat) (sd : Int), (if decide (t = true ∧ i % 2 = 1) = true then w - 1 - j else j) = c ∧ c < w ∧ sd = stepI (decide (t = true ∧ i % 2 = 1)) ∧ (spRow t i w)[j]? = some [(i : Int), (c : Int), sd] := by
          refine ⟨_, _, rfl, by split <;> omega, rfl, ?_⟩
          unfold spRow
          by_cases cc : t = true ∧ i % 2 = 1
          · rw [if_pos cc, decide_eq_true cc, if_pos rfl, List.getElem?_map, List.getElem?_range hj']
            rfl
          · rw [if_neg cc, decide_eq_false cc, if_neg Bool.false_ne_true, List.getElem?_map, List.getElem?_range hj']
            rfl
        have sd1 : -1 ≤ sd ∧ sd ≤ 1 := by rw [hsd]; unfold stepI; split <;> omega
        have etk : (spRow t i w).take (j + 1) = (spRow t i w).take j ++ [[(i : Int), (c : Int), sd]] := by rw [List.take_add_one, hsp]; rfl
        rw [hc9', ← hsd]
        rw [etk, ← List.append_assoc (spotsOf t ps i)]
        clear etk rx hc9'
        obtain ⟨rest, hall⟩ : ∃ rest, spotsOf t ps h = (spotsOf t ps i ++ (spRow t i w).take j) ++ [(i : Int), (c : Int), sd] :: rest := by
          obtain ⟨r', e'⟩ := spots_pre t ps (show i + 1 ≤ h by omega)
          have e2 : spRow t i w = (spRow t i w).take j ++ [(i : Int), (c : Int), sd] :: (spRow t i w).drop (j + 1) := by
            have hl : j < (spRow t i w).length := by rw [spRow_len]; exact hj'
            have e3' : (spRow t i w)[j] = [(i : Int), (c : Int), sd] := by
              rw [List.getElem?_eq_getElem hl] at hsp
              exact Option.some.inj hsp
            rw [← e3', ← List.drop_eq_getElem_cons hl, List.take_append_drop]
          refine ⟨(spRow t i w).drop (j + 1) ++ r', ?_⟩
          rw [e', spots_succ, hrow.2.1]
          conv => lhs; rw [e2]
          simp
        generalize spotsOf t ps i ++ (spRow t i w).take j = ss at *
        have hok := sp_ok hR t h (Nat.le_refl _)
        have hpw := sp_pw hR t h (Nat.le_refl _)
        rw [hall] at hok hpw
        have hkeep : getC (gW h w n t ps shs cs ns).1 i c = getC (ss.foldl (gStep h w shs cs ns) (ps, List.replicate n 0)).1 i c := by
          have := keep_at (h := h) (w := w) (cs := cs) (ns := ns) ord (ss := ss) (z0 := (ps, List.replicate n 0)) (fun x hx => (hok x (List.mem_append_right _ hx)).2.2) (List.pairwise_append.mp hpw).2.1
          rw [← hall, ← egW, sR3, sC3] at this
          exact this
        obtain ⟨kR, kL⟩ := g_rect rfl nok cl sok ss (ps, List.replicate n 0) (fun x hx => hok x (List.mem_append_left _ hx)) hR (by simp)
        obtain ⟨go12, ⟨G, hD12, vG⟩, ⟨W, hW12, rW, vW⟩, ⟨N, hN12, rN, vN⟩, ⟨lo, elo, llo, vlo⟩⟩ := gi12
        have hf1 : (ss ++ [[(i : Int), (c : Int), sd]]).foldl (gStep h w shs cs ns) (ps, List.replicate n 0) = gStep h w shs cs ns (ss.foldl (gStep h w shs cs ns) (ps, List.replicate n 0)) [(i : Int), (c : Int), sd] := by
          rw [List.foldl_append]
          rfl
        generalize hz : ss.foldl (gStep h w shs cs ns) (ps, List.replicate n 0) = z at *
        have gY : Go (la :: (na :: rns ++ (wa :: ras ++ (da :: adL h w ad ++ B)))) H7 H12 := go12.w fun a ha => mem_chg ha
        have B12 := B7.go go12
        obtain ⟨ga', gvs', e', _, ega', hGv⟩ := (dg7.g gY).lst2
        cases e'
        obtain ⟨gra, grv, gca, fg1, egra, fg2, egca⟩ := eG_at (ga := ga) hGv hR hi' hcw
        have lg1 := (rect_get hR hi' hcw).2
        refine ⟨_, rfl, _, rfl, ga, _, (i : Int), .ref gra, rfl, rfl, SqL.of ega', atI_nat fg1, _, rfl, gra, _, (c : Int), .ref gca, rfl, rfl, SqL.of egra, atI_nat fg2, _, rfl, _, rfl, _, rfl, (by show 2 ≤ sizeLine; decide), fun p8 hp8 => ?_⟩
        have s13 := sm_new (o := .tup [.int (i : Int), .int (c : Int)]) hp8
        have e8 : (upd H12 p8 (.tup [.int (i : Int), .int (c : Int)])) p8 = some (.tup [.int (i : Int), .int (c : Int)]) := upd_same
        generalize upd H12 p8 (.tup [.int (i : Int), .int (c : Int)]) = H13 at *
        have hD13 := hD12.s s13
        obtain ⟨ead, lad⟩ := hD13.l i c hi' hcw
        have egca13 := s13 _ _ egca
        refine ⟨da, .ref (ad i c), rfl, hD13.get hi' hcw e8, gca, ad i c, _, _, rfl, .inl ⟨SqT.of egca13, SqL.of ead, fun D14 hD14 => ?_⟩⟩
        refine lc_pure (σ := [some (.ref ga), some plv, some (.ref sa), some (.str (if t = true then "turned" else "same")), some nv, some (.int (h : Int)), some (.int (w : Int)), some (.int (n : Int)), some (.ref da), some (.ref wa), some (.ref na), some (.ref la), some (.int (total3 shs)), some (.int (i : Int)), some (.int sd), some (.int (c : Int)), y16, y17, y18, y19, y20, y21, y22, y23, y24, y25, y26, y27]) (B := []) (walk_zipTL (n := n) (xs := (getC ps i c).map V.int) (ys := (G i c).map V.int) (by rw [List.length_map]; exact lg1) (by rw [List.length_map]; exact lad)) hD14 (fun _ h => nomatch h) (fun H' s' => ⟨SqT.of (s' _ _ egca13), SqL.of (s' _ _ ead)⟩) (by omega)
          (fun a => ((adC (getC ps i c) (G i c)).map PyData.int)[a]?) (fun a x H' H'' Ny Nn ha t1' bk yy ky kn => ?_) (fun H14 ws s14 eD14 hW14 => ?_)
        · obtain ⟨tt, x, y, rfl, ht, rfl, f1, f2⟩ := yy
          have x1 := mat (by rw [lg1]; exact ha) f1
          have x2 := mat (by rw [lad]; exact ha) f2
          refine ⟨tt, [x, y], rfl, SqT.of upd_same, rfl, x, _, rfl, y, _, rfl, rfl, rfl, lc_yes ?_⟩
          refine ⟨_, rfl, _, rfl, _, _, x1, x2, ?_⟩
          refine ky _ _ _ ?_ (sm_new ht) (.int _)
          have hla : a < (adC (getC ps i c) (G i c)).length := by rw [adC_ln]; omega
          rw [List.getElem?_map, List.getElem?_eq_getElem hla, adC_at]
          rfl
        rw [fm_all (by rw [List.length_map, adC_ln]; omega)] at hW14
        have ew14 := hW14.intsV
        subst ew14
        have eX : adC (getC ps i c) (G i c) = getC z.1 i c := cz_ext (by rw [adC_ln, (rect_get kR hi' hcw).2]; omega) fun j' _ => by
          rw [adC_cz (by omega), vG i c j' hi' hcw]
          omega
        rw [eX] at eD14
        refine ⟨D14, _, rfl, .inl ⟨SqL.of eD14, fun sp hsp' => ?_⟩⟩
        have s15 := sm_new (o := .tup ((getC z.1 i c).map V.int)) hsp'
        have esp : (upd H14 sp (.tup ((getC z.1 i c).map V.int))) sp = some (.tup ((getC z.1 i c).map V.int)) := upd_same
        have nsp : sp ∉ la :: (na :: rns ++ (wa :: ras ++ (da :: adL h w ad ++ B))) := (B12.go (Go.of (B := []) (s13.trans s14))).ne hsp'
        generalize upd H14 sp (.tup ((getC z.1 i c).map V.int)) = H15 at *
        have u15 := (s13.trans s14).trans s15
        have hW15 := hW12.s u15
        obtain ⟨ra, rv, v0, fra, era, lrv, frv, _, putw⟩ := hW15.at rW hi' hcw
        have mra := List.mem_of_getElem? fra
        have fra' : (ras.map V.ref)[i]? = some (.ref ra) := by rw [List.getElem?_map, fra]; rfl
        refine ⟨_, rfl, _, rfl, _, rfl, wa, _, (i : Int), .ref ra, rfl, rfl, SqL.of hW15.a, atI_nat fra', _, rfl, ra, _, (c : Int), c, rfl, rfl, era, ixN0 (by omega) (by omega), ?_⟩
        have hW16 := putw (.ref sp) (getC z.1 i c) (Dt.ofCol (fun q => nsp (by simp only [List.mem_cons, List.mem_append] at q ⊢; grind)) esp)
        have g16 : Go ras H15 (upd H15 ra (.lst (rv.set c (.ref sp)))) := Go.refl.at mra
        generalize upd H15 ra (.lst (rv.set c (.ref sp))) = H16 at *
        have hD16 := (hD12.s u15).g (g16.w fun a ha => by simp [ha])
        have hN16 := (hN12.s u15).g (g16.w fun a ha => by simp [ha])
        have nla : la ∉ ras := fun q => hW12.nb la q (by simp)
        have elo16 := g16.k la _ nla (u15 _ _ elo)
        have esp16 := g16.k sp _ (fun q => nsp (by simp [q])) esp
        have u16 : Go (la :: adL h w ad ++ (ras ++ rns)) H12 H16 := (Go.of u15).trans (g16.w fun a ha => by simp [ha])
        have B16 := B12.go u16
        have gY16 : Go (la :: (na :: rns ++ (wa :: ras ++ (da :: adL h w ad ++ B)))) H7 H16 := gY.trans (u16.w fun a ha => mem_chg ha)
        obtain ⟨row, nx, en1, en2, en3, x0, x1⟩ := num_in nok hi' hcw
        obtain ⟨rn, frn, mrn, ern, lrn, putn⟩ := hN16.atN2 rN hi'
        -- told
        refine ⟨fun σ' H' => σ' = [some (.ref ga), some plv, some (.ref sa), some (.str (if t = true then "turned" else "same")), some nv, some (.int (h : Int)), some (.int (w : Int)), some (.int (n : Int)), some (.ref da), some (.ref wa), some (.ref na), some (.ref la), some (.int (total3 shs)), some (.int (i : Int)), some (.int sd), some (.int (c : Int)), some (.ref sp), y17, y18, y19, y20, y21, y22, y23, y24, y25, y26, y27] ∧ ∃ N', Go rns H16 H' ∧ Gr (la :: (wa :: ras ++ (da :: adL h w ad ++ B))) H' na rns (N'.map fun r => r.map PyData.int) ∧ nRect h w N' ∧ ∀ r' c', (N'.getD r' []).getD c' 0 = if i = r' ∧ c = c' then nx else (N.getD r' []).getD c' 0, ?_, fun σ' H17 hM => ?_⟩
        · rcases dn7 with dv | ⟨rfl, c1, ck, wk, tk⟩
          · obtain ⟨nva, nvs, rfl, nnv, env, hNv⟩ := (dv.g gY16).lst2
            obtain ⟨nv1, fn1, dn1⟩ := hNv.get (i := i) (d := eI row) (by rw [List.getElem?_map, en1]; rfl)
            obtain ⟨nra, rfl, nnra, enra⟩ := dn1.ints
            refine ⟨_, rfl, rfl, _, rfl, iteN (decide_eq_false (fun z => nomatch z)) ?_⟩
            refine ⟨_, rfl, _, rfl, nva, _, (i : Int), .ref nra, rfl, rfl, SqL.of env, atI_nat fn1, _, rfl, nra, _, (c : Int), .int nx, rfl, rfl, SqL.of enra, atI_nat (by rw [List.getElem?_map, en2]; rfl), ?_⟩
            refine ⟨_, rfl, _, rfl, na, _, (i : Int), .ref rn, rfl, rfl, SqL.of hN16.a, atI_nat frn, _, rfl, rn, _, (c : Int), c, rfl, rfl, ern, by rw [List.length_map, lrn]; exact ixN0 (by omega) (by omega), ?_⟩
            exact ⟨rfl, _, Go.refl.at mrn, putn c nx, rN.set hi', fun r' c' => get2_any rN hi' hcw nx r' c'⟩
          · refine ⟨_, rfl, rfl, _, rfl, iteE (by decide) ?_⟩
            have hwz : wIn (getC z.1 i c) := by
              rw [← hkeep]
              have q1 := rect_row (by rw [egW]; exact hzR.1 : Rect h w n (gW h w n t ps shs cs ns).1) hi'
              refine wk _ (List.mem_of_getElem? q1.1) _ (List.mem_of_getElem? (rect_get (by rw [egW]; exact hzR.1 : Rect h w n (gW h w n t ps shs cs ns).1) hi' hcw).1)
            have lz := (rect_get kR hi' hcw).2
            refine ⟨_, rfl, _, rfl, la :: (na :: rns ++ (wa :: ras ++ (da :: adL h w ad ++ B))), plv, .ref sp, cs, getC z.1 i c, rfl, dpl7.g gY16, Dt.ofCol nsp esp16, ⟨c1, by omega, hwz, fun x hx => ⟨by rw [cl x hx, lz], ck x hx⟩⟩, c0, fun H17 ii s17 hn => ?_⟩
            have enx : nx = (ii : Int) := by
              rw [← en3, tk i c hi' hcw, hkeep, nr_of hn]
            have hN17 := hN16.s s17
            obtain ⟨rn', frn', mrn', ern', lrn', putn'⟩ := hN17.atN2 rN hi'
            refine ⟨_, rfl, _, rfl, na, _, (i : Int), .ref rn', rfl, rfl, SqL.of hN17.a, atI_nat frn', _, rfl, rn', _, (c : Int), c, rfl, rfl, ern', by rw [List.length_map, lrn']; exact ixN0 (by omega) (by omega), ?_⟩
            rw [← enx]
            exact ⟨rfl, _, (Go.of s17).at mrn', putn' c nx, rN.set hi', fun r' c' => get2_any rN hi' hcw nx r' c'⟩
        obtain ⟨rfl, N', g17, hN17, rN', vN'⟩ := hM
        have gY17 : Go (la :: (na :: rns ++ (wa :: ras ++ (da :: adL h w ad ++ B)))) H7 H17 := gY16.trans (g17.w fun a ha => by simp [ha])
        have hD17 := hD16.g (g17.w fun a ha => by simp [ha])
        have hW17 := hW16.g (g17.w fun a ha => by simp [ha])
        have nla2 : la ∉ rns := fun q => hN12.nb la q (by simp)
        have elo17 := g17.k la _ nla2 elo16
        have esp17 := g17.k sp _ (fun q => nsp (by simp [q])) esp16
        have B17 : Bk (da :: la :: adL h w ad ++ (na :: rns ++ (wa :: ras ++ B))) H17 := fun a ha => (B16.go g17) a (by
          simp only [List.mem_cons, List.mem_append] at ha ⊢
          grind)
        -- further
        obtain ⟨sa', svs', e', _, esa17, hS17⟩ := (ds7.g gY17).pal
        cases e'
        have lsv' := hS17.len
        rw [List.length_map, List.length_map] at lsv'
        refine ⟨_, rfl, sa, rfl, ⟨_, SqL.of esa17⟩, fun D18 hD18 => ?_⟩
        refine lc_pure (σ := [some (.ref ga), some plv, some (.ref sa), some (.str (if t = true then "turned" else "same")), some nv, some (.int (h : Int)), some (.int (w : Int)), some (.int (n : Int)), some (.ref da), some (.ref wa), some (.ref na), some (.ref la), some (.int (total3 shs)), some (.int (i : Int)), some (.int sd), some (.int (c : Int)), some (.ref sp), y17, y18, y19, y20, y21, y22, y23, y24, y25, y26, y27]) (B := da :: la :: adL h w ad ++ (na :: rns ++ (wa :: ras ++ B))) (walk_list (xs := svs')) hD18 B17 (fun H' s' => SqL.of (s' _ _ esa17)) (by omega)
          (fun j => ((shs.map (al3 i c sd)).map fun e => eC (e3 e))[j]?) (fun j x H' H'' Ny Nn hj t1' bk yy ky kn => ?_) (fun H18 ws18 s18 eD18 hW18' => ?_)
        · obtain ⟨rfl, yy⟩ := yy
          have hj2 : j < shs.length := by omega
          obtain ⟨d, f1, g1⟩ := (hS17.s t1').getV yy
          rw [List.getElem?_map, List.getElem?_map, List.getElem?_eq_getElem hj2] at f1
          have ed : d = eC (e3 shs[j]) := (Option.some.inj f1).symm
          subst ed
          have hm : ((shs.map (al3 i c sd)).map fun e => eC (e3 e))[j]? = some (eC (e3 (al3 i c sd shs[j]))) := by rw [List.getElem?_map, List.getElem?_map, List.getElem?_eq_getElem hj2]; rfl
          generalize shs[j] = sj at *
          obtain ⟨a1, a2, a3⟩ := sj
          obtain ⟨xa, rfl, nxa, exa⟩ := g1.col
          change _ = some (HO.tup [V.int a1, V.int a2, V.int a3]) at exa
          refine ⟨xa, [.int a1, .int a2, .int a3], rfl, SqT.of exa, rfl, .int a1, [.int a2, .int a3], rfl, .int a2, [.int a3], rfl, .int a3, [], rfl, rfl, rfl, lc_yes ?_⟩
          refine ⟨_, rfl, _, rfl, _, _, rfl, rfl, _, rfl, _, rfl, _, rfl, _, _, rfl, rfl, .inr ⟨by omega, by omega⟩, _, _, rfl, rfl, _, rfl, (by show 3 ≤ sizeLine; decide), fun p hp => ?_⟩
          refine ky _ _ _ hm (sm_new hp) (Dt.ofCol (bk.ne hp) ?_)
          rw [upd_same]
          show some (HO.tup [V.int ((i : Int) + a2), V.int ((c : Int) + a1 * sd), V.int a3]) = some (HO.tup [V.int ((i : Int) + a2), V.int ((c : Int) + sd * a1), V.int a3])
          rw [Int.mul_comm a1 sd]
        rw [fm_all (by simp; omega)] at hW18'
        have lw18 := hW18'.len
        simp only [List.length_map] at lw18
        have B18 := B17.go (Go.of (B := []) s18)
        have lm : (shs.map (al3 i c sd)).length = shs.length := List.length_map _
        have eth : thereOf h w shs i c sd = (shs.map (al3 i c sd)).filter (in3 h w) := rfl
        generalize shs.map (al3 i c sd) = ms at *
        -- inside
        refine ⟨_, rfl, D18, rfl, ⟨_, SqL.of eD18⟩, fun D19 hD19 => ?_⟩
        refine lc_pure (σ := [some (.ref ga), some plv, some (.ref sa), some (.str (if t = true then "turned" else "same")), some nv, some (.int (h : Int)), some (.int (w : Int)), some (.int (n : Int)), some (.ref da), some (.ref wa), some (.ref na), some (.ref la), some (.int (total3 shs)), some (.int (i : Int)), some (.int sd), some (.int (c : Int)), some (.ref sp), some (.ref D18), y18, y19, y20, y21, y22, y23, y24, y25, y26, y27]) (B := da :: la :: adL h w ad ++ (na :: rns ++ (wa :: ras ++ B))) (walk_list (xs := ws18)) hD19 B18 (fun H' s' => SqL.of (s' _ _ eD18)) (by omega)
          (fun j => (ms[j]?).bind fun e => if in3 (h : Int) (w : Int) e = true then some (eC (e3 e)) else none) (fun j x H' H'' Ny Nn hj t1' bk yy ky kn => ?_) (fun H19 ws19 s19 eD19 hW19' => ?_)
        · obtain ⟨rfl, yy⟩ := yy
          have hj2 : j < ms.length := by omega
          obtain ⟨d, f1, g1⟩ := hW18'.un.getV yy
          rw [List.getElem?_map, List.getElem?_eq_getElem hj2] at f1
          have ed : d = eC (e3 ms[j]) := (Option.some.inj f1).symm
          subst ed
          have em : ms[j]? = some ms[j] := List.getElem?_eq_getElem hj2
          generalize ms[j] = sj at *
          obtain ⟨b1, b2, b3⟩ := sj
          obtain ⟨xa, rfl, nxa, exa⟩ := (g1.s t1').col
          change _ = some (HO.tup [V.int b1, V.int b2, V.int b3]) at exa
          have yes : in3 (h : Int) (w : Int) (b1, b2, b3) = true → ((ms[j]?).bind fun e => if in3 (h : Int) (w : Int) e = true then some (eC (e3 e)) else none) = some (eC (e3 (b1, b2, b3))) := fun h => by rw [em, Option.bind_some, if_pos h]
          have no : ¬ in3 (h : Int) (w : Int) (b1, b2, b3) = true → ((ms[j]?).bind fun e => if in3 (h : Int) (w : Int) e = true then some (eC (e3 e)) else none) = none := fun h => by rw [em, Option.bind_some, if_neg h]
          refine ⟨rfl, ?_⟩
          refine ⟨_, rfl, xa, _, 0, .int b1, rfl, rfl, SqT.of exa, rfl, _, rfl, _, _, rfl, rfl, _, rfl, ite2 (fun e => ?_) (fun e => ?_)⟩
          · have q1 : b1 < (h : Int) := by simpa using e
            refine ⟨_, rfl, xa, _, 1, .int b2, rfl, rfl, SqT.of exa, rfl, _, _, rfl, rfl, _, rfl, ite2 (fun e => ?_) (fun e => ?_)⟩
            · have q2 : 0 ≤ b2 := by simpa using e
              refine ⟨_, rfl, _, _, rfl, rfl, _, rfl, ite2 (fun e => ?_) (fun e => ?_)⟩
              · have q3 : b2 < (w : Int) := by simpa using e
                exact ⟨_, rfl, ky _ _ _ (yes (by unfold in3; rw [decide_eq_true q1, decide_eq_true q2, decide_eq_true q3]; rfl)) (Same.refl _) ((g1.fr hD19).s t1')⟩
              · have q3 : ¬ b2 < (w : Int) := by simpa using e
                exact kn _ (no (by unfold in3; rw [decide_eq_false q3]; simp)) (Same.refl _)
            · have q2 : ¬ 0 ≤ b2 := by simpa using e
              exact ⟨_, rfl, iteF (kn _ (no (by unfold in3; rw [decide_eq_false q2]; simp)) (Same.refl _))⟩
          · have q1 : ¬ b1 < (h : Int) := by simpa using e
            exact iteF (kn _ (no (by unfold in3; rw [decide_eq_false q1]; simp)) (Same.refl _))
        rw [show ws18.length = ms.length by omega, fm_bind, fm_filter, ← eth] at hW19'
        have dI19 : Dt (da :: la :: adL h w ad ++ (na :: rns ++ (wa :: ras ++ B))) H19 (.ref D19) (eP ((thereOf h w shs i c sd).map e3)) := .lst (B18.ne hD19) eD19 (by rw [List.map_map]; exact hW19'.un)
        have u19 := s18.trans s19
        have hD19 := hD17.s u19
        have hW19 := hW17.s u19
        have hN19 := hN17.s u19
        have elo19 := u19 _ _ elo17
        have esp19 := u19 _ _ esp17
        have B19 := B17.go (Go.of (B := []) u19)
        have gY19 := gY17.trans (Go.of (B := la :: (na :: rns ++ (wa :: ras ++ (da :: adL h w ad ++ B)))) u19)
        have hnc : nx.toNat < cs.length := by omega
        have hcl := cl _ (List.getElem_mem hnc)
        have ecs : cs.getD nx.toNat [] = cs[nx.toNat] := by rw [List.getD_eq_getElem?_getD, List.getElem?_eq_getElem hnc]; rfl
        have hst : gStep h w shs cs ns z [(i : Int), (c : Int), sd] = ((handW h w z.1 shs i c sd cs[nx.toNat]).1, adC z.2 (handW h w z.1 shs i c sd cs[nx.toNat]).2) := by
          unfold gStep
          rw [sR3, sC3, sS3, en3, ecs]
        have hin := there_inG (h := h) (w := w) (r := i) (c := c) (sd := sd) sok
        have tin := there_in (h := h) (w := w) (shs := shs) (r := i) (c := c) (sd := sd) sok
        obtain ⟨hc1, hc2⟩ := hand_cz kR hi' hcw hcl hin
        obtain ⟨kR2, kL2⟩ := rect_hand (sd := sd) kR hi' hcw hcl sok
        have lX := (rect_get kR hi' hcw).2
        have erest : ∀ j', cz (leC (getC z.1 i c) cs[nx.toNat]) j' = cz (getC z.1 i c) j' - cz cs[nx.toNat] j' := fun j' => leC_cz (by rw [lX, hcl]) j'
        simp only [erest] at hc1 hc2
        have tl : (thereOf h w shs i c sd).length ≤ 100 := by
          rw [eth]
          exact Nat.le_trans (List.length_filter_le _ _) (by omega)
        have tpos : thereOf h w shs i c sd ≠ [] → 0 < total3 shs := fun q => tt1 fun z => q (by rw [z]; rfl)
        refine ⟨_, rfl, _, rfl, by omega, by omega, for_range (lo := 0) (n := (n : Int).toNat) (fun m σ H' => ∃ y19 y20 y21 y22 y23 y24 y25 y26 y27 G' lo', σ = [some (.ref ga), some plv, some (.ref sa), some (.str (if t = true then "turned" else "same")), some nv, some (.int (h : Int)), some (.int (w : Int)), some (.int (n : Int)), some (.ref da), some (.ref wa), some (.ref na), some (.ref la), some (.int (total3 shs)), some (.int (i : Int)), some (.int sd), some (.int (c : Int)), some (.ref sp), some (.ref D18), some (.ref D19), y19, y20, y21, y22, y23, y24, y25, y26, y27] ∧ Go (la :: adL h w ad) H19 H' ∧ Hd (la :: (na :: rns ++ (wa :: ras ++ B))) H' da ad h w n G' ∧ H' la = some (.lst (lo'.map V.int)) ∧ lo'.length = n ∧ (∀ r' c' j', r' < h → c' < w → cz (G' r' c') j' = cz (G r' c') j' + if j' < m then sumAt (pcs (cz (getC z.1 i c) j' - cz cs[nx.toNat] j') (total3 shs) (thereOf h w shs i c sd)) r' c' else 0) ∧ (∀ j', cz lo' j' = cz lo j' + if j' < m ∧ thereOf h w shs i c sd = [] then cz (getC z.1 i c) j' - cz cs[nx.toNat] j' else 0))
          ⟨_, _, _, _, _, _, _, _, _, G, lo, rfl, Go.refl, hD19, elo19, llo, fun r' c' j' _ _ => by rw [if_neg (Nat.not_lt_zero _), Int.add_zero], fun j' => by rw [if_neg (fun q => Nat.not_lt_zero _ q.1), Int.add_zero]⟩ (fun m σ H20 hm hh => ?_) (fun σ H20 hh => ?_)⟩
        · obtain ⟨y19, y20, y21, y22, y23, y24, y25, y26, y27, G', lo', rfl, g20, hD20, elo20, llo20, v1, v2⟩ := hh
          have hm' : m < n := by omega
          rw [Int.zero_add]
          have gW20 : Go (la :: (na :: rns ++ (wa :: ras ++ (da :: adL h w ad ++ B)))) H19 H20 := g20.w fun a ha => by
            simp only [List.mem_cons, List.mem_append] at ha ⊢
            grind
          have hN20 := hN19.g (g20.w fun a ha => by
            simp only [List.mem_cons, List.mem_append] at ha ⊢
            grind)
          have esp20 := gW20.k sp _ nsp esp19
          obtain ⟨rn2, frn2, _, ern2, lrn2, _⟩ := hN20.atN2 rN' hi'
          have enx2 : cz (N'.getD i []) c = nx := by
            have := vN' i c
            rw [if_pos ⟨rfl, rfl⟩] at this
            exact this
          obtain ⟨pla, plvs, rfl, npl, epl, hPl⟩ := (dpl7.g (gY19.trans gW20)).pal
          obtain ⟨cv, fc, dc⟩ := hPl.get (i := nx.toNat) (d := eC cs[nx.toNat]) (by rw [List.getElem?_map, List.getElem?_eq_getElem hnc]; rfl)
          obtain ⟨cca, rfl, ncca, ecca⟩ := dc.col
          refine ⟨_, rfl, _, rfl, sp, _, (m : Int), .int (cz (getC z.1 i c) m), rfl, rfl, SqT.of esp20, atI_nat (czV (by omega)), _, rfl, _, rfl, _, rfl, na, _, (i : Int), .ref rn2, rfl, rfl, SqL.of hN20.a, atI_nat frn2, _, rfl, rn2, _, (c : Int), .int nx, rfl, rfl, SqL.of ern2, atI_nat (by rw [← enx2]; exact czV (by omega)), pla, _, nx, .ref cca, rfl, rfl, SqL.of epl, at0 x0 fc, _, rfl, cca, _, (m : Int), .int (cz cs[nx.toNat] m), rfl, rfl, SqT.of ecca, atI_nat (czV (by omega)), _, _, rfl, rfl, ?_⟩
          refine ⟨_, rfl, _, rfl, _, rfl, _, rfl, _, rfl, _, rfl, na :: rns ++ (wa :: ras ++ B), da, la, .ref D19, ad, h, w, n, m, G', lo', thereOf h w shs i c sd, total3 shs, cz (getC z.1 i c) m - cz cs[nx.toNat] m, rfl, hD20, elo20, llo20, hm', dI19.g (g20.w fun a ha => by
            simp only [List.mem_cons, List.mem_append] at ha ⊢
            grind), hin, B19.go g20, tl, tpos, by omega, fun e he => ⟨(tin e he).2.2.2.2.1, (tin e he).2.2.2.2.2⟩, fun H21 G'' lo'' g21 hD21 elo21 llo21 w1 w2 => ?_⟩
          refine ⟨_, _, _, _, _, _, _, _, _, G'', lo'', rfl, g20.trans g21, hD21, elo21, llo21, fun r' c' j' hr' hc' => ?_, fun j' => ?_⟩
          · rw [w1 r' c' j' hr' hc', v1 r' c' j' hr' hc']
            by_cases q : j' = m
            · subst q
              rw [if_pos rfl, if_neg (Nat.lt_irrefl _), if_pos (Nat.lt_succ_self _)]
              omega
            · rw [if_neg q, Int.add_zero]
              by_cases q2 : j' < m
              · rw [if_pos q2, if_pos (by omega)]
              · rw [if_neg q2, if_neg (by omega)]
          · rw [w2, v2]
            by_cases q3 : thereOf h w shs i c sd = []
            · simp only [q3, and_true]
              by_cases q : j' = m
              · rw [q, if_neg (Nat.lt_irrefl _), if_pos rfl, if_pos (Nat.lt_succ_self _)]
                omega
              · rw [if_neg q, Int.add_zero]
                by_cases q2 : j' < m
                · rw [if_pos q2, if_pos (by omega)]
                · rw [if_neg q2, if_neg (by omega)]
            · simp only [q3, and_false, if_false, Int.add_zero]
        · obtain ⟨y19, y20, y21, y22, y23, y24, y25, y26, y27, G', lo', rfl, g20, hD20, elo20, llo20, v1, v2⟩ := hh
          rw [Int.toNat_natCast] at v1 v2
          have hN20 := hN19.g (g20.w fun a ha => by
            simp only [List.mem_cons, List.mem_append] at ha ⊢
            grind)
          have hW20 := hW19.g (g20.w fun a ha => by
            simp only [List.mem_cons, List.mem_append] at ha ⊢
            grind)
          have u20 : Go (la :: adL h w ad ++ (ras ++ rns)) H12 H20 := ((u16.trans (g17.w fun a ha => by simp [ha])).trans (Go.of u19)).trans (g20.w fun a ha => by
            simp only [List.mem_cons, List.mem_append] at ha ⊢
            grind)
          refine ⟨_, _, _, _, _, _, _, _, _, _, _, _, _, rfl, g12.trans u20, go12.trans u20, ⟨G', hD20, fun r' c' j' hr' hc' => ?_⟩, ⟨_, hW20, rect_put rW hi' lX, fun s' hs' => ?_⟩, ⟨N', hN20, rN', fun s' hs' => ?_⟩, ⟨lo', elo20, llo20, fun j' => ?_⟩⟩
          · rw [hf1, hst]
            simp only
            by_cases q : j' < n
            · rw [v1 r' c' j' hr' hc', hc1, vG r' c' j' hr' hc', if_pos q]
              omega
            · rw [cz_out (by rw [(hD20.l r' c' hr' hc').2]; exact q), cz_out (by rw [(rect_get kR2 hr' hc').2]; exact q), cz_out (by rw [(rect_get hR hr' hc').2]; exact q)]
              rfl
          · by_cases e : i = sR s' ∧ c = sC s'
            · rw [← e.1, ← e.2, get_put_same rW hi' hcw, hkeep]
            · rw [get_put_ne (by omega)]
              rcases List.mem_append.mp hs' with m1 | m1
              · exact vW s' m1
              · rw [List.mem_singleton.mp m1, sR3, sC3] at e
                exact absurd ⟨rfl, rfl⟩ e
          · rw [vN']
            by_cases e : i = sR s' ∧ c = sC s'
            · rw [if_pos e, ← e.1, ← e.2, en3]
            · rw [if_neg e]
              rcases List.mem_append.mp hs' with m1 | m1
              · exact vN s' m1
              · rw [List.mem_singleton.mp m1, sR3, sC3] at e
                exact absurd ⟨rfl, rfl⟩ e
          · rw [hf1, hst]
            simp only
            rw [adC_cz (by rw [kL, kL2])]
            by_cases q : j' < n
            · rw [v2, vlo, hc2]
              simp only [q, true_and]
            · rw [cz_out (by rw [llo20]; exact q), cz_out (by rw [kL]; exact q), cz_out (by rw [kL2]; exact q)]
              rfl
      · obtain ⟨y15, y16, y17, y18, y19, y20, y21, y22, y23, y24, y25, y26, y27, rfl, g12, gi12⟩ := hh
        rw [lx, List.take_of_length_le (by rw [spRow_len]; exact Nat.le_refl _)] at gi12
        refine ⟨_, _, _, _, _, _, _, _, _, _, _, _, _, _, _, rfl, ?_⟩
        rw [spots_succ, hrow.2.1]
        exact gi12
    · obtain ⟨y13, y14, y15, y16, y17, y18, y19, y20, y21, y22, y23, y24, y25, y26, y27, rfl, gi⟩ := hh
      rw [Int.toNat_natCast] at gi
      obtain ⟨go, _, ⟨W, hW, rW, vW⟩, ⟨N, hN, rN, vN⟩, ⟨lo, elo, llo, vlo⟩⟩ := gi
      have eW : W = (gW h w n t ps shs cs ns).1 := rect_ext rW (by rw [egW]; exact hzR.1) fun r c hr' hc' => by
        obtain ⟨s, hs, q1, q2⟩ := sp_all hR t hc' h (Nat.le_refl _) hr'
        have := vW s hs
        rw [q1, q2] at this
        exact this
      have eN' : N = ns := nrect_ext rN ⟨nok.1, fun r hr' => (nok.2 r hr').1⟩ fun r c hr' hc' => by
        obtain ⟨s, hs, q1, q2⟩ := sp_all hR t hc' h (Nat.le_refl _) hr'
        have := vN s hs
        rw [q1, q2] at this
        exact this
      have elo' : lo = (gW h w n t ps shs cs ns).2 := cz_ext (by rw [llo, glen]) fun j _ => by rw [vlo, egW]
      subst eW eN' elo'
      refine ⟨_, rfl, _, rfl, _, rfl, la, _, rfl, .inl ⟨SqL.of elo, fun l hl => ?_⟩⟩
      have s9 := sm_new (o := .tup ((gW h w n t ps shs cs N).2.map V.int)) hl
      refine ⟨(by show 3 ≤ sizeLine; decide), fun p hp => ?_⟩
      have s10 := sm_new (o := .tup [.ref wa, .ref na, .ref l]) hp
      have tF : Same H H8 := go.sm t7 fun a ha => fall a (by
        have := mem_chg (na := na) (wa := wa) (da := da) (B := []) ha
        rw [List.append_nil] at this
        exact this)
      have B8 := hB.go (Go.of (B := []) tF)
      have B9 := B8.go (Go.of (B := []) s9)
      refine q _ _ ((tF.trans s9).trans s10) (.tup (B9.ne hp) upd_same (.cons ?_ (.cons ?_ (.one ?_))))
      · have := hW.dt
        unfold gD at this
        rw [List.map_map] at this
        exact ((this.sub fun a ha => by simp [ha]).s s9).s s10
      · have := hN.dt
        rw [List.map_map] at this
        exact ((this.sub fun a ha => by simp [ha]).s s9).s s10
      · exact (Dt.ofCol (B8.ne hl) upd_same).s s10
/-! ### shares, drawn -/
def shOk (s : Int × Int × Int) : Prop := (0 < s.2.1 ∨ (s.2.1 = 0 ∧ 0 < s.1)) ∧ 0 ≤ s.2.1 ∧ s.2.1 ≤ 2 ∧ -2 ≤ s.1 ∧ s.1 ≤ 2 ∧ 1 ≤ s.2.2 ∧ s.2.2 ≤ 64
def prSh (p : List Int) : Prop := ∃ i j : Int, p = [i, j] ∧ (0 < j ∨ (j = 0 ∧ 0 < i)) ∧ 0 ≤ j ∧ j ≤ 2 ∧ -2 ≤ i ∧ i ≤ 2
theorem DtA.erase {B : List Addr} {H : Hp} : ∀ {vs : List V} {ds : List PyData} (j : Nat), DtA B H vs ds → DtA B H (vs.eraseIdx j) (ds.eraseIdx j)
  | _, _, _, .nil => .nil
  | _, _, 0, .cons _ h2 => h2
  | _, _, j + 1, .cons h1 h2 => .cons h1 (DtA.erase j h2)
theorem erase_map {α β : Type} (f : α → β) : ∀ (xs : List α) (j : Nat), (xs.map f).eraseIdx j = (xs.eraseIdx j).map f
  | [], _ => rfl
  | _ :: _, 0 => rfl
  | x :: xs, j + 1 => by
    rw [List.map_cons, List.eraseIdx_cons_succ, List.eraseIdx_cons_succ, List.map_cons, erase_map f xs j]
theorem seqIx0 {n : Nat} {i : Int} (h0 : 0 ≤ i) (h1 : i < n) : seqIndex? i n = some i.toNat := by
  have h : ¬ i < 0 := by omega
  simp [seqIndex?, h, h0, h1]
def spShares : Sp := fun vs H Q _ => ∃ (L : Addr) (n : Nat), vs = [.ref L] ∧ Lf L H n ∧ n < 10000000 ∧
  ∀ (v : V) (H' : Hp) (shs : List (Int × Int × Int)), Go [L] H H' → Lf L H' (n + 100) → Dt [L] H' v (eP (shs.map e3)) → shs.length ≤ 12 → (∀ s ∈ shs, shOk s) → Q v H'
set_option maxHeartbeats 2000000 in
theorem ok_l_shares (T : Tx K mg) {k : Nat} : FnOk P w K mg base CX0 (k + 3) T.f_l_shares T.d_l_shares ["_law_left_here"] spShares := by
  refine T.F_l_shares.ok sc_l_shares (fun vs H Q E h => ?_) (fun cdv A outer s H vs Q E hr h => ?_)
  · obtain ⟨L, n, rfl, _⟩ := h
    rfl
  · obtain ⟨L, n, rfl, hL, hn, q⟩ := h
    refine ⟨_, (pss_cons (ps_if (pt_cmpR op_eq (pe_call (ok_l_pick T (k := k)) hr (by rfl) T.g_l_pick T.F_l_pick.kp T.b_l_pick .nil pass0 (pa_cons (pv 0) (pa_cons pe_int pa_nil))) pe_int (nomark _)) (pss_one (ps_ret (pe_lst (pa_cons (pe_tup (pa_cons pe_int (pa_cons pe_int (pa_cons pe_int pa_nil)))) (pa_cons (pe_tup (pa_cons (pe_un un_neg pe_int) (pa_cons pe_int (pa_cons pe_int pa_nil)))) (pa_cons (pe_tup (pa_cons pe_int (pa_cons pe_int (pa_cons pe_int pa_nil)))) (pa_cons (pe_tup (pa_cons pe_int (pa_cons pe_int (pa_cons pe_int pa_nil)))) pa_nil))))))) pss_nil)
      (pss_cons (ps_set (i := 1) sc_l_shares.nd rfl (.inl rfl) (pe_op op_cat (pe_op op_cat (pe_lst (pa_cons (pe_tup (pa_cons pe_int (pa_cons pe_int pa_nil))) (pa_cons (pe_tup (pa_cons pe_int (pa_cons pe_int pa_nil))) pa_nil))) (pe_lc (own := [("_law_across", 4)]) (by rfl) sc_l_shares.nd (pi_range2 (by rfl) T.z_range (pa_cons (pe_un un_neg pe_int) (pa_cons pe_int pa_nil))) (blkOk_by (own := [("_law_across", 4)]) (N := N_l_shares) (sc := defScope s_l_shares) (by decide +kernel)) (fun _ _ _ _ _ => (pg_name (i := 4) sc_l_shares.nd rfl (.inl rfl))) (fun _ _ _ _ _ => pts_nil) (fun _ _ _ _ _ => (pe_tup (pa_cons (pv 4) (pa_cons pe_int pa_nil)))))) (pe_lc (own := [("_law_across", 4)]) (by rfl) sc_l_shares.nd (pi_range2 (by rfl) T.z_range (pa_cons (pe_un un_neg pe_int) (pa_cons pe_int pa_nil))) (blkOk_by (own := [("_law_across", 4)]) (N := N_l_shares) (sc := defScope s_l_shares) (by decide +kernel)) (fun _ _ _ _ _ => (pg_name (i := 4) sc_l_shares.nd rfl (.inl rfl))) (fun _ _ _ _ _ => pts_nil) (fun _ _ _ _ _ => (pe_tup (pa_cons (pv 4) (pa_cons pe_int pa_nil)))))))
      (pss_cons (ps_set (i := 2) sc_l_shares.nd rfl (.inl rfl) (pe_lst pa_nil))
      (pss_cons (ps_for PassesOwn.never rfl (pi_range1 (by rfl) T.z_range (pa_cons (pe_ix (ix_listK K) (pe_lst (pa_cons (pe_call (ok_l_pick T (k := k)) hr (by rfl) T.g_l_pick T.F_l_pick.kp T.b_l_pick .nil pass0 (pa_cons (pv 0) (pa_cons pe_int pa_nil))) (pa_cons pe_int pa_nil))) (pe_callTy call_int1 (by rfl) T.z_int (by decide +kernel) (pa_cons (pe_cmpR op_eq (pe_call (ok_l_pick T (k := k)) hr (by rfl) T.g_l_pick T.F_l_pick.kp T.b_l_pick .nil pass0 (pa_cons (pv 0) (pa_cons pe_int pa_nil))) pe_int (nomark _)) pa_nil)) (fun _ _ => rfl)) pa_nil)) (pg_name (i := 3) sc_l_shares.nd rfl (.inl rfl)) (pss_cons (ps_asg (pe_bm PySem.F.plainAttrs_list PySem.F.slot_list_pop PySem.F.type_list_pop mt_popAt (pv 1) (pa_cons (pe_call (ok_l_pick T (k := k)) hr (by rfl) T.g_l_pick T.F_l_pick.kp T.b_l_pick .nil pass0 (pa_cons (pv 0) (pa_cons (pe_callB (len_K K) (by rfl) T.z_len PySem.boot_len (pa_cons (pv 1) pa_nil)) pa_nil))) pa_nil)) (pg_tupK K (n := 2) rfl (pgs_cons (pg_name (i := 4) sc_l_shares.nd rfl (.inl rfl)) (pgs_cons (pg_name (i := 5) sc_l_shares.nd rfl (.inl rfl)) pgs_nil))))
      (pss_one (ps_expr (pe_bm PySem.F.plainAttrs_list PySem.F.slot_list_append PySem.F.type_list_append mt_append (pv 2) (pa_cons (pe_tup (pa_cons (pv 4) (pa_cons (pv 5) (pa_cons (pe_ix (ix_listK K) (pe_lst (pa_cons pe_int (pa_cons pe_int (pa_cons pe_int (pa_cons pe_int (pa_cons (pe_op op_add pe_int (pe_call (ok_l_pick T (k := k)) hr (by rfl) T.g_l_pick T.F_l_pick.kp T.b_l_pick .nil pass0 (pa_cons (pv 0) (pa_cons pe_int pa_nil)))) pa_nil)))))) (pe_call (ok_l_pick T (k := k)) hr (by rfl) T.g_l_pick T.F_l_pick.kp T.b_l_pick .nil pass0 (pa_cons (pv 0) (pa_cons pe_int pa_nil))) (fun _ _ => rfl)) pa_nil)))) pa_nil))))))
      (pss_one (ps_ret (pv 2))))))), ?_⟩
    refine ⟨_, rfl, L, 4, n, rfl, hL, by omega, by decide, by decide, fun r1 H1 g1 l1 a1 b1 => ?_⟩
    refine ⟨rfl, _, rfl, ite2 (fun e => ?_) (fun e => ?_)⟩
    · refine ⟨(by show 3 ≤ sizeLine; decide), fun p1 hp1 => ?_⟩
      have s1 := sm_new (o := .tup [.int 1, .int 0, .int 7]) hp1
      have d1 : Dt [L] (upd H1 p1 (.tup [.int 1, .int 0, .int 7])) (.ref p1) (eC [1, 0, 7]) := Dt.ofCol (l1.bk.ne hp1) upd_same
      generalize upd H1 p1 (.tup [.int 1, .int 0, .int 7]) = H2 at *
      have l2 := l1.same s1
      refine ⟨_, rfl, (by show 3 ≤ sizeLine; decide), fun p2 hp2 => ?_⟩
      have s2 := sm_new (o := .tup [.int (-1), .int 1, .int 3]) hp2
      have d2 : Dt [L] (upd H2 p2 (.tup [.int (-1), .int 1, .int 3])) (.ref p2) (eC [-1, 1, 3]) := Dt.ofCol (l2.bk.ne hp2) upd_same
      generalize upd H2 p2 (.tup [.int (-1), .int 1, .int 3]) = H3 at *
      have l3 := l2.same s2
      refine ⟨(by show 3 ≤ sizeLine; decide), fun p3 hp3 => ?_⟩
      have s3 := sm_new (o := .tup [.int 0, .int 1, .int 5]) hp3
      have d3 : Dt [L] (upd H3 p3 (.tup [.int 0, .int 1, .int 5])) (.ref p3) (eC [0, 1, 5]) := Dt.ofCol (l3.bk.ne hp3) upd_same
      generalize upd H3 p3 (.tup [.int 0, .int 1, .int 5]) = H4 at *
      have l4 := l3.same s3
      refine ⟨(by show 3 ≤ sizeLine; decide), fun p4 hp4 => ?_⟩
      have s4 := sm_new (o := .tup [.int 1, .int 1, .int 1]) hp4
      have d4 : Dt [L] (upd H4 p4 (.tup [.int 1, .int 1, .int 1])) (.ref p4) (eC [1, 1, 1]) := Dt.ofCol (l4.bk.ne hp4) upd_same
      generalize upd H4 p4 (.tup [.int 1, .int 1, .int 1]) = H5 at *
      have l5 := l4.same s4
      refine ⟨(by show 4 ≤ sizeLine; decide), fun p5 hp5 => ?_⟩
      have s5 := sm_new (o := .lst [.ref p1, .ref p2, .ref p3, .ref p4]) hp5
      refine q _ _ [(1, 0, 7), (-1, 1, 3), (0, 1, 5), (1, 1, 1)] (g1.trans (Go.of ((((s1.trans s2).trans s3).trans s4).trans s5))) ((l5.same s5).mono (by omega)) (.lst (l5.bk.ne hp5) upd_same ?_) (by decide) ?_
      · exact .cons ((((d1.s s2).s s3).s s4).s s5) (.cons (((d2.s s3).s s4).s s5) (.cons ((d3.s s4).s s5) (.one (d4.s s5))))
      · intro s hs
        simp only [List.mem_cons, List.not_mem_nil, or_false] at hs
        unfold shOk
        rcases hs with rfl | rfl | rfl | rfl <;> simp
    · refine ⟨(by show 2 ≤ sizeLine; decide), fun p1 hp1 => ?_⟩
      have s1 := sm_new (o := .tup [.int 1, .int 0]) hp1
      have d1 : Dt [L] (upd H1 p1 (.tup [.int 1, .int 0])) (.ref p1) (eC [1, 0]) := Dt.ofCol (l1.bk.ne hp1) upd_same
      generalize upd H1 p1 (.tup [.int 1, .int 0]) = H2 at *
      have l2 := l1.same s1
      refine ⟨(by show 2 ≤ sizeLine; decide), fun p2 hp2 => ?_⟩
      have s2 := sm_new (o := .tup [.int 2, .int 0]) hp2
      have d2 : Dt [L] (upd H2 p2 (.tup [.int 2, .int 0])) (.ref p2) (eC [2, 0]) := Dt.ofCol (l2.bk.ne hp2) upd_same
      generalize upd H2 p2 (.tup [.int 2, .int 0]) = H3 at *
      have l3 := l2.same s2
      refine ⟨(by show 2 ≤ sizeLine; decide), fun p3 hp3 => ?_⟩
      have s3 := sm_new (o := .lst [.ref p1, .ref p2]) hp3
      have e3' : (upd H3 p3 (.lst [.ref p1, .ref p2])) p3 = some (.lst [.ref p1, .ref p2]) := upd_same
      generalize upd H3 p3 (.lst [.ref p1, .ref p2]) = H4 at *
      have l4 := l3.same s3
      have dA : DtA [L] H4 [.ref p1, .ref p2] ([[1, 0], [2, 0]].map eC) := .cons ((d1.s s2).s s3) (.one (d2.s s3))
      refine ⟨_, rfl, -2, 3, rfl, ⟨by decide, by decide, by decide, by decide⟩, fun D hD => ?_⟩
      refine lc_pure (B := [L]) (walk_range (lo := -2) (n := (3 - (-2) : Int).toNat)) hD l4.bk (fun _ _ => True.intro) (by decide)
        (fun j => some (eC [-2 + (j : Int), 1])) (fun j x H' H'' Ny Nn hj t1 bk y ky kn => ?_) (fun H5 ws s5 eD hW => ?_)
      · obtain ⟨rfl, rfl⟩ := y
        refine ⟨rfl, lc_yes ⟨_, rfl, (by show 2 ≤ sizeLine; decide), fun p hp => ?_⟩⟩
        exact ky _ _ _ rfl (sm_new hp) (Dt.ofCol (bk.ne hp) upd_same)
      have lw : ws.length = 5 := by
        have := hW.len
        rw [fm_some2, List.length_map, List.length_range] at this
        exact this
      refine ⟨p3, D, _, _, rfl, rfl, s5 _ _ e3', eD, Nat.le_of_lt (sz (by simp; omega)), fun p6 hp6 => ?_⟩
      have s6 := sm_new (o := .lst ([.ref p1, .ref p2] ++ ws)) hp6
      have e6 : (upd H5 p6 (.lst ([.ref p1, .ref p2] ++ ws))) p6 = some (.lst ([.ref p1, .ref p2] ++ ws)) := upd_same
      generalize upd H5 p6 (.lst ([.ref p1, .ref p2] ++ ws)) = H6 at *
      have l6 := l4.same (s5.trans s6)
      have dA6 := ((dA.s s5).s s6).app (hW.un.s s6)
      refine ⟨_, rfl, -2, 3, rfl, ⟨by decide, by decide, by decide, by decide⟩, fun D2 hD2 => ?_⟩
      refine lc_pure (B := [L]) (walk_range (lo := -2) (n := (3 - (-2) : Int).toNat)) hD2 l6.bk (fun _ _ => True.intro) (by decide)
        (fun j => some (eC [-2 + (j : Int), 2])) (fun j x H' H'' Ny Nn hj t1 bk y ky kn => ?_) (fun H7 ws2 s7 eD2 hW2 => ?_)
      · obtain ⟨rfl, rfl⟩ := y
        refine ⟨rfl, lc_yes ⟨_, rfl, (by show 2 ≤ sizeLine; decide), fun p hp => ?_⟩⟩
        exact ky _ _ _ rfl (sm_new hp) (Dt.ofCol (bk.ne hp) upd_same)
      have lw2 : ws2.length = 5 := by
        have := hW2.len
        rw [fm_some2, List.length_map, List.length_range] at this
        exact this
      refine ⟨p6, D2, _, _, rfl, rfl, s7 _ _ e6, eD2, Nat.le_of_lt (sz (by simp; omega)), fun R hR => ?_⟩
      have s8 := sm_new (o := .lst (([.ref p1, .ref p2] ++ ws) ++ ws2)) hR
      have l7 := l6.same s7
      have nR : R ∉ [L] := l7.bk.ne hR
      have e8 : (upd H7 R (.lst (([.ref p1, .ref p2] ++ ws) ++ ws2))) R = some (.lst (([.ref p1, .ref p2] ++ ws) ++ ws2)) := upd_same
      have dA8 := ((((dA6.s s7).app hW2.un).fr hR).s s8)
      have lall : (([V.ref p1, V.ref p2] ++ ws) ++ ws2).length = 12 := by simp; omega
      have hRH : H R = none := (g1.trans (Go.of ((s1.trans s2).trans (s3.trans ((s5.trans s6).trans s7))))).free hR
      generalize upd H7 R (.lst (([.ref p1, .ref p2] ++ ws) ++ ws2)) = H8 at *
      have l8 := l7.same s8
      have g8 : Go [L] H H8 := g1.trans (Go.of (((s1.trans s2).trans (s3.trans ((s5.trans s6).trans s7))).trans s8))
      rw [fm_some2, fm_some2] at dA8
      obtain ⟨rs, ers, ors⟩ : ∃ rs : List (List Int), ([[1, 0], [2, 0]].map eC ++ (List.range (3 - (-2) : Int).toNat).map (fun (j : Nat) => eC [-2 + (j : Int), 1])) ++ (List.range (3 - (-2) : Int).toNat).map (fun (j : Nat) => eC [-2 + (j : Int), 2]) = rs.map eC ∧ ∀ p ∈ rs, prSh p := by
        refine ⟨([[1, 0], [2, 0]] ++ (List.range 5).map (fun (j : Nat) => [-2 + (j : Int), 1])) ++ (List.range 5).map (fun (j : Nat) => [-2 + (j : Int), 2]), by rw [List.map_append, List.map_append, List.map_map, List.map_map]; rfl, fun p hp => ?_⟩
        rcases List.mem_append.mp hp with hp | hp
        · rcases List.mem_append.mp hp with hp | hp
          · simp only [List.mem_cons, List.not_mem_nil, or_false] at hp
            rcases hp with rfl | rfl
            · exact ⟨1, 0, rfl, by omega, by omega, by omega, by omega, by omega⟩
            · exact ⟨2, 0, rfl, by omega, by omega, by omega, by omega, by omega⟩
          · obtain ⟨j, hj, rfl⟩ := List.mem_map.mp hp
            have := List.mem_range.mp hj
            exact ⟨_, _, rfl, by omega, by omega, by omega, by omega, by omega⟩
        · obtain ⟨j, hj, rfl⟩ := List.mem_map.mp hp
          have := List.mem_range.mp hj
          exact ⟨_, _, rfl, by omega, by omega, by omega, by omega, by omega⟩
      rw [ers] at dA8
      generalize ([V.ref p1, V.ref p2] ++ ws) ++ ws2 = avs at *
      -- found
      refine ⟨Nat.zero_le _, fun S hS => ?_⟩
      have s9 := sm_new (o := .lst []) hS
      have e9 : (upd H8 S (.lst [])) S = some (.lst []) := upd_same
      have nS : S ∉ [L] := l8.bk.ne hS
      have nSR : S ≠ R := fun z => by
        rw [z, e8] at hS
        cases hS
      have hSH : H S = none := g8.free hS
      have dA9 := (dA8.fr hS).s s9
      have e89 := s9 _ _ e8
      have l9 := l8.same s9
      have g9 : Go [L] H (upd H8 S (.lst [])) := g8.trans (Go.of s9)
      generalize upd H8 S (.lst []) = H9 at *
      refine ⟨_, rfl, L, 5, _, rfl, l9, by omega, by decide, by decide, fun r10 H10 g10 l10 a10 b10 => ?_⟩
      refine ⟨(by show 2 ≤ sizeLine; decide), fun p11 hp11 => ?_⟩
      refine ⟨_, rfl, L, 8, _, rfl, l10.new hp11, by omega, by decide, by decide, fun r12 H12 g12 l12 a12 b12 => ?_⟩
      have e12 : H12 p11 = some (.lst [.int r10, .int 12]) := g12.k p11 _ (l10.bk.ne hp11) upd_same
      obtain ⟨z, fz, hz⟩ := at2i r10 12 (decide (V.int r12 = V.int 0))
      have gA : Go [L] H9 H12 := (g10.trans (Go.new hp11)).trans g12
      refine ⟨rfl, .inr ⟨_, rfl, p11, _, _, _, rfl, rfl, SqL.of e12, fz, ?_⟩⟩
      refine ⟨_, rfl, by omega, by omega, for_range (lo := 0) (n := z.toNat) (fun i σ H' => ∃ y3 y4 y5 us vs rs fs, σ = [some (.ref L), some (.ref R), some (.ref S), y3, y4, y5] ∧ Go [L] H H' ∧ Lf L H' (n + 10 + 3 * i) ∧ H' R = some (.lst us) ∧ DtA [S, R, L] H' us (List.map eC rs) ∧ rs.length + i = 12 ∧ (∀ p ∈ rs, prSh p) ∧ H' S = some (.lst vs) ∧ DtA [S, R, L] H' vs ((fs.map e3).map eC) ∧ fs.length = i ∧ ∀ s ∈ fs, shOk s)
        ⟨_, _, _, avs, [], rs, [], rfl, g9.trans gA, l12.mono (by omega), gA.k _ _ nR e89, dA9.g (gA.w1 (by simp)), ?_, ors, gA.k _ _ nS e9, .nil, rfl, fun _ h => nomatch h⟩ (fun i σ H13 hi h13 => ?_) (fun σ H13 h13 => ?_)⟩
      · have := dA8.len
        rw [List.length_map] at this
        omega
      · obtain ⟨y3, y4, y5, us, vs, rs, fs, rfl, g13, l13, eR, dR, lr, orr, eS, dS, lf, of⟩ := h13
        have lu := dR.len
        rw [List.length_map] at lu
        have lv := dS.len
        rw [List.length_map, List.length_map] at lv
        refine ⟨_, rfl, .inl ⟨rfl, _, SqL.of eR⟩, _, rfl, _, rfl, R, _, rfl, .inl (SqL.of eR), L, _, _, rfl, l13, by omega, by omega, by omega, fun r14 H14 g14 l14 a14 b14 => ?_⟩
        have eR14 := g14.k R _ nR eR
        have eS14 := g14.k S _ nS eS
        have dR14 := dR.g (g14.w1 (B := [S, R, L]) (by simp))
        have dS14 := dS.g (g14.w1 (B := [S, R, L]) (by simp))
        have hr14 : r14.toNat < rs.length := by omega
        obtain ⟨v14, f14, d14⟩ := dR14.get (i := r14.toNat) (d := eC rs[r14.toNat]) (by rw [List.getElem?_map, List.getElem?_eq_getElem hr14]; rfl)
        obtain ⟨x, y, exy, oxy⟩ := orr _ (List.getElem_mem hr14)
        rw [exy] at d14
        obtain ⟨ta, rfl, nta, eta⟩ := d14.col
        have gR : Go [S, R, L] H14 (upd H14 R (.lst (us.eraseIdx r14.toNat))) := Go.refl.at (by simp)
        refine ⟨R, _, _, r14.toNat, .ref ta, rfl, rfl, eR14, by omega, by omega, seqIx0 a14 (by omega), f14, ?_⟩
        have eR15 : (upd H14 R (.lst (us.eraseIdx r14.toNat))) R = some (.lst (us.eraseIdx r14.toNat)) := upd_same
        have eS15 : (upd H14 R (.lst (us.eraseIdx r14.toNat))) S = some (.lst vs) := by rw [upd_ne nSR]; exact eS14
        have eta15 := gR.k ta _ nta eta
        have dR15 := (dR14.g gR).erase r14.toNat
        have dS15 := dS14.g gR
        have l15 : Lf L (upd H14 R (.lst (us.eraseIdx r14.toNat))) _ := l14.up (show R ≠ L by simpa using nR)
        have g15 : Go [L] H (upd H14 R (.lst (us.eraseIdx r14.toNat))) := (g13.trans g14).mut hRH
        rw [erase_map] at dR15
        generalize upd H14 R (.lst (us.eraseIdx r14.toNat)) = H15 at *
        refine ⟨ta, [.int x, .int y], rfl, SqT.of eta15, rfl, _, _, rfl, _, _, rfl, rfl, ?_⟩
        refine ⟨_, rfl, .inl ⟨rfl, _, SqL.of eS15⟩, _, rfl, _, rfl, _, rfl, L, 64, _, rfl, l15, by omega, by decide, by decide, fun r16 H16 g16 l16 a16 b16 => ?_⟩
        refine ⟨_, _, rfl, rfl, (by show 5 ≤ sizeLine; decide), fun p17 hp17 => ?_⟩
        refine ⟨_, rfl, L, 5, _, rfl, l16.new hp17, by omega, by decide, by decide, fun r18 H18 g18 l18 a18 b18 => ?_⟩
        have e18 : H18 p17 = some (.lst ([1, 2, 3, 64, 1 + r16].map V.int)) := g18.k p17 _ (l16.bk.ne hp17) upd_same
        obtain ⟨m, hm, fm⟩ := at_int (ns := [1, 2, 3, 64, 1 + r16]) a18 b18
        have om : 1 ≤ m ∧ m ≤ 64 := by
          simp only [List.mem_cons, List.not_mem_nil, or_false] at hm
          omega
        refine ⟨p17, _, _, _, rfl, rfl, SqL.of e18, fm, (by show 3 ≤ sizeLine; decide), fun t ht => ?_⟩
        have gB : Go [L] H15 H18 := (g16.trans (Go.new hp17)).trans g18
        have gB3 : Go [S, R, L] H15 H18 := gB.w1 (by simp)
        have eR18 := gB.k R _ nR eR15
        have eS18 := gB.k S _ nS eS15
        have bk18 : Bk [S, R, L] H18 := (l18.bk.cons eR18).cons eS18
        have st := sm_new (o := .tup [.int x, .int y, .int m]) ht
        have et : (upd H18 t (.tup [.int x, .int y, .int m])) t = some (.tup ([x, y, m].map V.int)) := upd_same
        have nt := bk18.ne ht
        have dR19 := (dR15.g gB3).s st
        have dS19 := (dS15.g gB3).s st
        have l19 := l18.same st
        have g19 : Go [L] H (upd H18 t (.tup [.int x, .int y, .int m])) := (g15.trans gB).trans (Go.of st)
        have eR19 := st _ _ eR18
        have eS19 := st _ _ eS18
        generalize upd H18 t (.tup [.int x, .int y, .int m]) = H19 at *
        have gm : Go [S, R, L] H19 (upd H19 S (.lst (vs ++ [.ref t]))) := Go.refl.at (by simp)
        refine ⟨S, _, _, rfl, rfl, eS19, sz (by omega), ?_⟩
        refine ⟨_, _, _, us.eraseIdx r14.toNat, vs ++ [.ref t], rs.eraseIdx r14.toNat, fs ++ [(x, y, m)], rfl, g19.mut hSH, (l19.up (show S ≠ L by simpa using nS)).mono (by omega), ?_, dR19.g gm, ?_, fun p hp => orr p (List.mem_of_mem_eraseIdx hp), upd_same, ?_, by simp; omega, fun s hs => ?_⟩
        · rw [upd_ne (Ne.symm nSR)]
          exact eR19
        · rw [List.length_eraseIdx_of_lt hr14]
          omega
        · rw [List.map_append, List.map_append]
          exact (dS19.g gm).app (.one (Dt.g (Dt.ofCol nt et) gm))
        · rcases List.mem_append.mp hs with h | h
          · exact of s h
          · rw [List.mem_singleton.mp h]
            exact ⟨oxy.1, oxy.2.1, oxy.2.2.1, oxy.2.2.2.1, oxy.2.2.2.2, om.1, om.2⟩
      · obtain ⟨y3, y4, y5, us, vs, rs, fs, rfl, g13, l13, eR, dR, lr, orr, eS, dS, lf, of⟩ := h13
        exact ⟨_, rfl, q _ _ fs g13 (l13.mono (by omega)) (.lst nS eS dS.un.un) (by omega) of⟩
/-! ### for the laws of handing -/
theorem pic_rect {wd : Int} {ps : List (List (List Int))} {h wz : Nat} (hh : ps.length = h) (op : ∀ p ∈ ps, p.length = wz ∧ ∀ c ∈ p, cOk wd c) : Rect h wz wd.toNat ps ∧ bW 2048 ps := by
  refine ⟨⟨hh, fun p hp => ⟨(op p hp).1, fun c hc => by have := ((op p hp).2 c hc).1; omega⟩⟩, fun p hp c hc x hx => ?_⟩
  have := ((op p hp).2 c hc).2 x hx
  omega
theorem intsOf {Pc : List Int → Prop} : ∀ {ds : List PyData}, (∀ d ∈ ds, ∃ c, d = eI c ∧ Pc c) → ∃ cs : List (List Int), ds = cs.map eI ∧ ∀ c ∈ cs, Pc c
  | [], _ => ⟨[], rfl, fun _ h => nomatch h⟩
  | d :: ds, h => by
    obtain ⟨m, e, hm⟩ := intsOf (ds := ds) fun x hx => h x (List.mem_cons_of_mem _ hx)
    obtain ⟨z, ez, hz⟩ := h d (List.mem_cons_self ..)
    refine ⟨z :: m, by rw [e, ez]; rfl, fun y hy => ?_⟩
    rcases List.mem_cons.mp hy with q | q
    · rw [q]; exact hz
    · exact hm y q
theorem Gr.set2 {B : List Addr} {H : Hp} {wa : Addr} {ras : List Addr} {W : List (List PyData)} (g : Gr B H wa ras W) {i : Nat} {ra : Addr} {vs' : List V} {ds' : List PyData} (h1 : ras[i]? = some ra) (hd : DtA (wa :: ras ++ B) H vs' ds') :
    Gr B (upd H ra (.lst vs')) wa ras (W.set i ds') := by
  have mr := List.mem_of_getElem? h1
  have nwr : wa ≠ ra := fun z => (List.nodup_cons.mp g.nd).1 (z ▸ mr)
  have gm : Go (wa :: ras ++ B) H (upd H ra (.lst vs')) := Go.refl.at (List.mem_append_left _ (List.mem_cons_of_mem _ mr))
  refine ⟨by rw [upd_ne nwr]; exact g.a, g.nw, g.nd, g.nb, by rw [List.length_set]; exact g.l, fun k rb es k1 k2 => ?_⟩
  by_cases c : k = i
  · subst c
    rw [h1] at k1
    cases k1
    have hk : k < W.length := by
      have := (List.getElem?_eq_some_iff.mp k2).1
      simpa using this
    rw [List.getElem?_set_self hk] at k2
    cases k2
    exact ⟨_, upd_same, hd.g gm⟩
  · rw [List.getElem?_set_ne (Ne.symm c)] at k2
    obtain ⟨us, e, dd⟩ := g.r k rb es k1 k2
    have nrb : rb ≠ ra := fun z => by
      subst z
      exact c ((List.getElem?_inj (List.getElem?_eq_some_iff.mp k1).1 (List.nodup_cons.mp g.nd).2).mp (k1.trans h1.symm))
    exact ⟨us, by rw [upd_ne nrb]; exact e, dd.g gm⟩
theorem cut_but {α : Type} (xs : List α) : cutL xs none (some (-1)) = xs.take (xs.length - 1) := by
  unfold cutL
  have e : HT.sIx xs.length xs.length (some (-1)) = xs.length - 1 := by
    show (if (-1 : Int) < 0 then ((-1 : Int) + (xs.length : Int)).toNat else min (-1 : Int).toNat xs.length) = _
    rw [if_pos (by decide)]
    omega
  have e2 : HT.sIx xs.length 0 none = 0 := rfl
  rw [e, e2, List.drop_zero, Nat.sub_zero]
theorem take_set_last {α : Type} (xs : List α) (x : α) : (xs.set (xs.length - 1) x).take (xs.length - 1) = xs.take (xs.length - 1) := by
  rw [List.take_set, List.set_eq_of_length_le (by rw [List.length_take]; omega)]
theorem at_last {xs : List V} {v : V} (h : 0 < xs.length) (e : xs[xs.length - 1]? = some v) : atI xs (-1) = some v := by
  unfold atI
  rw [ixN_last h]
  exact e
theorem shw_eN {ns : List (List Int)} (h : ∀ r ∈ ns, r.length ≤ 100 ∧ cIn (-1000000000) 1000000000 r) (l : ns.length ≤ 100) : Shw (eN ns) 710000 := by
  refine (shw_lst (n := 7000) fun d hd => ?_).mono (by rw [List.length_map]; omega)
  obtain ⟨r, hr, rfl⟩ := List.mem_map.mp hd
  exact shw_eI (h r hr).2 (h r hr).1
theorem shw_sh {shs : List (Int × Int × Int)} (sl : shs.length ≤ 12) (ok : ∀ s ∈ shs, shOk s) : Shw (eP (shs.map e3)) 71000 := shw_eP (fun c hc => by
  obtain ⟨s, hs, rfl⟩ := List.mem_map.mp hc
  obtain ⟨_, a, b, c, d, e, f⟩ := ok s hs
  refine ⟨by simp [e3], fun x hx => ?_⟩
  simp only [e3, List.mem_cons, List.not_mem_nil, or_false] at hx
  rcases hx with rfl | rfl | rfl <;> omega) (by rw [List.length_map]; omega)
theorem tup3I {B : List Addr} {H : Hp} {v : V} {d1 d2 d3 : PyData} (h : Dt B H v (.tuple [d1, d2, d3])) : ∃ a x y z, v = .ref a ∧ a ∉ B ∧ H a = some (.tup [x, y, z]) ∧ Dt B H x d1 ∧ Dt B H y d2 ∧ Dt B H z d3 := by
  obtain ⟨a, vs, rfl, na, ea, hA⟩ := h.tupI
  cases hA with
  | cons h1 h2 =>
    cases h2 with
    | cons h3 h4 =>
      cases h4 with
      | cons h5 h6 =>
        cases h6
        exact ⟨a, _, _, _, rfl, na, ea, h1, h3, h5⟩
/-! ### what the law promises -/
def spLaw (K : PySem.W.Frag) : Sp := fun vs H Q _ => ∃ (a : Addr) (ns : List Int), vs = [.ref a] ∧ SqL K H a (ns.map V.int) ∧ ns.length ≤ 63 ∧ ∀ H', Q (.bl true) H'
/-! ### handed_on, used -/
def eHo (z : List (List Int) × List Int) : PyData := .tuple [eN z.1, eC z.2]
theorem lost_fold {h w : Nat} {shs : List (Int × Int × Int)} {cs : List (List Int)} {n : Nat} : ∀ (ss : List (List Int)) (z : List (List (List Int)) × List (List Int) × List Int), z.2.2.length ≤ n → (ss.foldl (hoStep h w shs cs) z).2.2.length ≤ n
  | [], _, hz => hz
  | a :: ss, z, hz => by
    rw [List.foldl_cons]
    refine lost_fold ss _ ?_
    show (adC z.2.2 _).length ≤ n
    rw [adC_ln]
    omega
theorem sh_eHo {h w n : Nat} {t : Bool} {ps : List (List (List Int))} {cs : List (List Int)} {shs : List (Int × Int × Int)} (ok : HoOk h w n ps cs shs) : Sh (eHo (hoW h w n t ps shs cs).2) 3 := by
  obtain ⟨hR, h0, h1, w0, w1, n0, n1, c0, c1, cl, bps, sl, sok⟩ := ok
  obtain ⟨_, q2⟩ := ho_rect (t := t) c0 (fun c hc => (cl c hc).1) sok hR
  refine sh_tup (by simp) fun d hd => ?_
  simp only [List.mem_cons, List.not_mem_nil, or_false] at hd
  rcases hd with rfl | rfl
  · refine sh_eN (by have := q2.1; omega) fun r hr => by have := q2.2 r hr; omega
  · refine (sh_eC ?_).mono (by omega)
    have := lost_fold (h := h) (w := w) (shs := shs) (cs := cs) (n := n) (spotsOf t ps ps.length) (ps, ps.map (fun p => List.replicate p.length 0), List.replicate n 0) (by simp)
    unfold hoW
    omega
theorem ho_fin {B : List Addr} {H' : Hp} {t0 na : Addr} {ras : List Addr} {lv : V} {N : List (List Int)} {lost : List Int} (e : H' t0 = some (.tup [.ref na, lv])) (nt : t0 ∉ B) (g : Gr B H' na ras (N.map fun r => r.map PyData.int)) (dl : Dt (na :: ras ++ B) H' lv (eC lost)) : Dt B H' (.ref na) (eN N) ∧ Dt B H' lv (eC lost) ∧ Dt B H' (.ref t0) (eHo (N, lost)) := by
  have dn : Dt B H' (.ref na) (eN N) := by
    have := g.dt
    rw [List.map_map] at this
    exact this
  have dl2 := dl.sub (C := B) fun a ha => List.mem_append_right _ ha
  exact ⟨dn, dl2, .tup nt e (.cons dn (.one dl2))⟩
/-! ### the law -/
set_option maxHeartbeats 2000000 in
theorem ok_law (T : Tx K mg) {f : Addr} {fd : FuncData} (F : Fun K "law" "law" s_law f fd) {k : Nat} (hk : k ≤ 10) : FnG P w K mg base (k + 5) f fd ["_law_script"] (spLaw K) := by
  refine fn_g F sc_law (fun vs H Q E h => ?_) (fun cdv A outer s H vs Q E hA hr h => ?_)
  · obtain ⟨a, ns, rfl, _⟩ := h
    rfl
  · obtain ⟨a, ns0, rfl, hS, hlen, q⟩ := h
    refine ⟨_, (pss_cons (ps_for PassesOwn.never rfl (pi_range1 (by rfl) T.z_range (pa_cons (pe_op op_add (pe_callB (call_min2 rfl) (by rfl) T.z_min (by decide +kernel) (pa_cons pe_int (pa_cons (pe_callB (len_K K) (by rfl) T.z_len PySem.boot_len (pa_cons (pv 0) pa_nil)) pa_nil))) pe_int) pa_nil)) (pg_name (i := 1) sc_law.nd rfl (.inl rfl)) (pss_cons (ps_set (i := 2) sc_law.nd rfl (.inl rfl) (pe_call (ok_l_left T (k := k + 3)) hr (by rfl) T.g_l_left T.F_l_left.kp T.b_l_left .nil pass0 (pa_cons (pv 0) (pa_cons (pv 1) pa_nil))))
      (pss_cons (ps_asg (pe_op op_add (pe_ix (ix_listK K) (pv 2) pe_int (fun _ _ => rfl)) pe_int) (pg_sub (pv 2) pe_int set_list))
      (pss_cons (ps_set (i := 3) sc_law.nd rfl (.inl rfl) (pe_call (ok_l_kind T (k := k + 1)) hr (by rfl) T.g_l_kind T.F_l_kind.kp T.b_l_kind .nil pass0 (pa_cons (pv 2) pa_nil)))
      (pss_cons (ps_set (i := 4) sc_law.nd rfl (.inl rfl) (pe_call (ok_l_picture T (k := k)) hr (by rfl) T.g_l_picture T.F_l_picture.kp T.b_l_picture .nil pass0 (pa_cons (pv 2) (pa_cons (pv 3) pa_nil))))
      (pss_cons (ps_set (i := 5) sc_law.nd rfl (.inl rfl) (pe_call (ok_l_palette T (k := k)) hr (by rfl) T.g_l_palette T.F_l_palette.kp T.b_l_palette .nil pass0 (pa_cons (pv 2) (pa_cons (pv 3) pa_nil))))
      (pss_cons (ps_set (i := 6) sc_law.nd rfl (.inl rfl) (pe_call (ok_l_shares T (k := k + 1)) hr (by rfl) T.g_l_shares T.F_l_shares.kp T.b_l_shares .nil pass0 (pa_cons (pv 2) pa_nil)))
      (pss_cons (ps_set (i := 7) sc_law.nd rfl (.inl rfl) (pe_callTy (cr_strD K hA hr.units) (by rfl) T.z_str (by decide +kernel) (pa_cons (pe_lst (pa_cons (pv 4) (pa_cons (pv 5) (pa_cons (pv 6) pa_nil)))) pa_nil)))
      (pss_cons (ps_for PassesOwn.never rfl (pi_tupK K (pe_tup (pa_cons pe_str (pa_cons pe_str pa_nil)))) (pg_name (i := 8) sc_law.nd rfl (.inl rfl)) (pss_cons (ps_asg (pe_call (ok_l_gone T (k := k + 1)) hr (by rfl) T.g_l_gone T.F_l_gone.kp T.b_l_gone .nil pass0 (pa_cons (pv 4) (pa_cons (pv 5) (pa_cons (pv 6) (pa_cons (pv 8) (pa_cons pe_non pa_nil)))))) (pg_tupK K (n := 3) rfl (pgs_cons (pg_name (i := 9) sc_law.nd rfl (.inl rfl)) (pgs_cons (pg_name (i := 10) sc_law.nd rfl (.inl rfl)) (pgs_cons (pg_name (i := 11) sc_law.nd rfl (.inl rfl)) pgs_nil)))))
      (pss_one (ps_for PassesOwn.never rfl (pi_range1 (by rfl) T.z_range (pa_cons pe_int pa_nil)) (pg_name (i := 12) sc_law.nd rfl (.inl rfl)) (pss_cons (ps_set (i := 13) sc_law.nd rfl (.inl rfl) (pe_call (ok_handed_on T (k := k + 1)) hr (by rfl) T.g_handed_on T.F_handed_on.kp T.b_handed_on .nil pass0 (pa_cons (pv 4) (pa_cons (pv 5) (pa_cons (pv 6) (pa_cons (pv 8) pa_nil))))))
      (pss_cons (ps_if (pt_not (pt_val (pe_call (ok_l_same T (k := k + 3)) hr (by rfl) T.g_l_same T.F_l_same.kp T.b_l_same .nil pass0 (pa_cons (pv 13) (pa_cons (pe_tup (pa_cons (pv 10) (pa_cons (pv 11) pa_nil))) pa_nil))))) (pss_one (ps_ret pe_bl)) pss_nil)
      (pss_cons (ps_expr (pe_bm PySem.F.plainAttrs_list PySem.F.slot_list_append PySem.F.type_list_append mt_append (pe_ix (ix_listK K) (pe_ix (ix_tupK K) (pv 13) pe_int (fun _ _ => rfl)) pe_int (fun _ _ => rfl)) (pa_cons pe_int pa_nil)))
      (pss_cons (ps_if (pt_not (pt_val (pe_call (ok_l_same T (k := k + 3)) hr (by rfl) T.g_l_same T.F_l_same.kp T.b_l_same .nil pass0 (pa_cons (pe_slice (sl_listK K) (pe_ix (ix_tupK K) (pv 13) pe_int (fun _ _ => rfl)) (po_some pe_int) po_none) (pa_cons (pe_slice (sl_listK K) (pv 10) (po_some pe_int) po_none) pa_nil))))) (pss_one (ps_ret pe_bl)) pss_nil)
      (pss_one (ps_expr (pe_bm0 PySem.F.plainAttrs_list PySem.F.slot_list_clear PySem.F.type_list_clear mt_clear (pe_ix (ix_tupK K) (pv 13) pe_int (fun _ _ => rfl)))))))))))))
      (pss_one (ps_if (pt_cmpR op_ne (pe_callTy (cr_strD K hA hr.units) (by rfl) T.z_str (by decide +kernel) (pa_cons (pe_lst (pa_cons (pv 4) (pa_cons (pv 5) (pa_cons (pv 6) pa_nil)))) pa_nil)) (pv 7) (nomark _)) (pss_one (ps_ret pe_bl)) pss_nil)))))))))))
      (pss_one (ps_ret pe_bl))), ?_⟩
    refine ⟨_, rfl, a, _, rfl, .inl hS, _, _, rfl, _, _, rfl, rfl, ?_⟩
    obtain ⟨m, hm⟩ : ∃ m : Int, m = (if ((ns0.map V.int).length : Int) < 3 then ((ns0.map V.int).length : Int) else (3 : Int)) + 1 := ⟨_, rfl⟩
    have m0 : 0 ≤ m ∧ m ≤ 7 := by
      rw [hm]
      split <;> omega
    refine ⟨m, by rw [hm], by omega, by omega, for_range (lo := 0) (n := m.toNat) (fun i σ H' => ∃ y1 y2 y3 y4 y5 y6 y7 y8 y9 y10 y11 y12 y13, σ = [some (.ref a), y1, y2, y3, y4, y5, y6, y7, y8, y9, y10, y11, y12, y13] ∧ Same H H')
      ⟨none, none, none, none, none, none, none, none, none, none, none, none, none, rfl, Same.refl H⟩ (fun i σ H1 hi h1 => ?_) (fun σ H1 h1 => ?_)⟩
    · obtain ⟨y1, y2, y3, y4, y5, y6, y7, y8, y9, y10, y11, y12, y13, rfl, s1⟩ := h1
      refine ⟨_, rfl, _, rfl, a, ns0, _, rfl, s1.seq hS, by omega, fun L x0 y0 hL0 x0n => ?_⟩
      have hLH : H L = none := s1.free hL0
      have eL1 : (upd H1 L (.lst [.int x0, .int y0, .int 0])) L = some (.lst [.int x0, .int y0, .int 0]) := upd_same
      have s2 := sm_mut (o := .lst [.int x0, .int y0, .int 0]) s1 hLH
      generalize upd H1 L (.lst [.int x0, .int y0, .int 0]) = H2 at *
      refine ⟨_, rfl, L, _, 1, .int y0, rfl, rfl, SqL.of eL1, rfl, _, _, rfl, rfl, _, rfl, L, _, _, 1, rfl, rfl, eL1, rfl, ?_⟩
      generalize hH : upd H2 L (.lst (List.set [V.int x0, V.int y0, V.int 0] 1 (V.int (y0 + 600)))) = H3
      have lf3 : Lf L H3 0 := ⟨x0, y0 + 600, 0, by rw [← hH]; exact upd_same, x0n, by omega, by omega⟩
      have s3 : Same H H3 := by rw [← hH]; exact sm_mut s2 hLH
      clear hH eL1
      have nB : ∀ b ∈ [L], H b = none := fun b hb => by rw [List.mem_singleton.mp hb]; exact hLH
      refine ⟨_, rfl, L, 0, rfl, lf3, by omega, fun kv H4 wd sp g4 l4 w0 w1 p0 p1 d4 => ?_⟩
      refine ⟨_, rfl, _, rfl, L, _, kv, wd, sp, rfl, l4, by omega, d4, by omega, w1, by omega, p1, fun pa pvs H5 ps g5 l5 hpa epa hP picok => ?_⟩
      have npa : pa ∉ [L] := l4.bk.ne hpa
      obtain ⟨op1, op2, wz, wz0, wz1, op3⟩ := picok
      obtain ⟨rP, bP⟩ := pic_rect rfl op3
      have dg5 : Dt [L] H5 (.ref pa) (eG ps) := .lst npa epa hP.un
      refine ⟨_, rfl, _, rfl, L, _, kv, wd, sp, rfl, l5, by omega, d4.g g5, by omega, w1, by omega, p1, fun plv H6 cs g6 l6 d6 c0 c1 cok => ?_⟩
      refine ⟨_, rfl, L, _, rfl, l6, by omega, fun sv H7 shs g7 l7 d7 sl7 sok7 => ?_⟩
      have dg7 := (dg5.g g6).g g7
      have dpl7 := d6.g g7
      obtain ⟨pa', pvs', e', _, epa7, hP7⟩ := dg7.lst2
      cases e'
      have lpv := hP7.len
      rw [List.length_map] at lpv
      obtain ⟨pla, plvs, rfl, npl, epl7, hPl7⟩ := dpl7.pal
      have lpl := hPl7.len
      rw [List.length_map] at lpl
      have cl1 : ∀ c ∈ cs, c.length = wd.toNat := fun c hc => by have := (cok c hc).1; omega
      have sok : ∀ s ∈ shs, 0 ≤ s.2.1 ∧ 0 < s.2.2 ∧ s.2.2 ≤ 1000 := fun s hs => by
        have := sok7 s hs
        exact ⟨this.2.1, by have := this.2.2.2.2.2.1; omega, by have := this.2.2.2.2.2.2; omega⟩
      have ord : ∀ s ∈ shs, 0 < s.2.1 ∨ (s.2.1 = 0 ∧ 0 < s.1) := fun s hs => (sok7 s hs).1
      have bP' : ∀ c ∈ cs, c.length = wd.toNat ∧ bC 2048 c := fun c hc => ⟨cl1 c hc, fun x hx => by have := (cok c hc).2 x hx; omega⟩
      have hok : HoOk ps.length wz wd.toNat ps cs shs := ⟨rP, op1, op2, by omega, wz1, by omega, by omega, c0, by omega, bP', bP, sl7, sok⟩
      have gH : Go [L] H3 H7 := (g4.trans g5).trans (g6.trans g7)
      have bk7 := l7.bk
      -- the text that is kept
      have wdN : ∀ c : List Int, cOk wd c → c.length ≤ 10 ∧ cIn (-1000000000) 1000000000 c := fun c hc => ⟨by have := hc.1; omega, hc.2.mono (by decide) (by decide)⟩
      have shwG : Shw (eG ps) 4000000 := shw_eG (fun p hp => ⟨by have := (op3 p hp).1; omega, fun c hc => wdN c ((op3 p hp).2 c hc)⟩) (by omega)
      have shwP : Shw (eP cs) 71000 := shw_eP (fun c hc => wdN c (cok c hc)) (by omega)
      have shw : Shw (.list [eG ps, eP cs, eP (shs.map e3)]) 12000009 := shw_lst (n := 4000000) fun d hd => by
        simp only [List.mem_cons, List.not_mem_nil, or_false] at hd
        rcases hd with rfl | rfl | rfl
        · exact shwG
        · exact shwP.mono (by omega)
        · exact (shw_sh sl7 sok7).mono (by omega)
      have shG : Sh (eG ps) 3 := sh_eG (by omega) fun p hp => ⟨by have := (op3 p hp).1; omega, fun c hc => by have := ((op3 p hp).2 c hc).1; omega⟩
      have shP : Sh (eP cs) 2 := sh_eP (by omega) fun x hx => by have := (cok x hx).1; omega
      have shS : Sh (eP (shs.map e3)) 2 := sh_eP (by rw [List.length_map]; omega) fun x hx => by
        obtain ⟨e, _, rfl⟩ := List.mem_map.mp hx
        simp [e3]
      have sh : Sh (.list [eG ps, eP cs, eP (shs.map e3)]) 4 := sh_lst (by simp) fun d hd => by
        simp only [List.mem_cons, List.not_mem_nil, or_false] at hd
        rcases hd with rfl | rfl | rfl
        · exact shG
        · exact shP.mono (by omega)
        · exact shS.mono (by omega)
      have dep : (PyData.list [eG ps, eP cs, eP (shs.map e3)]).depth ≤ 40 := Nat.le_trans sh.2.1 (by decide)
      have slen : (PyData.list [eG ps, eP cs, eP (shs.map e3)]).shown.length ≤ sizeLine := Nat.le_trans shw.c (by decide)
      refine ⟨_, rfl, _, rfl, _, rfl, (by show 3 ≤ sizeLine; decide), fun kl hkl => ?_⟩
      have s9 := sm_new (o := .lst [.ref pa, .ref pla, sv]) hkl
      have dK : Dt [L] (upd H7 kl (.lst [.ref pa, .ref pla, sv])) (.ref kl) (.list [eG ps, eP cs, eP (shs.map e3)]) := .lst (bk7.ne hkl) upd_same (.cons (dg7.s s9) (.cons (dpl7.s s9) (.one (d7.s s9))))
      generalize upd H7 kl (.lst [.ref pa, .ref pla, sv]) = H9 at *
      refine ⟨kl, _, rfl, dK.dP, shw.a, shw.b, dep, slen, ?_⟩
      refine ⟨(by show 2 ≤ sizeLine; decide), fun tp htp => ?_⟩
      have s10 := sm_new (o := .tup [.str "same", .str "turned"]) htp
      have t10 := s9.trans s10
      refine ⟨tp, rfl, ⟨_, SqT.of upd_same⟩, for_it (walk_tup (xs := [.str "same", .str "turned"])) (fun i' σ H' => ∃ y1 y8 y9 y10 y11 y12 y13, σ = [some (.ref a), y1, some (.ref L), some kv, some (.ref pa), some (.ref pla), some sv, some (.str (PyData.list [eG ps, eP cs, eP (shs.map e3)]).shown), y8, y9, y10, y11, y12, y13] ∧ Same H7 H' ∧ H' tp = some (.tup [.str "same", .str "turned"]))
        ⟨_, _, _, _, _, _, _, rfl, t10, upd_same⟩ (fun i' σ H' _ h => ?_) (fun i' x σ H10 H10' hi' hh y => ?_) (fun σ H10 hh => ?_)⟩
      · obtain ⟨y1, y8, y9, y10, y11, y12, y13, rfl, _, e⟩ := h
        exact SqT.of e
      · obtain ⟨y1, y8, y9, y10, y11, y12, y13, rfl, s11, etp11⟩ := hh
        obtain ⟨rfl, y⟩ := y
        obtain ⟨t, ex⟩ : ∃ t : Bool, x = .str (if t = true then "turned" else "same") := by
          have h2 : i' = 0 ∨ i' = 1 := by simp at hi'; omega
          rcases h2 with rfl | rfl
          · exact ⟨false, (Option.some.inj y).symm⟩
          · exact ⟨true, (Option.some.inj y).symm⟩
        subst ex
        have B11 := bk7.go (Go.of (B := []) s11)
        have egw := g_ho (t := t) (cs := cs) ord rP
        have q2 := (ho_rect (t := t) c0 cl1 sok rP).2
        have hrow := fun (r : Nat) (hr : r < ps.length) => ho_row_told (t := t) c0 cl1 sok ord rP hr
        have htold := fun (r c : Nat) (hr : r < ps.length) (hc : c < wz) => ho_told (t := t) (cs := cs) ord rP (r := r) (c := c) hr hc
        have hwin := ho_wIn (t := t) c0 sok sl7 rP op2 wz1 (fun c hc => (bP' c hc).2) bP
        have shH := sh_eHo (t := t) hok
        have nokN : numsOk ps.length wz cs.length (hoW ps.length wz wd.toNat t ps shs cs).2.1 := by
          generalize (hoW ps.length wz wd.toNat t ps shs cs).2.1 = N at *
          refine ⟨q2.1, fun r hr' => ?_⟩
          obtain ⟨i, hi, rfl⟩ := List.getElem_of_mem hr'
          refine ⟨q2.2 _ hr', fun x hx => ?_⟩
          have e := hrow i (by rw [← q2.1]; exact hi)
          rw [List.getD_eq_getElem?_getD, List.getElem?_eq_getElem hi] at e
          have e2 : N[i] = ((hoW ps.length wz wd.toNat t ps shs cs).1.getD i []).map fun c => (nrI cs c : Int) := e
          rw [e2] at hx
          obtain ⟨c, _, rfl⟩ := List.mem_map.mp hx
          have := nr_lt c0 c
          omega
        have goN : GoOk ps.length wz wd.toNat t ps cs shs (hoW ps.length wz wd.toNat t ps shs cs).2.1 := ⟨rP, op1, op2, by omega, wz1, by omega, by omega, cl1, c0, nokN, sl7, sok, ord⟩
        refine ⟨_, rfl, _, rfl, _, rfl, _, rfl, [L], .ref pa, .ref pla, sv, .non, ps, cs, shs, (hoW ps.length wz wd.toNat t ps shs cs).2.1, ps.length, wz, wd.toNat, t, rfl, dg7.s s11, dpl7.s s11, d7.s s11, B11, goN, .inr ⟨rfl, by omega, fun c hc => wIn_of (k := 11) (by decide) ((bP' c hc).2.mono (by decide)), by rw [egw]; exact hwin, fun r c hr hc => by rw [egw]; exact htold r c hr hc⟩, fun v12 H12 s12 d12 => ?_⟩
        rw [egw] at d12
        obtain ⟨ta, dv0, dv1, dv2, rfl, _, eta, dd0, dd1, dd2⟩ := tup3I d12
        refine ⟨ta, _, rfl, SqT.of eta, rfl, _, _, rfl, _, _, rfl, _, _, rfl, rfl, ?_⟩
        have t12 := s11.trans s12
        obtain ⟨dna, dnv, rfl, ndna, edna, hDn⟩ := dd1.lst2
        clear d12
        refine ⟨_, rfl, by omega, by omega, for_range (lo := 0) (n := 2) (fun i2 σ H' => ∃ y1 y12 y13, σ = [some (.ref a), y1, some (.ref L), some kv, some (.ref pa), some (.ref pla), some sv, some (.str (PyData.list [eG ps, eP cs, eP (shs.map e3)]).shown), some (.str (if t = true then "turned" else "same")), some dv0, some (.ref dna), some dv2, y12, y13] ∧ Same H12 H')
          ⟨_, _, _, rfl, Same.refl _⟩ (fun i2 σ H13 hi2 hh2 => ?_) (fun σ H13 hh2 => ?_)⟩
        · obtain ⟨y1, y12, y13, rfl, s13⟩ := hh2
          have t13 := t12.trans s13
          have B13 := bk7.go (Go.of (B := []) t13)
          refine ⟨_, rfl, _, rfl, _, rfl, _, rfl, [L], .ref pa, .ref pla, sv, ps, cs, shs, ps.length, wz, wd.toNat, t, rfl, dg7.s t13, dpl7.s t13, d7.s t13, B13, hok.1, hok.2.1, hok.2.2.1, hok.2.2.2.1, hok.2.2.2.2.1, hok.2.2.2.2.2.1, hok.2.2.2.2.2.2.1, hok.2.2.2.2.2.2.2.1, hok.2.2.2.2.2.2.2.2.1, hok.2.2.2.2.2.2.2.2.2.1, hok.2.2.2.2.2.2.2.2.2.2.1, hok.2.2.2.2.2.2.2.2.2.2.2.1, hok.2.2.2.2.2.2.2.2.2.2.2.2, fun t0 wa ras lv H14 s14 e14 nt14 hG14 dl14 ht0 hwa hras => ?_⟩
          obtain ⟨dn14, dlv14, dt14⟩ := ho_fin e14 nt14 hG14 dl14
          have u14 := s13.trans s14
          have edna14 := u14 _ _ edna
          have hDn14 := hDn.s u14
          have dd2' := dd2.s u14
          -- the pair that is due
          refine ⟨_, rfl, _, rfl, _, rfl, (by show 2 ≤ sizeLine; decide), fun tq htq => ?_⟩
          have s15 := sm_new (o := .tup [.ref dna, dv2]) htq
          have B14 := bk7.go (Go.of (B := []) (t13.trans s14))
          have dQ : Dt [L] (upd H14 tq (.tup [.ref dna, dv2])) (.ref tq) (eHo (hoW ps.length wz wd.toNat t ps shs cs).2) := .tup (B14.ne htq) upd_same (.cons (.lst ndna (s15 _ _ edna14) (hDn14.s s15)) (.one (dd2'.s s15)))
          generalize upd H14 tq (.tup [.ref dna, dv2]) = H15 at *
          refine ⟨[L], .ref t0, .ref tq, eHo (hoW ps.length wz wd.toNat t ps shs cs).2, rfl, dt14.s s15, dQ, shH.mono (by omega), by omega, fun H16 s16 => ?_⟩
          refine ⟨_, rfl, iteF ?_⟩
          generalize (hoW ps.length wz wd.toNat t ps shs cs).2.1 = N at *
          have u16 := s15.trans s16
          have hG16 := hG14.s u16
          have e16 := u16 _ _ e14
          have lras : ras.length = ps.length := by rw [hG16.l, List.length_map, q2.1]
          obtain ⟨rl, hrl⟩ : ∃ rl, ras[0]? = some rl := ⟨_, List.getElem?_eq_getElem (by omega)⟩
          have hl1 : 0 < N.length := by rw [q2.1]; omega
          obtain ⟨vs, erl, dvs⟩ := hG16.r 0 rl (N[0].map PyData.int) hrl (by rw [List.getElem?_map, List.getElem?_eq_getElem hl1]; rfl)
          have lvs := dvs.len
          rw [List.length_map, q2.2 _ (List.getElem_mem hl1)] at lvs
          have nrl := List.mem_of_getElem? hrl
          refine ⟨_, rfl, t0, _, 0, .ref wa, rfl, rfl, SqT.of e16, atI_nat (j := 0) rfl, wa, _, 0, .ref rl, rfl, rfl, SqL.of hG16.a, atI_nat (j := 0) (by rw [List.getElem?_map, hrl]; rfl), .inl ⟨rfl, _, SqL.of erl⟩, rl, _, _, rfl, rfl, erl, sz (by omega), ?_⟩
          have hG17 := hG16.set2 hrl (dvs.app (.one (.int (B := wa :: ras ++ [L]) (H := H16) 7)))
          have g17 : Go (wa :: ras) H16 (upd H16 rl (.lst (vs ++ [.int 7]))) := Go.refl.at (List.mem_cons_of_mem _ nrl)
          have nt0 : t0 ∉ wa :: ras := fun q => by
            rcases List.mem_cons.mp q with z | z
            · rw [z, hG16.a] at e16
              cases e16
            · obtain ⟨i, hi, ei⟩ := List.getElem_of_mem z
              obtain ⟨us, eu, _⟩ := hG16.r i t0 (N[i]'(by rw [q2.1]; omega) |>.map PyData.int) (by rw [List.getElem?_eq_getElem hi, ei]) (by rw [List.getElem?_map, List.getElem?_eq_getElem (by rw [q2.1]; omega)]; rfl)
              rw [eu] at e16
              cases e16
          have e17 := g17.k t0 _ nt0 e16
          generalize upd H16 rl (.lst (vs ++ [.int 7])) = H17 at *
          have nwL : ∀ a ∈ wa :: ras, H13 a = none := fun a ha => by
            rcases List.mem_cons.mp ha with z | z
            · rw [z]; exact hwa
            · exact hras a z
          have v17 : Same H13 H17 := (g17.sm (s14.trans u16) nwL)
          have edna17 := v17 _ _ (s13 _ _ edna)
          have hDn17 := hDn.s (s13.trans v17)
          have dF17 := hG17.dt
          obtain ⟨wa', wvs, e', _, ewa17, hF17⟩ := dF17.lst2
          cases e'
          refine ⟨_, rfl, t0, _, 0, .ref wa, rfl, rfl, SqT.of e17, atI_nat (j := 0) rfl, 1, rfl, wa, _, rfl, SqL.of ewa17, fun c21 hc21 => ?_⟩
          have s18 := sm_new (o := .lst (cutV wvs (some 1) none)) hc21
          have ec21 : (upd H17 c21 (.lst (cutV wvs (some 1) none))) c21 = some (.lst (cutV wvs (some 1) none)) := upd_same
          have B17 : Bk [L] H17 := B13.go (Go.of (B := []) v17)
          have nc21 := B17.ne hc21
          generalize upd H17 c21 (.lst (cutV wvs (some 1) none)) = H18 at *
          refine ⟨_, rfl, 1, rfl, dna, _, rfl, SqL.of (s18 _ _ edna17), fun c22 hc22 => ?_⟩
          have s19 := sm_new (o := .lst (cutV dnv (some 1) none)) hc22
          have ec22 : (upd H18 c22 (.lst (cutV dnv (some 1) none))) c22 = some (.lst (cutV dnv (some 1) none)) := upd_same
          have nc22 := (B17.go (Go.of (B := []) s18)).ne hc22
          generalize upd H18 c22 (.lst (cutV dnv (some 1) none)) = H19 at *
          have k1 := ((hF17.s s18).s s19).cut (some 1) none
          have k2 := ((hDn17.s s18).s s19).cut (some 1) none
          have ek : cutL (((N.map fun r => r.map PyData.int).set 0 (N[0].map PyData.int ++ [.int 7])).map PyData.list) (some 1) none = cutL (N.map eI) (some 1) none := by
            generalize N[0].map PyData.int ++ [.int 7] = X
            rw [cut_fromV _ (by decide), cut_fromV _ (by decide)]
            cases N with
            | nil => rfl
            | cons n0 ns' =>
              show List.map PyData.list (List.map (fun r => List.map PyData.int r) ns') = List.map eI ns'
              rw [List.map_map]
              rfl
          rw [ek] at k1
          have shC : Sh (.list (cutL (N.map eI) (some 1) none)) 2 := by
            rw [cut_fromV _ (by decide)]
            refine sh_lst (by rw [List.length_drop, List.length_map, q2.1]; omega) fun d hd => ?_
            obtain ⟨r, hr', rfl⟩ := List.mem_map.mp (List.mem_of_mem_drop hd)
            exact sh_eI (by rw [q2.2 r hr']; omega)
          refine ⟨[L], .ref c21, .ref c22, .list (cutL (N.map eI) (some 1) none), rfl, .lst nc21 (s19 _ _ ec21) k1, .lst nc22 ec22 k2, shC.mono (by omega), by omega, fun H20 s20 => ?_⟩
          refine ⟨_, rfl, iteF ?_⟩
          have w20 := (s18.trans s19).trans s20
          have ewa20 := w20 _ _ ewa17
          refine ⟨_, rfl, t0, _, 0, .ref wa, rfl, rfl, SqT.of (w20 _ _ e17), atI_nat (j := 0) rfl, .inl ⟨rfl, _, SqL.of ewa20⟩, wa, _, rfl, rfl, ewa20, ?_⟩
          exact ⟨_, _, _, rfl, sm_mut (s13.trans (v17.trans w20)) (s13.free hwa)⟩
        · obtain ⟨y1, y12, y13, rfl, s13⟩ := hh2
          exact ⟨_, _, _, _, _, _, _, rfl, t12.trans s13, (s12.trans s13) _ _ etp11⟩
      · obtain ⟨y1, y8, y9, y10, y11, y12, y13, rfl, s11, _⟩ := hh
        refine ⟨_, rfl, _, rfl, _, rfl, (by show 3 ≤ sizeLine; decide), fun k2 hk2 => ?_⟩
        have s12 := sm_new (o := .lst [.ref pa, .ref pla, sv]) hk2
        have t12 := s11.trans s12
        have B11 := bk7.go (Go.of (B := []) s11)
        have dK2 : Dt [L] (upd H10 k2 (.lst [.ref pa, .ref pla, sv])) (.ref k2) (.list [eG ps, eP cs, eP (shs.map e3)]) := .lst (B11.ne hk2) upd_same (.cons (dg7.s t12) (.cons (dpl7.s t12) (.one (d7.s t12))))
        generalize upd H10 k2 (.lst [.ref pa, .ref pla, sv]) = H11 at *
        refine ⟨k2, _, rfl, dK2.dP, shw.a, shw.b, dep, slen, ?_⟩
        refine ⟨_, rfl, rfl, _, rfl, iteN (by simp) ?_⟩
        exact ⟨_, _, _, _, _, _, _, _, _, _, _, _, _, rfl, (gH.sm s3 nB).trans t12⟩
    · obtain ⟨y1, y2, y3, y4, y5, y6, y7, y8, y9, y10, y11, y12, y13, rfl, s1⟩ := h1
      exact q _

end
theorem all_mk {l : PySem.W.OpenLaw} {w : World} {K : PySem.W.Frag} {h : Heap} {mg : Str → Option Value} {fa : Addr} (X : K.In h) (G : h.Ns mainGlobals mg) (hfa : mg "law" = some (.ref fa))
    {f0 : Addr} {od0 an0 : Option Addr} {sl0 : Array (Option Value)} {oc0 kV0 dc0 pm0 cd0 ct0 : Value}
    (a0 : PySem.W.nsIn K mainGlobals "apart" = some (some (.ref f0))) (l0 : K.lookup f0 = some ⟨oc0, od0, .func (PySem.W.fnOf "apart" "apart" (defArgs s_apart) (defBody s_apart) (defScope s_apart) .none kV0 dc0 pm0 an0 cd0 ct0), sl0⟩) (c0 : PySem.W.codeIn K cd0 "apart" = true) (k0 : PySem.W.keepIn K (.ref f0) = true)
    {f1 : Addr} {od1 an1 : Option Addr} {sl1 : Array (Option Value)} {oc1 kV1 dc1 pm1 cd1 ct1 : Value}
    (a1 : PySem.W.nsIn K mainGlobals "nearest" = some (some (.ref f1))) (l1 : K.lookup f1 = some ⟨oc1, od1, .func (PySem.W.fnOf "nearest" "nearest" (defArgs s_nearest) (defBody s_nearest) (defScope s_nearest) .none kV1 dc1 pm1 an1 cd1 ct1), sl1⟩) (c1 : PySem.W.codeIn K cd1 "nearest" = true) (k1 : PySem.W.keepIn K (.ref f1) = true)
    {f2 : Addr} {od2 an2 : Option Addr} {sl2 : Array (Option Value)} {oc2 kV2 dc2 pm2 cd2 ct2 : Value}
    (a2 : PySem.W.nsIn K mainGlobals "added" = some (some (.ref f2))) (l2 : K.lookup f2 = some ⟨oc2, od2, .func (PySem.W.fnOf "added" "added" (defArgs s_added) (defBody s_added) (defScope s_added) .none kV2 dc2 pm2 an2 cd2 ct2), sl2⟩) (c2 : PySem.W.codeIn K cd2 "added" = true) (k2 : PySem.W.keepIn K (.ref f2) = true)
    {f3 : Addr} {od3 an3 : Option Addr} {sl3 : Array (Option Value)} {oc3 kV3 dc3 pm3 cd3 ct3 : Value}
    (a3 : PySem.W.nsIn K mainGlobals "lessened" = some (some (.ref f3))) (l3 : K.lookup f3 = some ⟨oc3, od3, .func (PySem.W.fnOf "lessened" "lessened" (defArgs s_lessened) (defBody s_lessened) (defScope s_lessened) .none kV3 dc3 pm3 an3 cd3 ct3), sl3⟩) (c3 : PySem.W.codeIn K cd3 "lessened" = true) (k3 : PySem.W.keepIn K (.ref f3) = true)
    {f4 : Addr} {od4 an4 : Option Addr} {sl4 : Array (Option Value)} {oc4 kV4 dc4 pm4 cd4 ct4 : Value}
    (a4 : PySem.W.nsIn K mainGlobals "spots_in_order" = some (some (.ref f4))) (l4 : K.lookup f4 = some ⟨oc4, od4, .func (PySem.W.fnOf "spots_in_order" "spots_in_order" (defArgs s_spots_in_order) (defBody s_spots_in_order) (defScope s_spots_in_order) .none kV4 dc4 pm4 an4 cd4 ct4), sl4⟩) (c4 : PySem.W.codeIn K cd4 "spots_in_order" = true) (k4 : PySem.W.keepIn K (.ref f4) = true)
    {f5 : Addr} {od5 an5 : Option Addr} {sl5 : Array (Option Value)} {oc5 kV5 dc5 pm5 cd5 ct5 : Value}
    (a5 : PySem.W.nsIn K mainGlobals "shares_there" = some (some (.ref f5))) (l5 : K.lookup f5 = some ⟨oc5, od5, .func (PySem.W.fnOf "shares_there" "shares_there" (defArgs s_shares_there) (defBody s_shares_there) (defScope s_shares_there) .none kV5 dc5 pm5 an5 cd5 ct5), sl5⟩) (c5 : PySem.W.codeIn K cd5 "shares_there" = true) (k5 : PySem.W.keepIn K (.ref f5) = true)
    {f6 : Addr} {od6 an6 : Option Addr} {sl6 : Array (Option Value)} {oc6 kV6 dc6 pm6 cd6 ct6 : Value}
    (a6 : PySem.W.nsIn K mainGlobals "hand_over" = some (some (.ref f6))) (l6 : K.lookup f6 = some ⟨oc6, od6, .func (PySem.W.fnOf "hand_over" "hand_over" (defArgs s_hand_over) (defBody s_hand_over) (defScope s_hand_over) .none kV6 dc6 pm6 an6 cd6 ct6), sl6⟩) (c6 : PySem.W.codeIn K cd6 "hand_over" = true) (k6 : PySem.W.keepIn K (.ref f6) = true)
    {f7 : Addr} {od7 an7 : Option Addr} {sl7 : Array (Option Value)} {oc7 kV7 dc7 pm7 cd7 ct7 : Value}
    (a7 : PySem.W.nsIn K mainGlobals "handed_on" = some (some (.ref f7))) (l7 : K.lookup f7 = some ⟨oc7, od7, .func (PySem.W.fnOf "handed_on" "handed_on" (defArgs s_handed_on) (defBody s_handed_on) (defScope s_handed_on) .none kV7 dc7 pm7 an7 cd7 ct7), sl7⟩) (c7 : PySem.W.codeIn K cd7 "handed_on" = true) (k7 : PySem.W.keepIn K (.ref f7) = true)
    {f8 : Addr} {od8 an8 : Option Addr} {sl8 : Array (Option Value)} {oc8 kV8 dc8 pm8 cd8 ct8 : Value}
    (a8 : PySem.W.nsIn K mainGlobals "_law_mix" = some (some (.ref f8))) (l8 : K.lookup f8 = some ⟨oc8, od8, .func (PySem.W.fnOf "_law_mix" "_law_mix" (defArgs s_l_mix) (defBody s_l_mix) (defScope s_l_mix) .none kV8 dc8 pm8 an8 cd8 ct8), sl8⟩) (c8 : PySem.W.codeIn K cd8 "_law_mix" = true) (k8 : PySem.W.keepIn K (.ref f8) = true)
    {f9 : Addr} {od9 an9 : Option Addr} {sl9 : Array (Option Value)} {oc9 kV9 dc9 pm9 cd9 ct9 : Value}
    (a9 : PySem.W.nsIn K mainGlobals "_law_left" = some (some (.ref f9))) (l9 : K.lookup f9 = some ⟨oc9, od9, .func (PySem.W.fnOf "_law_left" "_law_left" (defArgs s_l_left) (defBody s_l_left) (defScope s_l_left) .none kV9 dc9 pm9 an9 cd9 ct9), sl9⟩) (c9 : PySem.W.codeIn K cd9 "_law_left" = true) (k9 : PySem.W.keepIn K (.ref f9) = true)
    {f10 : Addr} {od10 an10 : Option Addr} {sl10 : Array (Option Value)} {oc10 kV10 dc10 pm10 cd10 ct10 : Value}
    (a10 : PySem.W.nsIn K mainGlobals "_law_pick" = some (some (.ref f10))) (l10 : K.lookup f10 = some ⟨oc10, od10, .func (PySem.W.fnOf "_law_pick" "_law_pick" (defArgs s_l_pick) (defBody s_l_pick) (defScope s_l_pick) .none kV10 dc10 pm10 an10 cd10 ct10), sl10⟩) (c10 : PySem.W.codeIn K cd10 "_law_pick" = true) (k10 : PySem.W.keepIn K (.ref f10) = true)
    {f11 : Addr} {od11 an11 : Option Addr} {sl11 : Array (Option Value)} {oc11 kV11 dc11 pm11 cd11 ct11 : Value}
    (a11 : PySem.W.nsIn K mainGlobals "_law_kind" = some (some (.ref f11))) (l11 : K.lookup f11 = some ⟨oc11, od11, .func (PySem.W.fnOf "_law_kind" "_law_kind" (defArgs s_l_kind) (defBody s_l_kind) (defScope s_l_kind) .none kV11 dc11 pm11 an11 cd11 ct11), sl11⟩) (c11 : PySem.W.codeIn K cd11 "_law_kind" = true) (k11 : PySem.W.keepIn K (.ref f11) = true)
    {f12 : Addr} {od12 an12 : Option Addr} {sl12 : Array (Option Value)} {oc12 kV12 dc12 pm12 cd12 ct12 : Value}
    (a12 : PySem.W.nsIn K mainGlobals "_law_colour" = some (some (.ref f12))) (l12 : K.lookup f12 = some ⟨oc12, od12, .func (PySem.W.fnOf "_law_colour" "_law_colour" (defArgs s_l_colour) (defBody s_l_colour) (defScope s_l_colour) .none kV12 dc12 pm12 an12 cd12 ct12), sl12⟩) (c12 : PySem.W.codeIn K cd12 "_law_colour" = true) (k12 : PySem.W.keepIn K (.ref f12) = true)
    {f13 : Addr} {od13 an13 : Option Addr} {sl13 : Array (Option Value)} {oc13 kV13 dc13 pm13 cd13 ct13 : Value}
    (a13 : PySem.W.nsIn K mainGlobals "_law_palette" = some (some (.ref f13))) (l13 : K.lookup f13 = some ⟨oc13, od13, .func (PySem.W.fnOf "_law_palette" "_law_palette" (defArgs s_l_palette) (defBody s_l_palette) (defScope s_l_palette) .none kV13 dc13 pm13 an13 cd13 ct13), sl13⟩) (c13 : PySem.W.codeIn K cd13 "_law_palette" = true) (k13 : PySem.W.keepIn K (.ref f13) = true)
    {f14 : Addr} {od14 an14 : Option Addr} {sl14 : Array (Option Value)} {oc14 kV14 dc14 pm14 cd14 ct14 : Value}
    (a14 : PySem.W.nsIn K mainGlobals "_law_picture" = some (some (.ref f14))) (l14 : K.lookup f14 = some ⟨oc14, od14, .func (PySem.W.fnOf "_law_picture" "_law_picture" (defArgs s_l_picture) (defBody s_l_picture) (defScope s_l_picture) .none kV14 dc14 pm14 an14 cd14 ct14), sl14⟩) (c14 : PySem.W.codeIn K cd14 "_law_picture" = true) (k14 : PySem.W.keepIn K (.ref f14) = true)
    {f15 : Addr} {od15 an15 : Option Addr} {sl15 : Array (Option Value)} {oc15 kV15 dc15 pm15 cd15 ct15 : Value}
    (a15 : PySem.W.nsIn K mainGlobals "_law_apart" = some (some (.ref f15))) (l15 : K.lookup f15 = some ⟨oc15, od15, .func (PySem.W.fnOf "_law_apart" "_law_apart" (defArgs s_l_apart) (defBody s_l_apart) (defScope s_l_apart) .none kV15 dc15 pm15 an15 cd15 ct15), sl15⟩) (c15 : PySem.W.codeIn K cd15 "_law_apart" = true) (k15 : PySem.W.keepIn K (.ref f15) = true)
    {f16 : Addr} {od16 an16 : Option Addr} {sl16 : Array (Option Value)} {oc16 kV16 dc16 pm16 cd16 ct16 : Value}
    (a16 : PySem.W.nsIn K mainGlobals "_law_nearest" = some (some (.ref f16))) (l16 : K.lookup f16 = some ⟨oc16, od16, .func (PySem.W.fnOf "_law_nearest" "_law_nearest" (defArgs s_l_nearest) (defBody s_l_nearest) (defScope s_l_nearest) .none kV16 dc16 pm16 an16 cd16 ct16), sl16⟩) (c16 : PySem.W.codeIn K cd16 "_law_nearest" = true) (k16 : PySem.W.keepIn K (.ref f16) = true)
    {f17 : Addr} {od17 an17 : Option Addr} {sl17 : Array (Option Value)} {oc17 kV17 dc17 pm17 cd17 ct17 : Value}
    (a17 : PySem.W.nsIn K mainGlobals "_law_same" = some (some (.ref f17))) (l17 : K.lookup f17 = some ⟨oc17, od17, .func (PySem.W.fnOf "_law_same" "_law_same" (defArgs s_l_same) (defBody s_l_same) (defScope s_l_same) .none kV17 dc17 pm17 an17 cd17 ct17), sl17⟩) (c17 : PySem.W.codeIn K cd17 "_law_same" = true) (k17 : PySem.W.keepIn K (.ref f17) = true)
    {f18 : Addr} {od18 an18 : Option Addr} {sl18 : Array (Option Value)} {oc18 kV18 dc18 pm18 cd18 ct18 : Value}
    (a18 : PySem.W.nsIn K mainGlobals "_law_shares" = some (some (.ref f18))) (l18 : K.lookup f18 = some ⟨oc18, od18, .func (PySem.W.fnOf "_law_shares" "_law_shares" (defArgs s_l_shares) (defBody s_l_shares) (defScope s_l_shares) .none kV18 dc18 pm18 an18 cd18 ct18), sl18⟩) (c18 : PySem.W.codeIn K cd18 "_law_shares" = true) (k18 : PySem.W.keepIn K (.ref f18) = true)
    {f19 : Addr} {od19 an19 : Option Addr} {sl19 : Array (Option Value)} {oc19 kV19 dc19 pm19 cd19 ct19 : Value}
    (a19 : PySem.W.nsIn K mainGlobals "_law_put_on" = some (some (.ref f19))) (l19 : K.lookup f19 = some ⟨oc19, od19, .func (PySem.W.fnOf "_law_put_on" "_law_put_on" (defArgs s_l_put_on) (defBody s_l_put_on) (defScope s_l_put_on) .none kV19 dc19 pm19 an19 cd19 ct19), sl19⟩) (c19 : PySem.W.codeIn K cd19 "_law_put_on" = true) (k19 : PySem.W.keepIn K (.ref f19) = true)
    {f20 : Addr} {od20 an20 : Option Addr} {sl20 : Array (Option Value)} {oc20 kV20 dc20 pm20 cd20 ct20 : Value}
    (a20 : PySem.W.nsIn K mainGlobals "_law_gone" = some (some (.ref f20))) (l20 : K.lookup f20 = some ⟨oc20, od20, .func (PySem.W.fnOf "_law_gone" "_law_gone" (defArgs s_l_gone) (defBody s_l_gone) (defScope s_l_gone) .none kV20 dc20 pm20 an20 cd20 ct20), sl20⟩) (c20 : PySem.W.codeIn K cd20 "_law_gone" = true) (k20 : PySem.W.keepIn K (.ref f20) = true)
    {f21 : Addr} {od21 an21 : Option Addr} {sl21 : Array (Option Value)} {oc21 kV21 dc21 pm21 cd21 ct21 : Value}
    (a21 : PySem.W.nsIn K mainGlobals "law" = some (some (.ref f21))) (l21 : K.lookup f21 = some ⟨oc21, od21, .func (PySem.W.fnOf "law" "law" (defArgs s_law) (defBody s_law) (defScope s_law) .none kV21 dc21 pm21 an21 cd21 ct21), sl21⟩) (c21 : PySem.W.codeIn K cd21 "law" = true) (k21 : PySem.W.keepIn K (.ref f21) = true)
    (z_abs : PySem.W.nsIn K mainGlobals "abs" = some none)
    (z_all : PySem.W.nsIn K mainGlobals "all" = some none)
    (z_bool : PySem.W.nsIn K mainGlobals "bool" = some none)
    (z_dict : PySem.W.nsIn K mainGlobals "dict" = some none)
    (z_enumerate : PySem.W.nsIn K mainGlobals "enumerate" = some none)
    (z_int : PySem.W.nsIn K mainGlobals "int" = some none)
    (z_isinstance : PySem.W.nsIn K mainGlobals "isinstance" = some none)
    (z_len : PySem.W.nsIn K mainGlobals "len" = some none)
    (z_list : PySem.W.nsIn K mainGlobals "list" = some none)
    (z_min : PySem.W.nsIn K mainGlobals "min" = some none)
    (z_range : PySem.W.nsIn K mainGlobals "range" = some none)
    (z_str : PySem.W.nsIn K mainGlobals "str" = some none)
    (z_sum : PySem.W.nsIn K mainGlobals "sum" = some none)
    (z_tuple : PySem.W.nsIn K mainGlobals "tuple" = some none)
    (z_zip : PySem.W.nsIn K mainGlobals "zip" = some none)
    : ∃ fd : FuncData, (∀ (s : Shared) (v : Value), BindsTo s fd ⟨[v], []⟩ [("_law_script", v)]) ∧ ∀ base : Heap, K.In base → base.Ns mainGlobals mg → FnG l.prog w K mg base 5 fa fd ["_law_script"] (spLaw K) := by
  have e := hfa.symm.trans (PySem.W.mg_of X G a21)
  cases e
  exact ⟨_, fun s v => .of_eq rfl, fun base _ _ => ok_law (k := 0) {
      f_apart := f0, d_apart := _, F_apart := fun_mk (st := s_apart) l0 c0 k0, b_apart := (fun_mk (st := s_apart) l0 c0 k0).binds (ps := ["one", "other"]) fun _ _ _ _ _ _ us hl => match us, hl with | [_, _], _ => rfl, g_apart := PySem.W.mg_of X G a0,
      f_nearest := f1, d_nearest := _, F_nearest := fun_mk (st := s_nearest) l1 c1 k1, b_nearest := (fun_mk (st := s_nearest) l1 c1 k1).binds (ps := ["palette", "colour"]) fun _ _ _ _ _ _ us hl => match us, hl with | [_, _], _ => rfl, g_nearest := PySem.W.mg_of X G a1,
      f_added := f2, d_added := _, F_added := fun_mk (st := s_added) l2 c2 k2, b_added := (fun_mk (st := s_added) l2 c2 k2).binds (ps := ["one", "other"]) fun _ _ _ _ _ _ us hl => match us, hl with | [_, _], _ => rfl, g_added := PySem.W.mg_of X G a2,
      f_lessened := f3, d_lessened := _, F_lessened := fun_mk (st := s_lessened) l3 c3 k3, b_lessened := (fun_mk (st := s_lessened) l3 c3 k3).binds (ps := ["one", "other"]) fun _ _ _ _ _ _ us hl => match us, hl with | [_, _], _ => rfl, g_lessened := PySem.W.mg_of X G a3,
      f_spots_in_order := f4, d_spots_in_order := _, F_spots_in_order := fun_mk (st := s_spots_in_order) l4 c4 k4, b_spots_in_order := (fun_mk (st := s_spots_in_order) l4 c4 k4).binds (ps := ["picture", "way"]) fun _ _ _ _ _ _ us hl => match us, hl with | [_, _], _ => rfl, g_spots_in_order := PySem.W.mg_of X G a4,
      f_shares_there := f5, d_shares_there := _, F_shares_there := fun_mk (st := s_shares_there) l5 c5 k5, b_shares_there := (fun_mk (st := s_shares_there) l5 c5 k5).binds (ps := ["picture", "shares", "spot"]) fun _ _ _ _ _ _ us hl => match us, hl with | [_, _, _], _ => rfl, g_shares_there := PySem.W.mg_of X G a5,
      f_hand_over := f6, d_hand_over := _, F_hand_over := fun_mk (st := s_hand_over) l6 c6 k6, b_hand_over := (fun_mk (st := s_hand_over) l6 c6 k6).binds (ps := ["wanted", "shares", "spot", "colour"]) fun _ _ _ _ _ _ us hl => match us, hl with | [_, _, _, _], _ => rfl, g_hand_over := PySem.W.mg_of X G a6,
      f_handed_on := f7, d_handed_on := _, F_handed_on := fun_mk (st := s_handed_on) l7 c7 k7, b_handed_on := (fun_mk (st := s_handed_on) l7 c7 k7).binds (ps := ["picture", "palette", "shares", "way"]) fun _ _ _ _ _ _ us hl => match us, hl with | [_, _, _, _], _ => rfl, g_handed_on := PySem.W.mg_of X G a7,
      f_l_mix := f8, d_l_mix := _, F_l_mix := fun_mk (st := s_l_mix) l8 c8 k8, b_l_mix := (fun_mk (st := s_l_mix) l8 c8 k8).binds (ps := ["_law_cell", "_law_k"]) fun _ _ _ _ _ _ us hl => match us, hl with | [_, _], _ => rfl, g_l_mix := PySem.W.mg_of X G a8,
      f_l_left := f9, d_l_left := _, F_l_left := fun_mk (st := s_l_left) l9 c9 k9, b_l_left := (fun_mk (st := s_l_left) l9 c9 k9).binds (ps := ["_law_script", "_law_k"]) fun _ _ _ _ _ _ us hl => match us, hl with | [_, _], _ => rfl, g_l_left := PySem.W.mg_of X G a9,
      f_l_pick := f10, d_l_pick := _, F_l_pick := fun_mk (st := s_l_pick) l10 c10 k10, b_l_pick := (fun_mk (st := s_l_pick) l10 c10 k10).binds (ps := ["_law_left_here", "_law_many"]) fun _ _ _ _ _ _ us hl => match us, hl with | [_, _], _ => rfl, g_l_pick := PySem.W.mg_of X G a10,
      f_l_kind := f11, d_l_kind := _, F_l_kind := fun_mk (st := s_l_kind) l11 c11 k11, b_l_kind := (fun_mk (st := s_l_kind) l11 c11 k11).binds (ps := ["_law_left_here"]) fun _ _ _ _ _ _ us hl => match us, hl with | [_], _ => rfl, g_l_kind := PySem.W.mg_of X G a11,
      f_l_colour := f12, d_l_colour := _, F_l_colour := fun_mk (st := s_l_colour) l12 c12 k12, b_l_colour := (fun_mk (st := s_l_colour) l12 c12 k12).binds (ps := ["_law_left_here", "_law_kind_here"]) fun _ _ _ _ _ _ us hl => match us, hl with | [_, _], _ => rfl, g_l_colour := PySem.W.mg_of X G a12,
      f_l_palette := f13, d_l_palette := _, F_l_palette := fun_mk (st := s_l_palette) l13 c13 k13, b_l_palette := (fun_mk (st := s_l_palette) l13 c13 k13).binds (ps := ["_law_left_here", "_law_kind_here"]) fun _ _ _ _ _ _ us hl => match us, hl with | [_, _], _ => rfl, g_l_palette := PySem.W.mg_of X G a13,
      f_l_picture := f14, d_l_picture := _, F_l_picture := fun_mk (st := s_l_picture) l14 c14 k14, b_l_picture := (fun_mk (st := s_l_picture) l14 c14 k14).binds (ps := ["_law_left_here", "_law_kind_here"]) fun _ _ _ _ _ _ us hl => match us, hl with | [_, _], _ => rfl, g_l_picture := PySem.W.mg_of X G a14,
      f_l_apart := f15, d_l_apart := _, F_l_apart := fun_mk (st := s_l_apart) l15 c15 k15, b_l_apart := (fun_mk (st := s_l_apart) l15 c15 k15).binds (ps := ["_law_one", "_law_other"]) fun _ _ _ _ _ _ us hl => match us, hl with | [_, _], _ => rfl, g_l_apart := PySem.W.mg_of X G a15,
      f_l_nearest := f16, d_l_nearest := _, F_l_nearest := fun_mk (st := s_l_nearest) l16 c16 k16, b_l_nearest := (fun_mk (st := s_l_nearest) l16 c16 k16).binds (ps := ["_law_palette_here", "_law_colour_here"]) fun _ _ _ _ _ _ us hl => match us, hl with | [_, _], _ => rfl, g_l_nearest := PySem.W.mg_of X G a16,
      f_l_same := f17, d_l_same := _, F_l_same := fun_mk (st := s_l_same) l17 c17 k17, b_l_same := (fun_mk (st := s_l_same) l17 c17 k17).binds (ps := ["_law_found", "_law_due"]) fun _ _ _ _ _ _ us hl => match us, hl with | [_, _], _ => rfl, g_l_same := PySem.W.mg_of X G a17,
      f_l_shares := f18, d_l_shares := _, F_l_shares := fun_mk (st := s_l_shares) l18 c18 k18, b_l_shares := (fun_mk (st := s_l_shares) l18 c18 k18).binds (ps := ["_law_left_here"]) fun _ _ _ _ _ _ us hl => match us, hl with | [_], _ => rfl, g_l_shares := PySem.W.mg_of X G a18,
      f_l_put_on := f19, d_l_put_on := _, F_l_put_on := fun_mk (st := s_l_put_on) l19 c19 k19, b_l_put_on := (fun_mk (st := s_l_put_on) l19 c19 k19).binds (ps := ["_law_handed", "_law_lost", "_law_inside", "_law_total", "_law_place", "_law_rest"]) fun _ _ _ _ _ _ us hl => match us, hl with | [_, _, _, _, _, _], _ => rfl, g_l_put_on := PySem.W.mg_of X G a19,
      f_l_gone := f20, d_l_gone := _, F_l_gone := fun_mk (st := s_l_gone) l20 c20 k20, b_l_gone := (fun_mk (st := s_l_gone) l20 c20 k20).binds (ps := ["_law_picture_here", "_law_palette_here", "_law_shares_here", "_law_way", "_law_numbers"]) fun _ _ _ _ _ _ us hl => match us, hl with | [_, _, _, _, _], _ => rfl, g_l_gone := PySem.W.mg_of X G a20,
      z_abs := PySem.W.mg_none_of X G z_abs,
      z_all := PySem.W.mg_none_of X G z_all,
      z_bool := PySem.W.mg_none_of X G z_bool,
      z_dict := PySem.W.mg_none_of X G z_dict,
      z_enumerate := PySem.W.mg_none_of X G z_enumerate,
      z_int := PySem.W.mg_none_of X G z_int,
      z_isinstance := PySem.W.mg_none_of X G z_isinstance,
      z_len := PySem.W.mg_none_of X G z_len,
      z_list := PySem.W.mg_none_of X G z_list,
      z_min := PySem.W.mg_none_of X G z_min,
      z_range := PySem.W.mg_none_of X G z_range,
      z_str := PySem.W.mg_none_of X G z_str,
      z_sum := PySem.W.mg_none_of X G z_sum,
      z_tuple := PySem.W.mg_none_of X G z_tuple,
      z_zip := PySem.W.mg_none_of X G z_zip } (fun_mk (st := s_law) l21 c21 k21) (by decide)⟩
end Z
open PySem PySem.W PyProof.Rows
set_option maxHeartbeats 0 in
theorem PySem.Challenge.cw_fewcolours_k34_handed_on_holds : PySem.Challenge.rw_fewcolours_k34_handed_on.Holds := by
  w_on; o_law; k_head; (case hw => w_witness2)
  k_fill
  refine Z.walk_of2 (l := PySem.Challenge.rw_fewcolours_k34_handed_on) (n := 63) (k := 5) (x := "_law_script") (sp := fun w => Z.spLaw _) rfl (by decide) rfl ⟨rfl, by decide, by decide⟩ (fun w h Y => PySem.W.kIn_of Y) ?F (fun _ _ a ns hl _ hS => ⟨a, ns, rfl, hS, hl, fun _ => rfl⟩)
  case F =>
    intro w mg fa h KX G hmg
    refine' Z.all_mk KX G hmg ?a0 ?l0 ?c0 ?k0 ?a1 ?l1 ?c1 ?k1 ?a2 ?l2 ?c2 ?k2 ?a3 ?l3 ?c3 ?k3 ?a4 ?l4 ?c4 ?k4 ?a5 ?l5 ?c5 ?k5 ?a6 ?l6 ?c6 ?k6 ?a7 ?l7 ?c7 ?k7 ?a8 ?l8 ?c8 ?k8 ?a9 ?l9 ?c9 ?k9 ?a10 ?l10 ?c10 ?k10 ?a11 ?l11 ?c11 ?k11 ?a12 ?l12 ?c12 ?k12 ?a13 ?l13 ?c13 ?k13 ?a14 ?l14 ?c14 ?k14 ?a15 ?l15 ?c15 ?k15 ?a16 ?l16 ?c16 ?k16 ?a17 ?l17 ?c17 ?k17 ?a18 ?l18 ?c18 ?k18 ?a19 ?l19 ?c19 ?k19 ?a20 ?l20 ?c20 ?k20 ?a21 ?l21 ?c21 ?k21 ?z_abs ?z_all ?z_bool ?z_dict ?z_enumerate ?z_int ?z_isinstance ?z_len ?z_list ?z_min ?z_range ?z_str ?z_sum ?z_tuple ?z_zip
    case a0 => k_is
    case l0 => k_is
    case c0 => k_is
    case k0 => k_is
    case a1 => k_is
    case l1 => k_is
    case c1 => k_is
    case k1 => k_is
    case a2 => k_is
    case l2 => k_is
    case c2 => k_is
    case k2 => k_is
    case a3 => k_is
    case l3 => k_is
    case c3 => k_is
    case k3 => k_is
    case a4 => k_is
    case l4 => k_is
    case c4 => k_is
    case k4 => k_is
    case a5 => k_is
    case l5 => k_is
    case c5 => k_is
    case k5 => k_is
    case a6 => k_is
    case l6 => k_is
    case c6 => k_is
    case k6 => k_is
    case a7 => k_is
    case l7 => k_is
    case c7 => k_is
    case k7 => k_is
    case a8 => k_is
    case l8 => k_is
    case c8 => k_is
    case k8 => k_is
    case a9 => k_is
    case l9 => k_is
    case c9 => k_is
    case k9 => k_is
    case a10 => k_is
    case l10 => k_is
    case c10 => k_is
    case k10 => k_is
    case a11 => k_is
    case l11 => k_is
    case c11 => k_is
    case k11 => k_is
    case a12 => k_is
    case l12 => k_is
    case c12 => k_is
    case k12 => k_is
    case a13 => k_is
    case l13 => k_is
    case c13 => k_is
    case k13 => k_is
    case a14 => k_is
    case l14 => k_is
    case c14 => k_is
    case k14 => k_is
    case a15 => k_is
    case l15 => k_is
    case c15 => k_is
    case k15 => k_is
    case a16 => k_is
    case l16 => k_is
    case c16 => k_is
    case k16 => k_is
    case a17 => k_is
    case l17 => k_is
    case c17 => k_is
    case k17 => k_is
    case a18 => k_is
    case l18 => k_is
    case c18 => k_is
    case k18 => k_is
    case a19 => k_is
    case l19 => k_is
    case c19 => k_is
    case k19 => k_is
    case a20 => k_is
    case l20 => k_is
    case c20 => k_is
    case k20 => k_is
    case a21 => k_is
    case l21 => k_is
    case c21 => k_is
    case k21 => k_is
    case z_abs => k_is
    case z_all => k_is
    case z_bool => k_is
    case z_dict => k_is
    case z_enumerate => k_is
    case z_int => k_is
    case z_isinstance => k_is
    case z_len => k_is
    case z_list => k_is
    case z_min => k_is
    case z_range => k_is
    case z_str => k_is
    case z_sum => k_is
    case z_tuple => k_is
    case z_zip => k_is

