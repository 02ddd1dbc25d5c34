import PyProof.Rows.All
import Wide.All
import OpenK.AllK
import Wide.FinOn
import HandS.ForMost
import HandS.Zip
import HandS.IsInst
import HandS.TupAny
import HandS.SortRule
import HandS.Style
import HandS.Walk
import HandS.Evl
import KE.DataMinMax
import HandS.TryOnly
import HandS.Wide
import HandS.Conv
import PyProof.Rows.RuleB_pow
import HandS.TupMul
import HandS.SortKw
import KE.GoesEnumKw
import HandS.DictTup
import HandS.Small
import KE.SortData
import KE.GoesEnum
import KE.GoesMore
import KE.DataCmp
import HandS.Sort
import KE.KRevSl
import HandS.Dict
import KE.KDictPairs
import PySem.Challenge.RW_fewcolours_k56_lines_of_even_steps
set_option Elab.async false
set_option linter.all false
set_option maxRecDepth 100000
namespace Z
open PySem PySem.Spec PyProof.Rows L2
/-! ### heaps but for some addresses -/
def Dom (H H' : Hp) : Prop := ∀ a, H a ≠ none → H' a ≠ none
structure Go (B : List Addr) (H H' : Hp) : Prop where
  k : ∀ a o, a ∉ B → H a = some o → H' a = some o
  d : Dom H H'
def Bk (B : List Addr) (H : Hp) : Prop := ∀ a ∈ B, H a ≠ none
section
variable {B C : List Addr} {H H' H1 H2 : Hp} {p L : Addr} {o : HO}
theorem dom_new : Dom H (upd H p o) := fun a h => by
  by_cases e : a = p
  · subst e
    rw [upd_same]
    exact fun z => nomatch z
  · rw [upd_ne e]
    exact h
theorem dom_mut (d : Dom H H') : Dom H (upd H' p o) := fun a h => dom_new a (d a h)
theorem Go.refl : Go B H H := ⟨fun _ _ _ h => h, fun _ h => h⟩
theorem Go.trans (a : Go B H H1) (b : Go B H1 H2) : Go B H H2 := ⟨fun c o n h => b.k c o n (a.k c o n h), fun c h => b.d c (a.d c h)⟩
theorem same_dom (s : Same H H') : Dom H H' := fun a h => by
  cases q : H a with
  | none => exact absurd q h
  | some o => rw [s a o q]; exact fun z => nomatch z
theorem Go.of (s : Same H H') : Go B H H' := ⟨fun a o _ h => s a o h, same_dom s⟩
theorem Go.new (h : H p = none) : Go B H (upd H p o) := ⟨fun a u _ e => by
  rw [upd_ne (ne_of_none e h)]
  exact e, dom_new⟩
theorem Go.mut (g : Go B H H') (h : H p = none) : Go B H (upd H' p o) := ⟨fun a u n e => by
  rw [upd_ne (ne_of_none e h)]
  exact g.k a u n e, dom_mut g.d⟩
theorem Go.at (g : Go B H H') (h : p ∈ B) : Go B H (upd H' p o) := ⟨fun a u n e => by
  rw [upd_ne (show a ≠ p from fun z => n (by rw [z]; exact h))]
  exact g.k a u n e, dom_mut g.d⟩
theorem Go.w (g : Go C H H') (s : ∀ a ∈ C, a ∈ B) : Go B H H' := ⟨fun a o n h => g.k a o (fun q => n (s a q)) h, g.d⟩
theorem Go.w1 (g : Go [L] H H') (s : L ∈ B) : Go B H H' := g.w fun a h => by rw [List.mem_singleton.mp h]; exact s
theorem Go.free (g : Go B H H') (h : H' p = none) : H p = none := by
  cases q : H p with
  | none => rfl
  | some o => exact absurd h (g.d p (by rw [q]; exact fun z => nomatch z))
theorem Bk.go (b : Bk B H) (g : Go C H H') : Bk B H' := fun a h => g.d a (b a h)
theorem Bk.ne (b : Bk B H) (h : H p = none) : p ∉ B := fun q => b p q h
theorem Bk.cons (b : Bk B H) (h : H p = some o) : Bk (p :: B) H := fun a q => by
  rcases List.mem_cons.mp q with e | e
  · subst e
    rw [h]
    exact fun z => nomatch z
  · exact b a e
theorem Bk.up (b : Bk B H) : Bk B (upd H p o) := fun a h => dom_new a (b a h)
theorem sm_new (h : H p = none) : Same H (upd H p o) := fun b x e => by
  rw [upd_ne (ne_of_none e h)]
  exact e
theorem sm_mut (s : Same H H') (h : H p = none) : Same H (upd H' p o) := fun b x e => by
  rw [upd_ne (ne_of_none e h)]
  exact s b x e
/-- what was new behind H, and is in B, may change -/
theorem Go.sm (g : Go B H1 H2) (s : Same H H1) (n : ∀ a ∈ B, H a = none) : Same H H2 := fun a o h => g.k a o (fun q => by rw [n a q] at h; cases h) (s a o h)
theorem Go.cons (g : Go (p :: B) H1 H2) (s : Go B H H1) (h : H p = none) : Go B H H2 := ⟨fun a o n e => g.k a o (fun q => by
  rcases List.mem_cons.mp q with z | z
  · rw [z, h] at e
    cases e
  · exact n z) (s.k a o n e), fun a e => g.d a (s.d a e)⟩
end
/-! ### the list that is drawn from -/
def Lf (L : Addr) (H : Hp) (n : Nat) : Prop := ∃ a b c : Int, H L = some (.lst [.int a, .int b, .int c]) ∧ 0 ≤ a ∧ 0 ≤ c ∧ c ≤ (n : Int)
section
variable {L p : Addr} {H H' : Hp} {n m : Nat} {o : HO} {B : List Addr}
theorem Lf.mono (h : Lf L H n) (l : n ≤ m) : Lf L H m := by
  obtain ⟨a, b, c, e, h1, h2, h3⟩ := h
  exact ⟨a, b, c, e, h1, h2, by omega⟩
theorem Lf.same (h : Lf L H n) (s : Same H H') : Lf L H' n := by
  obtain ⟨a, b, c, e, h1, h2, h3⟩ := h
  exact ⟨a, b, c, s _ _ e, h1, h2, h3⟩
theorem Lf.go (h : Lf L H n) (g : Go B H H') (i : L ∉ B) : Lf L H' n := by
  obtain ⟨a, b, c, e, h1, h2, h3⟩ := h
  exact ⟨a, b, c, g.k _ _ i e, h1, h2, h3⟩
theorem Lf.ne (h : Lf L H n) (e : H p = none) : p ≠ L := fun q => by
  obtain ⟨a, b, c, e', _⟩ := h
  rw [q, e'] at e
  cases e
theorem Lf.up (h : Lf L H n) (e : p ≠ L) : Lf L (upd H p o) n := by
  obtain ⟨a, b, c, e', h1, h2, h3⟩ := h
  refine ⟨a, b, c, ?_, h1, h2, h3⟩
  rw [upd_ne (Ne.symm e)]
  exact e'
theorem Lf.new (h : Lf L H n) (e : H p = none) : Lf L (upd H p o) n := h.up (h.ne e)
theorem Lf.bk (h : Lf L H n) : Bk [L] H := fun a q => by
  obtain ⟨_, _, _, e, _⟩ := h
  rw [List.mem_singleton.mp q, e]
  exact fun z => nomatch z
end
/-! ### data apart from some addresses -/
mutual
inductive Dt (B : List Addr) (H : Hp) : V → PyData → Prop
  | non : Dt B H .non .none
  | bl (b : Bool) : Dt B H (.bl b) (.bool b)
  | int (i : Int) : Dt B H (.int i) (.int i)
  | str (x : Str) : Dt B H (.str x) (.str x)
  | lst {a : Addr} {xs : List V} {ds : List PyData} : a ∉ B → H a = some (.lst xs) → DtA B H xs ds → Dt B H (.ref a) (.list ds)
  | tup {a : Addr} {xs : List V} {ds : List PyData} : a ∉ B → H a = some (.tup xs) → DtA B H xs ds → Dt B H (.ref a) (.tuple ds)
inductive DtA (B : List Addr) (H : Hp) : List V → List PyData → Prop
  | nil : DtA B H [] []
  | cons {v : V} {vs : List V} {d : PyData} {ds : List PyData} : Dt B H v d → DtA B H vs ds → DtA B H (v :: vs) (d :: ds)
end
section
variable {B C : List Addr} {H H' : Hp} {p L : Addr}
mutual
/-- the general way from one to another -/
theorem Dt.to (f : ∀ a o, a ∉ B → H a = some o → a ∉ C ∧ H' a = some o) : ∀ (d : PyData) (v : V), Dt B H v d → Dt C H' v d
  | .none, _, h => by cases h; exact .non
  | .bool b, _, h => by cases h; exact .bl b
  | .int i, _, h => by cases h; exact .int i
  | .str x, _, h => by cases h; exact .str x
  | .list ds, _, h => by
    cases h with
    | lst n hs ha => exact .lst (f _ _ n hs).1 (f _ _ n hs).2 (DtA.to f ds _ ha)
  | .tuple ds, _, h => by
    cases h with
    | tup n hs ha => exact .tup (f _ _ n hs).1 (f _ _ n hs).2 (DtA.to f ds _ ha)
  | .dict _, _, h => by cases h
theorem DtA.to (f : ∀ a o, a ∉ B → H a = some o → a ∉ C ∧ H' a = some o) : ∀ (ds : List PyData) (vs : List V), DtA B H vs ds → DtA C H' vs ds
  | [], _, h => by cases h; exact .nil
  | d :: ds, _, h => by
    cases h with
    | cons h1 h2 => exact .cons (Dt.to f d _ h1) (DtA.to f ds _ h2)
end
mutual
theorem Dt.dp {K : PySem.W.Frag} : ∀ (d : PyData) (v : V), Dt B H v d → Dp K H v d
  | .none, _, h => by cases h; exact .non
  | .bool b, _, h => by cases h; exact .bl b
  | .int i, _, h => by cases h; exact .int i
  | .str x, _, h => by cases h; exact .str x
  | .list ds, _, h => by
    cases h with
    | lst n hs ha => exact .lst (SqL.of hs) (DtA.dp ds _ ha)
  | .tuple ds, _, h => by
    cases h with
    | tup n hs ha => exact .tup (SqT.of hs) (DtA.dp ds _ ha)
  | .dict _, _, h => by cases h
theorem DtA.dp {K : PySem.W.Frag} : ∀ (ds : List PyData) (vs : List V), DtA B H vs ds → DpAll K H vs ds
  | [], _, h => by cases h; exact .nil
  | d :: ds, _, h => by
    cases h with
    | cons h1 h2 => exact .cons (Dt.dp d _ h1) (DtA.dp ds _ h2)
end
variable {d : PyData} {v : V} {ds : List PyData} {vs ws : List V}
theorem Dt.g (h : Dt B H v d) (g : Go B H H') : Dt B H' v d := Dt.to (fun a o n e => ⟨n, g.k a o n e⟩) d v h
theorem DtA.g (h : DtA B H vs ds) (g : Go B H H') : DtA B H' vs ds := DtA.to (fun a o n e => ⟨n, g.k a o n e⟩) ds vs h
theorem Dt.s (h : Dt B H v d) (s : Same H H') : Dt B H' v d := h.g (Go.of s)
theorem DtA.s (h : DtA B H vs ds) (s : Same H H') : DtA B H' vs ds := h.g (Go.of s)
/-- a new address may change, too -/
theorem Dt.fr (h : Dt B H v d) (e : H p = none) : Dt (p :: B) H v d := Dt.to (fun a o n q => ⟨fun z => by
  rcases List.mem_cons.mp z with y | y
  · rw [y, e] at q
    cases q
  · exact n y, q⟩) d v h
theorem DtA.fr (h : DtA B H vs ds) (e : H p = none) : DtA (p :: B) H vs ds := DtA.to (fun a o n q => ⟨fun z => by
  rcases List.mem_cons.mp z with y | y
  · rw [y, e] at q
    cases q
  · exact n y, q⟩) ds vs h
theorem Dt.un (h : Dt (p :: B) H v d) : Dt B H v d := Dt.to (fun a o n q => ⟨fun z => n (List.mem_cons_of_mem _ z), q⟩) d v h
theorem DtA.un (h : DtA (p :: B) H vs ds) : DtA B H vs ds := DtA.to (fun a o n q => ⟨fun z => n (List.mem_cons_of_mem _ z), q⟩) ds vs h
theorem Dt.sub (h : Dt B H v d) (s : ∀ a ∈ C, a ∈ B) : Dt C H v d := Dt.to (fun a o n q => ⟨fun z => n (s a z), q⟩) d v h
theorem DtA.sub (h : DtA B H vs ds) (s : ∀ a ∈ C, a ∈ B) : DtA C H vs ds := DtA.to (fun a o n q => ⟨fun z => n (s a z), q⟩) ds vs h
theorem Dt.dP {K : PySem.W.Frag} (h : Dt B H v d) : Dp K H v d := Dt.dp d v h
theorem DtA.len {vs : List V} : ∀ {ds : List PyData}, DtA B H vs ds → vs.length = ds.length := by
  induction vs with
  | nil => intro ds h; cases h; rfl
  | cons v vs ih => intro ds h; cases h with | cons h1 h2 => rw [List.length_cons, List.length_cons, ih h2]
theorem DtA.get {vs : List V} : ∀ {ds : List PyData} {i : Nat} {d : PyData}, DtA B H vs ds → ds[i]? = some d → ∃ v, vs[i]? = some v ∧ Dt B H v d := by
  induction vs with
  | nil => intro ds i d h e; cases h; simp at e
  | cons v vs ih =>
    intro ds i d h e
    cases h with
    | cons h1 h2 =>
      cases i with
      | zero => cases e; exact ⟨v, rfl, h1⟩
      | succ i => exact ih (i := i) h2 (by simpa using e)
theorem DtA.getV {vs : List V} : ∀ {ds : List PyData} {i : Nat} {v : V}, DtA B H vs ds → vs[i]? = some v → ∃ d, ds[i]? = some d ∧ Dt B H v d := by
  induction vs with
  | nil => intro ds i d h e; simp at e
  | cons v vs ih =>
    intro ds i d h e
    cases h with
    | cons h1 h2 =>
      cases i with
      | zero => cases e; exact ⟨_, rfl, h1⟩
      | succ i => exact ih (i := i) h2 (by simpa using e)
theorem DtA.app {vs ws : List V} : ∀ {ds es : List PyData}, DtA B H vs ds → DtA B H ws es → DtA B H (vs ++ ws) (ds ++ es) := by
  induction vs with
  | nil => intro ds es h h2; cases h; exact h2
  | cons v vs ih =>
    intro ds es h h2
    cases h with
    | cons h1 h3 => exact .cons h1 (ih h3 h2)
theorem DtA.one (h : Dt B H v d) : DtA B H [v] [d] := .cons h .nil
theorem DtA.ints : ∀ ns : List Int, DtA B H (ns.map V.int) (ns.map PyData.int)
  | [] => .nil
  | n :: ns => .cons (.int n) (DtA.ints ns)
theorem DtA.intsV : ∀ {ns : List Int} {vs : List V}, DtA B H vs (ns.map PyData.int) → vs = ns.map V.int
  | [], _, h => by cases h; rfl
  | n :: ns, _, h => by
    cases h with
    | cons h1 h2 =>
      cases h1
      rw [DtA.intsV h2]
      rfl
theorem DtA.blsV : ∀ {ns : List Bool} {vs : List V}, DtA B H vs (ns.map PyData.bool) → vs = ns.map V.bl
  | [], _, h => by cases h; rfl
  | n :: ns, _, h => by
    cases h with
    | cons h1 h2 =>
      cases h1
      rw [DtA.blsV h2]
      rfl
/-- a colour; a list of ints; a palette -/
def eC (ns : List Int) : PyData := .tuple (ns.map .int)
def eI (ns : List Int) : PyData := .list (ns.map .int)
def eP (cs : List (List Int)) : PyData := .list (cs.map eC)
theorem Dt.col {v : V} {ns : List Int} (h : Dt B H v (eC ns)) : ∃ a, v = .ref a ∧ a ∉ B ∧ H a = some (.tup (ns.map V.int)) := by
  cases h with
  | tup n hs ha =>
    have e := DtA.intsV ha
    subst e
    exact ⟨_, rfl, n, hs⟩
theorem Dt.ofCol {a : Addr} {ns : List Int} (n : a ∉ B) (h : H a = some (.tup (ns.map V.int))) : Dt B H (.ref a) (eC ns) := .tup n h (DtA.ints ns)
theorem Dt.ofInts {a : Addr} {ns : List Int} (n : a ∉ B) (h : H a = some (.lst (ns.map V.int))) : Dt B H (.ref a) (eI ns) := .lst n h (DtA.ints ns)
theorem Dt.ints {v : V} {ns : List Int} (h : Dt B H v (eI ns)) : ∃ a, v = .ref a ∧ a ∉ B ∧ H a = some (.lst (ns.map V.int)) := by
  cases h with
  | lst n hs ha =>
    have e := DtA.intsV ha
    subst e
    exact ⟨_, rfl, n, hs⟩
theorem Dt.tupI {v : V} {ds : List PyData} (h : Dt B H v (.tuple ds)) : ∃ a vs, v = .ref a ∧ a ∉ B ∧ H a = some (.tup vs) ∧ DtA B H vs ds := by
  cases h with
  | tup n hs ha => exact ⟨_, _, rfl, n, hs, ha⟩
theorem Dt.lstI {v : V} {ds : List PyData} (h : Dt B H v (.list ds)) : ∃ a vs, v = .ref a ∧ a ∉ B ∧ H a = some (.lst vs) ∧ DtA B H vs ds := by
  cases h with
  | lst n hs ha => exact ⟨_, _, rfl, n, hs, ha⟩
theorem Dt.pal {v : V} {cs : List (List Int)} (h : Dt B H v (eP cs)) : ∃ a vs, v = .ref a ∧ a ∉ B ∧ H a = some (.lst vs) ∧ DtA B H vs (cs.map eC) := Dt.lstI h
theorem Dt.intI {v : V} {i : Int} (h : Dt B H v (.int i)) : v = .int i := by
  cases h
  rfl
end
/-! ### the rules that speak of the written part, with it named -/
def rLenS (K : PySem.W.Frag) : List V → Hp → VK → Prop := fun xs H Q => ∃ p ys, xs = [.ref p] ∧ (SqL K H p ys ∨ SqT K H p ys) ∧ Q (.int ys.length) H
def rListOf (K : PySem.W.Frag) : List V → Hp → VK → Prop := fun xs H Q => ∃ p ys, xs = [.ref p] ∧ (SqL K H p ys ∨ SqT K H p ys) ∧ ∀ l, H l = none → Q (.ref l) (upd H l (.lst ys))
def rTupOf (K : PySem.W.Frag) : List V → Hp → VK → Prop := fun xs H Q => ∃ p ys, xs = [.ref p] ∧ ((SqL K H p ys ∧ ∀ l, H l = none → Q (.ref l) (upd H l (.tup ys))) ∨ (SqT K H p ys ∧ Q (.ref p) H))
section
variable (K : PySem.W.Frag) {X : Cx}
theorem ix_listK (h : X.K = K := by rfl) : IxR X (rIxL K) := h ▸ ix_list
theorem ix_tupK (h : X.K = K := by rfl) : IxR X (rIxT K) := h ▸ ix_tup
theorem sl_listK (h : X.K = K := by rfl) : SlR X (rSlL K) := h ▸ sl_list
theorem sl_tupAK (h : X.K = K := by rfl) : SlR X (rSlA K) := h ▸ sl_tupA
theorem op_catAK (h : X.K = K := by rfl) : OpR X (binaryOp .Add) (rCatA K) := h ▸ op_catA
theorem op_eqDK (hu : X.A.units + 64 < cLine) (h : X.K = K := by rfl) : OpR X (compareOp .Eq) (rEqD K) := h ▸ op_eqD hu
theorem op_neDK (hu : X.A.units + 64 < cLine) (h : X.K = K := by rfl) : OpR X (compareOp .NotEq) (rNeD K) := h ▸ op_neD hu
theorem len_K (h : X.K = K := by rfl) : CallR X (.builtin "len") (rLenS K) := h ▸ call_len_seq
theorem list_K (h : X.K = K := by rfl) : CallR X (.type "list") (rListOf K) := h ▸ call_list_of
theorem tuple_K (h : X.K = K := by rfl) : CallR X (.type "tuple") (rTupOf K) := h ▸ call_tuple_of
theorem cr_sumK (hc : X.calm = true) (h : X.K = K := by rfl) : CallR X (.builtin "sum") (rSum K) := h ▸ cr_sum hc
theorem cr_maxK (hc : X.calm = true) (h : X.K = K := by rfl) : CallR X (.builtin "max") (rMax K) := h ▸ cr_max hc
theorem cr_minK (hc : X.calm = true) (h : X.K = K := by rfl) : CallR X (.builtin "min") (rMin K) := h ▸ cr_min hc
theorem cr_anyK (hc : X.calm = true) (h : X.K = K := by rfl) : CallR X (.builtin "any") (rAny K) := h ▸ cr_any hc
theorem cr_allK (hc : X.calm = true) (h : X.K = K := by rfl) : CallR X (.builtin "all") (rAll K) := h ▸ cr_all hc
theorem call_isiK1 (h : X.K = K := by rfl) : CallR X (.builtin "isinstance") (rIsi K) := h ▸ call_isi
theorem call_isiTK (h : X.K = K := by rfl) : CallR X (.builtin "isinstance") (rIsiT K) := h ▸ call_isiT
theorem cr_sortedK (h : X.K = K := by rfl) : CallR X (.builtin "sorted") (rSortedPO K) := h ▸ cr_sortedPO
theorem mt_indexK (h : X.K = K := by rfl) : MtR X "list.index" (rIndex K) := h ▸ mt_index
theorem pi_listK {tg l : Expr} {tl : TE} (hl : PE X l tl) (h : X.K = K := by rfl) : PI X tg l (iList K tl) := h ▸ pi_list hl
theorem pg_tupK {pos : Pos} {es : List Expr} {kk : Nat} {t : TGs} {n : Nat} (hc : X.calm = true) (h : PGs X es t) (hn : (assignEach es X.env).length = n := by rfl) (hst : (assignEach es X.env).findIdx? (·.1) = none := by rfl) (h2 : X.K = K := by rfl) : PG X (.Tuple es kk pos) (gTup K n t) :=
  h2 ▸ pg_tup hc h hn hst
theorem pi_tupK {tg l : Expr} {tl : TE} (hl : PE X l tl) (h : X.K = K := by rfl) : PI X tg l (iTup K tl) := h ▸ pi_tup hl
end
/-! ### shapes -/
mutual
def wide : PyData → Bool
  | .none | .bool _ | .int _ | .str _ => true
  | .list xs | .tuple xs => decide (xs.length ≤ 100000) && wideAll xs
  | .dict _ => false
def wideAll : List PyData → Bool
  | [] => true
  | x :: xs => wide x && wideAll xs
end
def Sh (d : PyData) (k : Nat) : Prop := d.canLay0 = true ∧ d.depth ≤ k ∧ wide d = true
theorem sh_all : ∀ {ds : List PyData} {k : Nat}, (∀ d ∈ ds, Sh d k) → PyData.canLayAll0 ds = true ∧ PyData.depthAll ds ≤ k ∧ wideAll ds = true
  | [], _, _ => ⟨rfl, Nat.zero_le _, by rw [wideAll]⟩
  | d :: ds, k, h => by
    obtain ⟨h1, h2, h4⟩ := sh_all (ds := ds) (k := k) fun x hx => h x (List.mem_cons_of_mem _ hx)
    have h3 := h d (List.mem_cons_self ..)
    refine ⟨?_, ?_, ?_⟩
    · rw [PyData.canLayAll0, h1, h3.1]; rfl
    · rw [PyData.depthAll]
      exact Nat.max_le.mpr ⟨h3.2.1, h2⟩
    · rw [wideAll, h4, h3.2.2]; rfl
theorem sh_mem : ∀ {ds : List PyData} {k : Nat}, PyData.canLayAll0 ds = true → PyData.depthAll ds ≤ k → wideAll ds = true → ∀ d ∈ ds, Sh d k
  | [], _, _, _, _, _, h => nomatch h
  | d :: ds, k, h1, h2, h3, x, hx => by
    rw [PyData.canLayAll0] at h1
    rw [PyData.depthAll] at h2
    rw [wideAll] at h3
    have a := Bool.and_eq_true_iff.mp h1
    have b := Nat.max_le.mp h2
    have c := Bool.and_eq_true_iff.mp h3
    rcases List.mem_cons.mp hx with e | e
    · rw [e]; exact ⟨a.1, b.1, c.1⟩
    · exact sh_mem a.2 b.2 c.2 x e
theorem sh_tup {ds : List PyData} {k : Nat} (l : ds.length ≤ 100000) (h : ∀ d ∈ ds, Sh d k) : Sh (.tuple ds) (k + 1) := by
  obtain ⟨h1, h2, h3⟩ := sh_all h
  exact ⟨by rw [PyData.canLay0]; exact h1, by rw [PyData.depth]; omega, by rw [wide, h3, decide_eq_true l]; rfl⟩
theorem sh_lst {ds : List PyData} {k : Nat} (l : ds.length ≤ 100000) (h : ∀ d ∈ ds, Sh d k) : Sh (.list ds) (k + 1) := by
  obtain ⟨h1, h2, h3⟩ := sh_all h
  exact ⟨by rw [PyData.canLay0]; exact h1, by rw [PyData.depth]; omega, by rw [wide, h3, decide_eq_true l]; rfl⟩
theorem sh_int (i : Int) (k : Nat) : Sh (.int i) k := ⟨rfl, by rw [PyData.depth]; omega, by rw [wide]⟩
theorem sh_bool (i : Bool) (k : Nat) : Sh (.bool i) k := ⟨rfl, by rw [PyData.depth]; omega, by rw [wide]⟩
theorem sh_none (k : Nat) : Sh .none k := ⟨rfl, by rw [PyData.depth]; omega, by rw [wide]⟩
theorem sh_eC {ns : List Int} (l : ns.length ≤ 100000) : Sh (eC ns) 1 := sh_tup (by simpa using l) fun d hd => by
  obtain ⟨n, _, rfl⟩ := List.mem_map.mp hd
  exact sh_int n 0
theorem sh_eI {ns : List Int} (l : ns.length ≤ 100000) : Sh (eI ns) 1 := sh_lst (by simpa using l) fun d hd => by
  obtain ⟨n, _, rfl⟩ := List.mem_map.mp hd
  exact sh_int n 0
theorem sh_eP {cs : List (List Int)} (l : cs.length ≤ 100000) (h : ∀ c ∈ cs, c.length ≤ 100000) : Sh (eP cs) 2 := sh_lst (by simpa using l) fun d hd => by
  obtain ⟨n, m, rfl⟩ := List.mem_map.mp hd
  exact sh_eC (h n m)
theorem Sh.mono {d : PyData} {j k : Nat} (h : Sh d j) (l : j ≤ k) : Sh d k := ⟨h.1, Nat.le_trans h.2.1 l, h.2.2⟩
theorem Sh.sh {d : PyData} {k : Nat} (h : Sh d k) (l : k ≤ 64) : SeqAt.shaped d = true := by
  unfold SeqAt.shaped
  rw [h.1, decide_eq_true (Nat.le_trans h.2.1 l)]
  rfl
theorem Sh.tupI {ds : List PyData} {k : Nat} (h : Sh (.tuple ds) k) : ∃ j, k = j + 1 ∧ (∀ d ∈ ds, Sh d j) ∧ ds.length ≤ 100000 := by
  obtain ⟨h1, h2, h3⟩ := h
  rw [PyData.canLay0] at h1
  rw [PyData.depth] at h2
  rw [wide] at h3
  have c := Bool.and_eq_true_iff.mp h3
  exact ⟨k - 1, by omega, sh_mem h1 (by omega) c.2, of_decide_eq_true c.1⟩
theorem Sh.lstI {ds : List PyData} {k : Nat} (h : Sh (.list ds) k) : ∃ j, k = j + 1 ∧ (∀ d ∈ ds, Sh d j) ∧ ds.length ≤ 100000 := by
  obtain ⟨h1, h2, h3⟩ := h
  rw [PyData.canLay0] at h1
  rw [PyData.depth] at h2
  rw [wide] at h3
  have c := Bool.and_eq_true_iff.mp h3
  exact ⟨k - 1, by omega, sh_mem h1 (by omega) c.2, of_decide_eq_true c.1⟩
/-! ### isinstance -/
def tyn : PyData → String
  | .none => "NoneType" | .bool _ => "bool" | .int _ => "int" | .str _ => "str" | .list _ => "list" | .tuple _ => "tuple" | .dict _ => "dict"
theorem Dt.ty {K : PySem.W.Frag} {B : List Addr} {H : Hp} {v : V} {d : PyData} (h : Dt B H v d) : TyX K H v (.type (tyn d)) := by
  cases h with
  | non => exact .base .non
  | bl b => exact .base (.bl b)
  | int i => exact .base (.int i)
  | str x => exact .base (.str x)
  | lst n hs ha => exact .base (.lst hs)
  | tup n hs ha => exact .base (.tup hs)
theorem r_isi {K : PySem.W.Frag} {H : Hp} {Q : VK} {x : V} {t n : String} {b : Bool} (h : TyX K H x (.type t)) (e : kitB t n = some b) (q : Q (.bl b) H) : rIsi K [x, .ty n] H Q := ⟨x, .ty n, _, _, b, rfl, .ty n, h, kit_ty e, q⟩
theorem iteD {c A B : Prop} [Decidable c] (hc : c) (h : A) : if decide c = true then A else B := by
  rw [if_pos (decide_eq_true hc)]
  exact h
theorem iteE {A B : Prop} {c : Bool} (hc : c = true) (h : A) : if c = true then A else B := by
  rw [if_pos hc]
  exact h
theorem iteN {A B : Prop} {c : Bool} (hc : c = false) (h : B) : if c = true then A else B := by
  rw [hc, if_neg Bool.false_ne_true]
  exact h
/-! ### comprehensions -/
theorem lc_yes {te : TE} {σ : L2.St} {H : Hp} {Qy : VK} {N : Hp → Prop} (h : te σ H Qy) : tYes σ H (fun b H3 => if b = true then te σ H3 Qy else N H3) := by
  show if true = true then te σ H Qy else N H
  rw [if_pos rfl]
  exact h
theorem walk_zipT {K : PySem.W.Frag} {a b : Addr} {xs ys : List V} {n : Nat} (hn : n = min xs.length ys.length) : Walk (RZ.ItzT K a b) n (fun H => SqT K H a xs ∧ SqT K H b ys) (YPair (fun i => xs[i]?) (fun i => ys[i]?)) := by
  subst hn
  refine ⟨fun i _ hi q => ?_, fun _ q => ⟨xs, ys, q.1, q.2, by omega⟩, fun i H v H' _ q y => ?_⟩
  · have h1 : i < xs.length := by omega
    have h2 : i < ys.length := by omega
    exact ⟨xs, ys, xs[i], ys[i], q.1, q.2, by simp [h1], by simp [h2]⟩
  · obtain ⟨T, x, z, h1, h2, h3, h4, h5⟩ := y
    exact ⟨T, x, z, h1, h2, h3, h4 xs q.1, h5 ys q.2⟩
theorem sz {n : Nat} (h : n ≤ 100000) : n < sizeLine := Nat.lt_of_le_of_lt h (by decide)
/-- a comprehension that leaves all as it was: what it makes, item by item -/
theorem lc_pure {J : It} {n : Nat} {G : Hp → Prop} {Y : Nat → Hp → V → Hp → Prop} (w : Walk J n G Y) {g : TG} {tt : TT} {te : TE} {vs : List Nat} {σ : L2.St} {H1 : Hp} {D : Addr} {Qd : Hp → Prop} {B : List Addr}
    (hD : H1 D = none) (hB : Bk B H1) (hG : ∀ H', Same H1 H' → G H') (hn : n ≤ 100000) (e : Nat → Option PyData)
    (hs : ∀ (i : Nat) (x : V) (H' H'' : Hp) (Ny : V → Hp → Prop) (Nn : Hp → Prop), i < n → Same H1 H' → Bk (D :: B) H' → Y i H' x H'' → (∀ y H4 d, e i = some d → Same H' H4 → Dt (D :: B) H4 y d → Ny y H4) → (∀ H3, e i = none → Same H' H3 → Nn H3) →
      g x (wipe σ vs) H'' fun σ2 H2 => wipe σ2 vs = wipe σ vs ∧ tt σ2 H2 fun b H3 => if b = true then te σ2 H3 Ny else Nn H3)
    (hd : ∀ (H' : Hp) (ws : List V), Same H1 H' → H' D = some (.lst ws) → DtA (D :: B) H' ws ((List.range n).filterMap e) → Qd H') :
    ∃ W : Nat → Nat → Hp → Prop, (∃ m, W 0 m (upd H1 D (.lst []))) ∧ ∀ i m H, W i m H →
      (J.stop i H ∧ Qd H) ∨ (J.go i H ∧ ∃ Nx : Hp → Prop, (∀ H', Nx H' → ∃ m', m' < m ∧ W (i + 1) m' H') ∧ ∀ x H', J.yld i H x H' → g x (wipe σ vs) H' fun σ2 H2 => wipe σ2 vs = wipe σ vs ∧ tt σ2 H2 fun b H3 =>
        if b = true then te σ2 H3 fun y H4 => ∃ acc, H4 D = some (.lst acc) ∧ acc.length < sizeLine ∧ Nx (upd H4 D (.lst (acc ++ [y]))) else Nx H3) := by
  refine lc_it w (fun i H' => Same H1 H' ∧ ∃ ws, H' D = some (.lst ws) ∧ DtA (D :: B) H' ws ((List.range i).filterMap e) ∧ ws.length ≤ i) ⟨sm_new hD, [], upd_same, .nil, Nat.le_refl _⟩ (fun i H' _ h => hG H' h.1) (fun i x H' H'' hi h y => ?_) (fun H' h => ?_)
  · obtain ⟨s1, ws, eD, hA, hl⟩ := h
    have hb : Bk (D :: B) H' := (hB.go (Go.of (B := B) s1)).cons eD
    refine hs i x H' H'' _ _ hi s1 hb y (fun y H4 d ed s4 hy => ?_) (fun H3 ed s3 => ?_)
    · refine ⟨ws, s4 _ _ eD, sz (by omega), sm_mut (s1.trans s4) hD, ws ++ [y], upd_same, ?_, by simp; omega⟩
      rw [List.range_succ, List.filterMap_append]
      have g4 : Go (D :: B) H4 (upd H4 D (.lst (ws ++ [y]))) := Go.refl.at (List.mem_cons_self ..)
      refine DtA.app ((hA.s s4).g g4) ?_
      simp only [List.filterMap_cons, List.filterMap_nil, ed]
      exact .one (hy.g g4)
    · refine ⟨s1.trans s3, ws, s3 _ _ eD, ?_, by omega⟩
      rw [List.range_succ, List.filterMap_append]
      simp only [List.filterMap_cons, List.filterMap_nil, ed, List.append_nil]
      exact hA.s s3
  · obtain ⟨s1, ws, eD, hA, hl⟩ := h
    exact hd H' ws s1 eD hA
theorem fm_take {α : Type} (ys : List α) : ∀ n, (List.range n).filterMap (fun i => ys[i]?) = ys.take n
  | 0 => by simp
  | n + 1 => by
    rw [List.range_succ, List.filterMap_append, fm_take ys n, List.take_add_one]
    cases h : ys[n]? <;> simp [h]
theorem fm_all {α : Type} {ys : List α} {n : Nat} (h : ys.length = n) : (List.range n).filterMap (fun i => ys[i]?) = ys := by
  rw [fm_take, ← h, List.take_length]
theorem at0 {α : Type} {xs : List α} {i : Int} {v : α} (h : 0 ≤ i) (e : xs[i.toNat]? = some v) : atI xs i = some v := by
  have := atI_nat e
  rw [Int.toNat_of_nonneg h] at this
  exact this
theorem bit_ok (b : Bool) : (-(2 ^ 64) : Int) < (if b = true then 1 else 0) ∧ (if b = true then 1 else 0 : Int) < 2 ^ 64 := by cases b <;> decide
theorem md {j : Int} (h : 0 < j) : 0 < j := h
theorem at_in {xs : List V} {r : Int} (h0 : 0 ≤ r) (h1 : r < xs.length) : ∃ v, v ∈ xs ∧ atI xs r = some v := by
  have h : r.toNat < xs.length := by omega
  exact ⟨xs[r.toNat], List.getElem_mem h, at0 h0 (List.getElem?_eq_getElem h)⟩
theorem at_int {ns : List Int} {r : Int} (h0 : 0 ≤ r) (h1 : r < ns.length) : ∃ z, z ∈ ns ∧ atI (ns.map V.int) r = some (.int z) := by
  have h : r.toNat < ns.length := by omega
  exact ⟨ns[r.toNat], List.getElem_mem h, at0 h0 (by rw [List.getElem?_map, List.getElem?_eq_getElem h]; rfl)⟩
theorem at2 (x y : V) (b : Bool) : atI [x, y] (if b = true then 1 else 0) = some (if b = true then y else x) := by cases b <;> rfl
/-- numbers within bounds -/
def cIn (lo hi : Int) (ns : List Int) : Prop := ∀ x ∈ ns, lo ≤ x ∧ x ≤ hi
theorem cIn.app {lo hi x : Int} {ns : List Int} (h : cIn lo hi ns) (h1 : lo ≤ x) (h2 : x ≤ hi) : cIn lo hi (ns ++ [x]) := fun y hy => by
  rcases List.mem_append.mp hy with q | q
  · exact h y q
  · rw [List.mem_singleton.mp q]
    exact ⟨h1, h2⟩
theorem cIn.nil {lo hi : Int} : cIn lo hi [] := fun _ h => nomatch h
theorem cIn.mono {lo hi lo' hi' : Int} {ns : List Int} (h : cIn lo hi ns) (h1 : lo' ≤ lo) (h2 : hi ≤ hi') : cIn lo' hi' ns := fun x hx => by
  have := h x hx
  omega
/-- a comprehension of drawn numbers -/
theorem lc_ints {J : It} {n : Nat} {G : Hp → Prop} {Y : Nat → Hp → V → Hp → Prop} (w : Walk J n G Y) {g : TG} {tt : TT} {te : TE} {vs : List Nat} {σ : L2.St} {H1 : Hp} {D L : Addr} {Qd : Hp → Prop} (N u : Nat) (lo hi : Int)
    (hD : H1 D = none) (hL : Lf L H1 N) (hG : ∀ H', Go [L] H1 H' → G H') (hn : n ≤ 100000)
    (hs : ∀ (i : Nat) (x : V) (H' H'' : Hp) (Ny : V → Hp → Prop) (Nn : Hp → Prop), i < n → Go [L] H1 H' → Lf L H' (N + u * i) → Y i H' x H'' → (∀ (z : Int) H4, Go [L] H' H4 → Lf L H4 (N + u * i + u) → lo ≤ z → z ≤ hi → Ny (.int z) H4) →
      g x (wipe σ vs) H'' fun σ2 H2 => wipe σ2 vs = wipe σ vs ∧ tt σ2 H2 fun b H3 => if b = true then te σ2 H3 Ny else Nn H3)
    (hd : ∀ (H' : Hp) (ns : List Int), Go [L] H1 H' → Lf L H' (N + u * n) → H' D = some (.lst (ns.map V.int)) → ns.length = n → cIn lo hi ns → Qd H') :
    ∃ W : Nat → Nat → Hp → Prop, (∃ m, W 0 m (upd H1 D (.lst []))) ∧ ∀ i m H, W i m H →
      (J.stop i H ∧ Qd H) ∨ (J.go i H ∧ ∃ Nx : Hp → Prop, (∀ H', Nx H' → ∃ m', m' < m ∧ W (i + 1) m' H') ∧ ∀ x H', J.yld i H x H' → g x (wipe σ vs) H' fun σ2 H2 => wipe σ2 vs = wipe σ vs ∧ tt σ2 H2 fun b H3 =>
        if b = true then te σ2 H3 fun y H4 => ∃ acc, H4 D = some (.lst acc) ∧ acc.length < sizeLine ∧ Nx (upd H4 D (.lst (acc ++ [y]))) else Nx H3) := by
  have nD : D ∉ [L] := hL.bk.ne hD
  refine lc_it w (fun i H' => Go [L] H1 H' ∧ Lf L H' (N + u * i) ∧ ∃ ns : List Int, H' D = some (.lst (ns.map V.int)) ∧ ns.length = i ∧ cIn lo hi ns) ⟨Go.new hD, hL.new hD, [], upd_same, rfl, cIn.nil⟩ (fun i H' _ h => hG H' h.1) (fun i x H' H'' hi h y => ?_) (fun H' h => ?_)
  · obtain ⟨g1, l1, ns, eD, en, cn⟩ := h
    refine hs i x H' H'' _ _ hi g1 l1 y (fun z H4 g4 l4 z0 z1 => ?_)
    refine ⟨ns.map V.int, g4.k D _ nD eD, sz (by rw [List.length_map]; omega), (g1.trans g4).mut hD, (l4.up (hL.ne hD)).mono (by rw [Nat.mul_succ]; omega), ns ++ [z], ?_, by simp; omega, cn.app z0 z1⟩
    rw [upd_same, List.map_append]
    rfl
  · obtain ⟨g1, l1, ns, eD, en, cn⟩ := h
    exact hd H' ns g1 l1 eD en cn
theorem mat {a : List Int} {i : Nat} {x : V} (h : i < a.length) (e : (a.map V.int)[i]? = some x) : x = .int a[i] := by
  rw [List.getElem?_map, List.getElem?_eq_getElem h] at e
  exact (Option.some.inj e).symm
end Z

set_option Elab.async false
set_option linter.all false
set_option maxRecDepth 100000
namespace Z
open PySem PySem.Spec PyProof.Rows L2
open PySem.W (dataLt minD alike alikeAll dataLt_tuple dataLt_all_yes dataLt_all_no dataLt_int min_list_data readsAll_at reads_keeps AlikeAll)
/-! ### the least of pairs -/
def enc (p : Int × Int) : PyData := eC [p.1, p.2]
theorem enc_inj {p q : Int × Int} (h : enc p = enc q) : p = q := by
  have h1 : [PyData.int p.1, PyData.int p.2] = [PyData.int q.1, PyData.int q.2] := by
    unfold enc eC at h
    exact PyData.tuple.inj h
  have h2 := (List.cons.inj h1)
  have h3 := (List.cons.inj h2.2)
  exact Prod.ext (PyData.int.inj h2.1) (PyData.int.inj h3.1)
theorem lt_enc (p q : Int × Int) : dataLt (enc p) (enc q) = SrtO.lexB p q := by
  unfold enc eC
  rw [dataLt_tuple]
  simp only [List.map_cons, List.map_nil]
  unfold SrtO.lexB
  by_cases h : p.1 = q.1
  · rw [if_pos h, dataLt_all_yes (by rfl) (by simp [PyData.eqv, h])]
    by_cases h2 : p.2 = q.2
    · rw [dataLt_all_yes (by rfl) (by simp [PyData.eqv, h2]), decide_eq_false (by omega)]
      rfl
    · rw [dataLt_all_no (by rfl) (by simp [PyData.eqv, h2]), dataLt_int]
  · rw [if_neg h, dataLt_all_no (by rfl) (by simp [PyData.eqv, h]), dataLt_int]
def minP (p : Int × Int) (ps : List (Int × Int)) : Int × Int := ps.foldl (fun a y => if SrtO.lexB y a then y else a) p
theorem minD_enc (p : Int × Int) (ps : List (Int × Int)) : minD (enc p) (ps.map enc) = enc (minP p ps) := by
  unfold minD minP
  induction ps generalizing p with
  | nil => rfl
  | cons x r ih =>
    rw [List.map_cons, List.foldl_cons, List.foldl_cons, lt_enc]
    by_cases h : SrtO.lexB x p = true
    · rw [if_pos h, if_pos h]; exact ih x
    · rw [if_neg h, if_neg h]; exact ih p
theorem minP_le (p : Int × Int) (ps : List (Int × Int)) : ∀ q ∈ p :: ps, SrtO.lexB q (minP p ps) = false := by
  unfold minP
  induction ps generalizing p with
  | nil =>
    intro q hq
    rw [List.mem_singleton.mp hq]
    exact SrtO.lexB_no.mpr (by simp only [List.foldl_nil]; omega)
  | cons x r ih =>
    intro q hq
    rw [List.foldl_cons]
    by_cases h : SrtO.lexB x p = true
    · rw [if_pos h]
      rcases List.mem_cons.mp hq with e | e
      · have i1 := SrtO.lexB_no.mp (ih x x (List.mem_cons_self ..))
        have i2 := SrtO.lexB_iff.mp h
        rw [e]
        exact SrtO.lexB_no.mpr (by omega)
      · exact ih x q e
    · rw [if_neg h]
      rcases List.mem_cons.mp hq with e | e
      · exact ih p q (by rw [e]; exact List.mem_cons_self ..)
      · rcases List.mem_cons.mp e with e | e
        · have i1 := SrtO.lexB_no.mp (ih p p (List.mem_cons_self ..))
          have i2 := SrtO.lexB_no.mp (Bool.eq_false_iff.mpr h)
          rw [e]
          exact SrtO.lexB_no.mpr (by omega)
        · exact ih p q (List.mem_cons_of_mem _ e)
theorem alike_enc (p q : Int × Int) : alike (enc p) (enc q) = true := by
  unfold enc eC
  simp [alike, alikeAll]
theorem dep_enc : ∀ ps : List (Int × Int), PyData.depthAll (ps.map enc) ≤ 1
  | [] => Nat.zero_le _
  | p :: ps => by
    rw [List.map_cons, PyData.depthAll]
    exact Nat.max_le.mpr ⟨(sh_eC (ns := [p.1, p.2]) (by simp)).2.1, dep_enc ps⟩
/-- min(xs), xs a list of pairs of ints: one of the least -/
def rMinP (K : PySem.W.Frag) : List V → Hp → VK → Prop := fun vs H Q => ∃ (a : Addr) (xs : List V) (p : Int × Int) (ps : List (Int × Int)), vs = [V.ref a] ∧ SqL K H a xs ∧ DpAll K H xs ((p :: ps).map enc) ∧
  ∀ (i : Nat) (x : V), xs[i]? = some x → (p :: ps)[i]? = some (minP p ps) → Q x H
theorem cr_minP (K : PySem.W.Frag) {X : Cx} (hc : X.calm = true) (hu : X.A.units + 64 < cLine) (hK : X.K = K := by rfl) : CallR X (.builtin "min") (rMinP K) := by
  subst hK
  intro pins s σ H vs us Q I r h
  obtain ⟨a, xs, p, ps, rfl, hs, hd, q⟩ := h
  obtain ⟨its, rv, hl, hz⟩ := I.list hs
  obtain ⟨u, rfl, ru⟩ := vals1 r
  obtain rfl : u = Value.ref a := ru
  obtain ⟨as, hr⟩ := Dp.readsAll I _ xs its hd rv
  rw [List.map_cons] at hr
  have hdep := dep_enc (p :: ps)
  rw [List.map_cons] at hdep
  refine min_list_data (x := enc p) (xs := ps.map enc) (I.ok.hd hc) hl.isList (by simpa using hr) ⟨fun x hx y hy => ?_, fun x hx => ?_⟩ (by omega) fun i v h' tk bs hv rd hk => ?_
  · rw [← List.map_cons] at hx hy
    obtain ⟨x, _, rfl⟩ := List.mem_map.mp hx
    obtain ⟨y, _, rfl⟩ := List.mem_map.mp hy
    exact alike_enc x y
  · rw [← List.map_cons] at hx
    obtain ⟨x, _, rfl⟩ := List.mem_map.mp hx
    intro z
    unfold enc eC at z
    cases z
  · have hv2 : its[i]? = some v := by simpa using hv
    have hi : i < its.length := (List.getElem?_eq_some_iff.mp hv2).1
    have hi2 : i < xs.length := by rw [rv.length]; exact hi
    obtain ⟨w, hw, rw1⟩ := rv.get (List.getElem?_eq_getElem hi2)
    have ew : w = v := Option.some.inj (hw.symm.trans hv2)
    subst ew
    obtain ⟨cs, r1, l1, m1, _⟩ := readsAll_at hr i w hv2
    rw [← List.map_cons] at l1 m1 r1
    rw [List.length_map] at l1
    have eg : ((p :: ps).map enc).getD i .none = enc (p :: ps)[i] := by
      rw [List.getD_eq_getElem?_getD, List.getElem?_map, List.getElem?_eq_getElem l1]
      rfl
    rw [eg] at r1
    rw [minD_enc] at rd
    have ee := SeqAt.Reads.unique _ _ _ _ _ (sh_eC (ns := [((p :: ps)[i]).1, ((p :: ps)[i]).2]) (by simp)).1 (reads_keeps hk r1) rd
    have ep : (p :: ps)[i] = minP p ps := enc_inj ee
    exact ⟨xs[i], H, I.kept (t' := tk) hk, rw1, q i _ (List.getElem?_eq_getElem hi2) (by rw [List.getElem?_eq_getElem l1, ep])⟩
theorem DtA.rev {B : List Addr} {H : Hp} : ∀ {vs : List V} {ds : List PyData}, DtA B H vs ds → DtA B H vs.reverse ds.reverse
  | [], _, h => by
    cases h
    exact .nil
  | v :: vs, _, h => by
    cases h with
    | cons h1 h2 =>
      rw [List.reverse_cons, List.reverse_cons]
      exact (DtA.rev h2).app (.one h1)
theorem DtA.dP {K : PySem.W.Frag} {B : List Addr} {H : Hp} {vs : List V} {ds : List PyData} (h : DtA B H vs ds) : DpAll K H vs ds := DtA.dp ds vs h
/-- a comprehension of drawn data -/
theorem lc_dtsB {J : It} {n : Nat} {G : Hp → Prop} {Y : Nat → Hp → V → Hp → Prop} (w : Walk J n G Y) {g : TG} {tt : TT} {te : TE} {vs : List Nat} {σ : L2.St} {H1 : Hp} {D L : Addr} {B : List Addr} {Qd : Hp → Prop} (N u : Nat) (Pd : PyData → Prop)
    (hD : H1 D = none) (hL : Lf L H1 N) (LB : L ∈ B) (hB : Bk B H1) (hG : ∀ H', Go [L] H1 H' → G H') (hn : n ≤ 100000)
    (hs : ∀ (i : Nat) (x : V) (H' H'' : Hp) (Ny : V → Hp → Prop) (Nn : Hp → Prop), i < n → Go [L] H1 H' → Lf L H' (N + u * i) → Bk (D :: B) H' → Y i H' x H'' → (∀ (v : V) (d : PyData) H4, Go [L] H' H4 → Lf L H4 (N + u * i + u) → Dt (D :: B) H4 v d → Pd d → Ny v H4) →
      g x (wipe σ vs) H'' fun σ2 H2 => wipe σ2 vs = wipe σ vs ∧ tt σ2 H2 fun b H3 => if b = true then te σ2 H3 Ny else Nn H3)
    (hd : ∀ (H' : Hp) (ws : List V) (ds : List PyData), Go [L] H1 H' → Lf L H' (N + u * n) → H' D = some (.lst ws) → DtA (D :: B) H' ws ds → ds.length = n → (∀ d ∈ ds, Pd d) → Qd H') :
    ∃ W : Nat → Nat → Hp → Prop, (∃ m, W 0 m (upd H1 D (.lst []))) ∧ ∀ i m H, W i m H →
      (J.stop i H ∧ Qd H) ∨ (J.go i H ∧ ∃ Nx : Hp → Prop, (∀ H', Nx H' → ∃ m', m' < m ∧ W (i + 1) m' H') ∧ ∀ x H', J.yld i H x H' → g x (wipe σ vs) H' fun σ2 H2 => wipe σ2 vs = wipe σ vs ∧ tt σ2 H2 fun b H3 =>
        if b = true then te σ2 H3 fun y H4 => ∃ acc, H4 D = some (.lst acc) ∧ acc.length < sizeLine ∧ Nx (upd H4 D (.lst (acc ++ [y]))) else Nx H3) := by
  have nD : D ∉ [L] := hL.bk.ne hD
  refine lc_it w (fun i H' => Go [L] H1 H' ∧ Lf L H' (N + u * i) ∧ ∃ ws ds, H' D = some (.lst ws) ∧ DtA (D :: B) H' ws ds ∧ ds.length = i ∧ ∀ d ∈ ds, Pd d) ⟨Go.new hD, hL.new hD, [], [], upd_same, .nil, rfl, fun _ h => (nomatch h)⟩ (fun i H' _ h => hG H' h.1) (fun i x H' H'' hi h y => ?_) (fun H' h => ?_)
  · obtain ⟨g1, l1, ws, ds, eD, hA, en, hp⟩ := h
    refine hs i x H' H'' _ _ hi g1 l1 ((hB.go g1).cons eD) y (fun z d H4 g4 l4 dz pd => ?_)
    have gm : Go (D :: B) H4 (upd H4 D (.lst (ws ++ [z]))) := Go.refl.at (List.mem_cons_self ..)
    have lw := hA.len
    refine ⟨ws, g4.k D _ nD eD, sz (by omega), (g1.trans g4).mut hD, (l4.up (hL.ne hD)).mono (by rw [Nat.mul_succ]; omega), ws ++ [z], ds ++ [d], upd_same, ((hA.g (g4.w1 (List.mem_cons_of_mem _ LB))).g gm).app (.one (dz.g gm)), by simp; omega, fun e he => ?_⟩
    rcases List.mem_append.mp he with he | he
    · exact hp e he
    · rw [List.mem_singleton.mp he]
      exact pd
  · obtain ⟨g1, l1, ws, ds, eD, hA, en, hp⟩ := h
    exact hd H' ws ds g1 l1 eD hA en hp
/-- a part of a list -/
def cutL {α : Type} (xs : List α) (lo hi : Option Int) : List α := (xs.drop (HT.sIx xs.length 0 lo)).take (HT.sIx xs.length xs.length hi - HT.sIx xs.length 0 lo)
theorem cutL_sub {α : Type} {xs : List α} {lo hi : Option Int} {x : α} (h : x ∈ cutL xs lo hi) : x ∈ xs := List.mem_of_mem_drop (List.mem_of_mem_take h)
theorem cutL_len {α : Type} (xs : List α) (lo hi : Option Int) : (cutL xs lo hi).length ≤ xs.length := by
  unfold cutL
  rw [List.length_take, List.length_drop]
  omega
theorem DtA.drop {B : List Addr} {H : Hp} : ∀ (n : Nat) {vs : List V} {ds : List PyData}, DtA B H vs ds → DtA B H (vs.drop n) (ds.drop n)
  | 0, _, _, h => h
  | n + 1, [], _, h => by cases h; exact .nil
  | n + 1, v :: vs, _, h => by
    cases h with
    | cons h1 h2 => exact DtA.drop n h2
theorem DtA.take {B : List Addr} {H : Hp} : ∀ (n : Nat) {vs : List V} {ds : List PyData}, DtA B H vs ds → DtA B H (vs.take n) (ds.take n)
  | 0, _, _, h => .nil
  | n + 1, [], _, h => by cases h; exact .nil
  | n + 1, v :: vs, _, h => by
    cases h with
    | cons h1 h2 => exact .cons h1 (DtA.take n h2)
theorem DtA.cut {B : List Addr} {H : Hp} {vs : List V} {ds : List PyData} (h : DtA B H vs ds) (lo hi : Option Int) : DtA B H (cutV vs lo hi) (cutL ds lo hi) := by
  unfold cutV cutL
  rw [h.len]
  exact DtA.take _ (DtA.drop _ h)
theorem slice_dt {K : PySem.W.Frag} {B : List Addr} {H : Hp} {x : V} {ds : List PyData} {lo hi : Option Int} {Q : VK} (hx : Dt B H x (.tuple ds)) (hB : Bk B H) (q : ∀ v H', Same H H' → Dt B H' v (.tuple (cutL ds lo hi)) → Q v H') : rSlA K x lo hi H Q := by
  obtain ⟨a, vs, rfl, na, ha, hA⟩ := hx.tupI
  refine ⟨a, vs, rfl, SqT.of ha, fun h => q _ H (Same.refl _) ?_, fun _ p hp => q _ _ (sm_new hp) (.tup (hB.ne hp) upd_same ((hA.cut lo hi).s (sm_new hp)))⟩
  have e : cutL ds lo hi = ds := by
    unfold cutL
    rw [← hA.len, h.1, h.2, List.drop_zero, Nat.sub_zero, hA.len, List.take_length]
  rw [e]
  exact hx
theorem cat_dt {K : PySem.W.Frag} {B : List Addr} {H : Hp} {x y : V} {xs ys : List PyData} {Q : VK} (hx : Dt B H x (.tuple xs)) (hy : Dt B H y (.tuple ys)) (hB : Bk B H) (l : xs.length + ys.length ≤ 100000) (q : ∀ v H', Same H H' → Dt B H' v (.tuple (xs ++ ys)) → Q v H') : rCatA K x y H Q := by
  obtain ⟨a, vs, rfl, na, ha, hA⟩ := hx.tupI
  obtain ⟨b, ws, rfl, nb, hb, hC⟩ := hy.tupI
  have l1 := hA.len
  have l2 := hC.len
  refine ⟨a, b, vs, ws, rfl, rfl, SqT.of ha, SqT.of hb, Nat.le_of_lt (sz (by omega)), fun e => ?_, fun _ e => ?_, fun _ _ p hp => q _ _ (sm_new hp) (.tup (hB.ne hp) upd_same ((hA.app hC).s (sm_new hp)))⟩
  · subst e
    have : xs = [] := List.eq_nil_of_length_eq_zero (by rw [← l1]; rfl)
    subst this
    exact q _ H (Same.refl _) hy
  · subst e
    have : ys = [] := List.eq_nil_of_length_eq_zero (by rw [← l2]; rfl)
    subst this
    exact q _ H (Same.refl _) (by rw [List.append_nil]; exact hx)
theorem sh_cut {ds : List PyData} {k : Nat} {lo hi : Option Int} (h : Sh (.tuple ds) k) : Sh (.tuple (cutL ds lo hi)) k := by
  obtain ⟨j, rfl, h1, h2⟩ := h.tupI
  exact sh_tup (Nat.le_trans (cutL_len _ _ _) h2) fun d hd => h1 d (cutL_sub hd)
theorem sh_cat {xs ys : List PyData} {k : Nat} (h1 : Sh (.tuple xs) k) (h2 : Sh (.tuple ys) k) (l : xs.length + ys.length ≤ 100000) : Sh (.tuple (xs ++ ys)) k := by
  obtain ⟨j, rfl, a1, a2⟩ := h1.tupI
  obtain ⟨j', e, b1, b2⟩ := h2.tupI
  have : j = j' := by omega
  subst this
  exact sh_tup (by simpa using l) fun d hd => by
    rcases List.mem_append.mp hd with h | h
    · exact a1 d h
    · exact b1 d h
/-! ### a comprehension in another one -/
def FrAll (sc : Scope) : List Str → Prop
  | [] => True
  | x :: xs => (sc.names.lookup x = some .cell ∨ sc.names.lookup x = some .free) ∧ FrAll sc xs
theorem FrAll.mem {sc : Scope} : ∀ {xs : List Str}, FrAll sc xs → ∀ x ∈ xs, sc.names.lookup x = some .cell ∨ sc.names.lookup x = some .free
  | [], _, _, h => nomatch h
  | y :: ys, h, x, hx => by
    rcases List.mem_cons.mp hx with e | e
    · rw [e]; exact h.1
    · exact FrAll.mem h.2 x e
def frC (fr : List Str) (scope : Scope) : Bool := scope.names.all fun y => match y.2 with
  | .free => decide (y.1 ∈ fr)
  | _ => true
theorem blkOk_in {N : List Str} {sc scope : Scope} {own : List (Str × Nat)} (fr : List Str) (h : blkC N { kind := .function, names := fr.map fun x => (x, .free), isGenerator := false, isCoroutine := false } scope own = true) (h2 : frC fr scope = true) (hf : FrAll sc fr) : BlkOk N sc scope own := by
  have b := blkOk_by h
  refine ⟨b.kind, b.uniq, b.ix, fun y hy e => ?_, b.own⟩
  have := List.all_eq_true.mp h2 y hy
  rw [e] at this
  exact hf.mem _ (of_decide_eq_true this)
end Z

set_option Elab.async false
set_option linter.all false
set_option maxRecDepth 100000
set_option maxHeartbeats 400000
namespace Z
open PySem PySem.Spec PyProof.Rows L2
/-! ### lists of lists -/
def eN (ns : List (List Int)) : PyData := .list (ns.map eI)
def eG (ps : List (List (List Int))) : PyData := .list (ps.map eP)
theorem sh_eN {ns : List (List Int)} (l : ns.length ≤ 100000) (h : ∀ c ∈ ns, c.length ≤ 100000) : Sh (eN ns) 2 := sh_lst (by simpa using l) fun d hd => by
  obtain ⟨n, m, rfl⟩ := List.mem_map.mp hd
  exact sh_eI (h n m)
theorem sh_eG {ps : List (List (List Int))} (l : ps.length ≤ 100000) (h : ∀ p ∈ ps, p.length ≤ 100000 ∧ ∀ c ∈ p, c.length ≤ 100000) : Sh (eG ps) 3 := sh_lst (by simpa using l) fun d hd => by
  obtain ⟨n, m, rfl⟩ := List.mem_map.mp hd
  exact sh_eP (h n m).1 (h n m).2
theorem DtA.mk {B : List Addr} {H : Hp} : ∀ {vs : List V} {ds : List PyData}, vs.length = ds.length → (∀ (i : Nat) v d, vs[i]? = some v → ds[i]? = some d → Dt B H v d) → DtA B H vs ds
  | [], [], _, _ => .nil
  | [], _ :: _, h, _ => nomatch h
  | _ :: _, [], h, _ => nomatch h
  | v :: vs, d :: ds, h, f => .cons (f 0 v d rfl rfl) (DtA.mk (by simpa using h) fun i v d h1 h2 => f (i + 1) v d h1 h2)
theorem DtA.two {B : List Addr} {H : Hp} {vs : List V} {ds : List PyData} {i : Nat} {v : V} {d : PyData} (h : DtA B H vs ds) (h1 : vs[i]? = some v) (h2 : ds[i]? = some d) : Dt B H v d := by
  obtain ⟨d', e, h3⟩ := h.getV h1
  rw [h2] at e
  cases e
  exact h3
theorem at2i (x y : Int) (b : Bool) : ∃ z : Int, atI [V.int x, V.int y] (if b = true then 1 else 0) = some (.int z) ∧ (z = x ∨ z = y) := by
  cases b
  · exact ⟨x, rfl, .inl rfl⟩
  · exact ⟨y, rfl, .inr rfl⟩
theorem ixN_last {n : Nat} (h : 0 < n) : ixN n (-1) = some (n - 1) := by
  unfold ixN
  rw [if_neg (by omega), if_pos (by omega)]
  congr 1
  omega
theorem DtA.set {B : List Addr} {H : Hp} {v : V} {d : PyData} : ∀ {vs : List V} {ds : List PyData} (j : Nat), DtA B H vs ds → Dt B H v d → DtA B H (vs.set j v) (ds.set j d)
  | [], _, _, h, _ => by cases h; exact .nil
  | _ :: _, _, 0, h, hv => by cases h with | cons h1 h2 => exact .cons hv h2
  | _ :: _, _, j + 1, h, hv => by cases h with | cons h1 h2 => exact .cons h1 (DtA.set j h2 hv)
theorem Dt.lst2 {B : List Addr} {H : Hp} {v : V} {ds : List PyData} (h : Dt B H v (.list ds)) : ∃ a vs, v = .ref a ∧ a ∉ B ∧ H a = some (.lst vs) ∧ DtA B H vs ds := by
  cases h with
  | lst n hs ha => exact ⟨_, _, rfl, n, hs, ha⟩
theorem cut_fromV {α : Type} (xs : List α) {n : Int} (h0 : 0 ≤ n) : cutL xs (some n) none = xs.drop n.toNat := by
  unfold cutL
  have e : HT.sIx xs.length 0 (some n) = min n.toNat xs.length := by
    show (if n < 0 then (n + (xs.length : Int)).toNat else min n.toNat xs.length) = _
    rw [if_neg (by omega)]
  have e2 : HT.sIx xs.length xs.length none = xs.length := rfl
  rw [e, e2]
  rcases Nat.le_total n.toNat xs.length with h | h
  · rw [Nat.min_eq_left h, List.take_of_length_le (by rw [List.length_drop]; omega)]
  · rw [Nat.min_eq_right h, List.drop_of_length_le (Nat.le_refl _), List.drop_of_length_le h, List.take_nil]
theorem cut_toV {α : Type} (xs : List α) {n : Int} (h0 : 0 ≤ n) : cutL xs none (some n) = xs.take n.toNat := by
  unfold cutL
  have e : HT.sIx xs.length xs.length (some n) = min n.toNat xs.length := by
    show (if n < 0 then (n + (xs.length : Int)).toNat else min n.toNat xs.length) = _
    rw [if_neg (by omega)]
  have e2 : HT.sIx xs.length 0 none = 0 := rfl
  rw [e, e2, List.drop_zero, Nat.sub_zero]
  rcases Nat.le_total n.toNat xs.length with h | h
  · rw [Nat.min_eq_left h]
  · rw [Nat.min_eq_right h, List.take_length, List.take_of_length_le h]
theorem pg_lstK {X : Cx} (K : PySem.W.Frag) {pos : Pos} {es : List Expr} {kk : Nat} {t : TGs} {n : Nat} (hc : X.calm = true) (h : PGs X es t) (hn : (assignEach es X.env).length = n := by rfl) (hst : (assignEach es X.env).findIdx? (·.1) = none := by rfl) (h2 : X.K = K := by rfl) : PG X (.Tuple es kk pos) (gLst K n t) :=
  h2 ▸ pg_lst hc h hn hst
theorem pi_zipAK {X : Cx} (K : PySem.W.Frag) {e e2 : Expr} {ta : TA} {p pos tpos : Pos} {elts : List Expr} {kk : Nat} (hg : Gl X "zip") (hm : X.mg "zip" = none) (ha : PA X [e, e2] ta)
    (hs : starEach [e, e2] X.env = (false, eval e X.env) :: starEach [e2] X.env := by rfl) (hpl : (backTo pos (starEach [e2] X.env)).any (·.1) = false := by rfl) (hK : X.K = K := by rfl) :
    PI X (.Tuple elts kk tpos) (.Call (.Name "zip" p) [e, e2] [] pos) (RZ.iZipA K ta) := by
  subst hK
  exact RZ.pi_zipA hg hm ha hs hpl
theorem yesT {σ : L2.St} {H : Hp} {A N : Hp → Prop} (h : A H) : tYes σ H (fun b H3 => if b = true then A H3 else N H3) := by
  show if true = true then A H else N H
  rw [if_pos rfl]
  exact h
/-- any walk -/
theorem walk_W {J : It} {n : Nat} {G : Hp → Prop} {Y : Nat → Hp → V → Hp → Prop} (w : Walk J n G Y) {R : (Hp → Prop) → V → Hp → Prop} {Qd : Hp → Prop} {H0 : Hp} (Pv : Nat → Hp → Prop) (h0 : Pv 0 H0) (hG : ∀ i H, i ≤ n → Pv i H → G H) (hs : ∀ i x H H', i < n → Pv i H → Y i H x H' → R (Pv (i + 1)) x H') (hd : ∀ H, Pv n H → Qd H) :
    ∃ W : Nat → Nat → Hp → Prop, (∃ m, W 0 m H0) ∧ ∀ i m H, W i m H → (J.stop i H ∧ Qd H) ∨ (J.go i H ∧ ∃ Nx : Hp → Prop, (∀ H', Nx H' → ∃ m', m' < m ∧ W (i + 1) m' H') ∧ ∀ x H', J.yld i H x H' → R Nx x H') := by
  obtain ⟨w1, w2, w3⟩ := w
  refine ⟨fun i m H => i ≤ n ∧ m = n - i ∧ Pv i H, ⟨n, Nat.zero_le _, rfl, h0⟩, fun i m H h => ?_⟩
  obtain ⟨hi, hm, hp⟩ := h
  have g := hG i H hi hp
  by_cases e : i = n
  · subst e
    exact .inl ⟨w2 _ g, hd _ hp⟩
  · refine .inr ⟨w1 i H (by omega) g, Pv (i + 1), fun H' h' => ⟨n - (i + 1), by omega, by omega, rfl, h'⟩, fun x H' y => ?_⟩
    exact hs i x H H' (by omega) hp (w3 i H x H' (by omega) g y)
theorem colsOf {Pc : List Int → Prop} : ∀ {ds : List PyData}, (∀ d ∈ ds, ∃ c, d = eC c ∧ Pc c) → ∃ cs : List (List Int), ds = cs.map eC ∧ ∀ c ∈ cs, Pc c
  | [], _ => ⟨[], rfl, fun _ h => nomatch h⟩
  | d :: ds, h => by
    obtain ⟨m, e, hm⟩ := colsOf (ds := ds) fun x hx => h x (List.mem_cons_of_mem _ hx)
    obtain ⟨z, ez, hz⟩ := h d (List.mem_cons_self ..)
    refine ⟨z :: m, by rw [e, ez]; rfl, fun y hy => ?_⟩
    rcases List.mem_cons.mp hy with q | q
    · rw [q]; exact hz
    · exact hm y q
/-- a list whose items are new lists, each another one; what is in these was there ahead -/
structure Rws (B : List Addr) (H H' : Hp) (D : Addr) (rs : List Addr) (dss : List (List PyData)) : Prop where
  len : rs.length = dss.length
  nd : rs.Nodup
  nD : D ∉ rs
  fr : ∀ r ∈ rs, H r = none
  row : ∀ (i : Nat) r ds, rs[i]? = some r → dss[i]? = some ds → ∃ ws, H' r = some (.lst ws) ∧ DtA B H ws ds
section
variable {B C : List Addr} {H H' H2 : Hp} {D p : Addr} {rs : List Addr} {dss : List (List PyData)}
theorem Rws.s (h : Rws B H H' D rs dss) (s : Same H' H2) : Rws B H H2 D rs dss := ⟨h.len, h.nd, h.nD, h.fr, fun i r ds h1 h2 => by
  obtain ⟨ws, e, a⟩ := h.row i r ds h1 h2
  exact ⟨ws, s _ _ e, a⟩⟩
theorem Rws.up {o : HO} (h : Rws B H H' D rs dss) (n : p ∉ rs) : Rws B H (upd H' p o) D rs dss := ⟨h.len, h.nd, h.nD, h.fr, fun i r ds h1 h2 => by
  obtain ⟨ws, e, a⟩ := h.row i r ds h1 h2
  refine ⟨ws, ?_, a⟩
  rw [upd_ne (fun z => n (by rw [← z]; exact List.mem_of_getElem? h1))]
  exact e⟩
theorem Rws.go (h : Rws B H H' D rs dss) (g : Go C H' H2) (n : ∀ r ∈ rs, r ∉ C) : Rws B H H2 D rs dss := ⟨h.len, h.nd, h.nD, h.fr, fun i r ds h1 h2 => by
  obtain ⟨ws, e, a⟩ := h.row i r ds h1 h2
  exact ⟨ws, g.k _ _ (n r (List.mem_of_getElem? h1)) e, a⟩⟩
theorem Rws.tail {r : Addr} {ds : List PyData} (h : Rws B H H' D (r :: rs) (ds :: dss)) : Rws B H H' D rs dss := ⟨by simpa using h.len, (List.nodup_cons.mp h.nd).2, fun z => h.nD (List.mem_cons_of_mem _ z), fun x hx => h.fr x (List.mem_cons_of_mem _ hx), fun i x ds h1 h2 => h.row (i + 1) x ds h1 h2⟩
theorem Rws.dt (h : Rws B H H' D rs dss) (b : Bk B H) (s : Go B H H') : DtA B H' (rs.map V.ref) (dss.map PyData.list) := by
  refine DtA.mk (by rw [List.length_map, List.length_map]; exact h.len) fun i v d h1 h2 => ?_
  rw [List.getElem?_map] at h1 h2
  cases e1 : rs[i]? with
  | none => rw [e1] at h1; cases h1
  | some r =>
    cases e2 : dss[i]? with
    | none => rw [e2] at h2; cases h2
    | some ds =>
      rw [e1] at h1
      rw [e2] at h2
      cases h1
      cases h2
      obtain ⟨ws, e, a⟩ := h.row i r ds e1 e2
      exact .lst (b.ne (h.fr r (List.mem_of_getElem? e1))) e (a.g s)
end
/-- a comprehension of known values -/
theorem lc_vals {J : It} {n : Nat} {G : Hp → Prop} {Y : Nat → Hp → V → Hp → Prop} (w : Walk J n G Y) {g : TG} {tt : TT} {te : TE} {vs : List Nat} {σ : L2.St} {H1 : Hp} {D : Addr} {Qd : Hp → Prop}
    (hD : H1 D = none) (hG : ∀ H', Same H1 H' → G H') (hn : n ≤ 100000) (f : Nat → V)
    (hs : ∀ (i : Nat) (x : V) (H' H'' : Hp) (Ny : V → Hp → Prop) (Nn : Hp → Prop), i < n → Same H1 H' → Y i H' x H'' → (∀ H4, Same H' H4 → Ny (f i) H4) →
      g x (wipe σ vs) H'' fun σ2 H2 => wipe σ2 vs = wipe σ vs ∧ tt σ2 H2 fun b H3 => if b = true then te σ2 H3 Ny else Nn H3)
    (hd : ∀ (H' : Hp), Same H1 H' → H' D = some (.lst ((List.range n).map f)) → Qd H') :
    ∃ W : Nat → Nat → Hp → Prop, (∃ m, W 0 m (upd H1 D (.lst []))) ∧ ∀ i m H, W i m H →
      (J.stop i H ∧ Qd H) ∨ (J.go i H ∧ ∃ Nx : Hp → Prop, (∀ H', Nx H' → ∃ m', m' < m ∧ W (i + 1) m' H') ∧ ∀ x H', J.yld i H x H' → g x (wipe σ vs) H' fun σ2 H2 => wipe σ2 vs = wipe σ vs ∧ tt σ2 H2 fun b H3 =>
        if b = true then te σ2 H3 fun y H4 => ∃ acc, H4 D = some (.lst acc) ∧ acc.length < sizeLine ∧ Nx (upd H4 D (.lst (acc ++ [y]))) else Nx H3) := by
  refine lc_it w (fun i H' => Same H1 H' ∧ H' D = some (.lst ((List.range i).map f))) ⟨sm_new hD, upd_same⟩ (fun i H' _ h => hG H' h.1) (fun i x H' H'' hi h y => ?_) (fun H' h => hd H' h.1 h.2)
  obtain ⟨s1, eD⟩ := h
  refine hs i x H' H'' _ _ hi s1 y (fun H4 s4 => ?_)
  refine ⟨_, s4 _ _ eD, sz (by rw [List.length_map, List.length_range]; omega), sm_mut (s1.trans s4) hD, ?_⟩
  rw [upd_same, List.range_succ, List.map_append]
  rfl
/-- a comprehension of new lists -/
theorem lc_rows {J : It} {n : Nat} {G : Hp → Prop} {Y : Nat → Hp → V → Hp → Prop} (w : Walk J n G Y) {g : TG} {tt : TT} {te : TE} {vs : List Nat} {σ : L2.St} {H1 : Hp} {D : Addr} {Qd : Hp → Prop} (B : List Addr)
    (hD : H1 D = none) (hG : ∀ H', Same H1 H' → G H') (hn : n ≤ 100000) (e : Nat → List PyData)
    (hs : ∀ (i : Nat) (x : V) (H' H'' : Hp) (Ny : V → Hp → Prop) (Nn : Hp → Prop), i < n → Same H1 H' → Y i H' x H'' → (∀ r ws H4, Same H' H4 → H' r = none → H4 r = some (.lst ws) → DtA B H1 ws (e i) → Ny (.ref r) H4) →
      g x (wipe σ vs) H'' fun σ2 H2 => wipe σ2 vs = wipe σ vs ∧ tt σ2 H2 fun b H3 => if b = true then te σ2 H3 Ny else Nn H3)
    (hd : ∀ (H' : Hp) (rs : List Addr), Same H1 H' → H' D = some (.lst (rs.map V.ref)) → Rws B H1 H' D rs ((List.range n).map e) → Qd H') :
    ∃ W : Nat → Nat → Hp → Prop, (∃ m, W 0 m (upd H1 D (.lst []))) ∧ ∀ i m H, W i m H →
      (J.stop i H ∧ Qd H) ∨ (J.go i H ∧ ∃ Nx : Hp → Prop, (∀ H', Nx H' → ∃ m', m' < m ∧ W (i + 1) m' H') ∧ ∀ x H', J.yld i H x H' → g x (wipe σ vs) H' fun σ2 H2 => wipe σ2 vs = wipe σ vs ∧ tt σ2 H2 fun b H3 =>
        if b = true then te σ2 H3 fun y H4 => ∃ acc, H4 D = some (.lst acc) ∧ acc.length < sizeLine ∧ Nx (upd H4 D (.lst (acc ++ [y]))) else Nx H3) := by
  refine lc_it w (fun i H' => Same H1 H' ∧ ∃ rs, H' D = some (.lst (rs.map V.ref)) ∧ Rws B H1 H' D rs ((List.range i).map e)) ⟨sm_new hD, [], upd_same, ⟨rfl, List.nodup_nil, (fun h => nomatch h), (fun _ h => nomatch h), (fun i r ds h => by simp at h)⟩⟩ (fun i H' _ h => hG H' h.1) (fun i x H' H'' hi h y => ?_) (fun H' h => ?_)
  · obtain ⟨s1, rs, eD, R⟩ := h
    have hl : rs.length = i := by rw [R.len, List.length_map, List.length_range]
    refine hs i x H' H'' _ _ hi s1 y (fun r ws H4 s4 hr er ha => ?_)
    have nr : r ≠ D := fun z => by rw [z, eD] at hr; cases hr
    have nrs : r ∉ rs := fun z => by
      obtain ⟨j, hj, ej⟩ := List.getElem_of_mem z
      obtain ⟨ws', e', _⟩ := R.row j r (e j) (by rw [List.getElem?_eq_getElem hj, ej]) (by rw [List.getElem?_map, List.getElem?_range (by omega)]; rfl)
      rw [e'] at hr
      cases hr
    refine ⟨_, s4 _ _ eD, sz (by rw [List.length_map]; omega), sm_mut (s1.trans s4) hD, rs ++ [r], by rw [upd_same, List.map_append]; rfl, ?_⟩
    have R4 := (R.s s4).up (o := .lst (rs.map V.ref ++ [.ref r])) (R.nD)
    refine ⟨by simp [hl], ?_, ?_, fun z hz => ?_, fun j z ds h1 h2 => ?_⟩
    · rw [List.nodup_append]
      refine ⟨R.nd, by simp, fun a ha b hb => ?_⟩
      rw [List.mem_singleton.mp hb]
      exact fun q => nrs (by rw [← q]; exact ha)
    · intro q
      rcases List.mem_append.mp q with q | q
      · exact R.nD q
      · exact nr (List.mem_singleton.mp q).symm
    · rcases List.mem_append.mp hz with q | q
      · exact R.fr z q
      · rw [List.mem_singleton.mp q]
        exact s1.free hr
    · rw [List.getElem?_append] at h1
      rw [List.range_succ, List.map_append, List.getElem?_append, List.length_map, List.length_range] at h2
      by_cases c : j < rs.length
      · rw [if_pos c] at h1
        rw [if_pos (by omega)] at h2
        exact R4.row j z ds h1 h2
      · rw [if_neg c] at h1
        rw [if_neg (by omega)] at h2
        have j0 : j - rs.length = 0 := by
          cases q : j - rs.length with
          | zero => rfl
          | succ m => rw [q] at h1; simp at h1
        rw [j0] at h1
        rw [show j - i = 0 by omega] at h2
        cases h1
        cases h2
        refine ⟨ws, ?_, ha⟩
        rw [upd_ne nr]
        exact er
  · obtain ⟨s1, rs, eD, R⟩ := h
    exact hd H' rs s1 eD R
end Z

set_option Elab.async false
set_option linter.all false
set_option maxRecDepth 100000
set_option maxHeartbeats 400000
namespace Z
open PySem PySem.Spec PyProof.Rows L2
/-! ### a def that is called where nothing is being shown -/
structure FnG (P : Program) (w : World) (K : PySem.W.Frag) (mg : Str → Option Value) (base : Heap) (k : Nat) (f : Addr) (fd : FuncData) (ps : List Str) (sp : Sp) : Prop where
  run : ∀ (A : Around) (outer : List Env) (s : Shared) (H : Hp) (args : Args) (us : List Value) (vs : List V) (Q : VK) (E : XK), A.guards = some [] → Room k A → Env0 P w K mg base A outer s H → BindsTo s fd args (ps.zip us) → Vals vs us → sp vs H Q E → codeAny (model P w) A (Code.call (Value.ref f) args) (CR CX0 outer P w H s Q E) s
theorem fn_g {P : Program} {w : World} {K : PySem.W.Frag} {mg : Str → Option Value} {base : Heap} {x qual : Str} {st : Stmt} {f : Addr} {fd : FuncData} {N ps : List Str} {k : Nat} {sp : Sp} (F : Fun K x qual st f fd) (S : FnScope N ps (defScope st))
    (len : ∀ (vs : List V) (H : Hp) (Q : VK) (E : XK), sp vs H Q E → vs.length = ps.length)
    (hbody : ∀ (cdv : Value) (A : Around) (outer : List Env) (s : Shared) (H : Hp) (vs : List V) (Q : VK) (E : XK), A.guards = some [] → Room k (A.deeper (envOfC qual (defScope st) s.heap.objs.size f cdv)) → sp vs H Q E →
      ∃ t, PSs (cxOf CX0 P w K mg base N qual (defScope st) f cdv A outer s H E).nox (defBody st) t ∧ t { nx := fun _ H' => Q V.non H', rt := Q } (L2.start N vs) H) : FnG P w K mg base (k + 1) f fd ps sp := by
  obtain ⟨oc, od, kV, doc, pm, an, cdv, ct, osl, rfl, lk, hcd⟩ := F.ex
  refine ⟨fun A outer s H args us vs Q E hA hr e0 hb r hsp => ?_⟩
  have hl := len vs H Q E hsp
  have KX := PySem.W.Frag.In.keeps e0.mod.kin fun b o e => (e0.bs b o e).left
  have lim := Heap.NoLimit.keeps e0.mod.nolimit fun b o e => (e0.bs b o e).left
  refine codeAny_call_function (Room.depth hr) (KX f _ lk) rfl S.co S.gen rfl (PySem.W.codeRec_of KX hcd) (hb (model P w) A.in1 (fun e s' => CR CX0 outer P w H s Q E (Except.error e) s') _ (wpAny_newFunctionEnv_cells S.kind ?hk fun env he s1 x => ?_))
  case hk =>
    rintro ⟨n, v⟩ hy
    rcases S.par n (List.of_mem_zip hy).left with q | q
    · exact Or.inl q
    · exact Or.inr ⟨q, PySem.W.cellsFrom_some (defScope st).names (s.heap.objs.size + 1) [] (Or.inl q)⟩
  subst he
  refine ⟨Heap.NoLimit.keeps lim x.toInCall.keep, codeAny_func ?_⟩
  obtain ⟨t, ht, hq⟩ := hbody cdv A outer s H vs Q E hA (Room.deeper hr (envOfC qual (defScope st) s.heap.objs.size f cdv)) hsp
  have I := inv_start (CX := CX0) (E := E) S hr.hd e0 hl r x
  refine wpAny_mono ((PSs.nox ht).run [] s1 (L2.start N vs) H { nx := fun _ H' => Q V.non H', rt := Q } I hq) (fun fl s' hs => ?_) (fun e s' hs => hs)
  cases fl with
  | next =>
    obtain ⟨σ', H', J, q⟩ := hs
    exact ⟨V.non, H', J.os, J.bare, J.base, J.hok, rfl, q⟩
  | brk =>
    obtain ⟨_, _, _, q⟩ := hs
    exact q.elim
  | cont =>
    obtain ⟨_, _, _, q⟩ := hs
    exact q.elim
  | ret u =>
    obtain ⟨v, σ', H', J, rv, q⟩ := hs
    exact ⟨v, H', J.os, J.bare, J.base, J.hok, rv, q⟩
theorem law_call2 {P : Program} {w : World} {K : PySem.W.Frag} {mg mb : Str → Option Value} {k : Nat} {fa a : Addr} {fd : FuncData} {x : Str} {sp : Sp} {s₁ : Shared} {vs : List Value} {ns : List Int} (KX : K.In s₁.heap) (hns : s₁.heap.Ns mainGlobals mg) (hb : s₁.heap.Ns builtinsNs mb)
    (hbb : ∀ x : Str, x ≠ Str.ofString "__name__" → mb x = bootBuiltins x) (hlim : s₁.heap.NoLimit) (hg : s₁.gens = #[]) (ha : s₁.heap.get? a = some { cls := Value.type "list", data := Data.seq vs.toArray }) (hi : IntsAre vs ns) (hl : ns.length ≤ sizeLine) (hr : Room k callerA)
    (F : ∀ base : Heap, K.In base → base.Ns mainGlobals mg → FnG P w K mg base k fa fd [x] sp) (hbind : ∀ (s : Shared) (u : Value), BindsTo s fd { pos := [u] } [(x, u)])
    (hsp : ∀ H : Hp, Only H → SqL K H a (ns.map V.int) → sp [V.ref a] H (fun v _ => v = V.bl true) fun _ _ _ => False) :
    codeAny (model P w) callerA (Code.call (Value.ref fa) { pos := [Value.ref a] }) (fun r s' => r = Except.ok (Flow.ret (Value.bool true)) ∧ OldK s₁.heap s'.heap ∧ s'.os = s₁.os ∧ AllBare s'.gens) s₁ := by
  have rv := vals_ints hi
  have lenV := hi.length
  have core : ∀ H : Hp, Only H → SqL K H a (ns.map V.int) → HOk P w H s₁.heap → (∀ b, H b ≠ none → b = a) → (H a ≠ none → List.lookup a K = none) →
      codeAny (model P w) callerA (Code.call (Value.ref fa) { pos := [Value.ref a] }) (fun r s' => r = Except.ok (Flow.ret (Value.bool true)) ∧ OldK s₁.heap s'.heap ∧ s'.os = s₁.os ∧ AllBare s'.gens) s₁ := by
    intro H hO hS hok hA hK
    have noA : ∀ {b : Addr} {o : Obj} {es ep}, s₁.heap.get? b = some o → o.data = Data.dict es ep → H b = none := by
      intro b o es ep e d
      cases q : H b with
      | none => rfl
      | some u =>
        have e' := hA b (by rw [q]; exact fun z => nomatch z)
        subst e'
        rw [ha] at e
        cases e
        cases d
    have nsK : ∀ {b : Addr} {m : Str → Option Value}, s₁.heap.Ns b m → (hidT s₁.heap H).Ns b m := by
      rintro b m ⟨o, es, ep, e, d, r⟩
      exact ⟨o, es, ep, hidT_get e (noA e d), d, r⟩
    have hKb : K.In (hidT s₁.heap H) := by
      intro b o e
      refine hidT_get (KX b o e) ?_
      cases q : H b with
      | none => rfl
      | some u =>
        have e' := hA b (by rw [q]; exact fun z => nomatch z)
        subst e'
        rw [hK (by rw [q]; exact fun z => nomatch z)] at e
        cases e
    have hM : L2.Mod K mg (hidT s₁.heap H) := ⟨hKb, nsK hns, ⟨mb, nsK hb, hbb⟩, by
      obtain ⟨mc, h1, h2⟩ := hlim
      exact ⟨mc, nsK h1, h2⟩⟩
    have e0 : Env0 P w K mg (hidT s₁.heap H) callerA [] s₁ H := ⟨rfl, hM, fun b o e => of_hidT e, Nat.le_of_eq (hidT_size s₁.heap H), trivial, fun b hb => absurd (show b ∈ ([] : List Addr) from hb) (by simp), hok, AllBare.of_eq hg⟩
    refine codeAny_mono ((F _ hKb (nsK hns)).run callerA [] s₁ H { pos := [Value.ref a] } [Value.ref a] [V.ref a] (fun v _ => v = V.bl true) (fun _ _ _ => False) rfl hr e0 (hbind s₁ (Value.ref a)) (Paired.cons rfl Paired.nil) (hsp H hO hS)) fun r s' h => ?_
    cases r with
    | error e => exact False.elim h
    | ok fl =>
      cases fl with
      | next => exact False.elim h
      | brk => exact False.elim h
      | cont => exact False.elim h
      | ret u =>
        obtain ⟨v, H', os, bare, un, hok', r', q⟩ := h
        subst q
        have eu : u = Value.bool true := r'
        subst eu
        refine ⟨rfl, OldK.of_keep fun b o e => ?_, os, bare⟩
        cases q : H b with
        | none => exact un.keep b o e q (fun z => absurd (show b ∈ ([] : List Addr) from z) (by simp)) (by simp)
        | some u =>
          rcases hO b with z | ⟨ob, xs, z⟩
          · rw [q] at z
            cases z
          · have z2 := un.frzs b ob (HO.lst xs) z
            obtain ⟨e1, _⟩ := hok b (HO.frz ob (HO.lst xs)) z
            obtain ⟨e2, _⟩ := hok' b (HO.frz ob (HO.lst xs)) z2
            rw [e] at e1
            cases e1
            exact e2
  cases hk : List.lookup a K with
  | none =>
    refine core (fun b => if b = a then some (HO.frz { cls := Value.type "list", data := Data.seq vs.toArray } (HO.lst (ns.map V.int))) else none) (fun b => ?_) (Or.inl (Or.inr ⟨_, if_pos rfl⟩)) (fun b u z => ?_) (fun b z => ?_) (fun _ => hk)
    · by_cases hb : b = a
      · exact .inr ⟨_, _, if_pos hb⟩
      · exact .inl (if_neg hb)
    · by_cases hb : b = a
      · have z' := (if_pos hb).symm.trans z
        cases z'
        subst hb
        exact ⟨ha, by rw [List.length_map]; exact hl, vs, 0, rv, ha⟩
      · have z' := (if_neg hb).symm.trans z
        cases z'
    · by_cases hb : b = a
      · exact hb
      · exact absurd (if_neg hb) z
  | some o =>
    have e := KX a o hk
    rw [ha] at e
    cases e
    refine core (fun _ => none) (fun _ => .inl rfl) (Or.inr ⟨_, vs.toArray, 0, hk, rfl, rfl, rfl, by rw [List.size_toArray, lenV]; exact hl, rv⟩) (fun b u z => ?_) (fun b z => absurd rfl z) (fun z => absurd rfl z)
    cases z
theorem walk_of2 {l : PySem.W.OpenLaw} {n k : Nat} {q : Program} {loose : List Str} {XP : (Str → Option Value) → Heap → Prop} {YP : World → Heap → Prop} {d : DefRec} {K : Params → PySem.W.Frag} {sp : World → Sp} {x : Str} (hn : l.most = some n) (hn2 : n ≤ sizeLine) (hdf : d.params.defaults = []) (hr : Room k callerA)
    (hY : ∀ (w : World) (h : Heap), YP w h → (K w.params).In h)
    (F : ∀ (w : World) (mg : Str → Option Value) (fa : Addr) (h : Heap), (K w.params).In h → h.Ns mainGlobals mg → mg d.name = some (Value.ref fa) → ∃ fd, (∀ (s : Shared) (u : Value), BindsTo s fd { pos := [u] } [(x, u)]) ∧ ∀ base : Heap, (K w.params).In base → base.Ns mainGlobals mg → FnG l.prog w (K w.params) mg base k fa fd [x] (sp w))
    (hsp : ∀ (w : World) (H : Hp) (a : Addr) (ns : List Int), ns.length ≤ n → Only H → SqL (K w.params) H a (ns.map V.int) → sp w [V.ref a] H (fun v _ => v = V.bl true) fun _ _ _ => False) :
    PySem.W.WalkO q loose XP YP l.row.toRowW d [] fun f vs => call f vs :=
  Att.attach_call hn hdf fun w s₀ s₁ mg mb fa o pm cd doc a vs ns G Y ho hd hcd hmg hobj hints hlen hg => by
    have KX := hY w s₁.heap Y
    obtain ⟨fd, hb, hF⟩ := F w mg fa s₁.heap KX G.T.g hmg
    exact law_call2 KX G.T.g G.T.b G.T.builtins G.T.nolimit hg hobj hints (Nat.le_trans hlen hn2) hr hF hb (fun H hO hS => hsp w H a ns hlen hO hS)
/-! ### str of data -/
def rStrD (K : PySem.W.Frag) : List V → Hp → VK → Prop := fun xs H Q => ∃ (a : Addr) (d : PyData), xs = [.ref a] ∧ Dp K H (.ref a) d ∧ d.showable = true ∧ d.hasDict = false ∧ d.depth ≤ 40 ∧ d.shown.length ≤ sizeLine ∧ Q (.str d.shown) H
theorem cr_strD (K : PySem.W.Frag) {X : Cx} (hg : X.A.guards = some []) (hu : X.A.units + 64 < cLine) (hK : X.K = K := by rfl) : CallR X (.type "str") (rStrD K) := by
  subst hK
  intro pins s σ H xs us Q I r h
  obtain ⟨a, d, rfl, hd, h1, h2, h3, h4, q⟩ := h
  obtain ⟨u, rfl, ru⟩ := vals1 r
  have ru2 := ru
  obtain rfl : u = Value.ref a := ru
  obtain ⟨as, hr⟩ := Dp.reads I d _ _ hd ru2
  exact str_of_reads hr h1 (fun z => by rw [h2] at z; cases z) hg (by omega) (fun _ _ e => e) (fun h' u tk hk => ⟨.str d.shown, H, I.kept hk, ⟨u, rfl⟩, q⟩) h4
/-! ### how long a text is -/
structure Shw (d : PyData) (n : Nat) : Prop where
  a : d.showable = true
  b : d.hasDict = false
  c : d.shown.length ≤ n
theorem Shw.mono {d : PyData} {n m : Nat} (h : Shw d n) (l : n ≤ m) : Shw d m := ⟨h.a, h.b, Nat.le_trans h.c l⟩
theorem shw_all {n : Nat} : ∀ {ds : List PyData}, (∀ d ∈ ds, Shw d n) → PyData.showableAll ds = true ∧ PyData.hasDictAll ds = false ∧ ((PyData.shownAll ds).map (fun x => x.length)).sum ≤ n * ds.length ∧ (PyData.shownAll ds).length = ds.length
  | [], _ => ⟨by rw [PyData.showableAll], by rw [PyData.hasDictAll], by rw [PyData.shownAll]; simp, by rw [PyData.shownAll]; rfl⟩
  | d :: ds, h => by
    obtain ⟨h1, h2, h3, h4⟩ := shw_all (ds := ds) (n := n) fun x hx => h x (List.mem_cons_of_mem _ hx)
    have h0 := h d (List.mem_cons_self ..)
    refine ⟨?_, ?_, ?_, ?_⟩
    · rw [PyData.showableAll, h1, h0.a]; rfl
    · rw [PyData.hasDictAll, h2, h0.b]; rfl
    · rw [PyData.shownAll, List.map_cons, List.sum_cons, List.length_cons, Nat.mul_succ]
      have := h0.c
      omega
    · rw [PyData.shownAll, List.length_cons, List.length_cons, h4]
theorem shw_lst {ds : List PyData} {n : Nat} (h : ∀ d ∈ ds, Shw d n) : Shw (.list ds) (n * ds.length + 2 * ds.length + 3) := by
  obtain ⟨h1, h2, h3, h4⟩ := shw_all h
  refine ⟨by rw [PyData.showable]; exact h1, by rw [PyData.hasDict]; exact h2, ?_⟩
  rw [PyData.shown]
  have := listText_len_le (PyData.shownAll ds)
  rw [h4] at this
  omega
theorem shw_tup {ds : List PyData} {n : Nat} (h : ∀ d ∈ ds, Shw d n) : Shw (.tuple ds) (n * ds.length + 2 * ds.length + 3) := by
  obtain ⟨h1, h2, h3, h4⟩ := shw_all h
  refine ⟨by rw [PyData.showable]; exact h1, by rw [PyData.hasDict]; exact h2, ?_⟩
  rw [PyData.shown]
  have := tupleText_len_le (PyData.shownAll ds)
  rw [h4] at this
  omega
theorem shw_int {i : Int} (h : i.natAbs < 2 ^ 40) : Shw (.int i) 60 := by
  refine ⟨?_, by rw [PyData.hasDict], ?_⟩
  · rw [PyData.showable]
    refine decide_eq_true ?_
    rcases Nat.eq_zero_or_pos i.natAbs with z | z
    · rw [z]; decide
    · have := (Nat.log2_lt (by omega)).mpr h
      omega
  · rw [PyData.shown]
    have h2 := nat_repr_length_le (n := i.natAbs) (k := 40) (by decide) h
    rw [PySem.ofString_length]
    cases i with
    | ofNat m =>
      have e : toString (Int.ofNat m) = m.repr := rfl
      rw [e]
      have e : (Int.ofNat m).natAbs = m := rfl
      rw [e] at h2
      omega
    | negSucc m =>
      have e : toString (Int.negSucc m) = "-" ++ (m + 1).repr := rfl
      rw [e, String.length_append]
      have e : (Int.negSucc m).natAbs = m + 1 := rfl
      rw [e] at h2
      have : "-".length = 1 := rfl
      omega
theorem shw_eC {ns : List Int} (h : cIn (-1000000000) 1000000000 ns) (l : ns.length ≤ 10) : Shw (eC ns) 700 := by
  refine (shw_tup (n := 60) fun d hd => ?_).mono (by rw [List.length_map]; omega)
  obtain ⟨x, hx, rfl⟩ := List.mem_map.mp hd
  have := h x hx
  exact shw_int (by omega)
theorem shw_eI {ns : List Int} (h : cIn (-1000000000) 1000000000 ns) (l : ns.length ≤ 100) : Shw (eI ns) 7000 := by
  refine (shw_lst (n := 60) fun d hd => ?_).mono (by rw [List.length_map]; omega)
  obtain ⟨x, hx, rfl⟩ := List.mem_map.mp hd
  have := h x hx
  exact shw_int (by omega)
theorem shw_eP {cs : List (List Int)} (h : ∀ c ∈ cs, c.length ≤ 10 ∧ cIn (-1000000000) 1000000000 c) (l : cs.length ≤ 100) : Shw (eP cs) 71000 := by
  refine (shw_lst (n := 700) fun d hd => ?_).mono (by rw [List.length_map]; omega)
  obtain ⟨x, hx, rfl⟩ := List.mem_map.mp hd
  exact shw_eC (h x hx).2 (h x hx).1
theorem shw_eG {ps : List (List (List Int))} (h : ∀ p ∈ ps, p.length ≤ 100 ∧ ∀ c ∈ p, c.length ≤ 10 ∧ cIn (-1000000000) 1000000000 c) (l : ps.length ≤ 50) : Shw (eG ps) 4000000 := by
  refine (shw_lst (n := 71000) fun d hd => ?_).mono (by rw [List.length_map]; omega)
  obtain ⟨x, hx, rfl⟩ := List.mem_map.mp hd
  exact shw_eP (h x hx).2 (h x hx).1
end Z

set_option Elab.async false
set_option linter.all false
set_option maxRecDepth 100000
namespace Z
open PySem PySem.Spec PyProof.Rows L2
/-! ### great numbers -/
def CPowW (i j : Int) : Prop := 0 ≤ j ∧ j ≤ 1000 ∧ i.natAbs.log2 < 100000
theorem op_powW {X : Cx} : OpR X (binaryOp .Pow) (rI CPowW fun i j => .int (i ^ j.toNat)) := opI fun i j _ _ _ _ _ hc q => by
  refine pow_int hc.1 ?_ q
  have b : Builtin.Int.intBits i ≤ i.natAbs.log2 + 1 := by
    unfold Builtin.Int.intBits
    split <;> omega
  have h1 := hc.1
  have h2 := hc.2.1
  have h3 := hc.2.2
  have h4 : (Builtin.Int.intBits i : Int) ≤ 100000 := by omega
  have h5 : (Builtin.Int.intBits i : Int) * j ≤ 100000 * 1000 := Int.mul_le_mul h4 h2 h1 (by decide)
  exact Int.le_trans h5 (by decide)
def wIn (ns : List Int) : Prop := ∀ x ∈ ns, x.natAbs < 2 ^ 2000
theorem wIn.sub {x y : Int} (hx : x.natAbs < 2 ^ 2000) (hy : y.natAbs < 2 ^ 2000) : (x - y).natAbs < 2 ^ 2001 := by
  rw [Nat.pow_succ 2 2000]
  generalize 2 ^ 2000 = M at *
  omega
theorem powW {x y : Int} (hx : x.natAbs < 2 ^ 2000) (hy : y.natAbs < 2 ^ 2000) : CPowW (x - y) 2 := ⟨by decide, by decide, by
  have := PySem.Flt.log2_lt_of (by decide) (wIn.sub hx hy)
  omega⟩
theorem mulW {x y : Int} (hx : x.natAbs < 2 ^ 2000) (hy : y.natAbs < 2 ^ 2000) : CMulW (x - y) (x - y) := wide_mul (wIn.sub hx hy) (wIn.sub hx hy) (by decide) (by decide) (by decide)
/-! ### a list of lists that is changed -/
structure Gr (B : List Addr) (H : Hp) (wa : Addr) (ras : List Addr) (W : List (List PyData)) : Prop where
  a : H wa = some (.lst (ras.map V.ref))
  nw : wa ∉ B
  nd : (wa :: ras).Nodup
  nb : ∀ r ∈ ras, r ∉ B
  l : ras.length = W.length
  r : ∀ (i : Nat) (ra : Addr) (ds : List PyData), ras[i]? = some ra → W[i]? = some ds → ∃ vs, H ra = some (.lst vs) ∧ DtA (wa :: ras ++ B) H vs ds
theorem Gr.s {B : List Addr} {H H' : Hp} {wa : Addr} {ras : List Addr} {W : List (List PyData)} (g : Gr B H wa ras W) (s : Same H H') : Gr B H' wa ras W := ⟨s _ _ g.a, g.nw, g.nd, g.nb, g.l, fun i ra ds h1 h2 => by
  obtain ⟨vs, e, d⟩ := g.r i ra ds h1 h2
  exact ⟨vs, s _ _ e, d.s s⟩⟩
/-- what else is changed lies in B -/
theorem Gr.g {B : List Addr} {H H' : Hp} {wa : Addr} {ras : List Addr} {W : List (List PyData)} (g : Gr B H wa ras W) (s : Go B H H') : Gr B H' wa ras W := ⟨s.k _ _ g.nw g.a, g.nw, g.nd, g.nb, g.l, fun i ra ds h1 h2 => by
  obtain ⟨vs, e, d⟩ := g.r i ra ds h1 h2
  exact ⟨vs, s.k _ _ (g.nb ra (List.mem_of_getElem? h1)) e, d.g (s.w fun a h => List.mem_append_right _ h)⟩⟩
theorem DtA.put {B : List Addr} {H : Hp} {v : V} {d : PyData} (h : Dt B H v d) : ∀ {vs : List V} {ds : List PyData} (j : Nat), DtA B H vs ds → DtA B H (vs.set j v) (ds.set j d)
  | _, _, _, .nil => .nil
  | _, _, 0, .cons _ h2 => .cons h h2
  | _, _, j + 1, .cons h1 h2 => .cons h1 (DtA.put h j h2)
/-- one thing put in -/
theorem Gr.set {B : List Addr} {H : Hp} {wa : Addr} {ras : List Addr} {W : List (List PyData)} (g : Gr B H wa ras W) {i j : Nat} {ra : Addr} {ds : List PyData} {vs : List V} {v : V} {d : PyData} (h1 : ras[i]? = some ra) (h2 : W[i]? = some ds) (h3 : H ra = some (.lst vs)) (hd : Dt (wa :: ras ++ B) H v d) :
    Gr B (upd H ra (.lst (vs.set j v))) wa ras (W.set i (ds.set j d)) := by
  have mr := List.mem_of_getElem? h1
  have nwr : wa ≠ ra := fun z => (List.nodup_cons.mp g.nd).1 (z ▸ mr)
  have gm : Go (wa :: ras ++ B) H (upd H ra (.lst (vs.set j v))) := Go.refl.at (List.mem_append_left _ (List.mem_cons_of_mem _ mr))
  refine ⟨by rw [upd_ne nwr]; exact g.a, g.nw, g.nd, g.nb, by rw [List.length_set]; exact g.l, fun k rb es k1 k2 => ?_⟩
  by_cases c : k = i
  · subst c
    rw [h1] at k1
    cases k1
    have hk : k < W.length := (List.getElem?_eq_some_iff.mp h2).1
    rw [List.getElem?_set_self hk] at k2
    cases k2
    obtain ⟨us, e, dd⟩ := g.r k ra ds h1 h2
    rw [h3] at e
    cases e
    exact ⟨_, upd_same, DtA.put (hd.g gm) j (dd.g gm)⟩
  · rw [List.getElem?_set_ne (Ne.symm c)] at k2
    obtain ⟨us, e, dd⟩ := g.r k rb es k1 k2
    have nrb : rb ≠ ra := fun z => by
      subst z
      exact c ((List.getElem?_inj (List.getElem?_eq_some_iff.mp k1).1 (List.nodup_cons.mp g.nd).2).mp (k1.trans h1.symm))
    exact ⟨us, by rw [upd_ne nrb]; exact e, dd.g gm⟩
end Z

set_option Elab.async false
set_option linter.all false
set_option maxRecDepth 100000
set_option maxHeartbeats 4000000
namespace Z
open PySem PySem.Spec PyProof.Rows L2
/-! ### a tuple once -/
theorem tuple_mul1 (l : Addr) (items : Array Value) (n : Nat) (dd : Option Addr) (sl : Array (Option Value)) (u : Tok) :
    Meets (Builtin.«tuple.__mul__» ⟨[.ref l, .int 1 u], []⟩) (fun _ R s => s.heap.get? l = some { cls := .type "tuple", dict := dd, data := .seq items n, slots := sl } ∧
      R (.ok (.ret (Value.ref l))) s) :=
  .of_wp fun prog w A R s h => by
    obtain ⟨hp, g, d, tk, os⟩ := s
    obtain ⟨hl, h⟩ := h
    have f1 := AutoSeq1.idx_int
    have c0 : (decide ((1 : Int) < -(2 ^ 63)) || decide ((1 : Int) ≥ 2 ^ 63)) = false := by decide
    have c1 : (items.isEmpty || (1 : Int) == 1) = true := by simp
    wp_walk using wpAny_loadPart' hl
    repeat (first
      | (refine wpAny_ite_false (decide_eq_false (by rw [c0]; exact Bool.false_ne_true)) ?_; wp_walk using wpAny_loadPart' hl)
      | (refine wpAny_ite_true (decide_eq_true (by rw [c1])) ?_; wp_walk using wpAny_loadPart' hl))
    exact ⟨_, rfl, h⟩
def rRepTT (K : PySem.W.Frag) : R2 := fun x y H Q => ∃ l k xs, x = .ref l ∧ y = .int k ∧ SqT K H l xs ∧ xs ≠ [] ∧ 1 ≤ k ∧ k ≤ 1000 ∧ xs.length ≤ 1000 ∧ (k = 1 → Q (.ref l) H) ∧ (2 ≤ k → ∀ p, H p = none → Q (.ref p) (upd H p (.tup (List.replicate k.toNat xs).flatten)))
theorem op_repTT {X : Cx} : OpR X (binaryOp .Mult) (rRepTT X.K) := by
  intro pins s σ H x y v u Q I rx ry h
  obtain ⟨l, k, xs, ex, ey, hT, hne, h1, h2, hz, q1, q2⟩ := h
  by_cases c : k = 1
  · subst c
    subst ex ey
    have q := q1 rfl
    cases rx
    obtain ⟨t, rfl⟩ := ry
    obtain ⟨its, r, ⟨⟨cls, dd, data, sl⟩, ho, hc, n, hd⟩, hs⟩ := I.tuple hT
    simp only at hc hd
    subst hc hd
    refine wpAny_binaryOp_repeat_ref (T := "tuple") (U := "int") (by decide) ⟨_, ho, rfl⟩ (fun s' => typeIs_int s' 1 t) noFill_tuple_mul F.fills_int_mul F.slot_int_rmul repeat_tuple F.slot_int_index.lookup
      (call_meets F.slot_int_rmul (typeIs_int s 1 t) F.entry_int_rmul (F.args_int_rmul_2 _ _) (int_rmul_tuple 1 t l its.toArray n dd sl)
        ⟨ho, rfl, ⟨_, ho, rfl⟩, call_meets F.slot_tuple_mul ⟨_, ho, rfl⟩ F.entry_tuple_mul (F.args_tuple_mul_2 _ _) (tuple_mul1 l its.toArray n dd sl t) ⟨ho, ?_⟩⟩)
    exact ⟨.ref l, H, I, rfl, q⟩
  · exact op_repT pins s σ H x y v u Q I rx ry ⟨l, k, xs, ex, ey, hT, hne, by omega, h2, hz, q2 (by omega)⟩
end Z

set_option Elab.async false
set_option linter.all false
set_option maxRecDepth 100000
set_option maxHeartbeats 1000000
namespace Z
open PySem PySem.Spec PyProof.Rows L2
/-! ### enumerate(xs, start=k) -/
theorem draws_shift {prog : Program} {w : World} {A : Around} {it : Addr} {fp : List Addr} {n : Nat} {P : Nat → Value → Prop} {St : Nat → Heap → Prop} (D : Draws prog w A it fp n P St) (k : Nat) : Draws prog w A it fp (k + n) (fun i v => P (i - k) v) (fun i h => k ≤ i ∧ St (i - k) h) where
  live := fun _ _ st => D.live _ _ st.2
  frame := fun _ _ _ st hk => ⟨st.1, D.frame _ _ _ st.2 hk⟩
  item := fun i s Q E hi st hQ => D.item (i - k) s Q E (by have := st.1; omega) st.2 fun x h' tk p st' sb => hQ x h' tk p ⟨by have := st.1; omega, by
    have := st.1
    rw [show i + 1 - k = i - k + 1 by omega]
    exact st'⟩ sb
  done := fun s Q E st hE => D.done s Q E (by
    have := st.2
    rw [show k + n - k = n by omega] at this
    exact this) hE
def IteS (K : PySem.W.Frag) (a : Addr) (k : Nat) : It :=
  ⟨fun i H => ∃ (xs : List V) (x : V), SqL K H a xs ∧ xs[i]? = some x, fun i H v H' => ∃ T x, v = .ref T ∧ H T = none ∧ H' = upd H T (.tup [.int ((k + i : Nat) : Int), x]) ∧ ∀ xs, SqL K H a xs → xs[i]? = some x, fun i H => ∃ xs : List V, SqL K H a xs ∧ xs.length = i⟩
theorem ne_itLE {h : Heap} {a it l : Addr} {items : Array Value} {i : Nat} (p : h.IsList a items) (q : h.IsListIter it l i) : a ≠ it := fun e => by
  subst e
  obtain ⟨o, ho, hc, _⟩ := p
  obtain ⟨o2, ho2, hc2, _⟩ := q
  rw [ho] at ho2
  cases ho2
  rw [hc] at hc2
  exact absurd hc2 (by decide)
theorem turn_enumS {P : Program} {w : World} {K : PySem.W.Frag} {elts : List Expr} {kk k : Nat} {tpos : Pos} {a e it : Addr} (hea : e ≠ a) (hne : e ≠ it) :
    Turn P w K (.Tuple elts kk tpos) (IteS K a k) [e, it] e (fun i h => (∃ old, IsEnum h e it ((k + i : Nat) : Int) old) ∧ h.IsListIter it a i) := by
  refine ⟨by simp, fun i h st b hb => ?_, fun i h h' st k => ?_, ?_, ?_, fun A i s Q E st h => ?_⟩
  · obtain ⟨⟨old, he⟩, ⟨o, ho, hc, hd⟩⟩ := st
    have e' : b = e ∨ b = it := by simpa using hb
    rcases e' with z | z
    · rw [z]; exact ⟨_, he, fun v q => nomatch q⟩
    · rw [z]; exact ⟨o, ho, fun v q => by rw [hd] at q; cases q⟩
  · obtain ⟨⟨old, he⟩, hi⟩ := st
    exact ⟨⟨old, k e (by simp) _ he⟩, hi.at fun o q => k it (by simp) o q⟩
  · intro X hP hw hK hc i pins s σ H E I hf st hg
    subst hP hw hK
    obtain ⟨⟨old, he⟩, hit⟩ := st
    obtain ⟨xs, x, hq, hx⟩ := hg
    obtain ⟨its, rv, p, hz⟩ := I.list hq
    obtain ⟨u, hu, ru⟩ := rv.get hx
    have hel : e < s.heap.objs.size := Heap.lt_size he
    have hil : it < s.heap.objs.size := by obtain ⟨_, q, _⟩ := hit; exact Heap.lt_size q
    have na : a ≠ it := ne_itLE p.isList hit
    have k1 : i < its.toArray.size := by have := (List.getElem?_eq_some_iff.mp hu).1; simpa using this
    have nf : e ∉ [it, a] := fun m => by
      rcases List.mem_cons.mp m with z | z
      · exact hne z
      · exact hea (List.mem_singleton.mp z)
    refine wpAny_pyNext_enum_itemD (i := k + i) (draws_shift (Draws.list (A := X.A.in1) (I.ok.hd hc) it a na its.toArray) k) he ⟨by omega, by rw [Nat.add_sub_cancel_left]; exact ⟨hit, p.isList⟩⟩ (by omega) hne nf fun v h' tk hv ho hit' hT hsz hk => ?_
    have w1 : v = u := by
      rw [Nat.add_sub_cancel_left] at hv
      exact Option.some.inj (hv.symm.trans (by simpa using hu))
    subst w1
    refine ⟨_, rfl, wpAny_letOwnedTupleGo_enum (s := { s with heap := h', toks := tk + 1 }) ho fun h'' he' sb => ?_⟩
    have hT2 : h''.get? s.heap.objs.size = some { cls := .type "tuple", data := .seq #[.int ((k + i : Nat) : Int) tk, v] } := (sb.2 _ (Nat.ne_of_gt hel)).trans hT
    have new : ObjOk X.prog X.w (upd H s.heap.objs.size (.tup [.int ((k + i : Nat) : Int), x])) h'' s.heap.objs.size (.tup [.int ((k + i : Nat) : Int), x]) :=
      ⟨by show 2 ≤ sizeLine; decide, [.int ((k + i : Nat) : Int) tk, v], .cons ⟨_, rfl⟩ (.cons ru .nil), ⟨_, hT2, rfl, _, rfl⟩⟩
    have I1 : Inv X pins σ (upd H s.heap.objs.size (.tup [.int ((k + i : Nat) : Int), x])) { s with heap := h'', toks := tk + 1 } :=
      I.turnedNew (ch := [e, it]) (fun b ob hb q => (sb.2 b (fun z => hb (by simp [z]))).trans (hk b ob (fun z => hb (by simp [z])) (fun z => hb (by simp [z])) q)) hf (Nat.le_refl _) new
    have hit2 := hit'.2
    rw [show k + i + 1 - k = i + 1 by omega] at hit2
    refine ⟨.ref s.heap.objs.size, _, I1, rfl, ⟨_, x, rfl, I.hok.fresh (Nat.le_refl _), rfl, fun ys hy => by rw [I.list_inj hy hq]; exact hx⟩, ⟨⟨v, ?_⟩, hit2.1.at fun o q => (sb.2 it (Ne.symm hne)).trans q⟩, fun b hb => ?_⟩
    · have e1 : ((k + (i + 1) : Nat) : Int) = ((k + i : Nat) : Int) + 1 := by omega
      rw [e1]; exact he'
    · have hb' : b < s.heap.objs.size := by
        have e' : b = e ∨ b = it := by simpa using hb
        rcases e' with z | z
        · rw [z]; exact hel
        · rw [z]; exact hil
      rw [upd_ne (Nat.ne_of_lt hb')]
      exact (hf b hb).1
  · intro X hP hw hK hc i pins s σ H E I hf st hg
    subst hP hw hK
    obtain ⟨⟨old, he⟩, hit⟩ := st
    obtain ⟨xs, hq, hx⟩ := hg
    obtain ⟨its, rv, p, hz⟩ := I.list hq
    have na : a ≠ it := ne_itLE p.isList hit
    obtain ⟨f0, f1, f2, f3, f4, f5⟩ := hf it (by simp)
    have hl := rv.length
    have ei : its.toArray.size = i := by simp; omega
    exact wpAny_pyNext_enum_endD (Draws.list (A := X.A.in1) (I.ok.hd hc) it a na its.toArray) he (by rw [ei]; exact ⟨hit, p.isList⟩) fun h' eb => ⟨rfl, I.turned (t' := s.toks) (fun b o hb q => eb b o hb q) f0 f1 f3 f4 f5⟩
  · obtain ⟨⟨_, he⟩, _⟩ := st
    exact wpAny_pyIter_enum he h
section
variable {M : Model} {A : Around} {E : Value → Shared → Prop} {s : Shared} {env : Env}
theorem callWith_typeKwB {pos : Pos} {T : String} {first : List Value} {args : List (Bool × Sem Value)} {keywords : List (Option Str × Sem Value)} {Q : Value → Shared → Prop}
    (hplain : args.any (·.1) = false) (hkw : keywords.any (·.1.isNone) = false)
    (h : wpAny M A (evalArgs (.type T) true args keywords) (fun a s₁ => wpAny M A (call (.type T) (first ++ a.pos) a.kw) Q E s₁) E s) :
    wpAny M A (callWith pos (.type T) first args keywords) Q E s := by
  unfold callWith
  refine wpAny_bind (wpAny_holding (wpAny_mono h (fun a s₁ h₁ => wpAny_bind (wpAny_standAt ?_)) fun _ _ x => x))
  simp only [hplain, hkw, Bool.or_false]
  refine wpAny_bind (wpAny_pure ?_)
  exact wpAny_bind (wpAny_mono h₁ (fun r s₂ hr => wpAny_bind (wpAny_holding (wpAny_point (wpAny_pure hr)))) fun _ _ x => x)
theorem callWith_kwT {pos : Pos} {T : String} {e : Expr} {rest : List Expr} {kws : List Keyword} {Q : Value → Shared → Prop}
    (h : wpAny M A (spliced (backTo pos (starEach (e :: rest) env))) (fun vs s₁ => wpAny M A (evalAll ((backToKw pos (keywordEach kws env)).map (·.2)))
      (fun kvs s₂ => wpAny M A (call (.type T) vs (((backToKw pos (keywordEach kws env)).filterMap (·.1)).zip kvs)) Q E s₂) E s₁) E s)
    (he : backTo pos (starEach (e :: rest) env) = (false, eval e env) :: backTo pos (starEach rest env) := by rfl)
    (hplain : (backTo pos (starEach (e :: rest) env)).any (·.1) = false := by rfl)
    (hall : (backToKw pos (keywordEach kws env)).all (·.1.isSome) = true := by rfl)
    (hkw : (backToKw pos (keywordEach kws env)).any (·.1.isNone) = false := by rfl) :
    wpAny M A (callWith pos (.type T) [] (backTo pos (starEach (e :: rest) env)) (backToKw pos (keywordEach kws env))) Q E s := by
  refine callWith_typeKwB hplain hkw ?_
  rw [he] at h ⊢
  exact evalArgs_kwB hall h
end
def iEnumS (K : PySem.W.Frag) (ta tk : TA) : TI := fun σ H R => ta σ H fun vs H1 => tk σ H1 fun zs H2 => ∃ a xs k, vs = [.ref a] ∧ zs = [.int ((k : Nat) : Int)] ∧ k ≤ 1000000 ∧ SqL K H2 a xs ∧ R (IteS K a k) H2
theorem pi_enumS (K : PySem.W.Frag) {X : Cx} {e : Expr} {kws : List Keyword} {ta tk : TA} {p pos tpos : Pos} {elts : List Expr} {kk : Nat} (hg : Gl X "enumerate") (hm : X.mg "enumerate" = none) (ha : PA X [e] ta) (hk : PK X kws tk)
    (he : backTo pos (starEach [e] X.env) = (false, eval e X.env) :: backTo pos (starEach [] X.env) := by rfl) (hpl : (backTo pos (starEach [e] X.env)).any (·.1) = false := by rfl)
    (hall : (backToKw pos (keywordEach kws X.env)).all (·.1.isSome) = true := by rfl) (hnone : (backToKw pos (keywordEach kws X.env)).any (·.1.isNone) = false := by rfl) (hks : (backToKw pos (keywordEach kws X.env)).filterMap (·.1) = [Str.ofString "start"] := by rfl) (hK : X.K = K := by rfl) :
    PI X (.Tuple elts kk tpos) (.Call (.Name "enumerate" p) [e] kws pos) (iEnumS K ta tk) := by
  subst hK
  refine ⟨fun pins s σ H R I h => ?_⟩
  refine wpAny_Call_Name_kw (ld_blt I hg hm PyProof.Rows.boot_enumerate ?_)
  refine callWith_kwT (thn (ha.run pos pins s σ H _ I h) fun us s1 ⟨vs, H1, I1, r1, q1⟩ => thn (hk.run pos pins s1 σ H1 _ I1 q1) fun ws s2 ⟨zs, H2, I2, r2, q2⟩ => ?_) he hpl hall hnone
  rw [hks]
  obtain ⟨a, xs, k, ev, ez, hk1, hq, q⟩ := q2
  subst ev ez
  obtain ⟨u1, rfl, ru⟩ := vals1 r1
  obtain ⟨u2, rfl, rk⟩ := vals1 r2
  cases ru
  obtain ⟨tk2, rfl⟩ := rk
  obtain ⟨its, rv, p', hz⟩ := I2.list hq
  have la : a < s2.heap.objs.size := by obtain ⟨_, o, _⟩ := p'.isList; exact Heap.lt_size o
  refine enum_begins_start (begins_list a its.toArray) p'.isList (by omega) (by omega) fun h' he' hit hsz hk' => wpAny_pyIter_enum he' ?_
  have I3 : Inv X pins σ H2 { s2 with heap := h' } := I2.kept (t' := s2.toks) hk'
  refine ⟨s2.heap.objs.size + 1, [s2.heap.objs.size + 1, s2.heap.objs.size], _, _, H2, rfl, I3, turn_enumS (a := a) (k := k) (e := s2.heap.objs.size + 1) (it := s2.heap.objs.size) (Nat.ne_of_gt (Nat.lt_succ_of_lt la)) (Nat.succ_ne_self _), ⟨⟨.none, he'⟩, ⟨_, hit, rfl, rfl⟩⟩, fun b hb => ?_, q⟩
  have e' : b = s2.heap.objs.size + 1 ∨ b = s2.heap.objs.size := by simpa using hb
  have hle : s2.heap.objs.size ≤ b := by
    rcases e' with z | z
    · rw [z]; exact Nat.le_add_right _ _
    · rw [z]; exact Nat.le_refl _
  exact I2.fpOk hle (I2.hok.fresh hle)
theorem walk_enumS {K : PySem.W.Frag} {a : Addr} {xs : List V} {k : Nat} : Walk (IteS K a k) xs.length (fun H => SqL K H a xs) (YPair (fun i => some (.int ((k + i : Nat) : Int))) (fun i => xs[i]?)) := by
  refine ⟨fun i H hi q => ⟨xs, xs[i], q, by simp⟩, fun H q => ⟨xs, q, rfl⟩, fun i H v H' _ q y => ?_⟩
  obtain ⟨T, x, e1, e2, e3, e4⟩ := y
  exact ⟨T, _, x, e1, e2, e3, rfl, e4 xs q⟩
end Z

set_option Elab.async false
set_option linter.all false
set_option maxRecDepth 100000
set_option maxHeartbeats 400000
namespace Z
open PySem PySem.Spec PyProof.Rows L2
/-! ### '9' * n, and its number -/
def nines (n : Nat) : Str := ⟨(List.replicate n (Str.ofString "9").cps).foldl (· ++ ·) #[]⟩
theorem nines_int : ∀ i : Fin 41, 1 ≤ i.val → PySem.intText? (nines i.val) = some ((10 : Int) ^ i.val - 1) ∧ (nines i.val).length ≤ 640 := by decide +kernel
def rRep9 : R2 := fun x y H Q => ∃ n : Int, x = .str "9" ∧ y = .int n ∧ 1 ≤ n ∧ n ≤ 40 ∧ Q (.str (nines n.toNat)) H
theorem op_rep9 {X : Cx} : OpR X (binaryOp .Mult) rRep9 := by
  intro pins s σ H x y v u Q I rx ry h
  obtain ⟨n, rfl, rfl, n1, n2, q⟩ := h
  obtain ⟨t, rfl⟩ := rx
  obtain ⟨t', rfl⟩ := ry
  have l9 : (Str.ofString "9").length = 1 := by decide
  refine P.mul_str ?_ (fun _ _ => ?_) (fun _ _ => ?_) ?_
  · rw [decide_eq_false (by omega), decide_eq_false (by omega)]; rfl
  · rw [l9]
    have : (1 : Int) ≤ (2 ^ 63 - 1) / n := Int.le_ediv_of_mul_le (by omega) (by omega)
    omega
  · rw [l9, Nat.one_mul]
    have : n.toNat ≤ 40 := by omega
    show decide (n.toNat > sizeLine) = false
    exact decide_eq_false (fun h => absurd (Nat.lt_of_lt_of_le h this) (by decide))
  · rw [if_neg (by omega)]
    by_cases e : n = 1
    · subst e
      exact ⟨.str (nines 1), H, I, ⟨t, rfl⟩, q⟩
    · have e2 : ((n == 1) || (Str.ofString "9").length == 0) = false := by
        rw [l9]
        simp [e]
      rw [e2, if_neg Bool.false_ne_true]
      refine ⟨?_, .str (nines n.toNat), H, I.tok _, ⟨_, rfl⟩, q⟩
      exact Nat.le_trans (nines_int ⟨n.toNat, by omega⟩ (by show 1 ≤ n.toNat; omega)).2 (by decide)
/-! ### fractions: the greatest measure -/
def ab (t : Int) : Nat := t.natAbs
def gm (t b : Int) : Nat := Nat.gcd t.natAbs b.natAbs
def pn (t b : Int) : Int := (if b < 0 then -t else t) / (gm t b : Int)
def pd (t b : Int) : Int := (if b < 0 then -b else b) / (gm t b : Int)
theorem gm_pos {t b : Int} (h : b ≠ 0) : 0 < gm t b := Nat.gcd_pos_of_pos_right _ (by omega)
theorem gm_le {t b : Int} (h : b ≠ 0) : gm t b ≤ b.natAbs := Nat.gcd_le_right _ (by omega)
theorem pd_pos {t b : Int} (h : b ≠ 0) : 0 < pd t b := by
  have h1 := gm_pos (t := t) h
  have h2 := gm_le (t := t) h
  unfold pd
  have : (1 : Int) ≤ (if b < 0 then -b else b) / (gm t b : Int) := Int.le_ediv_of_mul_le (by omega) (by split <;> omega)
  omega
theorem pd_le {t b : Int} (h : b ≠ 0) : pd t b ≤ (b.natAbs : Int) := by
  have h1 := gm_pos (t := t) h
  unfold pd
  have h2 : (if b < 0 then -b else b) = (b.natAbs : Int) := by split <;> omega
  rw [h2]
  exact Int.ediv_le_self _ (by omega)
theorem ediv_natAbs {x g : Int} (h : 0 < g) : (x / g).natAbs ≤ x.natAbs := by
  rcases Int.le_total 0 x with h1 | h1
  · have a := Int.ediv_nonneg h1 (Int.le_of_lt h)
    have b := Int.ediv_le_self g h1
    omega
  · have a : x ≤ x / g := Int.le_ediv_of_mul_le h (by
      have : x * g ≤ x * 1 := Int.mul_le_mul_of_nonpos_left h1 (by omega)
      omega)
    have b : x / g < 1 := Int.ediv_lt_of_lt_mul h (by omega)
    omega
theorem pn_le {t b : Int} (h : b ≠ 0) : (pn t b).natAbs ≤ t.natAbs := by
  have h1 := gm_pos (t := t) h
  unfold pn
  refine Nat.le_trans (ediv_natAbs (by omega)) ?_
  split <;> omega
/-! ### // by a great number of either sign -/
def CDivN2 (_ j : Int) : Prop := j ≠ 0 ∧ j.natAbs.log2 < 9000
theorem op_fdivM {X : Cx} : OpR X (binaryOp .FloorDiv) (rI CDivN2 fun i j => .int (i.fdiv j)) := opI fun _ _ _ _ _ _ _ hc q => floordiv_int hc.1 q (.inl (PyProof.noPylong_of_log2 hc.2))
theorem fdiv_neg' {t g : Int} (h : 0 < g) : t.fdiv (-g) = (-t) / g := by
  have e : t.fdiv (-g) = (-t).fdiv g := by
    rw [← Int.neg_fdiv_neg (-t) g, Int.neg_neg]
  rw [e, Int.fdiv_eq_ediv_of_nonneg _ (by omega)]
theorem gm_dvd_l (t b : Int) : (gm t b : Int) ∣ t := Int.ofNat_dvd_left.mpr (Nat.gcd_dvd_left _ _)
theorem gm_dvd_r (t b : Int) : (gm t b : Int) ∣ b := Int.ofNat_dvd_left.mpr (Nat.gcd_dvd_right _ _)
theorem pn_mul {t b : Int} (h : b ≠ 0) : pn t b * (gm t b : Int) = if b < 0 then -t else t := by
  unfold pn
  refine Int.ediv_mul_cancel ?_
  split
  · exact Int.dvd_neg.mpr (gm_dvd_l t b)
  · exact gm_dvd_l t b
theorem pd_mul {t b : Int} (h : b ≠ 0) : pd t b * (gm t b : Int) = if b < 0 then -b else b := by
  unfold pd
  refine Int.ediv_mul_cancel ?_
  split
  · exact Int.dvd_neg.mpr (gm_dvd_r t b)
  · exact gm_dvd_r t b
theorem cross {t b : Int} (h : b ≠ 0) : pn t b * b = t * pd t b := by
  have g0 : (gm t b : Int) ≠ 0 := by have := gm_pos (t := t) h; omega
  have e1 := pn_mul (t := t) h
  have e2 := pd_mul (t := t) h
  refine Int.eq_of_mul_eq_mul_right g0 ?_
  have a1 : pn t b * b * (gm t b : Int) = (pn t b * (gm t b : Int)) * b := by rw [Int.mul_assoc, Int.mul_comm b, ← Int.mul_assoc]
  have a2 : t * pd t b * (gm t b : Int) = t * (pd t b * (gm t b : Int)) := Int.mul_assoc ..
  rw [a1, a2, e1, e2]
  split
  · rw [Int.neg_mul, Int.mul_neg]
  · rfl
theorem gm_low {t b : Int} (h : b ≠ 0) : gm (pn t b) (pd t b) = 1 := by
  have gp := gm_pos (t := t) h
  have e1 := pn_mul (t := t) h
  have e2 := pd_mul (t := t) h
  have n1 : (pn t b).natAbs * gm t b = t.natAbs := by
    have := congrArg Int.natAbs e1
    rw [Int.natAbs_mul, Int.natAbs_natCast] at this
    rw [this]
    split <;> omega
  have n2 : (pd t b).natAbs * gm t b = b.natAbs := by
    have := congrArg Int.natAbs e2
    rw [Int.natAbs_mul, Int.natAbs_natCast] at this
    rw [this]
    split <;> omega
  have h3 : gm (pn t b) (pd t b) * gm t b = gm t b := by
    show Nat.gcd (pn t b).natAbs (pd t b).natAbs * gm t b = gm t b
    rw [← Nat.gcd_mul_right, n1, n2]
    rfl
  exact Nat.eq_of_mul_eq_mul_right gp (by rw [h3, Nat.one_mul])
theorem pn_low {t b : Int} (h : b ≠ 0) : pn (pn t b) (pd t b) = pn t b := by
  have hp := pd_pos (t := t) h
  show (if pd t b < 0 then -(pn t b) else pn t b) / (gm (pn t b) (pd t b) : Int) = pn t b
  rw [gm_low h, if_neg (by omega)]
  exact Int.ediv_one _
theorem pd_low {t b : Int} (h : b ≠ 0) : pd (pn t b) (pd t b) = pd t b := by
  have hp := pd_pos (t := t) h
  show (if pd t b < 0 then -(pd t b) else pd t b) / (gm (pn t b) (pd t b) : Int) = pd t b
  rw [gm_low h, if_neg (by omega)]
  exact Int.ediv_one _
end Z

set_option Elab.async false
set_option linter.all false
set_option maxRecDepth 100000
namespace Z
open PySem PySem.Spec PyProof.Rows L2 L2.DX
/-! ### sorted(d.items()), keys tuples of ints, values ints -/
def entI (e : List Int × Int) : List L2.Key × V := (e.1.map Sum.inl, V.int e.2)
def eRow (e : List Int × Int) : PyData := .tuple [eC e.1, .int e.2]
theorem kV_ints (ns : List Int) : (ns.map Sum.inl).map kV = ns.map V.int := by
  rw [List.map_map]
  rfl
theorem reads_ints {h : Heap} : ∀ {ns : List Int} {us : List Value}, Vals (ns.map V.int) us → ReadsAll h us (ns.map .int) []
  | [], _, r => by
    cases r
    exact .nil
  | n :: ns, _, r => by
    cases r with
    | cons r1 r2 =>
      obtain ⟨t, rfl⟩ := r1
      exact ReadsAll.cons (as := []) (bs := []) (.int n t) (reads_ints r2)
theorem zipped {α β : Type} {R : α → β → Prop} : ∀ {as : List α} {bs : List β}, PySem.W.EachIs R as bs → ∃ zs : List (α × β), zs.map Prod.fst = as ∧ zs.map Prod.snd = bs ∧ ∀ z ∈ zs, R z.1 z.2
  | _, _, .nil => ⟨[], rfl, rfl, fun _ h => nomatch h⟩
  | a :: as, b :: bs, .cons h t => by
    obtain ⟨zs, e1, e2, h3⟩ := zipped t
    refine ⟨(a, b) :: zs, by rw [List.map_cons, e1], by rw [List.map_cons, e2], fun z hz => ?_⟩
    rcases List.mem_cons.mp hz with e | e
    · rw [e]; exact h
    · exact h3 z e
theorem fm_some {α : Type} (f : Nat → α) : ∀ n : Nat, (List.range n).filterMap (fun i => some (f i)) = (List.range n).map f := fun n => by
  rw [← List.filterMap_eq_map]
  rfl
def rSortII : List V → Hp → VK → Prop := fun vs H Q => ∃ (p a : Addr) (ks : List (List Int × Int)), vs = [.ref p] ∧ H p = some (itemsO p a) ∧ H a = some (.dT (ks.map entI)) ∧ ks.length ≤ 1000 ∧
  ∀ (H' : Hp) (l : Addr) (ps : List (Addr × List Int × Int)), Same H H' → H l = none → (ps.map (·.2)).Perm ks → H' l = some (.lst (ps.map fun z => V.ref z.1)) →
    (∀ z ∈ ps, ∃ q, H z.1 = none ∧ H' z.1 = some (.tup [.ref q, .int z.2.2]) ∧ H q = some (.tup (z.2.1.map V.int))) → Q (.ref l) H'
section
variable {X : Cx}
theorem set_dictU (hu : X.A.units + 64 < cLine) : PSet X rSetD := set_dict (by omega)
theorem cr_sortedII (hc : X.calm = true) (hu : X.A.units + 64 < cLine) : CallR X (.builtin "sorted") rSortII := by
  intro pins s σ H xs us Q I r h
  obtain ⟨p, a, ks, rfl, hp, ha, h64, q⟩ := h
  obtain rfl := Vals.ref1 r
  have view : s.heap.IsItemsView p a := (show ObjOk X.prog X.w H s.heap p (itemsO p a) from I.hok p _ hp).1
  obtain ⟨z, hd, xs', rel, o, es, ep, ho, hx, hdat, hes, his, hn⟩ := dt_of I.hok ha
  have l1 : (ks.map entI).length = xs'.length := Paired.length rel
  rw [List.length_map] at l1
  have l2 : es.size = xs'.length := size_of_entries hes
  have hh : X.A.handled = none := I.ok.hd hc
  refine DT.sortedI (es := es) (ep := ep) hh view ⟨o, ho, hx, hdat⟩ (by rw [sizeLine_eq]; omega) fun h' tk as hk hlt hl hG => ?_
  have lak : as.length = ks.length := by omega
  have nd : as.Nodup := List.Pairwise.imp (fun h => Nat.ne_of_lt h) hG.rise
  have pr : ∀ (j : Nat) (b : Addr), as[j]? = some b → ∃ (e : List Int × Int) (kq : Addr) (t : Tok), ks[j]? = some e ∧ H kq = some (.tup (e.1.map V.int)) ∧ h'.get? b = some { cls := .type "tuple", data := .seq #[Value.ref kq, Value.int e.2 t] } := by
    intro j b hj
    obtain ⟨en, he, hg⟩ := hG.pairs j b hj
    rw [entry_at hes j] at he
    cases hxj : xs'[j]? with
    | none =>
      rw [hxj] at he
      exact nomatch (show (none : Option DictEntry) = some en from he)
    | some x =>
      rw [hxj] at he
      have een : entryOfKey (tupleKind (mixKind X.prog X.w)) x = en := Option.some.inj he
      obtain ⟨e0, he0, r1, r2, r3⟩ := pget rel hxj
      rw [List.getElem?_map] at he0
      cases hkj : ks[j]? with
      | none =>
        rw [hkj] at he0
        exact nomatch (show (none : Option (List L2.Key × V)) = some e0 from he0)
      | some e =>
        rw [hkj] at he0
        have ee : entI e = e0 := Option.some.inj he0
        rw [← ee] at r2 r3
        obtain ⟨t, r3'⟩ : ∃ t, x.2.2 = Value.int e.2 t := r3
        refine ⟨e, x.2.1, t, rfl, ?_, ?_⟩
        · have r2' : H x.2.1 = some (.tup ((e.1.map Sum.inl).map kV)) := r2
          rw [kV_ints] at r2'
          exact r2'
        · rw [hg, ← een, ← r3']
          all_goals rfl
  have hob : (h'.push { cls := .type "list", data := .seq (as.map Value.ref).toArray }).get? h'.objs.size = some (seqObj "list" (as.map Value.ref).toArray 0) := Heap.get?_push_size _ rfl
  have kb : ∀ b o, s.heap.get? b = some o → (h'.push { cls := .type "list", data := .seq (as.map Value.ref).toArray }).get? b = some o := fun b o e => Heap.get?_push_of_some _ (hk b o e)
  have ne0 : ∀ b o, h'.get? b = some o → b ≠ h'.objs.size := fun b o e => Nat.ne_of_lt (Heap.lt_size e)
  generalize hh2 : h'.push { cls := .type "list", data := .seq (as.map Value.ref).toArray } = h2 at hob kb ⊢
  have ka : ∀ b o, h'.get? b = some o → h2.get? b = some o := fun b o e => by rw [← hh2]; exact Heap.get?_push_of_some _ e
  have rd : ∀ (j : Nat) (b : Addr) (e : List Int × Int), as[j]? = some b → ks[j]? = some e → Reads h2 (.ref b) (eRow e) [] := by
    intro j b e hj he
    obtain ⟨e', kq, t, he', hkq, hg⟩ := pr j b hj
    have ee : e' = e := Option.some.inj (he'.symm.trans he)
    subst ee
    obtain ⟨_, its, rv, ot, hot, hct, nt, hdt⟩ := (show ObjOk X.prog X.w H s.heap kq (.tup (e'.1.map V.int)) from I.hok kq _ hkq)
    refine .tuple (ka _ _ hg) rfl rfl ?_
    refine ReadsAll.cons (as := []) (bs := []) (Reads.tuple (kb _ _ hot) hct hdt ?_) (ReadsAll.cons (as := []) (bs := []) (.int _ t) .nil)
    have := reads_ints (h := h2) rv
    simpa using this
  have lens : (as.map Value.ref).length = ks.length := by rw [List.length_map, lak]
  have zidx : ∀ pz ∈ (as.map Value.ref).zip ks, ∃ (j : Nat) (b : Addr), pz.1 = .ref b ∧ as[j]? = some b ∧ ks[j]? = some pz.2 := by
    intro pz hpz
    obtain ⟨j, hj⟩ := List.mem_iff_getElem?.mp hpz
    obtain ⟨h1, h2'⟩ := List.getElem?_zip_eq_some.mp hj
    rw [List.getElem?_map] at h1
    cases e : as[j]? with
    | none => rw [e] at h1; cases h1
    | some b =>
      rw [e] at h1
      exact ⟨j, b, (Option.some.inj h1).symm, e, h2'⟩
  refine PySem.W.list_sort_data (s := { s with heap := h2, toks := tk }) (A := X.A.in1) (n := 0) (vs := as.map Value.ref) (bs := ks) (enc := eRow) (R := fun v e => ∃ (j : Nat) (b : Addr), v = .ref b ∧ as[j]? = some b ∧ ks[j]? = some e) hob
    (PySem.W.EachIs.of_zip lens zidx) (PySem.W.EachIs.of_zip lens fun pz hpz => ?_) (PySem.W.AllAlike.of fun b b' => ?_) (PySem.W.Sortable.tuples fun b => ⟨_, _, rfl⟩) (by rw [sizeLine_eq]; omega) (fun b _ => ?_) fun out lo eo => ?_
  · obtain ⟨j, b, e1, e2, e3⟩ := zidx pz hpz
    rw [e1]
    exact ⟨[], rd j b _ e2 e3, fun h => nomatch h⟩
  · unfold eRow eC
    simp [PySem.W.alike, PySem.W.alikeAll, PySem.W.alike_ints]
  · have : (eRow b).depth = 2 := by
      unfold eRow eC
      simp [PyData.depth, PyData.depthAll, PySem.W.depth_ints]
    show X.A.units + 1 + 1 + (eRow b).depth < cLine
    omega
  · show EP X pins σ Q (.ref h'.objs.size) { s with heap := sortedHeap h2 h'.objs.size (as.map Value.ref) out.toArray, toks := tk }
    obtain ⟨zs0, z1, z2, z3⟩ := zipped eo
    -- the addresses
    obtain ⟨zs, w1, w2, w3⟩ : ∃ zs : List (Addr × List Int × Int), zs.map (fun z => Value.ref z.1) = out ∧ zs.map (·.2) = ks.mergeSort (PySem.W.dataLe false eRow) ∧ ∀ z ∈ zs, ∃ j : Nat, as[j]? = some z.1 ∧ ks[j]? = some z.2 := by
      rw [← z1, ← z2]
      clear z1 z2 eo lo
      induction zs0 with
      | nil => exact ⟨[], rfl, rfl, fun _ h => nomatch h⟩
      | cons y ys ih =>
        obtain ⟨zs, w1, w2, w3⟩ := ih fun z hz => z3 z (List.mem_cons_of_mem _ hz)
        obtain ⟨j, b, e1, e2, e3⟩ := z3 y (List.mem_cons_self ..)
        refine ⟨(b, y.2) :: zs, by rw [List.map_cons, List.map_cons, w1, e1], by rw [List.map_cons, List.map_cons, w2], fun z hz => ?_⟩
        rcases List.mem_cons.mp hz with e | e
        · rw [e]; exact ⟨j, e2, e3⟩
        · exact w3 z e
    have hperm : (zs.map (·.2)).Perm ks := by
      rw [w2]
      exact List.mergeSort_perm _ _
    have kF : ∀ b o, b ≠ h'.objs.size → h2.get? b = some o → (sortedHeap h2 h'.objs.size (as.map Value.ref) out.toArray).get? b = some o := fun b o hb e => (PyProof.Rows.sortedHeap_old hb (Heap.lt_size e)).trans e
    have kS : ∀ b o, s.heap.get? b = some o → (sortedHeap h2 h'.objs.size (as.map Value.ref) out.toArray).get? b = some o := fun b o e => kF b o (ne0 _ _ (hk b o e)) (kb b o e)
    obtain ⟨eF, heF⟩ := PyProof.Rows.sortedHeap_at (vs := as.map Value.ref) (out := out.toArray) hob
    have I1 : Inv X pins σ H { s with heap := sortedHeap h2 h'.objs.size (as.map Value.ref) out.toArray, toks := tk } := I.kept (t' := tk) kS
    have hn0 : H h'.objs.size = none := I.hok.fresh (Nat.le_of_lt hlt)
    have hlen : (zs.map fun z => V.ref z.1).length ≤ sizeLine := by
      have e := hperm.length_eq
      rw [List.length_map] at e
      rw [List.length_map, sizeLine_eq]
      omega
    have rv : Vals (zs.map fun z => V.ref z.1) out.toArray.toList := by
      show Vals _ out
      rw [← w1]
      exact vals_maps (fun z : Addr × List Int × Int => V.ref z.1) (fun z => Value.ref z.1) zs fun _ _ => rfl
    have I2 : Inv X pins σ (upd H h'.objs.size (.lst (zs.map fun z => V.ref z.1))) { s with heap := sortedHeap h2 h'.objs.size (as.map Value.ref) out.toArray, toks := tk } :=
      I1.take (h' := sortedHeap h2 h'.objs.size (as.map Value.ref) out.toArray) (t' := tk) (fun b ob _ e => e) (I.fpOk (Nat.le_of_lt hlt) hn0) ⟨hlen, out.toArray.toList, eF, rv, heF⟩
    obtain ⟨H2, I3, g, qt⟩ := takeT (P := fun b vs => ∃ (j : Nat) (e : List Int × Int) (kq : Addr), as[j]? = some b ∧ ks[j]? = some e ∧ vs = [.ref kq, .int e.2] ∧ H kq = some (.tup (e.1.map V.int))) I as _ I2 nd fun b hb => by
      obtain ⟨j, hj⟩ := List.mem_iff_getElem?.mp hb
      obtain ⟨e, kq, t, he, hkq, hg⟩ := pr j b hj
      have hbl : s.heap.objs.size ≤ b := Nat.le_of_lt (hG.above b hb)
      refine ⟨hbl, ?_, [.ref kq, .int e.2], ⟨j, e, kq, hj, he, rfl, hkq⟩, fun H3 => ⟨(by rw [sizeLine_eq]; show 2 ≤ 16777216; omega), [Value.ref kq, Value.int e.2 t], .cons rfl (.cons ⟨t, rfl⟩ .nil), ⟨_, kF _ _ (ne0 _ _ hg) (ka _ _ hg), rfl, 0, rfl⟩⟩⟩
      rw [upd_ne (ne0 _ _ hg)]
      exact I.hok.fresh hbl
    have gr : ∀ b o, H b = some o → H2 b = some o := fun b o e => g b o (by rw [upd_ne (ne_of_none e hn0)]; exact e)
    refine ⟨.ref h'.objs.size, H2, I3, rfl, q H2 h'.objs.size zs gr hn0 hperm (g _ _ upd_same) fun z' hz' => ?_⟩
    obtain ⟨i, i1, i2⟩ := w3 z' hz'
    obtain ⟨vs, ⟨j, e, kq, j1, j2, ev, hkq⟩, hH⟩ := qt z'.1 (List.mem_of_getElem? i1)
    have eij : i = j := (List.getElem?_inj (List.getElem?_eq_some_iff.mp i1).1 nd).mp (i1.trans j1.symm)
    subst eij
    have ee : e = z'.2 := Option.some.inj (j2.symm.trans i2)
    rw [ev, ee] at hH
    rw [ee] at hkq
    exact ⟨kq, I.hok.fresh (Nat.le_of_lt (hG.above _ (List.mem_of_getElem? i1))), hH, hkq⟩
end
end Z

set_option Elab.async false
set_option linter.all false
set_option maxRecDepth 100000
set_option maxHeartbeats 400000
namespace Z
open PySem PySem.Spec PyProof.Rows L2
/-! ### fractions as numbers -/
theorem pn_q {t b : Int} (h : b ≠ 0) : pn t b = (Rat.divInt t b).num := by
  rw [Rat.num_divInt]
  unfold pn gm
  rw [show Int.gcd b t = Nat.gcd t.natAbs b.natAbs from Nat.gcd_comm _ _]
  congr 1
  by_cases h0 : b < 0
  · rw [if_pos h0, Int.sign_eq_neg_one_of_neg h0]; omega
  · rw [if_neg h0, Int.sign_eq_one_of_pos (by omega)]; omega
theorem pd_q {t b : Int} (h : b ≠ 0) : pd t b = ((Rat.divInt t b).den : Int) := by
  rw [Rat.den_divInt, if_neg h]
  unfold pd gm
  rw [show Int.gcd b t = Nat.gcd t.natAbs b.natAbs from Nat.gcd_comm _ _, Int.natCast_ediv]
  congr 1
  split <;> omega
/-- x over M, its top at most A -/
def Fr (M A : Nat) (x : Rat) : Prop := ∃ a : Int, x = Rat.divInt a M ∧ a.natAbs ≤ A
theorem Fr.den {M A : Nat} {x : Rat} (h : Fr M A x) (hM : 0 < M) : x.den ≤ M := by
  obtain ⟨a, rfl, _⟩ := h
  rw [Rat.den_divInt, if_neg (by omega)]
  exact Nat.le_trans (Nat.div_le_self _ _) (by omega)
theorem ediv_nat {x : Int} (g : Nat) : (x / (g : Int)).natAbs ≤ x.natAbs := by
  rcases Nat.eq_zero_or_pos g with h | h
  · subst h; simp
  rcases Int.le_total 0 x with h1 | h1
  · have a := Int.ediv_nonneg h1 (Int.natCast_nonneg g)
    have b := Int.ediv_le_self (g : Int) h1
    omega
  · have a : x ≤ x / (g : Int) := Int.le_ediv_of_mul_le (by omega) (by
      have : x * (g : Int) ≤ x * 1 := Int.mul_le_mul_of_nonpos_left h1 (by omega)
      omega)
    have b : x / (g : Int) < 1 := Int.ediv_lt_of_lt_mul (by omega) (by omega)
    omega
theorem Fr.num {M A : Nat} {x : Rat} (h : Fr M A x) (hM : 0 < M) : x.num.natAbs ≤ A := by
  obtain ⟨a, rfl, ha⟩ := h
  rw [Rat.num_divInt, Int.sign_eq_one_of_pos (by omega), Int.one_mul]
  exact Nat.le_trans (ediv_nat _) ha
theorem Fr.add {M A B : Nat} {x y : Rat} (hM : 0 < M) (h : Fr M A x) (h2 : Fr M B y) : Fr M (A + B) (x + y) := by
  obtain ⟨a, rfl, ha⟩ := h
  obtain ⟨b, rfl, hb⟩ := h2
  refine ⟨a + b, ?_, by omega⟩
  have hm : (M : Int) ≠ 0 := by omega
  rw [Rat.divInt_add_divInt _ _ hm hm, ← Int.add_mul, Rat.divInt_mul_right hm]
theorem Fr.mul {M N A B : Nat} {x y : Rat} (h : Fr M A x) (h2 : Fr N B y) : Fr (M * N) (A * B) (x * y) := by
  obtain ⟨a, rfl, ha⟩ := h
  obtain ⟨b, rfl, hb⟩ := h2
  refine ⟨a * b, by rw [Rat.divInt_mul_divInt, Int.natCast_mul], ?_⟩
  rw [Int.natAbs_mul]
  exact Nat.mul_le_mul ha hb
theorem Fr.neg {M A : Nat} {x : Rat} (h : Fr M A x) : Fr M A (-x) := by
  obtain ⟨a, rfl, ha⟩ := h
  exact ⟨-a, by rw [Rat.neg_divInt], by omega⟩
theorem Fr.mono {M A B : Nat} {x : Rat} (h : Fr M A x) (l : A ≤ B) : Fr M B x := by
  obtain ⟨a, e, ha⟩ := h
  exact ⟨a, e, by omega⟩
theorem Fr.int {M A : Nat} {n : Int} (hM : 0 < M) (h : n.natAbs ≤ A) : Fr M (A * M) (n : Rat) := by
  refine ⟨n * M, ?_, ?_⟩
  · have hm : (M : Int) ≠ 0 := by omega
    have : Rat.divInt (n * M) (1 * M) = Rat.divInt n 1 := Rat.divInt_mul_right hm
    rw [Int.one_mul] at this
    rw [this, ← Rat.num_divInt_den (n : Rat)]
    rfl
  · rw [Int.natAbs_mul, Int.natAbs_natCast]
    exact Nat.mul_le_mul_right _ h
theorem Fr.of {t b : Int} {M A : Nat} (hb : 0 < b) (hd : b ∣ (M : Int)) (hM : 0 < M) (hA : t.natAbs * M ≤ A) : Fr M A (Rat.divInt t b) := by
  obtain ⟨k, hk⟩ := hd
  have k0 : 0 < k := by
    have h0 : 0 < b * k := by omega
    rcases Int.lt_or_le 0 k with z | z
    · exact z
    · have := Int.mul_nonpos_of_nonneg_of_nonpos (Int.le_of_lt hb) z
      omega
  refine ⟨t * k, ?_, ?_⟩
  · rw [hk, Rat.divInt_mul_right (by omega)]
  · refine Nat.le_trans ?_ hA
    rw [Int.natAbs_mul]
    refine Nat.mul_le_mul_left _ ?_
    have : k ≤ b * k := by
      have : 1 * k ≤ b * k := Int.mul_le_mul_of_nonneg_right (by omega) (by omega)
      omega
    omega
/-- how far a colour is from a middle, by places -/
def sq (x : Rat) : Rat := x * x
def farN (c : List Int) (m : List Rat) : Nat → Rat
  | 0 => 0
  | i + 1 => farN c m i + sq ((c.getD i 0 : Rat) - m.getD i 0)
theorem Fr.sub {M A B : Nat} {x y : Rat} (hM : 0 < M) (h : Fr M A x) (h2 : Fr M B y) : Fr M (A + B) (x - y) := by
  rw [Rat.sub_eq_add_neg]
  exact h.add hM h2.neg
theorem Fr.zero {M A : Nat} (hM : 0 < M) : Fr M A 0 := by
  refine ⟨0, ?_, by simp⟩
  rw [Rat.zero_divInt]
theorem farN_fr {c : List Int} {m : List Rat} {M A C : Nat} (hM : 0 < M) (hc : ∀ i, (c.getD i 0).natAbs ≤ C) (hm : ∀ z ∈ m, Fr M A z) : ∀ i, Fr (M * M) (i * ((C * M + A) * (C * M + A))) (farN c m i)
  | 0 => Fr.zero (Nat.mul_pos hM hM)
  | i + 1 => by
    rw [Nat.succ_mul]
    have hz : Fr M A (m.getD i 0) := by
      rw [List.getD_eq_getElem?_getD]
      cases e : m[i]? with
      | none => exact Fr.zero hM
      | some z => exact hm z (List.mem_of_getElem? e)
    have g := (Fr.int hM (hc i)).sub hM hz
    exact (farN_fr hM hc hm i).add (Nat.mul_pos hM hM) (g.mul g)
theorem farN_nonneg (c : List Int) (m : List Rat) : ∀ i, 0 ≤ farN c m i
  | 0 => Rat.le_refl
  | i + 1 => Rat.add_nonneg (farN_nonneg c m i) (by
    unfold sq
    rcases Rat.nonneg_total ((c.getD i 0 : Rat) - m.getD i 0) with h | h
    · exact Rat.mul_nonneg h h
    · have := Rat.mul_nonneg h h
      rw [Rat.neg_mul, Rat.mul_neg, Rat.neg_neg] at this
      exact this)
/-- the first of the least -/
def argF (f : Nat → Rat) : Nat → Nat
  | 0 => 0
  | i + 1 => if f i < f (argF f i) then i else argF f i
theorem argF_lt (f : Nat → Rat) : ∀ n, 0 < n → argF f n < n
  | 0, h => absurd h (by omega)
  | n + 1, _ => by
    rw [argF]
    split
    · omega
    · rcases Nat.eq_zero_or_pos n with e | e
      · subst e; exact Nat.zero_lt_one
      · have := argF_lt f n e; omega
/-- small enough to reckon with -/
def lim : Nat := 2 ^ 2000
def lim2 : Nat := 2 ^ 4000
def Qb (x : Rat) : Prop := x.den < lim ∧ x.num.natAbs < lim
theorem Fr.qb {M A : Nat} {x : Rat} (h : Fr M A x) (hM : 0 < M) (h1 : M < lim) (h2 : A < lim) : Qb x := ⟨Nat.lt_of_le_of_lt (h.den hM) h1, Nat.lt_of_le_of_lt (h.num hM) h2⟩
theorem qq (x : Rat) : Rat.divInt x.num (x.den : Int) = x := Rat.num_divInt_den x
theorem add_q (p r : Rat) : Rat.divInt (p.num * r.den + r.num * p.den) (p.den * r.den) = p + r := by
  have h1 : (p.den : Int) ≠ 0 := by have := p.den_nz; omega
  have h2 : (r.den : Int) ≠ 0 := by have := r.den_nz; omega
  rw [← Rat.divInt_add_divInt _ _ h1 h2, qq, qq]
theorem mul_q (p r : Rat) : Rat.divInt (p.num * r.num) (p.den * r.den) = p * r := by
  rw [← Rat.divInt_mul_divInt, qq, qq]
theorem lt_q (p r : Rat) : decide (p.num * r.den < r.num * p.den) = decide (p < r) := decide_eq_decide.mpr (Rat.lt_iff p r).symm
def qp (x : Rat) : Int × Int := (x.num, (x.den : Int))
theorem lim_lim : lim * lim ≤ lim2 := by unfold lim lim2; rw [← Nat.pow_add]; exact Nat.le_refl _
theorem mul_lim {a b : Nat} (h1 : a < lim) (h2 : b < lim) : a * b < lim2 := Nat.lt_of_lt_of_le (Nat.mul_lt_mul'' h1 h2) lim_lim
theorem lim_mul {i j : Int} (h1 : i.natAbs < lim2) (h2 : j.natAbs < lim2) : CMulW i j := wide_mul (a := 4000) (b := 4000) h1 h2 (by decide) (by decide) (by decide)
theorem lim_le : lim ≤ lim2 := Nat.pow_le_pow_right (by decide) (by decide)
theorem to_lim {a b : Nat} (h : a ≤ b) (hb : b < lim := by decide +kernel) : a < lim := Nat.lt_of_le_of_lt h hb
theorem to_lim2 {a b : Nat} (h : a ≤ b) (hb : b < lim2 := by decide +kernel) : a < lim2 := Nat.lt_of_le_of_lt h hb
theorem lim_div {i j : Int} (h : 0 < j) (hb : j.natAbs < lim2) : CDivW i j := wide_div (b := 4000) h hb (by decide) (by decide)
theorem lim_divN {i j : Int} (h : j ≠ 0) (hb : j.natAbs < lim2) : CDivN2 i j := ⟨h, Nat.lt_of_lt_of_le (PySem.Flt.log2_lt_of (k := 4000) (by decide) hb) (by decide)⟩
end Z

set_option Elab.async false
set_option linter.all false
set_option maxRecDepth 100000
namespace Z
open PySem PySem.Spec PyProof.Rows L2
/-! ### zip of a tuple and a list -/
def ItTL (K : PySem.W.Frag) (a b : Addr) : It where
  go := fun i H => ∃ (xs ys : List V) (x y : V), (SqT K H a xs ∧ SqL K H b ys) ∧ xs[i]? = some x ∧ ys[i]? = some y
  yld := fun i H v H' => ∃ (T : Addr) (x y : V), v = .ref T ∧ H T = none ∧ H' = upd H T (.tup [x, y]) ∧ (∀ l, SqT K H a l → l[i]? = some x) ∧ (∀ l, SqL K H b l → l[i]? = some y)
  stop := fun i H => ∃ xs ys : List V, (SqT K H a xs ∧ SqL K H b ys) ∧ i ≤ xs.length ∧ i ≤ ys.length ∧ (i = xs.length ∨ i = ys.length)
def own2 (z TI TO i1 i2 : Addr) : List Addr := [z, TI, TO, i1, i2]
def atTL (a b z TI TO i1 i2 : Addr) (i : Nat) (h : Heap) : Prop :=
  IsZip h z TI TO .none ∧ IsTupOf2 h TI (.ref i1) (.ref i2) ∧ (∃ x y, IsTupOf2 h TO x y) ∧ h.IsTupleIter i1 a i ∧ h.IsListIter i2 b i
theorem five {z TI TO i1 i2 q : Addr} (h : q ∈ own2 z TI TO i1 i2) : q = z ∨ q = TI ∨ q = TO ∨ q = i1 ∨ q = i2 := by
  simpa [own2] using h
theorem ne_itT {h : Heap} {t it l : Addr} {items : Array Value} {i : Nat} (p : h.IsTuple t items) (q : h.IsTupleIter it l i) : t ≠ it := fun e => by
  obtain ⟨o, ho, hcl, _⟩ := p
  obtain ⟨o', ho', hcl', _⟩ := q
  rw [e, ho'] at ho
  have eo := Option.some.inj ho
  rw [eo, hcl] at hcl'
  exact absurd (Value.type.inj hcl') (by decide)
theorem ne_itL {h : Heap} {t it l : Addr} {items : Array Value} {i : Nat} (p : h.IsList t items) (q : h.IsListIter it l i) : t ≠ it := fun e => by
  obtain ⟨o, ho, hcl, _⟩ := p
  obtain ⟨o', ho', hcl', _⟩ := q
  rw [e, ho'] at ho
  have eo := Option.some.inj ho
  rw [eo, hcl] at hcl'
  exact absurd (Value.type.inj hcl') (by decide)
set_option maxHeartbeats 1000000 in
theorem turnTL {P : Program} {w : World} {K : PySem.W.Frag} {elts : List Expr} {kk : Nat} {tpos : Pos} {a b z TI TO i1 i2 : Addr} (D : ZipSep2 z TI TO i1 i2 [i1, a] [i2, b]) :
    Turn P w K (.Tuple elts kk tpos) (ItTL K a b) (own2 z TI TO i1 i2) z (atTL a b z TI TO i1 i2) := by
  refine ⟨by simp [own2], fun i h st q hq => ?_, fun i h h' st k => ?_, ?_, ?_, fun A i s Q E st h => wpAny_pyIter_zip st.1 h⟩
  · obtain ⟨hz, hTI, ⟨x, y, hTO⟩, ⟨o1, e1, _, d1⟩, ⟨o2, e2, _, d2⟩⟩ := st
    rcases five hq with rfl | rfl | rfl | rfl | rfl
    · exact ⟨_, hz, fun v q => nomatch q⟩
    · exact ⟨_, hTI, fun v q => nomatch q⟩
    · exact ⟨_, hTO, fun v q => nomatch q⟩
    · exact ⟨o1, e1, fun v q => by rw [d1] at q; cases q⟩
    · exact ⟨o2, e2, fun v q => by rw [d2] at q; cases q⟩
  · obtain ⟨hz, hTI, ⟨x, y, hTO⟩, h1, h2⟩ := st
    exact ⟨k z (by simp [own2]) _ hz, k TI (by simp [own2]) _ hTI, ⟨x, y, k TO (by simp [own2]) _ hTO⟩, h1.at fun o q => k i1 (by simp [own2]) o q, h2.at fun o q => k i2 (by simp [own2]) o q⟩
  · intro X hP hw hK hc i pins s σ H E I hf st hg
    subst hP hw hK
    obtain ⟨hz, hTI, ⟨x0, y0, hTO⟩, h1, h2⟩ := st
    obtain ⟨xs, ys, x, y, ⟨qx, qy⟩, fx, fy⟩ := hg
    obtain ⟨js1, r1, p1, _⟩ := I.tuple qx
    obtain ⟨js2, r2, p2, _⟩ := I.list qy
    obtain ⟨u1, f1, m1⟩ := r1.get fx
    obtain ⟨u2, f2, m2⟩ := r2.get fy
    have lz : z < s.heap.objs.size := Heap.lt_size hz
    have hd := I.ok.hd hc
    have n1 : a ≠ i1 := ne_itT p1 h1
    have n2 : b ≠ i2 := ne_itL p2.isList h2
    have k1 : i < js1.toArray.size := by have := (List.getElem?_eq_some_iff.mp f1).1; simpa using this
    have k2 : i < js2.toArray.size := by have := (List.getElem?_eq_some_iff.mp f2).1; simpa using this
    refine wpAny_pyNext_zipD2_item D (Draws.tuple (A := X.A.in1) hd i1 a n1 js1.toArray) (Draws.list (A := X.A.in1) hd i2 b n2 js2.toArray) hz hTI hTO ⟨h1, p1⟩ ⟨h2, p2.isList⟩ k1 k2 fun x1 x2 h' tk e1 e2 z' TO' st1 st2 hT hsz hk => ?_
    have w1 : x1 = u1 := Option.some.inj (e1.symm.trans (by simpa using f1))
    have w2 : x2 = u2 := Option.some.inj (e2.symm.trans (by simpa using f2))
    subst w1 w2
    refine ⟨_, rfl, wpAny_letOwnedTupleGo_zip (s := { s with heap := h', toks := tk }) z' fun h'' z'' sb => ?_⟩
    have up : ∀ q o, q ≠ z → h'.get? q = some o → h''.get? q = some o := fun q o n e => (sb.2 q n).trans e
    have hT2 := up _ _ (Nat.ne_of_gt lz) hT
    have fresh : H s.heap.objs.size = none := I.hok.fresh (Nat.le_refl _)
    have new : ObjOk X.prog X.w (upd H s.heap.objs.size (.tup [x, y])) h'' s.heap.objs.size (.tup [x, y]) :=
      ⟨by show 2 ≤ sizeLine; decide, [x1, x2], .cons m1 (.cons m2 .nil), ⟨_, hT2, rfl, _, rfl⟩⟩
    have kp : ∀ q o, q ∉ own2 z TI TO i1 i2 → s.heap.get? q = some o → h''.get? q = some o := fun q o nq e => by
      have nz : q ≠ z := fun y => nq (by simp [own2, y])
      refine up q o nz (hk q o nz (fun y => nq (by simp [own2, y])) (fun y => nq (by simp [own2, y])) (fun y => nq (by simp [own2, y])) e)
    have zi : ∀ {j : Addr} {fp : List Addr}, j ∈ fp → z ∉ fp → j ≠ z := fun hj hz e => hz (by rw [← e]; exact hj)
    refine ⟨.ref s.heap.objs.size, _, I.turnedNew (t' := tk) (ch := own2 z TI TO i1 i2) kp hf (Nat.le_refl _) new, rfl, ⟨_, x, y, rfl, fresh, rfl, fun l hl => by rw [I.tuple_inj hl qx]; exact fx, fun l hl => by rw [I.list_inj hl qy]; exact fy⟩, ⟨z'', ?_, ⟨x1, x2, up _ _ D.TOz TO'⟩, ?_, ?_⟩, fun q hq => ?_⟩
    · exact up _ _ D.TIz (hk _ _ D.TIz D.TITO D.TIi1 D.TIi2 hTI)
    · exact st1.1.at fun o e => up _ _ (zi D.mem1 D.zf1) e
    · exact st2.1.at fun o e => up _ _ (zi D.mem2 D.zf2) e
    · have lq : q < s.heap.objs.size := by
        rcases five hq with rfl | rfl | rfl | rfl | rfl
        · exact lz
        · exact Heap.lt_size hTI
        · exact Heap.lt_size hTO
        · obtain ⟨_, e, _⟩ := h1; exact Heap.lt_size e
        · obtain ⟨_, e, _⟩ := h2; exact Heap.lt_size e
      rw [upd_ne (Nat.ne_of_lt lq)]
      exact (hf q hq).1
  · intro X hP hw hK hc i pins s σ H E I hf st hg
    subst hP hw hK
    obtain ⟨hz, hTI, ⟨x0, y0, hTO⟩, h1, h2⟩ := st
    obtain ⟨xs, ys, ⟨qx, qy⟩, b1, b2, hend⟩ := hg
    obtain ⟨js1, r1, p1, _⟩ := I.tuple qx
    obtain ⟨js2, r2, p2, _⟩ := I.list qy
    have hd := I.ok.hd hc
    have l1 := r1.length
    have l2 := r2.length
    have n1 : a ≠ i1 := ne_itT p1 h1
    have n2 : b ≠ i2 := ne_itL p2.isList h2
    refine wpAny_pyNext_zipD2_end D (Draws.tuple (A := X.A.in1) hd i1 a n1 js1.toArray) (Draws.list (A := X.A.in1) hd i2 b n2 js2.toArray) hz hTI hTO ⟨h1, p1⟩ ⟨h2, p2.isList⟩ (by simp; omega) (by simp; omega) (by simp; omega) fun h' tk hk => ?_
    exact ⟨rfl, I.turnedL (t' := tk) (ch := own2 z TI TO i1 i2) (fun q o nq e => hk q o (fun y => nq (by simp [own2, y])) (fun y => nq (by simp [own2, y])) (fun y => nq (by simp [own2, y])) (fun y => nq (by simp [own2, y])) e) hf⟩
set_option maxHeartbeats 400000
def iZipTX (K : PySem.W.Frag) (ta : TA) : TI := fun σ H R => ta σ H fun vs H1 => ∃ a b xs ys, vs = [.ref a, .ref b] ∧ ((SqT K H1 a xs ∧ SqL K H1 b ys ∧ R (ItTL K a b) H1) ∨ (SqT K H1 a xs ∧ SqT K H1 b ys ∧ R (RZ.ItzT K a b) H1))
theorem own2_le {N y : Nat} (hy : y ∈ own2 (N + 4) (N + 2) (N + 3) N (N + 1)) : N ≤ y := by
  rcases five hy with z | z | z | z | z <;> rw [z]
  · exact Nat.le_add_right _ _
  · exact Nat.le_add_right _ _
  · exact Nat.le_add_right _ _
  · exact Nat.le_refl _
  · exact Nat.le_add_right _ _
theorem zipTL_end {X : Cx} {pins : List (Addr × Obj)} {σ : L2.St} {H1 : Hp} {s1 : Shared} {R : It → Hp → Prop} {a b : Addr} {xs ys : List V} {elts : List Expr} {kk : Nat} {tpos : Pos} (I1 : Inv X pins σ H1 s1) (qx : SqT X.K H1 a xs) (qy : SqL X.K H1 b ys) (q : R (ItTL X.K a b) H1) :
    wpAny (model X.prog X.w) X.A (call (.type "zip") [.ref a, .ref b]) (fun v s2 => wpAny (model X.prog X.w) X.A (pyIter v) (PIE X pins σ (.Tuple elts kk tpos) R) X.xe s2) X.xe s1 := by
  obtain ⟨js1, m1, p1, _⟩ := I1.tuple qx
  obtain ⟨js2, m2, p2, _⟩ := I1.list qy
  have la : a < s1.heap.objs.size := by obtain ⟨_, o, _⟩ := p1; exact Heap.lt_size o
  have lb : b < s1.heap.objs.size := by obtain ⟨_, o, _⟩ := p2.isList; exact Heap.lt_size o
  refine zip_begins2 (begins_tuple a js1.toArray) (begins_list b js2.toArray) p1 p2.isList fun h' hz hTI hTO g1 g2 hsz hk => wpAny_pyIter_zip hz ?_
  have one : ∀ {x : Addr}, x < s1.heap.objs.size → ∀ y ∈ [x], y < s1.heap.objs.size := fun hx y hy => by rw [List.mem_singleton.mp hy]; exact hx
  have I2 : Inv X pins σ H1 { s1 with heap := h' } := I1.kept (t' := s1.toks) hk
  have fr : ∀ y, s1.heap.objs.size ≤ y → FpOk X pins H1 y := fun y hle => I1.fpOk hle (I1.hok.fresh hle)
  have sp := zip_sep2 (one la) (one lb)
  generalize s1.heap.objs.size = N at *
  exact ⟨N + 4, own2 (N + 4) (N + 2) (N + 3) N (N + 1), atTL a b (N + 4) (N + 2) (N + 3) N (N + 1), ItTL X.K a b, H1, rfl, I2, turnTL sp, ⟨hz, hTI, ⟨_, _, hTO⟩, ⟨_, g1, rfl, rfl⟩, ⟨_, g2, rfl, rfl⟩⟩, fun y hy => fr y (own2_le hy), q⟩
theorem pi_zipTX (K : PySem.W.Frag) {X : Cx} {e e2 : Expr} {ta : TA} {p pos tpos : Pos} {elts : List Expr} {kk : Nat} (hg : Gl X "zip") (hm : X.mg "zip" = none) (ha : PA X [e, e2] ta)
    (hs : starEach [e, e2] X.env = (false, eval e X.env) :: starEach [e2] X.env := by rfl) (hpl : (backTo pos (starEach [e2] X.env)).any (·.1) = false := by rfl) (hK : X.K = K := by rfl) :
    PI X (.Tuple elts kk tpos) (.Call (.Name "zip" p) [e, e2] [] pos) (iZipTX K ta) := by
  subst hK
  refine ⟨fun pins s σ H R I h => ?_⟩
  refine Call_ (ld_blt I hg hm PyProof.Rows.boot_zip (PyProof.Rows.callWith_type1 (thn (ha.run pos pins s σ H _ I h) fun us s1 ⟨vs, H1, I1, r1, q1⟩ => ?_) hs hpl))
  obtain ⟨a, b, xs, ys, rfl, q1⟩ := q1
  obtain ⟨u1, us, rfl, ra, r1⟩ : ∃ u1 vs', us = u1 :: vs' ∧ RelV (.ref a) u1 ∧ Vals [.ref b] vs' := by
    cases r1 with
    | cons x y => exact ⟨_, _, rfl, x, y⟩
  obtain ⟨u2, rfl, rb⟩ := vals1 r1
  cases (show u1 = Value.ref a from ra)
  cases (show u2 = Value.ref b from rb)
  rcases q1 with ⟨qx, qy, q⟩ | ⟨hqx, hqy, q⟩
  · exact zipTL_end I1 qx qy q
  · obtain ⟨its, rv, p1, _⟩ := I1.tuple hqx
    obtain ⟨its2, rv2, p2, _⟩ := I1.tuple hqy
    obtain ⟨o1, ho1, _⟩ := id p1
    obtain ⟨o2, ho2, _⟩ := id p2
    refine RZ.call_zipT (show s1.heap.IsTuple a its.toArray from p1) (show s1.heap.IsTuple b its2.toArray from p2) fun h' hz hTI hTO h1 h2 hsz hk => wpAny_pyIter_zip hz ?_
    have I2 : Inv X pins σ H1 { s1 with heap := h' } := I1.kept (t' := s1.toks) hk
    refine ⟨s1.heap.objs.size + 4, own2 (s1.heap.objs.size + 4) (s1.heap.objs.size + 2) (s1.heap.objs.size + 3) s1.heap.objs.size (s1.heap.objs.size + 1), _, _, H1, rfl, I2, RZ.turn_zipT (PySem.W.ktu_apart s1.heap.objs.size a b (Heap.lt_size ho1) (Heap.lt_size ho2)), ⟨hz, hTI, ⟨_, _, hTO⟩, h1, h2⟩, fun y hy => ?_, q⟩
    have hle := own2_le hy
    exact I1.fpOk hle (I1.hok.fresh hle)
theorem walk_zipTL {K : PySem.W.Frag} {a b : Addr} {xs ys : List V} {n : Nat} (h1 : xs.length = n) (h2 : ys.length = n) : Walk (ItTL K a b) n (fun H => SqT K H a xs ∧ SqL K H b ys) (YPair (fun i => xs[i]?) (fun i => ys[i]?)) := by
  refine ⟨fun i H hi q => ⟨xs, ys, xs[i]'(by omega), ys[i]'(by omega), q, by simp, by simp⟩, fun H q => ⟨xs, ys, q, by omega, by omega, .inl (by omega)⟩, fun i H v H' _ q y => ?_⟩
  obtain ⟨T, x, z, e1, e2, e3, e4, e5⟩ := y
  exact ⟨T, x, z, e1, e2, e3, e4 xs q.1, e5 ys q.2⟩
end Z

set_option Elab.async false
set_option linter.all false
set_option maxRecDepth 100000
set_option maxHeartbeats 400000
namespace Z
open PySem PySem.Spec PyProof.Rows L2
/-! ### sorted(xs), xs a list of data -/
theorem each_lift {α β γ : Type} {R : α → β → Prop} {R' : γ → β → Prop} {S : γ → α → Prop} (f : ∀ a b, R a b → ∃ c, S c a ∧ R' c b) : ∀ {as : List α} {bs : List β}, PySem.W.EachIs R as bs → ∃ cs : List γ, Paired S cs as ∧ PySem.W.EachIs R' cs bs
  | _, _, .nil => ⟨[], .nil, .nil⟩
  | a :: as, b :: bs, .cons h t => by
    obtain ⟨cs, h1, h2⟩ := each_lift f t
    obtain ⟨c, h3, h4⟩ := f a b h
    exact ⟨c :: cs, .cons h3 h1, .cons h4 h2⟩
theorem rdAll {h : Heap} : ∀ {vs : List Value} {ds : List PyData} {as : List Addr}, ReadsAll h vs ds as → vs.length = ds.length ∧ ∀ (j : Nat) v d, vs[j]? = some v → ds[j]? = some d → ∃ as, Reads h v d as
  | [], _, _, hh => by
    cases hh
    exact ⟨rfl, fun j v d h => by simp at h⟩
  | v :: vs, _, _, hh => by
    cases hh with
    | cons h1 h2 =>
      have ih := rdAll h2
      refine ⟨by rw [List.length_cons, List.length_cons, ih.1], fun j v d e1 e2 => ?_⟩
      cases j with
      | zero =>
        cases e1
        cases e2
        exact ⟨_, h1⟩
      | succ j => exact ih.2 j v d (by simpa using e1) (by simpa using e2)
def rSortedD (K : PySem.W.Frag) : List V → Hp → VK → Prop := fun vs H Q => ∃ (a : Addr) (xs : List V) (β : Type) (enc : β → PyData) (bs : List β), vs = [.ref a] ∧ SqL K H a xs ∧ DpAll K H xs (bs.map enc) ∧ PySem.W.AllAlike (bs.map enc) ∧ PySem.W.Sortable (bs.map enc) ∧ bs.length ≤ 10000 ∧ (∀ b ∈ bs, (enc b).depth ≤ 50) ∧
  ∀ (ys : List V) (p : Addr), PySem.W.EachIs (fun y b => ∃ j : Nat, xs[j]? = some y ∧ bs[j]? = some b) ys (bs.mergeSort (PySem.W.dataLe false enc)) → H p = none → Q (.ref p) (upd H p (.lst ys))
theorem cr_sortedD (K : PySem.W.Frag) {X : Cx} (hu : X.A.units + 64 < cLine) (hK : X.K = K := by rfl) : CallR X (.builtin "sorted") (rSortedD K) := by
  subst hK
  intro pins s σ H vs us Q I r h
  obtain ⟨a, xs, β, enc, bs, rfl, hs, hd, hal, hso, hl, hdep, q⟩ := h
  obtain ⟨its, rv, hp, hz⟩ := I.list hs
  obtain ⟨u, rfl, ru⟩ := vals1 r
  obtain rfl : u = Value.ref a := ru
  obtain ⟨as, hr⟩ := Dp.readsAll I _ xs its hd rv
  have le1 : its.length = xs.length := rv.length.symm
  have ra := @rdAll s.heap
  have le2 : its.length = bs.length := by
    have := (ra hr).1
    rwa [List.length_map] at this
  have zx : ∀ pz ∈ its.zip bs, ∃ j : Nat, its[j]? = some pz.1 ∧ bs[j]? = some pz.2 := by
    intro pz hpz
    obtain ⟨j, hj⟩ := List.mem_iff_getElem?.mp hpz
    obtain ⟨h1, h2⟩ := List.getElem?_zip_eq_some.mp hj
    exact ⟨j, h1, h2⟩
  refine PySem.W.sorted_data (enc := enc) (bs := bs) (R := fun v b => ∃ j : Nat, its[j]? = some v ∧ bs[j]? = some b) hp.isList (PySem.W.EachIs.of_zip le2 zx) (PySem.W.EachIs.of_zip le2 fun pz hpz => ?_) hal hso (by have : sizeLine = 16777216 := rfl; omega) (fun b hb => by have := hdep b hb; omega) fun out lo eo => ?_
  · obtain ⟨j, e1, e2⟩ := zx pz hpz
    exact (ra hr).2 j _ _ e1 (by rw [List.getElem?_map, e2]; rfl)
  · obtain ⟨ys, v1, v2⟩ := each_lift (S := L2.RelV) (R' := fun y b => ∃ j : Nat, xs[j]? = some y ∧ bs[j]? = some b) (fun v b h => by
      obtain ⟨j, e1, e2⟩ := h
      have hj : j < its.length := (List.getElem?_eq_some_iff.mp e1).1
      obtain ⟨u, hu, ru⟩ := rv.get (List.getElem?_eq_getElem (show j < xs.length by omega))
      rw [e1] at hu
      cases hu
      exact ⟨_, ru, j, List.getElem?_eq_getElem (by omega), e2⟩) eo
    obtain ⟨e, he⟩ := sortedAll_at s.heap its out.toArray
    have ly : ys.length = out.length := Paired.length v1
    refine ⟨.ref (s.heap.objs.size + 1), upd H (s.heap.objs.size + 1) (.lst ys), I.laid (fun b o e => sortedAll_old e) (by omega) ⟨by have : sizeLine = 16777216 := rfl; omega, out, e, v1, he⟩, rfl, q ys _ v2 (I.hok.fresh (by omega))⟩
/-- what is sorted is what was there -/
theorem each_mem {xs : List V} {β : Type} {bs cs : List β} {ys : List V} (h : PySem.W.EachIs (fun y b => ∃ j : Nat, xs[j]? = some y ∧ bs[j]? = some b) ys cs) {B : List Addr} {H : Hp} {enc : β → PyData} (hA : DtA B H xs (bs.map enc)) : DtA B H ys (cs.map enc) := by
  induction h with
  | nil => exact .nil
  | cons h t ih =>
    obtain ⟨j, e1, e2⟩ := h
    exact .cons (hA.two e1 (by rw [List.getElem?_map, e2]; rfl)) ih
end Z

set_option Elab.async false
set_option linter.all false
set_option maxRecDepth 100000
namespace Z
open PySem PySem.Spec PyProof.Rows L2
theorem Fr.scale {M A N : Nat} {x : Rat} (h : Fr M A x) (hN : 0 < N) : Fr (M * N) (A * N) x := by
  obtain ⟨a, rfl, ha⟩ := h
  refine ⟨a * N, ?_, ?_⟩
  · rw [Int.natCast_mul, Rat.divInt_mul_right (by omega)]
  · rw [Int.natAbs_mul, Int.natAbs_natCast]
    exact Nat.mul_le_mul_right _ ha
end Z

set_option Elab.async false
set_option linter.all false
set_option maxRecDepth 100000
set_option maxHeartbeats 400000
namespace Z
open PySem PySem.Spec PyProof.Rows L2
/-! ### x < y, x and y data alike -/
def rLtD (K : PySem.W.Frag) : R2 := fun x y H Q => ∃ da db, Dp K H x da ∧ Dp K H y db ∧ PySem.W.alike da db = true ∧ da ≠ .none ∧ da.depth ≤ 50 ∧ Q (.bl (PySem.W.dataLt da db)) H
theorem op_ltD (K : PySem.W.Frag) {X : Cx} (hu : X.A.units + 64 < cLine) (hK : X.K = K := by rfl) : OpR X (compareOp .Lt) (rLtD K) := by
  subst hK
  intro pins s σ H x y v u Q I rx ry h
  obtain ⟨d, e, hd, he, ha, hn, hdp, q⟩ := h
  obtain ⟨as, r1⟩ := Dp.reads I d x v hd rx
  obtain ⟨bs, r2⟩ := Dp.reads I e y u he ry
  exact PySem.W.lt_data r1 r2 ha hn (by have := Nat.min_le_left d.depth e.depth; omega) ⟨.bl _, H, I, rfl, q⟩
theorem lt_eI (xs ys : List Int) : PySem.W.dataLt (eI xs) (eI ys) = decide (xs < ys) := by
  unfold eI
  rw [PySem.W.dataLt_list]
  exact PySem.W.dataLt_ints xs ys
theorem alike_eI (xs ys : List Int) : PySem.W.alike (eI xs) (eI ys) = true := by
  unfold eI
  simp [PySem.W.alike, PySem.W.alike_ints]
end Z

set_option Elab.async false
set_option linter.all false
set_option maxRecDepth 100000
namespace Z
open PySem PySem.Spec PyProof.Rows L2
/-! ### a range as a value; xs[::s] -/
theorem cr_range1 {X : Cx} : CallR X (.type "range") (fun vs H Q => ∃ j, vs = [V.int j] ∧ ∀ p, H p = none → Q (.ref p) (upd H p (.rng 0 j))) := by
  intro pins s σ H vs us Q I r h
  obtain ⟨j, rfl, q⟩ := h
  obtain ⟨u1, rfl, rj⟩ := vals1 r
  obtain ⟨u, rfl⟩ := rj
  refine call_range_1 ⟨.ref s.heap.objs.size, upd H s.heap.objs.size (.rng 0 j), I.laid (fun b o e => Heap.get?_push_of_some _ e) (Nat.le_refl _) ?_, rfl, q _ (I.hok.fresh (Nat.le_refl _))⟩
  exact ⟨_, _, _, Heap.get?_push_size _ rfl⟩
theorem op_inSK (K : PySem.W.Frag) {X : Cx} (h : X.K = K := by rfl) : OpR X (compareOp .In) (rIn K false) := h ▸ op_in_seq
def stepI (b : Bool) : Int := if b = true then -1 else 1
def tStepL (K : PySem.W.Frag) (te ts : TE) : TE := fun σ H Q => te σ H fun x H1 => tPart ts σ H1 fun o H2 => ∃ a xs b, x = .ref a ∧ o = some (stepI b) ∧ SqL K H2 a xs ∧ ∀ p, H2 p = none → Q (.ref p) (upd H2 p (.lst (if b = true then xs.reverse else xs)))
theorem pe_stepL (K : PySem.W.Frag) {X : Cx} {e st : Expr} {te ts : TE} {p3 pos : Pos} (he : PE X e te) (hs : PE X st ts) (hK : X.K = K := by rfl) : PE X (.Subscript e (.Slice none none (some st) p3) pos) (tStepL K te ts) := by
  subst hK
  refine ⟨fun pins s σ H Q I h => ?_⟩
  refine Subscript_ (thn (he.run pins s σ H _ I h) fun v s1 ⟨x, H1, I1, r1, q1⟩ => ?_)
  have hst : PO X (some st) (tPart ts) := po_some hs
  refine wpAny_Slice (thn (po_none.run pins s1 σ H1 (fun o H2 => o = none ∧ H2 = H1) I1 ⟨rfl, rfl⟩) fun vl s2 ⟨l, H2, I2, pl, el, e2⟩ => ?_)
  subst el e2
  refine thn (po_none.run pins s2 σ H2 (fun o H3 => o = none ∧ H3 = H2) I2 ⟨rfl, rfl⟩) fun vu s3 ⟨u, H3, I3, pu, eu, e3⟩ => ?_
  subst eu e3
  refine thn (hst.run pins s3 σ H3 _ I3 q1) fun vs s4 ⟨o, H4, I4, ps, q4⟩ => ?_
  obtain ⟨a, xs, b, ex, eo, hx, q⟩ := q4
  subst ex eo
  cases r1
  have I5 : Inv X pins σ H4 { s4 with heap := s4.heap.push { cls := .type "slice", data := .fields #[vl, vu, vs] } } := I4.kept (t' := s4.toks) fun b ob q => Heap.get?_push_of_some _ q
  obtain ⟨its, r, ht, hz⟩ := I5.list hx
  have hlen := r.length
  show wpAny (model X.prog X.w) X.A (subscriptTail e (.Slice none none (some st) p3) (.ref a) (.ref s4.heap.objs.size)) (EP X pins σ Q) X.xe { s4 with heap := s4.heap.push { cls := .type "slice", data := .fields #[vl, vu, vs] } }
  refine tail_any (ops := [.ref a, .ref s4.heap.objs.size]) ht.isList.typeIs (PySem.slot_list_getitem.lookup) ?_ (by with_unfolding_all rfl)
  refine wpAny_getItem_list_slice ht.isList (Heap.IsSliceOf.new _ vl vu vs) pl pu ps (by cases b <;> decide) ?_ (by rw [List.size_toArray]; omega)
  cases b with
  | true =>
    show EP X pins σ Q (.ref _) _
    have e1 : slicePick its.toArray none none (some (stepI true)) = its.reverse.toArray := PySem.W.krv_pick _
    rw [e1]
    refine ⟨.ref _, _, I5.laid (t' := s4.toks) (o := .lst xs.reverse) (fun b ob q => Heap.get?_push_of_some _ q) (Nat.le_refl _) ?_, rfl, q _ (I5.hok.fresh (Nat.le_refl _))⟩
    exact ⟨by rw [List.length_reverse]; exact hz, _, 0, r.reverse, Heap.get?_push_size _ rfl⟩
  | false =>
    have e1 : slicePick its.toArray none none (some (stepI false)) = its.toArray := slicePick_all _
    rw [e1]
    refine ⟨.ref _, _, I5.laid (t' := s4.toks) (o := .lst xs) (fun b ob q => Heap.get?_push_of_some _ q) (Nat.le_refl _) ?_, rfl, q _ (I5.hok.fresh (Nat.le_refl _))⟩
    exact ⟨hz, _, 0, r, Heap.get?_push_size _ rfl⟩
end Z

set_option Elab.async false
set_option linter.all false
set_option maxRecDepth 100000
set_option maxHeartbeats 800000
namespace Z
open PySem PySem.Spec PyProof.Rows L2
/-! ### dict(xs) of pairs whose first is a tuple -/
def mergeH (acc more : List (List L2.Key × Addr × Value)) : List (List L2.Key × Addr × Value) := more.foldl (fun a q => storedH a q.1 q.2.1 q.2.2) acc
theorem storedH_len (acc : List (List L2.Key × Addr × Value)) (k : List L2.Key) (a : Addr) (v : Value) : (storedH acc k a v).length ≤ acc.length + 1 := by
  unfold storedH
  split <;> simp
def mergeT (acc more : List (List L2.Key × V)) : List (List L2.Key × V) := more.foldl (fun a q => putK a q.1 q.2) acc
theorem mergeT_len : ∀ (more acc : List (List L2.Key × V)), (mergeT acc more).length ≤ acc.length + more.length
  | [], _ => Nat.le_refl _
  | q :: more, acc => by
    have h1 := mergeT_len more (putK acc q.1 q.2)
    have h2 := length_putK acc q.1 q.2
    show (mergeT (putK acc q.1 q.2) more).length ≤ _
    rw [List.length_cons]
    omega
theorem mergeT_nd : ∀ (more acc : List (List L2.Key × V)), ((acc ++ more).map (·.1)).Nodup → mergeT acc more = acc ++ more
  | [], acc, _ => by rw [List.append_nil]; rfl
  | q :: more, acc, nd => by
    have h : valV acc q.1 = none := by
      unfold valV
      rw [Option.map_eq_none_iff, List.find?_eq_none]
      intro z hz
      rw [List.map_append, List.nodup_append] at nd
      have := nd.2.2 z.1 (List.mem_map.mpr ⟨z, hz, rfl⟩) q.1 (by simp)
      simpa using this
    show mergeT (putK acc q.1 q.2) more = _
    rw [putK_new q.2 h, mergeT_nd more _ (by simpa using nd)]
    simp
section
variable {prog : Program} {w : World} {A : Around} {E : Value → Shared → Prop}
theorem upd_loopT {R : Result → Shared → Prop} {S I l : Addr} {items : Array Value} {res : Value} (hh : A.handled = none) (hu : A.in1.units < cLine) (hlI : l ≠ I) (hSI : S ≠ I) (hSl : S ≠ l) :
    ∀ (rest : List (List L2.Key × Addr × Value)) (i : Nat) (acc : List (List L2.Key × Addr × Value)) (ix : Int) (t : Tok) (s : Shared), items.size = i + rest.length → acc.length + rest.length ≤ sizeLine →
      (∀ (j : Nat) (q : List L2.Key × Addr × Value), rest[j]? = some q → ∃ b : Addr, items[i + j]? = some (.ref b) ∧ b ≠ S ∧ b ≠ I ∧ IsTup s.heap b #[.ref q.2.1, q.2.2] ∧ q.2.1 ≠ S ∧ q.2.1 ≠ I ∧ (tupleKind (mixKind prog w)).is s.heap q.1 q.2.1) →
      (∀ x ∈ acc, x.2.1 ≠ I) →
      s.heap.IsListIter I l i → s.heap.IsList l items → s.heap.DictOfH (tupleKind (mixKind prog w)) S acc →
      (∀ h' tk, h'.DictOfH (tupleKind (mixKind prog w)) S (mergeH acc rest) → (∀ b o, b ≠ S → b ≠ I → s.heap.get? b = some o → h'.get? b = some o) → R (.ok (.ret res)) { s with heap := h', toks := tk }) →
      codeAny (model prog w) A (.builtin "dict.update.loop" ⟨[.ref S, .ref I, .int ix t, res], []⟩) R s := by
  have kp : ∀ {h h' : Heap} {k : List L2.Key} {a : Addr}, a ≠ I → Heap.ExtBut I h h' → (tupleKind (mixKind prog w)).is h k a → (tupleKind (mixKind prog w)).is h' k a := by
    intro h h' k a n he x
    obtain ⟨o, its, m, ho, hc, hd, hi⟩ := x
    exact ⟨o, its, m, he _ _ n ho, hc, hd, hi⟩
  have dp : ∀ {h h' : Heap} {acc : List (List L2.Key × Addr × Value)}, (∀ x ∈ acc, x.2.1 ≠ I) → Heap.ExtBut I h h' → h.DictOfH (tupleKind (mixKind prog w)) S acc → h'.DictOfH (tupleKind (mixKind prog w)) S acc := by
    intro h h' acc n he x
    have x0 := x
    obtain ⟨_, _, _, _, _, _, _, his, _⟩ := x
    exact x0.at' (fun o e => he _ _ hSI e) fun y hy => kp (n y hy) he (his y hy)
  intro rest
  induction rest with
  | nil =>
    intro i acc ix t s hsz hln ht hn hit hl hm hR
    refine codeAny_builtin ud_entry ?_
    rw [Around.under_plainId ud_plain _]
    show wpAny _ A.in1 (pyNext (.ref I) >>= _) _ _ s
    refine wpAny_bind (wpAny_pyNext_list_end (A := A.in1) hh hit hl (by first | exact Array.getElem?_eq_none (Nat.le_of_eq hsz) | (simp at hsz; simp; omega)) fun h' he => ?_)
    show wpAny _ A.in1 (Builtin.Dict.addKeywords S [] >>= _) _ _ _
    refine wpAny_bind (wpAny_pure (wpAny_pure ?_))
    exact hR h' s.toks (dp hn he hm) fun b o _ hb e => he b o hb e
  | cons q rest ih =>
    intro i acc ix t s hsz hln ht hn hit hl hm hR
    obtain ⟨b, hb, hbS, hbI, htup, hqS, hqI, hk⟩ := ht 0 q rfl
    rw [List.length_cons] at hsz hln
    refine codeAny_builtin ud_entry ?_
    rw [Around.under_plainId ud_plain _]
    show wpAny _ A.in1 (pyNext (.ref I) >>= _) _ _ s
    refine wpAny_bind (wpAny_pyNext_list_item (x := .ref b) hit hl (by simpa using hb) fun h1 hit1 hs1 => ?_)
    have ht1 : IsTup h1 b #[.ref q.2.1, q.2.2] := htup.extBut hs1.extBut hbI
    have hl1 : h1.IsList l items := hl.extBut hs1.extBut hlI
    have hm1 : h1.DictOfH (tupleKind (mixKind prog w)) S acc := dp hn hs1.extBut hm
    have hk1 := kp hqI hs1.extBut hk
    obtain ⟨o, ho, hc, n, hd⟩ := id ht1
    show wpAny _ A.in1 (holding [Value.ref b] _ >>= _) _ _ _
    refine wpAny_bind (wpAny_holding ?_)
    refine wpAny_bind (wpAny_tryCatch ?_)
    unfold Builtin.Dict.pairItems
    refine wpAny_bind (wpAny_typeOf (T := "tuple") ⟨o, ho, hc⟩ ?_)
    rw [if_pos (by first | decide | rfl | simp)]
    refine wpAny_bind (wpAny_seqItems ho hd (wpAny_pure ?_))
    show wpAny _ A.in1 (holding [Value.ref q.2.1, q.2.2] (dictSet S (.ref q.2.1) q.2.2)) _ _ _
    obtain ⟨oS, esS, epS, hoS, _, hdS, _⟩ := id hm1
    refine wpAny_holding (wpAny_dictSet_heap (knd := tupleKind (mixKind prog w)) (k := q.1) (a := q.2.1) hu hk1 hm1 (fun h2 hm2 hs2 => ?_) (by omega))
    have kp2 : ∀ {k : List L2.Key} {a : Addr}, (tupleKind (mixKind prog w)).is h1 k a → (tupleKind (mixKind prog w)).is h2 k a := fun x => (tupleKind (mixKind prog w)).keeps x hoS hdS hs2
    refine wpAny_pure ⟨plainId_quiet ud_plain _, ih (i + 1) (storedH acc q.1 q.2.1 q.2.2) (ix + 1) 0 _ (show items.size = i + 1 + rest.length by omega) ?_ (fun j q' e => ?_) (fun x hx => ?_) ?_ ?_ hm2 fun h' tk hd' k => ?_⟩
    · have z := storedH_len acc q.1 q.2.1 q.2.2
      omega
    · obtain ⟨b', hb', hbS', hbI', htup', hqS', hqI', hk'⟩ := ht (j + 1) q' (by simpa using e)
      refine ⟨b', ?_, hbS', hbI', (htup'.extBut hs1.extBut hbI').extBut hs2.extBut hbS', hqS', hqI', kp2 (kp hqI' hs1.extBut hk')⟩
      rw [show i + 1 + j = i + (j + 1) by omega]
      exact hb'
    · rcases mem_storedH_key hx with ⟨y, hy, e1, e2⟩ | ⟨e1, e2⟩
      · rw [e2]; exact hn y hy
      · rw [e2]; exact hqI
    · exact hit1.at fun o' e => hs2.extBut I o' (Ne.symm hSI) e
    · exact hl1.extBut hs2.extBut (Ne.symm hSl)
    · exact hR h' tk hd' fun c oc h3 h4 e => k c oc h3 h4 (hs2.extBut c oc h3 (hs1.extBut c oc h4 e))
theorem call_dict_pairsT {s : Shared} {l : Addr} {ol : Obj} {items : Array Value} {n : Nat} {prs : List (List L2.Key × Addr × Value)} {Q : Value → Shared → Prop} (hh : A.handled = none) (hu : A.units + 64 < cLine) (hl : s.heap.get? l = some ol) (hc : ol.cls = .type "list") (hd : ol.dict = none)
    (hdat : ol.data = .seq items n) (hsz : items.size = prs.length) (hln : prs.length ≤ sizeLine)
    (ht : ∀ (j : Nat) (q : List L2.Key × Addr × Value), prs[j]? = some q → ∃ b : Addr, items[j]? = some (.ref b) ∧ IsTup s.heap b #[.ref q.2.1, q.2.2] ∧ (tupleKind (mixKind prog w)).is s.heap q.1 q.2.1)
    (h : ∀ h' tk, h'.DictOfH (tupleKind (mixKind prog w)) s.heap.objs.size (mergeH [] prs) → (∀ b o, s.heap.get? b = some o → h'.get? b = some o) → Q (.ref s.heap.objs.size) { s with heap := h', toks := tk }) :
    wpAny (model prog w) A (call (.type "dict") [.ref l]) Q E s := by
  refine callType_codes (Q₁ := fun obj s₁ => obj = .ref s.heap.objs.size ∧ s₁ = { s with heap := s.heap.push { cls := .type "dict", data := .dict #[] } }) PySem.F.kt_called_dict (PySem.F.kt_typeCall_dict_1 _) PySem.F.entry_dict_init (kt_code_dict_new _ ⟨rfl, rfl⟩) ?_
  rintro obj s₁ ⟨rfl, rfl⟩
  have hnew : (s.heap.push { cls := .type "dict", data := .dict #[] }).DictOfH (tupleKind (mixKind prog w)) s.heap.objs.size [] := Heap.DictOfH.new s.heap
  have k0 : ∀ b o, s.heap.get? b = some o → (s.heap.push { cls := .type "dict", data := .dict #[] }).get? b = some o := fun b o e => Heap.get?_push_of_some _ e
  refine ⟨hnew.typeIs, PySem.F.args_dict_init_2 _ _, ?_⟩
  unfold Builtin.«dict.__init__»
  refine wpAny_bind ?_
  unfold Builtin.Dict.selfAndRest
  refine wpAny_bind (wpAny_notOrdered_dict hnew.typeIs ?_)
  show wpAny _ _ (pure (s.heap.objs.size, [Value.ref l])) _ _ _
  refine wpAny_pure ?_
  show wpAny _ _ (Builtin.Dict.updateFrom "dict.__init__" s.heap.objs.size (.ref l) [] .none) _ _ _
  unfold Builtin.Dict.updateFrom
  refine wpAny_bind (wpAny_typeOf (T := "list") ⟨ol, k0 _ _ hl, hc⟩ ?_)
  rw [if_pos (by first | decide | rfl | simp)]
  refine wpAny_bind (miss_list (k0 _ _ hl) hc hdat hd hh fun h1 tk1 hk1 => ?_)
  rw [if_pos (show (none : Option Value).isNone = true from rfl)]
  refine wpAny_bind (wpAny_rule ?_)
  have hl1 : h1.IsList l items := ⟨ol, hk1 _ _ (k0 _ _ hl), hc, n, hdat⟩
  have hS1 : s.heap.objs.size < h1.objs.size := by
    have e : (s.heap.push { cls := .type "dict", data := .dict #[] }).get? s.heap.objs.size = some { cls := .type "dict", data := .dict #[] } := Heap.get?_push_size _ rfl
    exact Heap.lt_size (hk1 _ _ e)
  refine wpAny_bind (wpAny_pyIter_list hl1 ?_)
  have k2 : ∀ b o, h1.get? b = some o → (h1.push { cls := .type "list_iterator", data := .fields #[.ref l, .int 0 0] }).get? b = some o := fun b o e => Heap.get?_push_of_some _ e
  have hlt : l < s.heap.objs.size := Heap.lt_size hl
  have kk : ∀ {k : List L2.Key} {a : Addr}, (tupleKind (mixKind prog w)).is s.heap k a → (tupleKind (mixKind prog w)).is (h1.push { cls := .type "list_iterator", data := .fields #[.ref l, .int 0 0] }) k a := by
    intro k a x
    obtain ⟨o, its, m, ho, hc, hd, hi⟩ := x
    exact ⟨o, its, m, k2 _ _ (hk1 _ _ (k0 _ _ ho)), hc, hd, hi⟩
  have key := upd_loopT (prog := prog) (w := w) (A := A.in1) (R := wants (fun r s₂ => r = .none ∧ Q (.ref s.heap.objs.size) s₂) E) (S := s.heap.objs.size) (I := h1.objs.size) (l := l) (items := items) (res := Value.none) hh (by show A.units + 1 + 1 < cLine; omega)
    (Nat.ne_of_lt (Nat.lt_trans hlt hS1)) (Nat.ne_of_lt hS1) (Nat.ne_of_gt hlt) prs 0 [] 0 0
    { s with heap := h1.push { cls := .type "list_iterator", data := .fields #[.ref l, .int 0 0] }, toks := tk1 } (by rw [hsz, Nat.zero_add]) (by rw [List.length_nil, Nat.zero_add]; exact hln)
    (fun j q e => by
      obtain ⟨b, e1, e2, e3⟩ := ht j q e
      have hb : b < s.heap.objs.size := e2.lt
      have hq : q.2.1 < s.heap.objs.size := by
        obtain ⟨o, its, m, ho, _⟩ := e3
        exact Heap.lt_size ho
      exact ⟨b, by rw [Nat.zero_add]; exact e1, Nat.ne_of_lt hb, Nat.ne_of_lt (Nat.lt_trans hb hS1), e2.keeps fun c o z => k2 _ _ (hk1 _ _ (k0 _ _ z)), Nat.ne_of_lt hq, Nat.ne_of_lt (Nat.lt_trans hq hS1), kk e3⟩)
    (fun _ h => nomatch h)
    ⟨_, Heap.get?_push_size _ rfl, rfl, rfl⟩ (hl1.at fun o e => k2 _ _ e) (hnew.at' (fun o e => k2 _ _ (hk1 _ _ e)) fun _ h => nomatch h)
    (fun h' tk hd' k => ⟨rfl, h h' tk hd' fun b o e => k b o (Nat.ne_of_lt (Heap.lt_size e)) (Nat.ne_of_lt (Nat.lt_trans (Heap.lt_size e) hS1)) (k2 _ _ (hk1 _ _ (k0 _ _ e)))⟩)
  first
    | exact wpAny_pure ⟨plainId_quiet ud_plain _, key⟩
    | exact wpAny_bind (wpAny_pure (wpAny_pure ⟨plainId_quiet ud_plain _, key⟩))
end
section
variable {X : Cx}
/-- a pair (key, value), the key a tuple of ints and texts -/
def prT (K : PySem.W.Frag) (H : Hp) (p : Addr) (kv : List L2.Key × V) : Prop := ∃ b, SqT K H p [.ref b, kv.2] ∧ H b = some (.tup (kv.1.map kV))
theorem pairs_ofT {pins : List (Addr × Obj)} {σ : L2.St} {H : Hp} {s : Shared} (I : Inv X pins σ H s) : ∀ {ps : List Addr} {kvs : List (List L2.Key × V)}, Paired (prT X.K H) ps kvs →
    ∃ prs : List (List L2.Key × Addr × Value), KT H kvs prs ∧ prs.length = ps.length ∧ ∀ (j : Nat) (q : List L2.Key × Addr × Value), prs[j]? = some q → ∃ b : Addr, ps[j]? = some b ∧ IsTup s.heap b #[.ref q.2.1, q.2.2] ∧ (tupleKind (mixKind X.prog X.w)).is s.heap q.1 q.2.1
  | _, _, .nil => ⟨[], .nil, rfl, fun j q e => by simp at e⟩
  | _, _, .cons (a := p) (b := kv) h t => by
    obtain ⟨prs, r, hl, hp⟩ := pairs_ofT I t
    obtain ⟨c, h1, h2⟩ := h
    obtain ⟨its, rv, ht, _⟩ := I.tuple h1
    obtain ⟨u, y, ei, ru, ry⟩ := vals2 rv
    subst ei
    cases (show u = Value.ref c from ru)
    refine ⟨(kv.1, c, y) :: prs, .cons ⟨rfl, h2, ry⟩ r, by rw [List.length_cons, List.length_cons, hl], fun j q e => ?_⟩
    cases j with
    | zero =>
      have e' : (kv.1, c, y) = q := Option.some.inj e
      subst e'
      exact ⟨p, rfl, ht, key_of I.hok h2⟩
    | succ j =>
      obtain ⟨b, e1, e2, e3⟩ := hp j q (by simpa using e)
      exact ⟨b, by simpa using e1, e2, e3⟩
theorem KT.merge {H : Hp} : ∀ {more : List (List L2.Key × V)} {rs : List (List L2.Key × Addr × Value)} {kvs : List (List L2.Key × V)} {vs : List (List L2.Key × Addr × Value)}, KT H more rs → KT H kvs vs → KT H (mergeT kvs more) (mergeH vs rs)
  | _, _, _, _, .nil, h => h
  | _, _, _, _, .cons (a := p) (b := q) h t, h2 => by
    obtain ⟨e1, e2, e3⟩ := h
    have h3 := h2.put p.1 (b := q.2.1) e2 e3
    rw [e1] at h3
    have := KT.merge t h3
    show KT H (mergeT (putK _ p.1 p.2) _) (mergeH (storedH _ q.1 q.2.1 q.2.2) _)
    rw [e1]
    exact this
def rDictT (K : PySem.W.Frag) : List V → Hp → VK → Prop := fun xs H Q => ∃ (a : Addr) (ps : List Addr) (kvs : List (List L2.Key × V)), xs = [.ref a] ∧ SqL K H a (ps.map V.ref) ∧ Paired (prT K H) ps kvs ∧ ∀ p, H p = none → Q (.ref p) (upd H p (.dT (mergeT [] kvs)))
theorem call_dictT (K : PySem.W.Frag) (hcalm : X.calm = true) (hu : X.A.units + 64 < cLine) (hK : X.K = K := by rfl) : CallR X (.type "dict") (rDictT K) := by
  subst hK
  intro pins s σ H xs us Q I r q
  obtain ⟨a, ps, kvs, ex, hq, hp, q⟩ := q
  subst ex
  obtain ⟨u, eu, rx⟩ := vals1 r
  subst eu
  cases rx
  obtain ⟨its, rv, pl, hz⟩ := I.list hq
  have ei := refs_at rv
  subst ei
  rw [List.length_map] at hz
  obtain ⟨prs, rel, hl, hpr⟩ := pairs_ofT I hp
  obtain ⟨o, n, ho, hc, hd, hdat⟩ := pl
  refine call_dict_pairsT (prs := prs) (I.ok.hd hcalm) hu ho hc hd hdat (by simp [hl]) (by rw [hl]; exact hz) (fun j q' e => ?_) fun h' tk hd' k => ?_
  · obtain ⟨b, e1, e2, e3⟩ := hpr j q' e
    exact ⟨b, by simp [e1], e2, e3⟩
  · have hm : (s.heap.objs.size == sysModules) = false := beq_eq_false_iff_ne.mpr (Nat.ne_of_gt I.big)
    have hlen : (mergeT [] kvs).length ≤ sizeLine := by
      refine Nat.le_trans (mergeT_len kvs []) ?_
      rw [List.length_nil, Nat.zero_add, Paired.length rel, hl]
      exact hz
    have fr := I.hok.fresh (Nat.le_refl s.heap.objs.size)
    have hkt : KT (upd H s.heap.objs.size (.dT (mergeT [] kvs))) (mergeT [] kvs) (mergeH [] prs) := (KT.merge rel .nil).keeps fun b ys e => by
      rw [upd_ne (ne_of_none e fr)]
      exact e
    obtain ⟨od, es, ep, h1, h2, h3, h4, _, h5⟩ := hd'
    exact ⟨.ref s.heap.objs.size, upd H s.heap.objs.size (.dT (mergeT [] kvs)), I.laid (t' := tk) k (Nat.le_refl _) (show ObjOk X.prog X.w _ _ _ (.dT (mergeT [] kvs)) from ⟨hlen, hm, mergeH [] prs, hkt, od, es, ep, h1, h2, h3, h4, h5⟩), rfl, q _ fr⟩
end
theorem pi_revK (K : PySem.W.Frag) {X : Cx} {tg e : Expr} {ta : TA} {p pos : Pos} (hg : Gl X "reversed") (hm : X.mg "reversed" = none) (ha : PA X [e] ta) (hs : starEach [e] X.env = [(false, eval e X.env)] := by rfl) (hK : X.K = K := by rfl) : PI X tg (.Call (.Name "reversed" p) [e] [] pos) (iRev K ta) := hK ▸ pi_reversed hg hm ha hs
/-- a comprehension that leaves all as it was: of each thing made what is known of it -/
theorem lc_dts {J : It} {n : Nat} {G : Hp → Prop} {Y : Nat → Hp → V → Hp → Prop} (w : Walk J n G Y) {g : TG} {tt : TT} {te : TE} {vs : List Nat} {σ : L2.St} {H1 : Hp} {D : Addr} {B : List Addr} {Qd : Hp → Prop} (Pd : PyData → Prop)
    (hD : H1 D = none) (hB : Bk B H1) (hG : ∀ H', Same H1 H' → G H') (hn : n ≤ 100000)
    (hs : ∀ (i : Nat) (x : V) (H' H'' : Hp) (Ny : V → Hp → Prop) (Nn : Hp → Prop), i < n → Same H1 H' → Bk (D :: B) H' → (∃ us, H' D = some (.lst us)) → Y i H' x H'' → (∀ (v : V) (d : PyData) H4, Same H' H4 → Dt (D :: B) H4 v d → Pd d → Ny v H4) →
      g x (wipe σ vs) H'' fun σ2 H2 => wipe σ2 vs = wipe σ vs ∧ tt σ2 H2 fun b H3 => if b = true then te σ2 H3 Ny else Nn H3)
    (hd : ∀ (H' : Hp) (ws : List V) (ds : List PyData), Same H1 H' → H' D = some (.lst ws) → DtA (D :: B) H' ws ds → ds.length = n → (∀ d ∈ ds, Pd d) → Qd H') :
    ∃ W : Nat → Nat → Hp → Prop, (∃ m, W 0 m (upd H1 D (.lst []))) ∧ ∀ i m H, W i m H →
      (J.stop i H ∧ Qd H) ∨ (J.go i H ∧ ∃ Nx : Hp → Prop, (∀ H', Nx H' → ∃ m', m' < m ∧ W (i + 1) m' H') ∧ ∀ x H', J.yld i H x H' → g x (wipe σ vs) H' fun σ2 H2 => wipe σ2 vs = wipe σ vs ∧ tt σ2 H2 fun b H3 =>
        if b = true then te σ2 H3 fun y H4 => ∃ acc, H4 D = some (.lst acc) ∧ acc.length < sizeLine ∧ Nx (upd H4 D (.lst (acc ++ [y]))) else Nx H3) := by
  refine lc_it w (fun i H' => Same H1 H' ∧ ∃ ws ds, H' D = some (.lst ws) ∧ DtA (D :: B) H' ws ds ∧ ds.length = i ∧ ∀ d ∈ ds, Pd d) ⟨sm_new hD, [], [], upd_same, .nil, rfl, fun _ h => (nomatch h)⟩ (fun i H' _ h => hG H' h.1) (fun i x H' H'' hi h y => ?_) (fun H' h => ?_)
  · obtain ⟨s1, ws, ds, eD, hA, en, hp⟩ := h
    refine hs i x H' H'' _ _ hi s1 ((hB.go (Go.of (B := B) s1)).cons eD) ⟨ws, eD⟩ y (fun z d H4 s4 dz pd => ?_)
    have gm : Go (D :: B) H4 (upd H4 D (.lst (ws ++ [z]))) := Go.refl.at (List.mem_cons_self ..)
    have lw := hA.len
    refine ⟨ws, s4 _ _ eD, sz (by omega), sm_mut (s1.trans s4) hD, ws ++ [z], ds ++ [d], upd_same, ((hA.s s4).g gm).app (.one (dz.g gm)), by simp; omega, fun e he => ?_⟩
    rcases List.mem_append.mp he with he | he
    · exact hp e he
    · rw [List.mem_singleton.mp he]
      exact pd
  · obtain ⟨s1, ws, ds, eD, hA, en, hp⟩ := h
    exact hd H' ws ds s1 eD hA en hp
end Z

set_option Elab.async false
set_option linter.all false
set_option maxRecDepth 100000
namespace Z
open PySem PySem.Spec PyProof.Rows L2
def topS (i : Nat) : Stmt := PySem.Challenge.pw_fewcolours_k56_lines_of_even_steps.main.body.getD i (.Pass ⟨0, 0, 0, 0⟩)
abbrev s_common_measure : Stmt := topS 1
abbrev N_common_measure : List Str := ["one", "other"]
theorem sc_common_measure : FnScope N_common_measure ["one", "other"] (defScope s_common_measure) := ⟨rfl, rfl, rfl, by decide +kernel, rfl, by decide +kernel, by decide +kernel⟩
abbrev s_part : Stmt := topS 2
abbrev N_part : List Str := ["top", "bottom", "measure"]
theorem sc_part : FnScope N_part ["top", "bottom"] (defScope s_part) := ⟨rfl, rfl, rfl, by decide +kernel, rfl, by decide +kernel, by decide +kernel⟩
abbrev s_plus : Stmt := topS 3
abbrev N_plus : List Str := ["one", "other"]
theorem sc_plus : FnScope N_plus ["one", "other"] (defScope s_plus) := ⟨rfl, rfl, rfl, by decide +kernel, rfl, by decide +kernel, by decide +kernel⟩
abbrev s_before : Stmt := topS 4
abbrev N_before : List Str := ["one", "other"]
theorem sc_before : FnScope N_before ["one", "other"] (defScope s_before) := ⟨rfl, rfl, rfl, by decide +kernel, rfl, by decide +kernel, by decide +kernel⟩
abbrev s_spreads_from : Stmt := topS 6
abbrev N_spreads_from : List Str := ["rows", "counts", "weighed", "squares", "spreads", "colour", "count", "number"]
theorem sc_spreads_from : FnScope N_spreads_from ["rows"] (defScope s_spreads_from) := ⟨rfl, rfl, rfl, by decide +kernel, rfl, by decide +kernel, by decide +kernel⟩
abbrev s_best_from : Stmt := topS 7
abbrev N_best_from : List Str := ["begin", "spreads", "later", "best", "after", "spread", "total"]
theorem sc_best_from : FnScope N_best_from ["begin", "spreads", "later"] (defScope s_best_from) := ⟨rfl, rfl, rfl, by decide +kernel, rfl, by decide +kernel, by decide +kernel⟩
abbrev s_best_on_line : Stmt := topS 8
abbrev N_best_on_line : List Str := ["rows", "many", "spreads", "bests", "groups", "total", "begins", "begin", "each"]
theorem sc_best_on_line : FnScope N_best_on_line ["rows", "many"] (defScope s_best_on_line) := ⟨rfl, rfl, rfl, by decide +kernel, rfl, by decide +kernel, by decide +kernel⟩
abbrev s_l_mix : Stmt := topS 10
abbrev N_l_mix : List Str := ["_law_cell", "_law_k", "_law_m"]
theorem sc_l_mix : FnScope N_l_mix ["_law_cell", "_law_k"] (defScope s_l_mix) := ⟨rfl, rfl, rfl, by decide +kernel, rfl, by decide +kernel, by decide +kernel⟩
abbrev s_l_left : Stmt := topS 11
abbrev N_l_left : List Str := ["_law_script", "_law_k", "_law_cell"]
theorem sc_l_left : FnScope N_l_left ["_law_script", "_law_k"] (defScope s_l_left) := ⟨rfl, rfl, rfl, by decide +kernel, rfl, by decide +kernel, by decide +kernel⟩
abbrev s_l_pick : Stmt := topS 12
abbrev N_l_pick : List Str := ["_law_left_here", "_law_many", "_law_digit"]
theorem sc_l_pick : FnScope N_l_pick ["_law_left_here", "_law_many"] (defScope s_l_pick) := ⟨rfl, rfl, rfl, by decide +kernel, rfl, by decide +kernel, by decide +kernel⟩
abbrev s_l_part : Stmt := topS 13
abbrev N_l_part : List Str := ["_law_top", "_law_bottom", "_law_one", "_law_other", "_law_sign"]
theorem sc_l_part : FnScope N_l_part ["_law_top", "_law_bottom"] (defScope s_l_part) := ⟨rfl, rfl, rfl, by decide +kernel, rfl, by decide +kernel, by decide +kernel⟩
abbrev s_l_plus : Stmt := topS 14
abbrev N_l_plus : List Str := ["_law_one", "_law_other"]
theorem sc_l_plus : FnScope N_l_plus ["_law_one", "_law_other"] (defScope s_l_plus) := ⟨rfl, rfl, rfl, by decide +kernel, rfl, by decide +kernel, by decide +kernel⟩
abbrev s_l_less : Stmt := topS 15
abbrev N_l_less : List Str := ["_law_one", "_law_other"]
theorem sc_l_less : FnScope N_l_less ["_law_one", "_law_other"] (defScope s_l_less) := ⟨rfl, rfl, rfl, by decide +kernel, rfl, by decide +kernel, by decide +kernel⟩
abbrev s_l_spread : Stmt := topS 16
abbrev N_l_spread : List Str := ["_law_rows", "_law_many", "_law_total", "_law_place", "_law_sums", "_law_squares", "_law_colour", "_law_count"]
theorem sc_l_spread : FnScope N_l_spread ["_law_rows"] (defScope s_l_spread) := ⟨rfl, rfl, rfl, by decide +kernel, rfl, by decide +kernel, by decide +kernel⟩
abbrev s_l_even_right : Stmt := topS 17
abbrev N_l_even_right : List Str := ["_law_left_here", "_law_many", "_law_count", "_law_step", "_law_rows", "_law_groups", "_law_begins", "_law_total", "_law_at", "_law_k", "_law_size"]
theorem sc_l_even_right : FnScope N_l_even_right ["_law_left_here"] (defScope s_l_even_right) := ⟨rfl, rfl, rfl, by decide +kernel, rfl, by decide +kernel, by decide +kernel⟩
abbrev s_l_heaps_right : Stmt := topS 18
abbrev N_l_heaps_right : List Str := ["_law_left_here", "_law_rows", "_law_begins", "_law_total", "_law_many", "_law_heap", "_law_size", "_law_some", "_law_ends", "_law_cuts", "_law_begin", "_law_end", "_law_at", "_law_whole", "_law_both", "_law_least", "_law_one", "_law_k"]
theorem sc_l_heaps_right : FnScope N_l_heaps_right ["_law_left_here"] (defScope s_l_heaps_right) := ⟨rfl, rfl, rfl, by decide +kernel, rfl, by decide +kernel, by decide +kernel⟩
abbrev s_law : Stmt := topS 19
abbrev N_law : List Str := ["_law_script", "_law_k", "_law_left_here"]
theorem sc_law : FnScope N_law ["_law_script"] (defScope s_law) := ⟨rfl, rfl, rfl, by decide +kernel, rfl, by decide +kernel, by decide +kernel⟩
structure Tx (K : PySem.W.Frag) (mg : Str → Option Value) where
  f_common_measure : Addr
  d_common_measure : FuncData
  F_common_measure : Fun K "common_measure" "common_measure" s_common_measure f_common_measure d_common_measure
  b_common_measure : Binds K d_common_measure ["one", "other"] []
  g_common_measure : mg "common_measure" = some (.ref f_common_measure)
  f_part : Addr
  d_part : FuncData
  F_part : Fun K "part" "part" s_part f_part d_part
  b_part : Binds K d_part ["top", "bottom"] []
  g_part : mg "part" = some (.ref f_part)
  f_plus : Addr
  d_plus : FuncData
  F_plus : Fun K "plus" "plus" s_plus f_plus d_plus
  b_plus : Binds K d_plus ["one", "other"] []
  g_plus : mg "plus" = some (.ref f_plus)
  f_before : Addr
  d_before : FuncData
  F_before : Fun K "before" "before" s_before f_before d_before
  b_before : Binds K d_before ["one", "other"] []
  g_before : mg "before" = some (.ref f_before)
  f_spreads_from : Addr
  d_spreads_from : FuncData
  F_spreads_from : Fun K "spreads_from" "spreads_from" s_spreads_from f_spreads_from d_spreads_from
  b_spreads_from : Binds K d_spreads_from ["rows"] []
  g_spreads_from : mg "spreads_from" = some (.ref f_spreads_from)
  f_best_from : Addr
  d_best_from : FuncData
  F_best_from : Fun K "best_from" "best_from" s_best_from f_best_from d_best_from
  b_best_from : Binds K d_best_from ["begin", "spreads", "later"] []
  g_best_from : mg "best_from" = some (.ref f_best_from)
  f_best_on_line : Addr
  d_best_on_line : FuncData
  F_best_on_line : Fun K "best_on_line" "best_on_line" s_best_on_line f_best_on_line d_best_on_line
  b_best_on_line : Binds K d_best_on_line ["rows", "many"] []
  g_best_on_line : mg "best_on_line" = some (.ref f_best_on_line)
  f_l_mix : Addr
  d_l_mix : FuncData
  F_l_mix : Fun K "_law_mix" "_law_mix" s_l_mix f_l_mix d_l_mix
  b_l_mix : Binds K d_l_mix ["_law_cell", "_law_k"] []
  g_l_mix : mg "_law_mix" = some (.ref f_l_mix)
  f_l_left : Addr
  d_l_left : FuncData
  F_l_left : Fun K "_law_left" "_law_left" s_l_left f_l_left d_l_left
  b_l_left : Binds K d_l_left ["_law_script", "_law_k"] []
  g_l_left : mg "_law_left" = some (.ref f_l_left)
  f_l_pick : Addr
  d_l_pick : FuncData
  F_l_pick : Fun K "_law_pick" "_law_pick" s_l_pick f_l_pick d_l_pick
  b_l_pick : Binds K d_l_pick ["_law_left_here", "_law_many"] []
  g_l_pick : mg "_law_pick" = some (.ref f_l_pick)
  f_l_part : Addr
  d_l_part : FuncData
  F_l_part : Fun K "_law_part" "_law_part" s_l_part f_l_part d_l_part
  b_l_part : Binds K d_l_part ["_law_top", "_law_bottom"] []
  g_l_part : mg "_law_part" = some (.ref f_l_part)
  f_l_plus : Addr
  d_l_plus : FuncData
  F_l_plus : Fun K "_law_plus" "_law_plus" s_l_plus f_l_plus d_l_plus
  b_l_plus : Binds K d_l_plus ["_law_one", "_law_other"] []
  g_l_plus : mg "_law_plus" = some (.ref f_l_plus)
  f_l_less : Addr
  d_l_less : FuncData
  F_l_less : Fun K "_law_less" "_law_less" s_l_less f_l_less d_l_less
  b_l_less : Binds K d_l_less ["_law_one", "_law_other"] []
  g_l_less : mg "_law_less" = some (.ref f_l_less)
  f_l_spread : Addr
  d_l_spread : FuncData
  F_l_spread : Fun K "_law_spread" "_law_spread" s_l_spread f_l_spread d_l_spread
  b_l_spread : Binds K d_l_spread ["_law_rows"] []
  g_l_spread : mg "_law_spread" = some (.ref f_l_spread)
  f_l_even_right : Addr
  d_l_even_right : FuncData
  F_l_even_right : Fun K "_law_even_right" "_law_even_right" s_l_even_right f_l_even_right d_l_even_right
  b_l_even_right : Binds K d_l_even_right ["_law_left_here"] []
  g_l_even_right : mg "_law_even_right" = some (.ref f_l_even_right)
  f_l_heaps_right : Addr
  d_l_heaps_right : FuncData
  F_l_heaps_right : Fun K "_law_heaps_right" "_law_heaps_right" s_l_heaps_right f_l_heaps_right d_l_heaps_right
  b_l_heaps_right : Binds K d_l_heaps_right ["_law_left_here"] []
  g_l_heaps_right : mg "_law_heaps_right" = some (.ref f_l_heaps_right)
  z_abs : mg "abs" = none
  z_enumerate : mg "enumerate" = none
  z_int : mg "int" = none
  z_len : mg "len" = none
  z_list : mg "list" = none
  z_max : mg "max" = none
  z_min : mg "min" = none
  z_range : mg "range" = none
  z_sum : mg "sum" = none
  z_zip : mg "zip" = none
section
variable {P : Program} {w : World} {K : PySem.W.Frag} {mg : Str → Option Value} {base : Heap}
/-! ### mix -/
def spMix : Sp := fun vs H Q _ => ∃ c n : Int, vs = [.int c, .int n] ∧ 0 ≤ n ∧ n < 2000000000 ∧ ∀ r : Int, 0 ≤ r → r < 1999999973 → Q (.int r) H
theorem ok_l_mix (T : Tx K mg) {k : Nat} : FnOk P w K mg base CX0 (k + 1) T.f_l_mix T.d_l_mix ["_law_cell", "_law_k"] spMix := by
  refine T.F_l_mix.ok sc_l_mix (fun vs H Q E h => ?_) (fun cdv A outer s H vs Q E hr h => ?_)
  · obtain ⟨c, n, rfl, _⟩ := h
    rfl
  · obtain ⟨c, n, rfl, h1, h2, q⟩ := h
    refine ⟨_, (pss_cons (ps_set (i := 2) sc_l_mix.nd rfl (.inl rfl) (pe_op op_mod (pe_op op_mul (pe_op op_add (pe_op op_add (pe_op op_mod (pv 0) pe_int) (pe_op op_mul (pe_op op_mul (pv 1) (pv 1)) pe_int)) pe_int) pe_int) pe_int))
      (pss_one (ps_ret (pe_op op_mod (pe_op op_mul (pv 2) (pv 2)) pe_int)))), ?_⟩
    refine ⟨.int c, rfl, _, _, rfl, rfl, md (by decide), .int n, rfl, .int n, rfl, _, _, rfl, rfl, .inl ⟨by omega, by omega⟩, _, _, rfl, rfl, .inr ⟨by decide, by decide⟩, _, _, rfl, rfl, _, _, rfl, rfl, _, _, rfl, rfl, .inr ⟨by decide, by decide⟩, _, _, rfl, rfl, md (by decide), ?_⟩
    refine ⟨_, rfl, _, rfl, _, _, rfl, rfl, .inl ⟨?_, ?_⟩, _, _, rfl, rfl, md (by decide), ?_⟩
    · omega
    · omega
    · exact q _ (Int.emod_nonneg _ (by decide)) (Int.emod_lt_of_pos _ (by decide))
/-! ### left -/
def spLeft (K : PySem.W.Frag) : Sp := fun vs H Q _ => ∃ (a : Addr) (ns : List Int) (n : Int), vs = [.ref a, .int n] ∧ SqL K H a (ns.map V.int) ∧ 0 ≤ n ∧ ∀ (p : Addr) (x y : Int), H p = none → 0 ≤ x → Q (.ref p) (upd H p (.lst [.int x, .int y, .int 0]))
theorem left_end {c n : Int} {H : Hp} {Q : VK} (q : ∀ (p : Addr) (x y : Int), H p = none → 0 ≤ x → Q (.ref p) (upd H p (.lst [.int x, .int y, .int 0]))) (p : Addr) (hp : H p = none) (b : Bool) :
    Q (.ref p) (upd H p (.lst [.int ((if c < 0 then -c else c) * (if b = true then 1 else 0)), .int (c + 1000003 * n), .int 0])) := by
  refine q p _ _ hp ?_
  cases b <;> simp <;> split <;> omega
theorem ok_l_left (T : Tx K mg) {k : Nat} : FnOk P w K mg base CX0 (k + 1) T.f_l_left T.d_l_left ["_law_script", "_law_k"] (spLeft K) := by
  refine T.F_l_left.ok sc_l_left (fun vs H Q E h => ?_) (fun cdv A outer s H vs Q E hr h => ?_)
  · obtain ⟨a, ns, n, rfl, _⟩ := h
    rfl
  · obtain ⟨a, ns, n, rfl, hS, h1, q⟩ := h
    refine ⟨_, (pss_cons (ps_set (i := 2) sc_l_left.nd rfl (.inl rfl) (pe_ifExp (pt_cmpR op_lt (pv 1) (pe_callB (len_K K) (by rfl) T.z_len PySem.boot_len (pa_cons (pv 0) pa_nil)) (nomark _)) (pe_ix (ix_listK K) (pv 0) (pv 1) (fun _ _ => rfl)) pe_int))
      (pss_one (ps_ret (pe_lst (pa_cons (pe_op op_mul (pe_callB call_abs (by rfl) T.z_abs (by decide +kernel) (pa_cons (pv 2) pa_nil)) (pe_callTy call_int1 (by rfl) T.z_int (by decide +kernel) (pa_cons (pe_cmpR op_ge (pe_callB call_abs (by rfl) T.z_abs (by decide +kernel) (pa_cons (pv 2) pa_nil)) (pe_op op_pow pe_int pe_int) (nomark _)) pa_nil))) (pa_cons (pe_op op_add (pv 2) (pe_op op_mul pe_int (pv 1))) (pa_cons pe_int pa_nil))))))), ?_⟩
    refine ⟨_, rfl, _, rfl, a, _, rfl, .inl hS, _, _, rfl, rfl, _, rfl, ite2 (fun e => ?_) (fun e => ?_)⟩
    · have e1 : n < (ns.map V.int).length := of_decide_eq_true e
      rw [List.length_map] at e1
      have g : atI (ns.map V.int) n = some (.int (ns[n.toNat]'(by omega))) := at0 h1 (by rw [List.getElem?_map, List.getElem?_eq_getElem]; rfl)
      refine ⟨_, rfl, _, rfl, a, _, _, _, rfl, rfl, hS, g, ?_⟩
      exact ⟨_, rfl, _, rfl, _, rfl, _, rfl, _, _, rfl, rfl, ⟨by decide, by decide, by decide⟩, _, _, rfl, rfl, .inr ⟨_, rfl, _, _, rfl, rfl, .inr (bit_ok _), _, rfl, _, rfl, _, _, rfl, rfl, .inl ⟨by decide, by decide⟩, _, _, rfl, rfl, (by show 3 ≤ sizeLine; decide), fun p hp => left_end q p hp _⟩⟩
    · exact ⟨_, rfl, _, rfl, _, rfl, _, rfl, _, _, rfl, rfl, ⟨by decide, by decide, by decide⟩, _, _, rfl, rfl, .inr ⟨_, rfl, _, _, rfl, rfl, .inr (bit_ok _), _, rfl, _, rfl, _, _, rfl, rfl, .inl ⟨by decide, by decide⟩, _, _, rfl, rfl, (by show 3 ≤ sizeLine; decide), fun p hp => left_end q p hp _⟩⟩
/-! ### pick -/
def spPick : Sp := fun vs H Q _ => ∃ (L : Addr) (m : Int) (n : Nat), vs = [.ref L, .int m] ∧ Lf L H n ∧ n < 1000000000 ∧ 0 < m ∧ m < 1073741824 ∧ ∀ (r : Int) (H' : Hp), Go [L] H H' → Lf L H' (n + 1) → 0 ≤ r → r < m → Q (.int r) H'
theorem ok_l_pick (T : Tx K mg) {k : Nat} : FnOk P w K mg base CX0 (k + 2) T.f_l_pick T.d_l_pick ["_law_left_here", "_law_many"] spPick := by
  refine T.F_l_pick.ok sc_l_pick (fun vs H Q E h => ?_) (fun cdv A outer s H vs Q E hr h => ?_)
  · obtain ⟨L, m, n, rfl, _⟩ := h
    rfl
  · obtain ⟨L, m, n, rfl, ⟨a, b, c, hL, a0, c0, cn⟩, hn, m0, m1, q⟩ := h
    refine ⟨_, (pss_cons (ps_asg (pe_op op_add (pe_ix (ix_listK K) (pv 0) pe_int (fun _ _ => rfl)) pe_int) (pg_sub (pv 0) pe_int set_list))
      (pss_cons (ps_if (pt_cmpR op_gt (pe_ix (ix_listK K) (pv 0) pe_int (fun _ _ => rfl)) pe_int (nomark _)) (pss_cons (ps_set (i := 2) sc_l_pick.nd rfl (.inl rfl) (pe_op op_mod (pe_ix (ix_listK K) (pv 0) pe_int (fun _ _ => rfl)) (pv 1)))
      (pss_cons (ps_asg (pe_op op_fdiv (pe_ix (ix_listK K) (pv 0) pe_int (fun _ _ => rfl)) (pv 1)) (pg_sub (pv 0) pe_int set_list))
      (pss_one (ps_ret (pv 2))))) pss_nil)
      (pss_one (ps_ret (pe_op op_mod (pe_op op_fdiv (pe_call (ok_l_mix T (k := k)) hr (by rfl) T.g_l_mix T.F_l_mix.kp T.b_l_mix .nil pass0 (pa_cons (pe_call (ok_l_mix T (k := k)) hr (by rfl) T.g_l_mix T.F_l_mix.kp T.b_l_mix .nil pass0 (pa_cons (pe_ix (ix_listK K) (pv 0) pe_int (fun _ _ => rfl)) (pa_cons (pe_ix (ix_listK K) (pv 0) pe_int (fun _ _ => rfl)) pa_nil))) (pa_cons (pe_op op_add (pe_ix (ix_listK K) (pv 0) pe_int (fun _ _ => rfl)) pe_int) pa_nil))) pe_int) (pv 1)))))), ?_⟩
    refine ⟨_, rfl, L, _, 2, .int c, rfl, rfl, SqL.of hL, rfl, _, _, rfl, rfl, _, rfl, L, _, _, 2, rfl, rfl, hL, rfl, ?_⟩
    generalize hH : upd H L (.lst (List.set [V.int a, V.int b, V.int c] 2 (V.int (c + 1)))) = H1
    have hL1 : H1 L = some (.lst [.int a, .int b, .int (c + 1)]) := by rw [← hH]; exact upd_same
    have g1 : Go [L] H H1 := by rw [← hH]; exact Go.refl.at (List.mem_singleton.mpr rfl)
    refine ⟨_, rfl, L, _, 0, .int a, rfl, rfl, SqL.of hL1, rfl, _, _, rfl, rfl, _, rfl, ite2 (fun e => ?_) (fun e => ?_)⟩
    · have e1 : 0 < a := of_decide_eq_true e
      refine ⟨_, rfl, L, _, 0, .int a, rfl, rfl, SqL.of hL1, rfl, _, rfl, _, _, rfl, rfl, md m0, ?_⟩
      refine ⟨_, rfl, L, _, 0, .int a, rfl, rfl, SqL.of hL1, rfl, _, rfl, _, _, rfl, rfl, ⟨m0, m1⟩, _, rfl, L, _, _, 0, rfl, rfl, hL1, rfl, ?_⟩
      refine ⟨_, rfl, ?_⟩
      exact q _ _ (g1.at (List.mem_singleton.mpr rfl)) ⟨a / m, b, c + 1, upd_same, Int.ediv_nonneg a0 (by omega), by omega, by omega⟩ (Int.emod_nonneg _ (by omega)) (Int.emod_lt_of_pos _ m0)
    · refine ⟨_, rfl, L, _, 1, .int b, rfl, rfl, SqL.of hL1, rfl, _, rfl, L, _, 2, .int (c + 1), rfl, rfl, SqL.of hL1, rfl, _, _, rfl, by omega, by omega, fun r1 _ _ => ?_⟩
      refine ⟨_, rfl, L, _, 2, .int (c + 1), rfl, rfl, SqL.of hL1, rfl, _, _, rfl, rfl, _, _, rfl, by omega, by omega, fun r2 _ _ => ?_⟩
      refine ⟨_, _, rfl, rfl, ⟨by decide, by decide⟩, _, rfl, _, _, rfl, rfl, md m0, ?_⟩
      exact q _ _ g1 ⟨a, b, c + 1, hL1, a0, by omega, by omega⟩ (Int.emod_nonneg _ (by omega)) (Int.emod_lt_of_pos _ m0)
/-! ### fractions -/
def spMeas : Sp := fun vs H Q _ => ∃ t b : Int, vs = [.int t, .int b] ∧ Q (.int (gm t b : Int)) H
theorem ok_common_measure (T : Tx K mg) {k : Nat} : FnOk P w K mg base CX0 (k + 1) T.f_common_measure T.d_common_measure ["one", "other"] spMeas := by
  refine T.F_common_measure.ok sc_common_measure (fun vs H Q E h => ?_) (fun cdv A outer s H vs Q E hr h => ?_)
  · obtain ⟨t, b, rfl, _⟩ := h
    rfl
  · obtain ⟨t, b, rfl, q⟩ := h
    refine ⟨_, (pss_cons (ps_par (i := 0) (j := 1) (by rfl) sc_common_measure.nd rfl rfl (by decide) rfl rfl (pa_cons (pe_callB call_abs (by rfl) T.z_abs (by decide +kernel) (pa_cons (pv 0) pa_nil)) (pa_cons (pe_callB call_abs (by rfl) T.z_abs (by decide +kernel) (pa_cons (pv 1) pa_nil)) pa_nil)) (by rfl))
      (pss_cons (ps_while PassesOwn.never (pt_cmpR op_ne (pv 1) pe_int (nomark _)) (pss_one (ps_par (i := 0) (j := 1) (by rfl) sc_common_measure.nd rfl rfl (by decide) rfl rfl (pa_cons (pv 1) (pa_cons (pe_op op_mod (pv 0) (pv 1)) pa_nil)) (by rfl))))
      (pss_one (ps_ret (pv 0))))), ?_⟩
    refine ⟨_, rfl, _, rfl, _, rfl, _, rfl, _, _, rfl, ?_⟩
    refine ⟨fun m σ H' => ∃ (x y : Nat), σ = [some (.int (x : Int)), some (.int (y : Int))] ∧ H' = H ∧ m = y ∧ Nat.gcd x y = gm t b, ⟨b.natAbs, t.natAbs, b.natAbs, ?_, rfl, rfl, rfl⟩, fun m σ H' h => ?_⟩
    · have e1 : (if t < 0 then -t else t) = (t.natAbs : Int) := by split <;> omega
      have e2 : (if b < 0 then -b else b) = (b.natAbs : Int) := by split <;> omega
      rw [← e1, ← e2]
      rfl
    · obtain ⟨x, y, rfl, rfl, em, hg⟩ := h
      refine ⟨_, rfl, rfl, _, rfl, ite2 (fun e => ?_) (fun e => ?_)⟩
      · have y0 : 0 < y := by
          rcases Nat.eq_zero_or_pos y with z | z
          · subst z
            simp at e
          · exact z
        refine ⟨fun σ' H'' => σ' = [some (.int (y : Int)), some (.int ((x % y : Nat) : Int))] ∧ H'' = H', fun σ' H'' h => ?_, ?_⟩
        · obtain ⟨rfl, rfl⟩ := h
          exact ⟨x % y, by rw [em]; exact Nat.mod_lt _ y0, y, x % y, rfl, rfl, rfl, by rw [Nat.gcd_comm, ← Nat.gcd_rec, Nat.gcd_comm]; exact hg⟩
        · exact ⟨_, rfl, _, rfl, _, rfl, _, _, rfl, rfl, md (by omega), _, _, rfl, by rw [Int.natCast_emod]; rfl, rfl⟩
      · have y0 : y = 0 := by
          rcases Nat.eq_zero_or_pos y with z | z
          · exact z
          · refine absurd ?_ e
            simp
            omega
        subst y0
        have gx : x = gm t b := by rw [← hg, Nat.gcd_zero_right]
        exact ⟨_, rfl, by rw [gx]; exact q⟩
def spPart : Sp := fun vs H Q _ => ∃ t b : Int, vs = [.int t, .int b] ∧ b ≠ 0 ∧ b.natAbs < lim2 ∧ ∀ p H', Same H H' → H p = none → H' p = some (.tup [.int (Rat.divInt t b).num, .int (Rat.divInt t b).den]) → Q (.ref p) H'
theorem ok_part (T : Tx K mg) {k : Nat} : FnOk P w K mg base CX0 (k + 2) T.f_part T.d_part ["top", "bottom"] spPart := by
  refine T.F_part.ok sc_part (fun vs H Q E h => ?_) (fun cdv A outer s H vs Q E hr h => ?_)
  · obtain ⟨t, b, rfl, _⟩ := h
    rfl
  · obtain ⟨t, b, rfl, b0, hb, q⟩ := h
    have gp := gm_pos (t := t) b0
    have gl := gm_le (t := t) b0
    refine ⟨_, (pss_cons (ps_set (i := 2) sc_part.nd rfl (.inl rfl) (pe_call (ok_common_measure T (k := k)) hr (by rfl) T.g_common_measure T.F_common_measure.kp T.b_common_measure .nil pass0 (pa_cons (pv 0) (pa_cons (pv 1) pa_nil))))
      (Evl.pss_cut (ps_if (pt_cmpR op_lt (pv 1) pe_int (nomark _)) (pss_one (ps_set (i := 2) sc_part.nd rfl (.inl rfl) (pe_un un_neg (pv 2)))) pss_nil)
      (pss_one (ps_ret (pe_tup (pa_cons (pe_op op_fdivM (pv 0) (pv 2)) (pa_cons (pe_op op_fdivM (pv 1) (pv 2)) pa_nil))))))), ?_⟩
    refine ⟨_, rfl, _, rfl, t, b, rfl, ?_⟩
    refine ⟨fun σ' H' => σ' = [some (.int t), some (.int b), some (.int (if b < 0 then -(gm t b : Int) else (gm t b : Int)))] ∧ H' = H, ?_, fun σ' H' hM => ?_⟩
    · refine ⟨_, rfl, _, _, rfl, rfl, _, rfl, ite2 (fun e => ?_) (fun e => ?_)⟩
      · have e1 : b < 0 := of_decide_eq_true e
        exact ⟨_, rfl, _, rfl, by rw [if_pos e1]; rfl, rfl⟩
      · have e1 : ¬ b < 0 := fun h => e (decide_eq_true h)
        exact ⟨by rw [if_neg e1]; rfl, rfl⟩
    · obtain ⟨rfl, rfl⟩ := hM
      have m0 : (if b < 0 then -(gm t b : Int) else (gm t b : Int)) ≠ 0 := by split <;> omega
      have m1 : (if b < 0 then -(gm t b : Int) else (gm t b : Int)).natAbs < lim2 := by split <;> omega
      refine ⟨_, rfl, _, rfl, _, _, rfl, rfl, lim_divN m0 m1, _, rfl, _, rfl, _, _, rfl, rfl, lim_divN m0 m1, (by show 2 ≤ sizeLine; decide), fun p hp => ?_⟩
      refine q p _ (sm_new hp) hp ?_
      rw [upd_same]
      have ev : ∀ c : Int, c.fdiv (if b < 0 then -(gm t b : Int) else (gm t b : Int)) = (if b < 0 then -c else c) / (gm t b : Int) := fun c => by
        by_cases hb0 : b < 0
        · rw [if_pos hb0, if_pos hb0, fdiv_neg' (by omega)]
        · rw [if_neg hb0, if_neg hb0, Int.fdiv_eq_ediv_of_nonneg _ (by omega)]
      simp only [ev]
      rw [← pn_q b0, ← pd_q b0]
      rfl
/-! ### the law's own fractions -/
def spLPart : Sp := fun vs H Q _ => ∃ t b : Int, vs = [.int t, .int b] ∧ b ≠ 0 ∧ b.natAbs < lim2 ∧ ∀ p H', Same H H' → H p = none → H' p = some (.tup [.int (Rat.divInt t b).num, .int (Rat.divInt t b).den]) → Q (.ref p) H'
theorem ok_l_part (T : Tx K mg) {k : Nat} : FnOk P w K mg base CX0 (k + 1) T.f_l_part T.d_l_part ["_law_top", "_law_bottom"] spLPart := by
  refine T.F_l_part.ok sc_l_part (fun vs H Q E h => ?_) (fun cdv A outer s H vs Q E hr h => ?_)
  · obtain ⟨t, b, rfl, _⟩ := h
    rfl
  · obtain ⟨t, b, rfl, b0, hb, q⟩ := h
    refine ⟨_, (pss_cons (ps_par (i := 2) (j := 3) (by rfl) sc_l_part.nd rfl rfl (by decide) rfl rfl (pa_cons (pe_callB call_abs (by rfl) T.z_abs (by decide +kernel) (pa_cons (pv 0) pa_nil)) (pa_cons (pe_callB call_abs (by rfl) T.z_abs (by decide +kernel) (pa_cons (pv 1) pa_nil)) pa_nil)) (by rfl))
      (pss_cons (ps_while PassesOwn.never (pt_cmpR op_gt (pv 3) pe_int (nomark _)) (pss_one (ps_par (i := 2) (j := 3) (by rfl) sc_l_part.nd rfl rfl (by decide) rfl rfl (pa_cons (pv 3) (pa_cons (pe_op op_mod (pv 2) (pv 3)) pa_nil)) (by rfl))))
      (pss_cons (ps_set (i := 4) sc_l_part.nd rfl (.inl rfl) (pe_op op_sub pe_int (pe_op op_mul pe_int (pe_callTy call_int1 (by rfl) T.z_int (by decide +kernel) (pa_cons (pe_cmpR op_lt (pv 1) pe_int (nomark _)) pa_nil)))))
      (pss_one (ps_ret (pe_tup (pa_cons (pe_op op_fdivW (pe_op op_mul (pv 4) (pv 0)) (pv 2)) (pa_cons (pe_op op_fdivW (pe_op op_mul (pv 4) (pv 1)) (pv 2)) pa_nil)))))))), ?_⟩
    refine ⟨_, rfl, _, rfl, _, rfl, _, rfl, _, _, rfl, ?_⟩
    refine ⟨fun m σ H' => ∃ (x y : Nat) (z : Option V), σ = [some (.int t), some (.int b), some (.int (x : Int)), some (.int (y : Int)), z] ∧ H' = H ∧ m = y ∧ Nat.gcd x y = gm t b, ⟨b.natAbs, t.natAbs, b.natAbs, none, ?_, rfl, rfl, rfl⟩, fun m σ H' h => ?_⟩
    · have e1 : (if t < 0 then -t else t) = (t.natAbs : Int) := by split <;> omega
      have e2 : (if b < 0 then -b else b) = (b.natAbs : Int) := by split <;> omega
      rw [← e1, ← e2]
      rfl
    · obtain ⟨x, y, z, rfl, rfl, em, hg⟩ := h
      refine ⟨_, rfl, _, _, rfl, rfl, _, rfl, ite2 (fun e => ?_) (fun e => ?_)⟩
      · have y0 : 0 < y := by
          have : (0 : Int) < (y : Int) := of_decide_eq_true e
          omega
        refine ⟨fun σ' H'' => ∃ z, σ' = [some (.int t), some (.int b), some (.int (y : Int)), some (.int ((x % y : Nat) : Int)), z] ∧ H'' = H', fun σ' H'' h => ?_, ?_⟩
        · obtain ⟨z', rfl, rfl⟩ := h
          exact ⟨x % y, by rw [em]; exact Nat.mod_lt _ y0, y, x % y, z', rfl, rfl, rfl, by rw [Nat.gcd_comm, ← Nat.gcd_rec, Nat.gcd_comm]; exact hg⟩
        · exact ⟨_, rfl, _, rfl, _, rfl, _, _, rfl, rfl, md (by omega), _, _, rfl, z, by rw [Int.natCast_emod]; rfl, rfl⟩
      · have y0 : y = 0 := by
          have : ¬ (0 : Int) < (y : Int) := fun h => e (decide_eq_true h)
          omega
        subst y0
        have gx : x = gm t b := by rw [← hg, Nat.gcd_zero_right]
        have gp := gm_pos (t := t) b0
        have gl := gm_le (t := t) b0
        refine ⟨_, rfl, _, _, rfl, rfl, .inr ⟨_, rfl, _, _, rfl, rfl, .inl ⟨by decide, by decide⟩, _, _, rfl, rfl, ?_⟩⟩
        have sg : ∀ c : Int, (1 - 2 * (if decide (b < 0) = true then 1 else 0)) * c = if b < 0 then -c else c := fun c => by
          by_cases hb0 : b < 0
          · rw [if_pos (decide_eq_true hb0), if_pos hb0]; omega
          · rw [if_neg (fun h => hb0 (of_decide_eq_true h)), if_neg hb0]; omega
        have sb : (-(2 ^ 64) : Int) < (1 - 2 * (if decide (b < 0) = true then 1 else 0)) ∧ (1 - 2 * (if decide (b < 0) = true then 1 else 0) : Int) < 2 ^ 64 := by split <;> decide
        refine ⟨_, rfl, _, rfl, _, _, rfl, rfl, .inl sb, _, rfl, _, _, rfl, rfl, lim_div (by omega) (by omega), _, rfl, _, rfl, _, _, rfl, rfl, .inl sb, _, rfl, _, _, rfl, rfl, lim_div (by omega) (by omega), (by show 2 ≤ sizeLine; decide), fun p hp => ?_⟩
        refine q p _ (sm_new hp) hp ?_
        rw [upd_same, ← pn_q b0, ← pd_q b0]
        unfold pn pd
        rw [← gx]
        simp only [sg]
/-! ### two fractions, as numbers -/
def spTwoQ (f : Rat → Rat → Rat) : Sp := fun vs H Q _ => ∃ (B : List Addr) (x y : V) (p r : Rat), vs = [x, y] ∧ Dt B H x (enc (qp p)) ∧ Dt B H y (enc (qp r)) ∧ Qb p ∧ Qb r ∧
  ∀ a H', Same H H' → H a = none → H' a = some (.tup [.int (f p r).num, .int (f p r).den]) → Q (.ref a) H'
theorem nb {n : Nat} (h : n < lim) : ((n : Int)).natAbs < lim2 := Nat.lt_of_lt_of_le h lim_le
theorem ib {i : Int} (h : i.natAbs < lim) : i.natAbs < lim2 := Nat.lt_of_lt_of_le h lim_le
theorem dd0 (p r : Rat) : (p.den : Int) * (r.den : Int) ≠ 0 := by
  have h1 := p.den_nz
  have h2 := r.den_nz
  rw [← Int.natCast_mul]
  have := Nat.mul_pos (Nat.pos_of_ne_zero h1) (Nat.pos_of_ne_zero h2)
  omega
theorem ddl {p r : Rat} (h1 : Qb p) (h2 : Qb r) : ((p.den : Int) * (r.den : Int)).natAbs < lim2 := by
  rw [← Int.natCast_mul]
  exact mul_lim h1.1 h2.1
def spLessQ : Sp := fun vs H Q _ => ∃ (B : List Addr) (x y : V) (p r : Rat), vs = [x, y] ∧ Dt B H x (enc (qp p)) ∧ Dt B H y (enc (qp r)) ∧ Qb p ∧ Qb r ∧ Q (.bl (decide (p < r))) H
theorem ok_plus (T : Tx K mg) {k : Nat} : FnOk P w K mg base CX0 (k + 3) T.f_plus T.d_plus ["one", "other"] (spTwoQ (· + ·)) := by
  refine T.F_plus.ok sc_plus (fun vs H Q E h => ?_) (fun cdv A outer s H vs Q E hr h => ?_)
  · obtain ⟨B, x, y, p, r, rfl, _⟩ := h
    rfl
  · obtain ⟨B, x, y, p, r, rfl, hx, hy, op, or', q⟩ := h
    obtain ⟨pa, rfl, _, ea⟩ := hx.col
    obtain ⟨pb, rfl, _, eb⟩ := hy.col
    obtain ⟨o1, o2⟩ := id op
    obtain ⟨r1, r2⟩ := id or'
    refine ⟨_, (pss_one (ps_ret (pe_call (ok_part T (k := k)) hr (by rfl) T.g_part T.F_part.kp T.b_part .nil pass0 (pa_cons (pe_op op_add (pe_op op_mulW (pe_ix (ix_tupK K) (pv 0) pe_int (fun _ _ => rfl)) (pe_ix (ix_tupK K) (pv 1) pe_int (fun _ _ => rfl))) (pe_op op_mulW (pe_ix (ix_tupK K) (pv 1) pe_int (fun _ _ => rfl)) (pe_ix (ix_tupK K) (pv 0) pe_int (fun _ _ => rfl)))) (pa_cons (pe_op op_mulW (pe_ix (ix_tupK K) (pv 0) pe_int (fun _ _ => rfl)) (pe_ix (ix_tupK K) (pv 1) pe_int (fun _ _ => rfl))) pa_nil))))), ?_⟩
    exact ⟨_, rfl, pa, _, 0, .int p.num, rfl, rfl, SqT.of ea, rfl, _, rfl, pb, _, 1, .int r.den, rfl, rfl, SqT.of eb, rfl, _, _, rfl, rfl, lim_mul (ib o2) (nb r1),
      _, rfl, pb, _, 0, .int r.num, rfl, rfl, SqT.of eb, rfl, _, rfl, pa, _, 1, .int p.den, rfl, rfl, SqT.of ea, rfl, _, _, rfl, rfl, lim_mul (ib r2) (nb o1), _, _, rfl, rfl,
      _, rfl, pa, _, 1, .int p.den, rfl, rfl, SqT.of ea, rfl, _, rfl, pb, _, 1, .int r.den, rfl, rfl, SqT.of eb, rfl, _, _, rfl, rfl, lim_mul (nb o1) (nb r1), _, _, rfl, dd0 p r, ddl op or', fun a H' s' h' e' => q a H' s' h' (by rw [add_q] at e'; exact e')⟩
theorem ok_before (T : Tx K mg) {k : Nat} : FnOk P w K mg base CX0 (k + 1) T.f_before T.d_before ["one", "other"] spLessQ := by
  refine T.F_before.ok sc_before (fun vs H Q E h => ?_) (fun cdv A outer s H vs Q E hr h => ?_)
  · obtain ⟨B, x, y, p, r, rfl, _⟩ := h
    rfl
  · obtain ⟨B, x, y, p, r, rfl, hx, hy, op, or', q⟩ := h
    obtain ⟨pa, rfl, _, ea⟩ := hx.col
    obtain ⟨pb, rfl, _, eb⟩ := hy.col
    obtain ⟨o1, o2⟩ := id op
    obtain ⟨r1, r2⟩ := id or'
    refine ⟨_, (pss_one (ps_ret (pe_cmpR op_lt (pe_op op_mulW (pe_ix (ix_tupK K) (pv 0) pe_int (fun _ _ => rfl)) (pe_ix (ix_tupK K) (pv 1) pe_int (fun _ _ => rfl))) (pe_op op_mulW (pe_ix (ix_tupK K) (pv 1) pe_int (fun _ _ => rfl)) (pe_ix (ix_tupK K) (pv 0) pe_int (fun _ _ => rfl))) (nomark _)))), ?_⟩
    exact ⟨_, rfl, pa, _, 0, .int p.num, rfl, rfl, SqT.of ea, rfl, _, rfl, pb, _, 1, .int r.den, rfl, rfl, SqT.of eb, rfl, _, _, rfl, rfl, lim_mul (ib o2) (nb r1),
      _, rfl, pb, _, 0, .int r.num, rfl, rfl, SqT.of eb, rfl, _, rfl, pa, _, 1, .int p.den, rfl, rfl, SqT.of ea, rfl, _, _, rfl, rfl, lim_mul (ib r2) (nb o1), _, _, rfl, rfl, by show Q (.bl (decide (p.num * (r.den : Int) < r.num * (p.den : Int)))) H; rw [lt_q]; exact q⟩
theorem ok_l_plus (T : Tx K mg) {k : Nat} : FnOk P w K mg base CX0 (k + 2) T.f_l_plus T.d_l_plus ["_law_one", "_law_other"] (spTwoQ (· + ·)) := by
  refine T.F_l_plus.ok sc_l_plus (fun vs H Q E h => ?_) (fun cdv A outer s H vs Q E hr h => ?_)
  · obtain ⟨B, x, y, p, r, rfl, _⟩ := h
    rfl
  · obtain ⟨B, x, y, p, r, rfl, hx, hy, op, or', q⟩ := h
    obtain ⟨pa, rfl, _, ea⟩ := hx.col
    obtain ⟨pb, rfl, _, eb⟩ := hy.col
    obtain ⟨o1, o2⟩ := id op
    obtain ⟨r1, r2⟩ := id or'
    refine ⟨_, (pss_one (ps_ret (pe_call (ok_l_part T (k := k)) hr (by rfl) T.g_l_part T.F_l_part.kp T.b_l_part .nil pass0 (pa_cons (pe_op op_add (pe_op op_mulW (pe_ix (ix_tupK K) (pv 0) pe_int (fun _ _ => rfl)) (pe_ix (ix_tupK K) (pv 1) pe_int (fun _ _ => rfl))) (pe_op op_mulW (pe_ix (ix_tupK K) (pv 1) pe_int (fun _ _ => rfl)) (pe_ix (ix_tupK K) (pv 0) pe_int (fun _ _ => rfl)))) (pa_cons (pe_op op_mulW (pe_ix (ix_tupK K) (pv 0) pe_int (fun _ _ => rfl)) (pe_ix (ix_tupK K) (pv 1) pe_int (fun _ _ => rfl))) pa_nil))))), ?_⟩
    exact ⟨_, rfl, pa, _, 0, .int p.num, rfl, rfl, SqT.of ea, rfl, _, rfl, pb, _, 1, .int r.den, rfl, rfl, SqT.of eb, rfl, _, _, rfl, rfl, lim_mul (ib o2) (nb r1),
      _, rfl, pb, _, 0, .int r.num, rfl, rfl, SqT.of eb, rfl, _, rfl, pa, _, 1, .int p.den, rfl, rfl, SqT.of ea, rfl, _, _, rfl, rfl, lim_mul (ib r2) (nb o1), _, _, rfl, rfl,
      _, rfl, pa, _, 1, .int p.den, rfl, rfl, SqT.of ea, rfl, _, rfl, pb, _, 1, .int r.den, rfl, rfl, SqT.of eb, rfl, _, _, rfl, rfl, lim_mul (nb o1) (nb r1), _, _, rfl, dd0 p r, ddl op or', fun a H' s' h' e' => q a H' s' h' (by rw [add_q] at e'; exact e')⟩
theorem ok_l_less (T : Tx K mg) {k : Nat} : FnOk P w K mg base CX0 (k + 1) T.f_l_less T.d_l_less ["_law_one", "_law_other"] spLessQ := by
  refine T.F_l_less.ok sc_l_less (fun vs H Q E h => ?_) (fun cdv A outer s H vs Q E hr h => ?_)
  · obtain ⟨B, x, y, p, r, rfl, _⟩ := h
    rfl
  · obtain ⟨B, x, y, p, r, rfl, hx, hy, op, or', q⟩ := h
    obtain ⟨pa, rfl, _, ea⟩ := hx.col
    obtain ⟨pb, rfl, _, eb⟩ := hy.col
    obtain ⟨o1, o2⟩ := id op
    obtain ⟨r1, r2⟩ := id or'
    refine ⟨_, (pss_one (ps_ret (pe_cmpR op_lt (pe_op op_mulW (pe_ix (ix_tupK K) (pv 0) pe_int (fun _ _ => rfl)) (pe_ix (ix_tupK K) (pv 1) pe_int (fun _ _ => rfl))) (pe_op op_mulW (pe_ix (ix_tupK K) (pv 1) pe_int (fun _ _ => rfl)) (pe_ix (ix_tupK K) (pv 0) pe_int (fun _ _ => rfl))) (nomark _)))), ?_⟩
    exact ⟨_, rfl, pa, _, 0, .int p.num, rfl, rfl, SqT.of ea, rfl, _, rfl, pb, _, 1, .int r.den, rfl, rfl, SqT.of eb, rfl, _, _, rfl, rfl, lim_mul (ib o2) (nb r1),
      _, rfl, pb, _, 0, .int r.num, rfl, rfl, SqT.of eb, rfl, _, rfl, pa, _, 1, .int p.den, rfl, rfl, SqT.of ea, rfl, _, _, rfl, rfl, lim_mul (ib r2) (nb o1), _, _, rfl, rfl, by show Q (.bl (decide (p.num * (r.den : Int) < r.num * (p.den : Int)))) H; rw [lt_q]; exact q⟩
/-! ### rows of counts -/
def eRs (rs : List (List Int × Int)) : PyData := .list (rs.map eRow)
def rOk (wd : Nat) (r : List Int × Int) : Prop := r.1.length = wd ∧ cIn 0 999 r.1 ∧ 1 ≤ r.2 ∧ r.2 ≤ 1000
theorem Dt.rowI {B : List Addr} {H : Hp} {v : V} {r : List Int × Int} (h : Dt B H v (eRow r)) : ∃ a q, v = .ref a ∧ a ∉ B ∧ H a = some (.tup [.ref q, .int r.2]) ∧ q ∉ B ∧ H q = some (.tup (r.1.map V.int)) := by
  obtain ⟨a, vs, rfl, na, ea, hA⟩ := h.tupI
  cases hA with
  | cons h1 h2 =>
    obtain ⟨q, rfl, nq, eq⟩ := h1.col
    cases h2 with
    | cons h3 h4 =>
      have := h3.intI
      subst this
      cases h4
      exact ⟨a, q, rfl, na, ea, nq, eq⟩
theorem Dt.ofRow {B : List Addr} {H : Hp} {a q : Addr} {r : List Int × Int} (na : a ∉ B) (ea : H a = some (.tup [.ref q, .int r.2])) (dq : Dt B H (.ref q) (eC r.1)) : Dt B H (.ref a) (eRow r) := .tup na ea (.cons dq (.cons (.int _) .nil))
def cnt (rs : List (List Int × Int)) : Int := (rs.map (·.2)).sum
def wsum (rs : List (List Int × Int)) (p : Nat) : Int := (rs.map fun r => r.2 * r.1.getD p 0).sum
def midF (rs : List (List Int × Int)) (p : Nat) : Int × Int := (pn (wsum rs p) (cnt rs), pd (wsum rs p) (cnt rs))
def mid (rs : List (List Int × Int)) (wd : Nat) : List (Int × Int) := (List.range wd).map (midF rs)
theorem cnt_in {wd : Nat} : ∀ {rs : List (List Int × Int)}, (∀ r ∈ rs, rOk wd r) → (rs.length : Int) ≤ cnt rs ∧ cnt rs ≤ 1000 * (rs.length : Int)
  | [], _ => ⟨Int.le_refl _, Int.le_refl _⟩
  | r :: rs, h => by
    have ih := cnt_in (rs := rs) fun x hx => h x (List.mem_cons_of_mem _ hx)
    have hr := h r (List.mem_cons_self ..)
    unfold cnt at ih ⊢
    rw [List.map_cons, List.sum_cons, List.length_cons]
    have := hr.2.2
    omega
theorem getD_in {ns : List Int} {lo hi : Int} (h : cIn lo hi ns) (h0 : lo ≤ 0) (h1 : 0 ≤ hi) (p : Nat) : lo ≤ ns.getD p 0 ∧ ns.getD p 0 ≤ hi := by
  rw [List.getD_eq_getElem?_getD]
  cases e : ns[p]? with
  | none => exact ⟨h0, h1⟩
  | some x => exact h x (List.mem_of_getElem? e)
theorem wsum_in {wd : Nat} (p : Nat) : ∀ {rs : List (List Int × Int)}, (∀ r ∈ rs, rOk wd r) → 0 ≤ wsum rs p ∧ wsum rs p ≤ 999000 * (rs.length : Int)
  | [], _ => ⟨Int.le_refl _, Int.le_refl _⟩
  | r :: rs, h => by
    have ih := wsum_in p (rs := rs) fun x hx => h x (List.mem_cons_of_mem _ hx)
    have hr := h r (List.mem_cons_self ..)
    have g := getD_in hr.2.1 (by omega) (by omega) p
    unfold wsum at ih ⊢
    rw [List.map_cons, List.sum_cons, List.length_cons]
    have c := hr.2.2
    have m1 : 0 ≤ r.2 * r.1.getD p 0 := Int.mul_nonneg (by omega) g.1
    have m2 : r.2 * r.1.getD p 0 ≤ 1000 * 999 := Int.mul_le_mul c.2 g.2 g.1 (by omega)
    omega
theorem part_one {n x : Int} (h : 0 < n) : pn (n * x) n = x ∧ pd (n * x) n = 1 := by
  have g : gm (n * x) n = n.natAbs := by
    unfold gm
    rw [Int.natAbs_mul]
    exact Nat.gcd_eq_right (Nat.dvd_mul_right _ _)
  have e : ((n.natAbs : Nat) : Int) = n := by omega
  unfold pn pd
  rw [g, e, if_neg (by omega), if_neg (by omega)]
  exact ⟨Int.mul_ediv_cancel_left _ (by omega), Int.ediv_self (by omega)⟩
theorem mid_one {c : List Int} {n : Int} (h : 0 < n) : mid [(c, n)] c.length = c.map fun x => (x, 1) := by
  unfold mid
  refine List.ext_getElem (by simp) fun i h1 h2 => ?_
  rw [List.getElem_map, List.getElem_map, List.getElem_range]
  have hi : i < c.length := by simpa using h2
  have e : c.getD i 0 = c[i] := by rw [List.getD_eq_getElem?_getD, List.getElem?_eq_getElem hi]; rfl
  unfold midF wsum cnt
  simp only [List.map_cons, List.map_nil, List.sum_cons, List.sum_nil, Int.add_zero]
  rw [e]
  have := part_one (x := c[i]) h
  rw [this.1, this.2]
/-! ### the best on a line, turn by turn -/
def S0 (rs : List (Int × Int)) : Int := (rs.map fun r => r.2).sum
def S1 (rs : List (Int × Int)) : Int := (rs.map fun r => r.2 * r.1).sum
def S2 (rs : List (Int × Int)) : Int := (rs.map fun r => r.2 * r.1 * r.1).sum
/-- the spread of rows of width 1: (number, count) -/
def sprd (rs : List (Int × Int)) : Rat := Rat.divInt (S2 rs * S0 rs - S1 rs * S1 rs) (S0 rs)
def cutR (rs : List (Int × Int)) (b e : Nat) : List (Int × Int) := (rs.drop b).take (e - b)
abbrev Bst := Rat × List Nat
def fS (x y : Bst) : Bst := if y.1 < x.1 then y else x
/-- the first of the least: either way about -/
theorem fold_first : ∀ (cs : List Bst) (s c : Bst), (c :: cs).foldl fS s = if (cs.foldl fS c).1 < s.1 then cs.foldl fS c else s
  | [], s, c => rfl
  | d :: cs, s, c => by
    have h1 := fold_first cs (fS s c) d
    have h2 := fold_first cs c d
    show List.foldl fS (fS s c) (d :: cs) = if (List.foldl fS c (d :: cs)).1 < s.1 then List.foldl fS c (d :: cs) else s
    rw [h1, h2]
    generalize List.foldl fS d cs = m
    have e : fS s c = if c.1 < s.1 then c else s := rfl
    rw [e]
    by_cases a1 : c.1 < s.1
    · rw [if_pos a1]
      by_cases a2 : m.1 < c.1
      · rw [if_pos a2, if_pos (by grind)]
      · rw [if_neg a2, if_pos a1]
    · rw [if_neg a1]
      by_cases a2 : m.1 < c.1
      · rw [if_pos a2]
      · rw [if_neg a2, if_neg a1, if_neg (by grind)]
/-- as the law takes them: of equal ones that whose begins are first -/
def fL (x y : Bst) : Bst := if y.1 < x.1 ∨ (y.1 = x.1 ∧ y.2 < x.2) then y else x
theorem fL_fS {x y : Bst} (h : x.2 < y.2) : fL x y = fS x y := by
  unfold fL fS
  by_cases a : y.1 < x.1
  · rw [if_pos (.inl a), if_pos a]
  · rw [if_neg a, if_neg]
    rintro (z | z)
    · exact a z
    · exact absurd z.2 (List.lt_asymm h)
theorem fS_mem : ∀ (cs : List Bst) (c : Bst), cs.foldl fS c ∈ c :: cs
  | [], c => List.mem_singleton.mpr rfl
  | d :: cs, c => by
    have := fS_mem cs (fS c d)
    rw [List.foldl_cons]
    unfold fS at this ⊢
    split at this
    · rename_i h
      rw [if_pos h]
      rcases List.mem_cons.mp this with z | z
      · rw [z]; simp
      · exact List.mem_cons_of_mem _ (List.mem_cons_of_mem _ z)
    · rename_i h
      rw [if_neg h]
      rcases List.mem_cons.mp this with z | z
      · rw [z]; simp
      · exact List.mem_cons_of_mem _ (List.mem_cons_of_mem _ z)
/-- where the begins rise, the law's way is the program's -/
theorem foldL : ∀ (cs : List Bst) (c : Bst), (c :: cs).Pairwise (fun x y => x.2 < y.2) → cs.foldl fL c = cs.foldl fS c
  | [], _, _ => rfl
  | d :: cs, c, pw => by
    obtain ⟨p1, p2⟩ := List.pairwise_cons.mp pw
    obtain ⟨p3, p4⟩ := List.pairwise_cons.mp p2
    rw [List.foldl_cons, List.foldl_cons, fL_fS (p1 d (List.mem_cons_self ..))]
    refine foldL cs _ (List.pairwise_cons.mpr ⟨fun x hx => ?_, p4⟩)
    unfold fS
    split
    · exact p3 x hx
    · exact p1 x (List.mem_cons_of_mem _ hx)
/-- the last one's begins stand first: then it is taken but where another one is less -/
theorem fL_last {m s : Bst} (h : s.2 < m.2) : fL m s = if m.1 < s.1 then m else s := by
  unfold fL
  by_cases a : m.1 < s.1
  · rw [if_pos a, if_neg]
    rintro (z | z)
    · grind
    · grind
  · rw [if_neg a]
    by_cases b : s.1 < m.1
    · rw [if_pos (.inl b)]
    · rw [if_pos (.inr ⟨by grind, h⟩)]
/-- both ways the same -/
theorem both_ways {cs : List Bst} {c s : Bst} (pw : (c :: cs).Pairwise (fun x y => x.2 < y.2)) (hs : ∀ x ∈ c :: cs, s.2 < x.2) : fL (cs.foldl fL c) s = (c :: cs).foldl fS s := by
  rw [foldL cs c pw, fL_last (hs _ (fS_mem cs c)), fold_first]
def cand (rs : List (Int × Int)) (later : Nat → Bst) (b j : Nat) : Bst := (sprd (cutR rs b (b + 1 + j)) + (later (b + 1 + j)).1, b :: (later (b + 1 + j)).2)
def cands (rs : List (Int × Int)) (later : Nat → Bst) (b : Nat) : List Bst := (List.range (rs.length - 1 - b)).map (cand rs later b)
def pT (rs : List (Int × Int)) : Nat → Nat → Bst
  | 0, b => (sprd (rs.drop b), [b])
  | t + 1, b => (cands rs (pT rs t) b).foldl fS (sprd (rs.drop b), [b])
theorem pT_head (rs : List (Int × Int)) (t b : Nat) : ∃ l, (pT rs t b).2 = b :: l := by
  cases t with
  | zero => exact ⟨[], rfl⟩
  | succ t =>
    show ∃ l, ((cands rs (pT rs t) b).foldl fS (sprd (rs.drop b), [b])).2 = b :: l
    have h := fS_mem (cands rs (pT rs t) b) (sprd (rs.drop b), [b])
    rcases List.mem_cons.mp h with z | z
    · rw [z]; exact ⟨[], rfl⟩
    · obtain ⟨j, _, e⟩ := List.mem_map.mp z
      rw [← e]
      exact ⟨_, rfl⟩
theorem lst_lt {a x y : Nat} {l m : List Nat} (h : x < y) : a :: x :: l < a :: y :: m := List.cons_lt_cons_iff.mpr (.inr ⟨rfl, List.cons_lt_cons_iff.mpr (.inl h)⟩)
theorem cands_pw (rs : List (Int × Int)) (t b : Nat) : (cands rs (pT rs t) b).Pairwise (fun x y => x.2 < y.2) := by
  unfold cands
  rw [List.pairwise_map]
  refine List.Pairwise.imp (fun {i j} h => ?_) (List.pairwise_lt_range (n := rs.length - 1 - b))
  show b :: (pT rs t (b + 1 + i)).2 < b :: (pT rs t (b + 1 + j)).2
  obtain ⟨l, e⟩ := pT_head rs t (b + 1 + i)
  obtain ⟨m, f⟩ := pT_head rs t (b + 1 + j)
  rw [e, f]
  exact lst_lt (by omega)
theorem cands_last (rs : List (Int × Int)) (t b : Nat) : ∀ x ∈ cands rs (pT rs t) b, [b] < x.2 := fun x hx => by
  obtain ⟨j, _, rfl⟩ := List.mem_map.mp hx
  show [b] < b :: (pT rs t (b + 1 + j)).2
  obtain ⟨l, e⟩ := pT_head rs t (b + 1 + j)
  rw [e]
  exact List.cons_lt_cons_iff.mpr (.inr ⟨rfl, List.nil_lt_cons _ _⟩)
/-- the law's one turn: all that end ahead of the last row's end, then that one -/
def fN (x : Option Bst) (y : Bst) : Option Bst := some (match x with
  | none => y
  | some x => fL x y)
theorem fN_some : ∀ (cs : List Bst) (c : Bst), cs.foldl fN (some c) = some (cs.foldl fL c)
  | [], _ => rfl
  | d :: cs, c => fN_some cs (fL c d)
theorem law_turn (rs : List (Int × Int)) (t b : Nat) : (cands rs (pT rs t) b ++ [(sprd (rs.drop b) + 0, [b])]).foldl fN none = some (pT rs (t + 1) b) := by
  have e0 : sprd (rs.drop b) + 0 = sprd (rs.drop b) := by grind
  rw [e0, List.foldl_append]
  show fN (List.foldl fN none (cands rs (pT rs t) b)) (sprd (rs.drop b), [b]) = some ((cands rs (pT rs t) b).foldl fS (sprd (rs.drop b), [b]))
  have pw := cands_pw rs t b
  have la := cands_last rs t b
  cases hc : cands rs (pT rs t) b with
  | nil => rfl
  | cons c cs =>
    rw [hc] at pw la
    show fN (List.foldl fN (some c) cs) _ = _
    rw [fN_some]
    show some (fL _ _) = _
    rw [both_ways pw la]
theorem law_first (rs : List (Int × Int)) (b : Nat) : [(sprd (rs.drop b) + 0, [b])].foldl fN none = some (pT rs 0 b) := by
  have e0 : sprd (rs.drop b) + 0 = sprd (rs.drop b) := by grind
  rw [e0]
  rfl
theorem pT_fix (rs : List (Int × Int)) : ∀ t b, rs.length - 1 - b ≤ t → pT rs (t + 1) b = pT rs t b
  | 0, b, h => by
    show (cands rs (pT rs 0) b).foldl fS _ = _
    unfold cands
    rw [show rs.length - 1 - b = 0 by omega]
    rfl
  | t + 1, b, h => by
    show (cands rs (pT rs (t + 1)) b).foldl fS _ = (cands rs (pT rs t) b).foldl fS _
    congr 1
    unfold cands
    refine List.map_congr_left fun j hj => ?_
    have := List.mem_range.mp hj
    unfold cand
    rw [pT_fix rs t (b + 1 + j) (by omega)]
theorem pT_end (rs : List (Int × Int)) : ∀ d t, rs.length - 1 ≤ t → pT rs (t + d) 0 = pT rs t 0
  | 0, _, _ => rfl
  | d + 1, t, h => by rw [← Nat.add_assoc, pT_fix rs (t + d) 0 (by omega), pT_end rs d t h]
/-- many turns, or as many as there are rows -/
theorem pT_many (rs : List (Int × Int)) {m : Nat} (m0 : 0 < m) (r0 : 0 < rs.length) : pT rs (m - 1) 0 = pT rs (min m rs.length - 1) 0 := by
  rcases Nat.le_total m rs.length with h | h
  · rw [Nat.min_eq_left h]
  · rw [Nat.min_eq_right h]
    have := pT_end rs (m - rs.length) (rs.length - 1) (Nat.le_refl _)
    rw [← this]
    congr 1
    omega
/-! ### rows on a line: data and bounds -/
def eLR (r : Int × Int) : PyData := eRow ([r.1], r.2)
def rLn (r : Int × Int) : Prop := 0 ≤ r.1 ∧ r.1 ≤ 10000 ∧ 1 ≤ r.2 ∧ r.2 ≤ 2000
def lnOk (rs : List (Int × Int)) : Prop := rs.length ≤ 60 ∧ ∀ r ∈ rs, rLn r
theorem lnOk.drop {rs : List (Int × Int)} (h : lnOk rs) (b : Nat) : lnOk (rs.drop b) := ⟨by have := h.1; rw [List.length_drop]; omega, fun r hr => h.2 r (List.mem_of_mem_drop hr)⟩
theorem lnOk.take {rs : List (Int × Int)} (h : lnOk rs) (b : Nat) : lnOk (rs.take b) := ⟨by have := h.1; rw [List.length_take]; omega, fun r hr => h.2 r (List.mem_of_mem_take hr)⟩
theorem sums_in : ∀ {rs : List (Int × Int)}, (∀ r ∈ rs, rLn r) → ((rs.length : Int) ≤ S0 rs ∧ S0 rs ≤ 2000 * (rs.length : Int)) ∧ (0 ≤ S1 rs ∧ S1 rs ≤ 20000000 * (rs.length : Int)) ∧ (0 ≤ S2 rs ∧ S2 rs ≤ 200000000000 * (rs.length : Int))
  | [], _ => ⟨⟨Int.le_refl _, Int.le_refl _⟩, ⟨Int.le_refl _, Int.le_refl _⟩, ⟨Int.le_refl _, Int.le_refl _⟩⟩
  | r :: rs, h => by
    have ih := sums_in (rs := rs) fun x hx => h x (List.mem_cons_of_mem _ hx)
    obtain ⟨h1, h2, h3, h4⟩ := h r (List.mem_cons_self ..)
    unfold S0 S1 S2 at ih ⊢
    simp only [List.map_cons, List.sum_cons, List.length_cons]
    have m1 : 0 ≤ r.2 * r.1 := Int.mul_nonneg (by omega) h1
    have m2 : r.2 * r.1 ≤ 2000 * 10000 := Int.mul_le_mul h4 h2 h1 (by omega)
    have m3 : 0 ≤ r.2 * r.1 * r.1 := Int.mul_nonneg m1 h1
    have m4 : r.2 * r.1 * r.1 ≤ 2000 * 10000 * 10000 := Int.mul_le_mul m2 h2 h1 (by omega)
    omega
theorem S0_in {rs : List (Int × Int)} (h : lnOk rs) : (rs.length : Int) ≤ S0 rs ∧ S0 rs ≤ 120000 := by
  have := (sums_in h.2).1
  have := h.1
  omega
theorem S1_in {rs : List (Int × Int)} (h : lnOk rs) : 0 ≤ S1 rs ∧ S1 rs ≤ 1200000000 := by
  have := (sums_in h.2).2.1
  have := h.1
  omega
theorem S2_in {rs : List (Int × Int)} (h : lnOk rs) : 0 ≤ S2 rs ∧ S2 rs ≤ 12000000000000 := by
  have := (sums_in h.2).2.2
  have := h.1
  omega
theorem S0_take {rs : List (Int × Int)} {i : Nat} (h : i < rs.length) : S0 (rs.take (i + 1)) = S0 (rs.take i) + rs[i].2 := by
  unfold S0
  rw [List.take_succ_eq_append_getElem h, List.map_append, List.sum_append]
  simp only [List.map_cons, List.map_nil, List.sum_cons, List.sum_nil, Int.add_zero]
theorem S1_take {rs : List (Int × Int)} {i : Nat} (h : i < rs.length) : S1 (rs.take (i + 1)) = S1 (rs.take i) + rs[i].2 * rs[i].1 := by
  unfold S1
  rw [List.take_succ_eq_append_getElem h, List.map_append, List.sum_append]
  simp only [List.map_cons, List.map_nil, List.sum_cons, List.sum_nil, Int.add_zero]
theorem S2_take {rs : List (Int × Int)} {i : Nat} (h : i < rs.length) : S2 (rs.take (i + 1)) = S2 (rs.take i) + rs[i].2 * rs[i].1 * rs[i].1 := by
  unfold S2
  rw [List.take_succ_eq_append_getElem h, List.map_append, List.sum_append]
  simp only [List.map_cons, List.map_nil, List.sum_cons, List.sum_nil, Int.add_zero]
/-- how great a fraction's two numbers are -/
def Q2 (k : Nat) (x : Rat) : Prop := x.den ≤ 2 ^ k ∧ x.num.natAbs ≤ 2 ^ k
theorem Q2.qb {k : Nat} {x : Rat} (h : Q2 k x) (l : k < 2000) : Qb x := by
  have : 2 ^ k < lim := Nat.pow_lt_pow_right (by decide) l
  exact ⟨Nat.lt_of_le_of_lt h.1 this, Nat.lt_of_le_of_lt h.2 this⟩
theorem Q2.mono {k l : Nat} {x : Rat} (h : Q2 k x) (hl : k ≤ l) : Q2 l x := by
  have := Nat.pow_le_pow_right (n := 2) (by decide) hl
  exact ⟨Nat.le_trans h.1 this, Nat.le_trans h.2 this⟩
theorem Q2.of {M A k : Nat} {x : Rat} (h : Fr M A x) (hM : 0 < M) (h1 : M ≤ 2 ^ k) (h2 : A ≤ 2 ^ k) : Q2 k x := ⟨Nat.le_trans (h.den hM) h1, Nat.le_trans (h.num hM) h2⟩
theorem Q2.zero (k : Nat) : Q2 k 0 := ⟨by show 1 ≤ 2 ^ k; exact Nat.one_le_two_pow, by show 0 ≤ 2 ^ k; exact Nat.zero_le _⟩
theorem Q2.add {k l : Nat} {x y : Rat} (h1 : Q2 k x) (h2 : Q2 l y) : Q2 (k + l + 1) (x + y) := by
  have f1 : Fr x.den x.num.natAbs x := ⟨x.num, (Rat.num_divInt_den x).symm, Nat.le_refl _⟩
  have f2 : Fr y.den y.num.natAbs y := ⟨y.num, (Rat.num_divInt_den y).symm, Nat.le_refl _⟩
  have p1 : 0 < x.den := x.den_pos
  have p2 : 0 < y.den := y.den_pos
  have g1 := f1.scale p2
  have g2 := f2.scale p1
  rw [Nat.mul_comm y.den x.den] at g2
  have p := Nat.mul_pos p1 p2
  have e : 2 ^ (k + l + 1) = 2 ^ k * 2 ^ l + 2 ^ k * 2 ^ l := by rw [Nat.pow_succ, Nat.pow_add]; omega
  refine Q2.of (g1.add p g2) p ?_ ?_
  · rw [e]
    have := Nat.mul_le_mul h1.1 h2.1
    omega
  · rw [e]
    have a1 := Nat.mul_le_mul h1.2 h2.1
    have a2 := Nat.mul_le_mul h2.2 h1.1
    rw [Nat.mul_comm (2 ^ l) (2 ^ k)] at a2
    omega
theorem sprd_q {rs : List (Int × Int)} (h : lnOk rs) : Q2 64 (sprd rs) := by
  unfold sprd
  obtain ⟨a1, a2⟩ := S0_in h
  obtain ⟨b1, b2⟩ := S1_in h
  obtain ⟨c1, c2⟩ := S2_in h
  by_cases z : S0 rs = 0
  · rw [z, Rat.divInt_zero]
    exact Q2.zero _
  have z0 : 0 < S0 rs := by omega
  have k1 : S2 rs * S0 rs ≤ 12000000000000 * 120000 := Int.mul_le_mul c2 a2 (by omega) (by omega)
  have k0 : 0 ≤ S2 rs * S0 rs := Int.mul_nonneg c1 (by omega)
  have k2 : S1 rs * S1 rs ≤ 1200000000 * 1200000000 := Int.mul_le_mul b2 b2 b1 (by omega)
  have k3 : 0 ≤ S1 rs * S1 rs := Int.mul_nonneg b1 b1
  have f : Fr (S0 rs).natAbs (2 ^ 64) (Rat.divInt (S2 rs * S0 rs - S1 rs * S1 rs) (S0 rs)) := ⟨_, by congr 1; omega, by omega⟩
  exact Q2.of f (by omega) (by omega) (Nat.le_refl _)
theorem pT_q {rs : List (Int × Int)} (h : lnOk rs) : ∀ t b, Q2 (65 * (t + 1)) (pT rs t b).1
  | 0, b => (sprd_q (h.drop b)).mono (by omega)
  | t + 1, b => by
    show Q2 _ ((cands rs (pT rs t) b).foldl fS (sprd (rs.drop b), [b])).1
    rcases List.mem_cons.mp (fS_mem (cands rs (pT rs t) b) (sprd (rs.drop b), [b])) with z | z
    · rw [z]
      exact (sprd_q (h.drop b)).mono (by omega)
    · obtain ⟨j, _, e⟩ := List.mem_map.mp z
      rw [← e]
      exact ((sprd_q ((h.drop b).take _)).add (pT_q h t (b + 1 + j))).mono (by omega)
theorem pT_len (rs : List (Int × Int)) : ∀ t b, (pT rs t b).2.length ≤ t + 1
  | 0, b => Nat.le_refl _
  | t + 1, b => by
    show ((cands rs (pT rs t) b).foldl fS (sprd (rs.drop b), [b])).2.length ≤ _
    rcases List.mem_cons.mp (fS_mem (cands rs (pT rs t) b) (sprd (rs.drop b), [b])) with z | z
    · rw [z]
      exact Nat.succ_le_succ (Nat.zero_le _)
    · obtain ⟨j, _, e⟩ := List.mem_map.mp z
      rw [← e]
      exact Nat.succ_le_succ (pT_len rs t (b + 1 + j))
def sprL (rs : List (Int × Int)) : List PyData := (List.range rs.length).map fun i => enc (qp (sprd (rs.take (i + 1))))
def eSp (rs : List (Int × Int)) : PyData := .list (sprL rs)
def nI (ns : List Nat) : List Int := ns.map Int.ofNat
def eB (x : Bst) : PyData := .tuple [enc (qp x.1), eC (nI x.2)]
def eBL (x : Bst) : PyData := .tuple [enc (qp x.1), eI (nI x.2)]
/-! ### spreads_from -/
def spSprd : Sp := fun vs H Q _ => ∃ (C : List Addr) (a : Addr) (rvs : List V) (rs : List (Int × Int)), vs = [.ref a] ∧ H a = some (.lst rvs) ∧ DtA [] H rvs (rs.map eLR) ∧ Bk C H ∧ lnOk rs ∧
  ∀ v H', Same H H' → Dt C H' v (eSp rs) → Q v H'
theorem ok_spreads_from (T : Tx K mg) {k : Nat} : FnOk P w K mg base CX0 (k + 3) T.f_spreads_from T.d_spreads_from ["rows"] spSprd := by
  refine T.F_spreads_from.ok sc_spreads_from (fun vs H Q E h => ?_) (fun cdv A outer s H vs Q E hr h => ?_)
  · obtain ⟨C, a, rvs, rs, rfl, _⟩ := h
    rfl
  · obtain ⟨C, a, rvs, rs, rfl, ea, hR, hB, ok, q⟩ := h
    have lr := hR.len
    rw [List.length_map] at lr
    have l60 := ok.1
    refine ⟨_, (pss_cons (ps_set (i := 1) sc_spreads_from.nd rfl (.inl rfl) pe_int)
      (pss_cons (ps_set (i := 2) sc_spreads_from.nd rfl (.inl rfl) pe_int)
      (pss_cons (ps_set (i := 3) sc_spreads_from.nd rfl (.inl rfl) pe_int)
      (pss_cons (ps_set (i := 4) sc_spreads_from.nd rfl (.inl rfl) (pe_lst pa_nil))
      (pss_cons (ps_for PassesOwn.never rfl (pi_listK K (pv 0)) (pg_tupK K (n := 2) rfl (pgs_cons (pg_name (i := 5) sc_spreads_from.nd rfl (.inl rfl)) (pgs_cons (pg_name (i := 6) sc_spreads_from.nd rfl (.inl rfl)) pgs_nil))) (pss_cons (ps_set (i := 7) sc_spreads_from.nd rfl (.inl rfl) (pe_ix (ix_tupK K) (pv 5) pe_int (fun _ _ => rfl)))
      (pss_cons (ps_aug (i := 1) sc_spreads_from.nd rfl (.inl rfl) (pv 6) ip_add)
      (pss_cons (ps_aug (i := 2) sc_spreads_from.nd rfl (.inl rfl) (pe_op op_mul (pv 6) (pv 7)) ip_add)
      (pss_cons (ps_aug (i := 3) sc_spreads_from.nd rfl (.inl rfl) (pe_op op_mul (pe_op op_mul (pv 6) (pv 7)) (pv 7)) ip_add)
      (pss_one (ps_expr (pe_bm PySem.F.plainAttrs_list PySem.F.slot_list_append PySem.F.type_list_append mt_append (pv 4) (pa_cons (pe_call (ok_part T (k := k)) hr (by rfl) T.g_part T.F_part.kp T.b_part .nil pass0 (pa_cons (pe_op op_sub (pe_op op_mul (pv 3) (pv 1)) (pe_op op_mul (pv 2) (pv 2))) (pa_cons (pv 1) pa_nil))) pa_nil)))))))))
      (pss_one (ps_ret (pv 4)))))))), ?_⟩
    refine ⟨(by show 0 ≤ sizeLine; decide), fun D hD => ?_⟩
    have nD : D ∉ C := hB.ne hD
    have s1 := sm_new (o := .lst []) hD
    refine ⟨_, rfl, a, rfl, ⟨_, SqL.of (s1 _ _ ea)⟩, for_list (xs := rvs) (fun i σ H' => ∃ y5 y6 y7 ws, σ = [some (.ref a), some (.int (S0 (rs.take i))), some (.int (S1 (rs.take i))), some (.int (S2 (rs.take i))), some (.ref D), y5, y6, y7] ∧ Same H H' ∧ H' D = some (.lst ws) ∧ DtA (D :: C) H' ws ((List.range i).map fun i => enc (qp (sprd (rs.take (i + 1))))))
      ⟨_, _, _, [], rfl, s1, upd_same, .nil⟩ (fun i σ H' _ h => ?_) (fun i y σ H3 hx h3 => ?_) (fun σ H3 h3 => ?_)⟩
    · obtain ⟨y5, y6, y7, ws, rfl, s2, _⟩ := h
      exact SqL.of (s2 _ _ ea)
    · obtain ⟨y5, y6, y7, ws, rfl, s3, eD, hW⟩ := h3
      have hi : i < rvs.length := (List.getElem?_eq_some_iff.mp hx).1
      have hi2 : i < rs.length := by omega
      obtain ⟨d, fd, dx⟩ := (hR.s s3).getV hx
      rw [List.getElem?_map, List.getElem?_eq_getElem hi2] at fd
      have ed : d = eLR rs[i] := (Option.some.inj fd).symm
      subst ed
      obtain ⟨ra, ca, rfl, _, era0, _, eca0⟩ := dx.rowI
      have era : H3 ra = some (.tup [.ref ca, .int rs[i].2]) := era0
      have eca : H3 ca = some (.tup [.int rs[i].1]) := eca0
      have o1 := S0_in (ok.take (i + 1))
      have o2 := S1_in (ok.take (i + 1))
      have o3 := S2_in (ok.take (i + 1))
      rw [List.length_take] at o1
      have lw := hW.len
      rw [List.length_map, List.length_range] at lw
      rw [S0_take hi2] at o1
      rw [S1_take hi2] at o2
      rw [S2_take hi2] at o3
      obtain ⟨r1, r2, r3, r4⟩ := ok.2 _ (List.getElem_mem hi2)
      have m2 : rs[i].2 * rs[i].1 ≤ 2000 * 10000 := Int.mul_le_mul r4 r2 r1 (by omega)
      have m1 : 0 ≤ rs[i].2 * rs[i].1 := Int.mul_nonneg (by omega) r1
      refine ⟨ra, _, rfl, SqT.of era, rfl, _, _, rfl, _, _, rfl, rfl, ?_⟩
      refine ⟨_, rfl, ca, _, 0, .int rs[i].1, rfl, rfl, SqT.of eca, rfl, ?_⟩
      refine ⟨_, rfl, _, rfl, _, _, rfl, rfl, ?_⟩
      refine ⟨_, rfl, _, rfl, _, rfl, _, _, rfl, rfl, .inl ⟨by omega, by omega⟩, _, _, rfl, rfl, ?_⟩
      refine ⟨_, rfl, _, rfl, _, rfl, _, _, rfl, rfl, .inl ⟨by omega, by omega⟩, _, rfl, _, _, rfl, rfl, .inl ⟨by omega, by omega⟩, _, _, rfl, rfl, ?_⟩
      refine ⟨_, rfl, .inl ⟨rfl, _, SqL.of eD⟩, _, rfl, _, rfl, _, _, rfl, rfl, .inl ⟨by dsimp only; omega, by dsimp only; omega⟩, _, rfl, _, rfl, _, _, rfl, rfl, .inl ⟨by dsimp only; omega, by dsimp only; omega⟩, _, _, rfl, rfl, _, rfl, _, _, rfl, by dsimp only; omega, to_lim2 (b := 120000) (by dsimp only; omega), fun p H4 s4 hp ep => ?_⟩
      refine ⟨D, ws, _, rfl, rfl, s4 _ _ eD, sz (by omega), ?_⟩
      have gm : Go (D :: C) H4 (upd H4 D (.lst (ws ++ [.ref p]))) := Go.refl.at (List.mem_cons_self ..)
      refine ⟨some (.ref ca), some (.int rs[i].2), some (.int rs[i].1), _, ?_, sm_mut (s3.trans s4) hD, upd_same, ?_⟩
      · rw [S0_take hi2, S1_take hi2, S2_take hi2]
        rfl
      · rw [List.range_succ, List.map_append]
        have np : p ∉ D :: C := fun m => by
          rcases List.mem_cons.mp m with z | z
          · rw [z, eD] at hp; cases hp
          · exact (hB.go (Go.of (B := C) s3)).ne hp z
        refine ((hW.s s4).g gm).app (.one (Dt.g ?_ gm))
        refine Dt.ofCol (ns := [_, _]) np ?_
        rw [ep]
        unfold sprd
        rw [S0_take hi2, S1_take hi2, S2_take hi2]
        rfl
    · obtain ⟨y5, y6, y7, ws, rfl, s3, eD, hW⟩ := h3
      refine ⟨_, rfl, q _ _ s3 (.lst nD eD ?_)⟩
      rw [lr] at hW
      exact hW.un
/-! ### best_from -/
theorem Dt.bstI {B : List Addr} {H : Hp} {v : V} {x : Bst} (h : Dt B H v (eB x)) : ∃ a p q, v = .ref a ∧ a ∉ B ∧ H a = some (.tup [.ref p, .ref q]) ∧ Dt B H (.ref p) (enc (qp x.1)) ∧ Dt B H (.ref q) (eC (nI x.2)) := by
  obtain ⟨a, vs, rfl, na, ea, hA⟩ := h.tupI
  cases hA with
  | cons h1 h2 =>
    cases h2 with
    | cons h3 h4 =>
      cases h4
      obtain ⟨p, rfl, _⟩ := h1.col
      obtain ⟨q, rfl, _⟩ := h3.col
      exact ⟨a, p, q, rfl, na, ea, h1, h3⟩
theorem sprL_len (rs : List (Int × Int)) : (sprL rs).length = rs.length := by simp [sprL]
theorem sprL_at {rs : List (Int × Int)} {i : Nat} (h : i < rs.length) : (sprL rs)[i]? = some (enc (qp (sprd (rs.take (i + 1))))) := by
  unfold sprL
  rw [List.getElem?_map, List.getElem?_range h]
  rfl
def spBFrom : Sp := fun vs H Q _ => ∃ (C : List Addr) (b : Nat) (sv lv : V) (rs : List (Int × Int)) (later : Nat → Bst), vs = [.int (b : Int), sv, lv] ∧ Dt C H sv (eSp (rs.drop b)) ∧ Dt C H lv (.list ((List.range rs.length).map fun j => eB (later j))) ∧ b < rs.length ∧ Bk C H ∧ lnOk rs ∧
  (∀ j, Q2 1500 (later j).1) ∧ (∀ j, (later j).2.length ≤ 100) ∧
  ∀ v H', Same H H' → Dt C H' v (eB ((cands rs later b).foldl fS (sprd (rs.drop b), [b]))) → Q v H'
theorem ok_best_from (T : Tx K mg) {k : Nat} : FnOk P w K mg base CX0 (k + 4) T.f_best_from T.d_best_from ["begin", "spreads", "later"] spBFrom := by
  refine T.F_best_from.ok sc_best_from (fun vs H Q E h => ?_) (fun cdv A outer s H vs Q E hr h => ?_)
  · obtain ⟨C, b, sv, lv, rs, later, rfl, _⟩ := h
    rfl
  · obtain ⟨C, b, sv, lv, rs, later, rfl, hS, hL, hb, hB, ok, oq, ol, q⟩ := h
    obtain ⟨sa, svs, rfl, _, esa, hSA⟩ := hS.lstI
    obtain ⟨la, lvs, rfl, _, ela, hLA⟩ := hL.lstI
    have ls := hSA.len
    have ll := hLA.len
    rw [sprL_len, List.length_drop] at ls
    rw [List.length_map, List.length_range] at ll
    have l60 := ok.1
    -- the last one
    have hn : rs.length - b - 1 < (rs.drop b).length := by rw [List.length_drop]; omega
    obtain ⟨v0, f0, d0⟩ := hSA.get (sprL_at hn)
    have e0 : (rs.drop b).take (rs.length - b - 1 + 1) = rs.drop b := List.take_of_length_le (by rw [List.length_drop]; omega)
    rw [e0] at d0
    refine ⟨_, (pss_cons (ps_set (i := 3) sc_best_from.nd rfl (.inl rfl) (pe_tup (pa_cons (pe_ix (ix_listK K) (pv 1) (pe_un un_neg pe_int) (fun _ _ => rfl)) (pa_cons (pe_tup (pa_cons (pv 0) pa_nil)) pa_nil))))
      (pss_cons (ps_for PassesOwn.never rfl (pi_enumS K (by rfl) T.z_enumerate (pa_cons (pe_slice (sl_listK K) (pv 1) po_none (po_some (pe_un un_neg pe_int))) pa_nil) (pk_cons (pe_op op_add (pv 0) pe_int) pk_nil)) (pg_tupK K (n := 2) rfl (pgs_cons (pg_name (i := 4) sc_best_from.nd rfl (.inl rfl)) (pgs_cons (pg_name (i := 5) sc_best_from.nd rfl (.inl rfl)) pgs_nil))) (pss_cons (ps_set (i := 6) sc_best_from.nd rfl (.inl rfl) (pe_call (ok_plus T (k := k)) hr (by rfl) T.g_plus T.F_plus.kp T.b_plus .nil pass0 (pa_cons (pv 5) (pa_cons (pe_ix (ix_tupK K) (pe_ix (ix_listK K) (pv 2) (pv 4) (fun _ _ => rfl)) pe_int (fun _ _ => rfl)) pa_nil))))
      (pss_one (ps_if (pt_val (pe_call (ok_before T (k := k + 2)) hr (by rfl) T.g_before T.F_before.kp T.b_before .nil pass0 (pa_cons (pv 6) (pa_cons (pe_ix (ix_tupK K) (pv 3) pe_int (fun _ _ => rfl)) pa_nil)))) (pss_one (ps_set (i := 3) sc_best_from.nd rfl (.inl rfl) (pe_tup (pa_cons (pv 6) (pa_cons (pe_op (op_catAK K) (pe_tup (pa_cons (pv 0) pa_nil)) (pe_ix (ix_tupK K) (pe_ix (ix_listK K) (pv 2) (pv 4) (fun _ _ => rfl)) pe_int (fun _ _ => rfl))) pa_nil))))) pss_nil))))
      (pss_one (ps_ret (pv 3))))), ?_⟩
    refine ⟨_, rfl, _, rfl, sa, _, -1, v0, rfl, rfl, SqL.of esa, ?_, _, rfl, (by show 1 ≤ sizeLine; decide), fun t1 ht1 => ⟨(by show 2 ≤ sizeLine; decide), fun t2 ht2 => ?_⟩⟩
    · unfold atI
      rw [ixN_last (by omega), ls]
      exact f0
    have s1 := sm_new (o := .tup [.int (b : Int)]) ht1
    have s2 := sm_new (o := .tup [v0, .ref t1]) ht2
    have et1 : (upd (upd H t1 (.tup [.int (b : Int)])) t2 (.tup [v0, .ref t1])) t1 = some (.tup [.int (b : Int)]) := s2 _ _ upd_same
    have et2 : (upd (upd H t1 (.tup [.int (b : Int)])) t2 (.tup [v0, .ref t1])) t2 = some (.tup [v0, .ref t1]) := upd_same
    have nt2 : t2 ∉ C := (hB.go (Go.of (B := C) s1)).ne ht2
    have nt1 : t1 ∉ C := hB.ne ht1
    have s12 := s1.trans s2
    generalize upd (upd H t1 (.tup [.int (b : Int)])) t2 (.tup [v0, .ref t1]) = H2 at *
    have cut : cutV svs none (some (-1)) = svs.take (rs.length - 1 - b) := by
      unfold cutV
      have e1 : HT.sIx svs.length 0 none = 0 := rfl
      have e2 : HT.sIx svs.length svs.length (some (-1)) = rs.length - 1 - b := by
        show (if (-1 : Int) < 0 then (-1 + (svs.length : Int)).toNat else min (-1 : Int).toNat svs.length) = _
        rw [if_pos (by decide)]
        omega
      rw [e1, e2, List.drop_zero, Nat.sub_zero]
    refine ⟨_, rfl, _, rfl, -1, rfl, sa, svs, rfl, SqL.of (s12 _ _ esa), fun z hz => ?_⟩
    have s3 := sm_new (o := .lst (cutV svs none (some (-1)))) hz
    have ez : (upd H2 z (.lst (cutV svs none (some (-1))))) z = some (.lst (svs.take (rs.length - 1 - b))) := by rw [upd_same, cut]
    generalize upd H2 z (.lst (cutV svs none (some (-1)))) = H3 at *
    have s13 := s12.trans s3
    have lz : (svs.take (rs.length - 1 - b)).length = rs.length - 1 - b := by rw [List.length_take]; omega
    have d3 : Dt C H3 (.ref t2) (eB (sprd (rs.drop b), [b])) := by
      exact .tup nt2 (s3 _ _ et2) (.cons (d0.s s13) (.cons (Dt.ofCol (ns := [(b : Int)]) nt1 (s3 _ _ et1)) .nil))
    refine ⟨_, rfl, _, _, rfl, rfl, z, _, b + 1, rfl, by rw [Int.natCast_add]; rfl, by omega, SqL.of ez, for_it (walk_enumS (xs := svs.take (rs.length - 1 - b))) (fun i σ H' => ∃ y4 y5 y6 bv, σ = [some (.int (b : Int)), some (.ref sa), some (.ref la), some bv, y4, y5, y6] ∧ Same H3 H' ∧ Dt C H' bv (eB (((List.range i).map (cand rs later b)).foldl fS (sprd (rs.drop b), [b]))) ∧ Q2 1600 (((List.range i).map (cand rs later b)).foldl fS (sprd (rs.drop b), [b])).1)
      ⟨_, _, _, _, rfl, Same.refl _, d3, (sprd_q (ok.drop b)).mono (by omega)⟩ (fun i σ H' _ h => ?_) (fun i x σ H4 H5 hi h y => ?_) (fun σ H4 h => ?_)⟩
    · obtain ⟨y4, y5, y6, bv, rfl, s4, _⟩ := h
      exact SqL.of (s4 _ _ ez)
    · obtain ⟨y4, y5, y6, bv, rfl, s4, d4, q4⟩ := h
      obtain ⟨tp, x1, x2, rfl, htp, rfl, e1, e2⟩ := y
      have s5 := sm_new (o := .tup [x1, x2]) htp
      cases e1
      rw [lz] at hi
      dsimp only at e2
      rw [List.getElem?_take_of_lt hi] at e2
      refine ⟨tp, _, rfl, SqT.of upd_same, rfl, _, _, rfl, _, _, rfl, rfl, ?_⟩
      generalize upd H4 tp (.tup [.int ((b + 1 + i : Nat) : Int), x2]) = H5 at *
      have t5 := (s13.trans s4).trans s5
      obtain ⟨dd, fd, dx⟩ := hSA.getV e2
      rw [sprL_at (by rw [List.length_drop]; omega)] at fd
      cases fd
      obtain ⟨lv, fl, dl⟩ := hLA.get (i := b + 1 + i) (d := eB (later (b + 1 + i))) (by rw [List.getElem?_map, List.getElem?_range (by omega)]; rfl)
      obtain ⟨a2, p2, q2, rfl, _, ea2, dp2, dq2⟩ := dl.bstI
      have cq : Q2 1600 (cand rs later b i).1 := ((sprd_q ((ok.drop b).take _)).add (oq (b + 1 + i))).mono (by omega)
      have ce : sprd ((rs.drop b).take (i + 1)) + (later (b + 1 + i)).1 = (cand rs later b i).1 := by
        unfold cand cutR
        rw [show b + 1 + i - b = i + 1 by omega]
      refine ⟨_, rfl, _, rfl, _, rfl, la, _, _, .ref a2, rfl, rfl, SqL.of (t5 _ _ ela), atI_nat fl, a2, _, 0, .ref p2, rfl, rfl, SqT.of (t5 _ _ ea2), rfl, ?_⟩
      refine ⟨C, x2, .ref p2, _, _, rfl, dx.s t5, dp2.s t5, (sprd_q ((ok.drop b).take _)).qb (by omega), (oq _).qb (by omega), fun p6 H6 s6 hp6 ep6 => ?_⟩
      have d6 : Dt C H6 (.ref p6) (enc (qp (cand rs later b i).1)) := by
        rw [← ce]
        exact Dt.ofCol (ns := [_, _]) ((hB.go (Go.of (B := C) t5)).ne hp6) ep6
      have d46 := (d4.s s5).s s6
      obtain ⟨a3, p3, q3, rfl, _, ea3, dp3, dq3⟩ := d46.bstI
      have t6 := t5.trans s6
      have fe : ((List.range (i + 1)).map (cand rs later b)).foldl fS (sprd (rs.drop b), [b]) = fS (((List.range i).map (cand rs later b)).foldl fS (sprd (rs.drop b), [b])) (cand rs later b i) := by
        rw [List.range_succ, List.map_append, List.foldl_append]
        rfl
      refine ⟨_, rfl, _, rfl, a3, _, 0, .ref p3, rfl, rfl, SqT.of ea3, rfl, C, .ref p6, .ref p3, _, _, rfl, d6, dp3, cq.qb (by omega), q4.qb (by omega), _, rfl, ite2 (fun e => ?_) (fun e => ?_)⟩
      · have lt := of_decide_eq_true e
        have fe2 : fS (((List.range i).map (cand rs later b)).foldl fS (sprd (rs.drop b), [b])) (cand rs later b i) = cand rs later b i := if_pos lt
        refine ⟨_, rfl, _, rfl, (by show 1 ≤ sizeLine; decide), fun t7 ht7 => ?_⟩
        have s7 := sm_new (o := .tup [.int (b : Int)]) ht7
        have B6 := hB.go (Go.of (B := C) t6)
        have d7 : Dt C (upd H6 t7 (.tup [.int (b : Int)])) (.ref t7) (.tuple [.int (b : Int)]) := .tup (B6.ne ht7) upd_same (.one (.int _))
        generalize upd H6 t7 (.tup [.int (b : Int)]) = H7 at *
        have t7' := t6.trans s7
        refine ⟨_, rfl, _, rfl, la, _, _, .ref a2, rfl, rfl, SqL.of (t7' _ _ ela), atI_nat fl, a2, _, 1, .ref q2, rfl, rfl, SqT.of (t7' _ _ ea2), rfl, ?_⟩
        refine cat_dt (xs := [.int (b : Int)]) (ys := (nI (later (b + 1 + i)).2).map .int) d7 (dq2.s t7') (B6.go (Go.of (B := C) s7)) (by have := ol (b + 1 + i); simp [nI]; omega) fun v8 H8 s8 d8 => ?_
        refine ⟨(by show 2 ≤ sizeLine; decide), fun t9 ht9 => ?_⟩
        have s9 := sm_new (o := .tup [.ref p6, v8]) ht9
        have t9' := (s7.trans s8).trans s9
        refine ⟨_, _, _, _, rfl, ((s4.trans s5).trans s6).trans t9', ?_, ?_⟩
        · rw [fe, fe2]
          exact .tup (((B6.go (Go.of (B := C) s7)).go (Go.of (B := C) s8)).ne ht9) upd_same (.cons (d6.s t9') (.cons (d8.s s9) .nil))
        · rw [fe, fe2]
          exact cq
      · have fe2 : fS (((List.range i).map (cand rs later b)).foldl fS (sprd (rs.drop b), [b])) (cand rs later b i) = ((List.range i).map (cand rs later b)).foldl fS (sprd (rs.drop b), [b]) := if_neg (fun h => e (decide_eq_true h))
        refine ⟨_, _, _, _, rfl, (s4.trans s5).trans s6, ?_, ?_⟩
        · rw [fe, fe2]
          exact d46
        · rw [fe, fe2]
          exact q4
    · obtain ⟨y4, y5, y6, bv, rfl, s4, d4, q4⟩ := h
      refine ⟨_, rfl, q _ _ (s13.trans s4) ?_⟩
      rw [lz] at d4
      exact d4
/-! ### best_on_line -/
def spBOL : Sp := fun vs H Q _ => ∃ (ra : Addr) (rvs : List V) (rs : List (Int × Int)) (m : Nat), vs = [.ref ra, .int (m : Int)] ∧ H ra = some (.lst rvs) ∧ DtA [] H rvs (rs.map eLR) ∧ 0 < rs.length ∧ lnOk rs ∧ 1 ≤ m ∧ m ≤ 20 ∧
  ∀ (p q t : Addr) H', Same H H' → H p = none → H q = none → H' p = some (.tup [.ref t, .ref q]) → Dt [] H' (.ref t) (enc (qp (pT rs (min m rs.length - 1) 0).1)) → H' q = some (.lst ((nI (pT rs (min m rs.length - 1) 0).2).map V.int)) → Q (.ref p) H'
theorem ok_best_on_line (T : Tx K mg) {k : Nat} : FnOk P w K mg base CX0 (k + 5) T.f_best_on_line T.d_best_on_line ["rows", "many"] spBOL := by
  refine T.F_best_on_line.ok sc_best_on_line (fun vs H Q E h => ?_) (fun cdv A outer s H vs Q E hr h => ?_)
  · obtain ⟨ra, rvs, rs, m, rfl, _⟩ := h
    rfl
  · obtain ⟨ra, rvs, rs, m, rfl, era, hR, r0, ok, m0, m1, q⟩ := h
    have lr := hR.len
    rw [List.length_map] at lr
    have l60 := ok.1
    have bk0 : ∀ X : Hp, Bk [] X := fun X _ h => nomatch h
    refine ⟨_, (pss_cons (ps_setLc (i := 2) (own := [("begin", 7)]) (by rfl) sc_best_on_line.nd rfl rfl (sw_true rfl rfl rfl (by decide +kernel)) (pi_range1 (by rfl) T.z_range (pa_cons (pe_callB (len_K K) (by rfl) T.z_len PySem.boot_len (pa_cons (pv 0) pa_nil)) pa_nil)) (blkOk_by (own := [("begin", 7)]) (N := N_best_on_line) (sc := defScope s_best_on_line) (by decide +kernel)) (fun _ _ _ _ _ => (pg_name (i := 7) sc_best_on_line.nd rfl (.inl rfl))) (fun _ _ _ _ _ => pts_nil) (fun _ _ _ _ _ => (pe_call (ok_spreads_from T (k := k + 1)) hr (by rfl) T.g_spreads_from T.F_spreads_from.kp T.b_spreads_from .nil pass0 (pa_cons (pe_slice (sl_listK K) (pv 0) (po_some (pv 7)) po_none) pa_nil))))
      (pss_cons (ps_set (i := 3) sc_best_on_line.nd rfl (.inr rfl) (pe_lc (own := [("begin", 7), ("each", 8)]) (by rfl) sc_best_on_line.nd (pi_enum (by rfl) T.z_enumerate (pa_cons (pv 2) pa_nil)) (blkOk_by (own := [("begin", 7), ("each", 8)]) (N := N_best_on_line) (sc := defScope s_best_on_line) (by decide +kernel)) (fun _ _ _ _ _ => (pg_tupK K (n := 2) rfl (pgs_cons (pg_name (i := 7) sc_best_on_line.nd rfl (.inl rfl)) (pgs_cons (pg_name (i := 8) sc_best_on_line.nd rfl (.inl rfl)) pgs_nil)))) (fun _ _ _ _ _ => pts_nil) (fun _ _ _ _ _ => (pe_tup (pa_cons (pe_ix (ix_listK K) (pv 8) (pe_un un_neg pe_int) (fun _ _ => rfl)) (pa_cons (pe_tup (pa_cons (pv 7) pa_nil)) pa_nil))))))
      (pss_cons (ps_for PassesOwn.never rfl (pi_range2 (by rfl) T.z_range (pa_cons pe_int (pa_cons (pe_callB (call_min2 rfl) (by rfl) T.z_min (by decide +kernel) (pa_cons (pv 1) (pa_cons (pe_callB (len_K K) (by rfl) T.z_len PySem.boot_len (pa_cons (pv 0) pa_nil)) pa_nil))) pa_nil))) (pg_name (i := 4) sc_best_on_line.nd rfl (.inl rfl)) (pss_one (ps_set (i := 3) sc_best_on_line.nd rfl (.inr rfl) (pe_lc (own := [("begin", 7), ("each", 8)]) (by rfl) sc_best_on_line.nd (pi_enum (by rfl) T.z_enumerate (pa_cons (pv 2) pa_nil)) (blkOk_by (own := [("begin", 7), ("each", 8)]) (N := N_best_on_line) (sc := defScope s_best_on_line) (by decide +kernel)) (fun _ _ _ _ _ => (pg_tupK K (n := 2) rfl (pgs_cons (pg_name (i := 7) sc_best_on_line.nd rfl (.inl rfl)) (pgs_cons (pg_name (i := 8) sc_best_on_line.nd rfl (.inl rfl)) pgs_nil)))) (fun _ _ _ _ _ => pts_nil) (fun _ _ _ _ _ => (pe_call (ok_best_from T (k := k)) hr (by rfl) T.g_best_from T.F_best_from.kp T.b_best_from .nil pass0 (pa_cons (pv 7) (pa_cons (pv 8) (pa_cons (pv 3) pa_nil)))))))))
      (pss_cons (ps_asg (pe_ix (ix_listK K) (pv 3) pe_int (fun _ _ => rfl)) (pg_tupK K (n := 2) rfl (pgs_cons (pg_name (i := 5) sc_best_on_line.nd rfl (.inl rfl)) (pgs_cons (pg_name (i := 6) sc_best_on_line.nd rfl (.inl rfl)) pgs_nil))))
      (pss_one (ps_ret (pe_tup (pa_cons (pv 5) (pa_cons (pe_callTy (list_K K) (by rfl) T.z_list (by decide +kernel) (pa_cons (pv 6) pa_nil)) pa_nil))))))))), ?_⟩
    refine ⟨_, rfl, ra, _, rfl, .inl (SqL.of era), _, rfl, by omega, by omega, fun D hD => ?_⟩
    refine lc_pure (B := []) (walk_range (lo := 0) (n := rvs.length)) hD (bk0 _) (fun _ _ => True.intro) (by omega) (fun i => some (eSp (rs.drop i))) (fun i x H' H'' Ny Nn hi t1 bk y ky kn => ?_) (fun H1 ws s1 eD hW => ?_)
    · obtain ⟨rfl, rfl⟩ := y
      refine ⟨rfl, lc_yes ⟨_, rfl, _, rfl, _, rfl, ra, _, rfl, SqL.of (t1 _ _ era), fun z hz => ?_⟩⟩
      have s2 := sm_new (o := .lst (cutV rvs (some ((0 : Int) + i)) none)) hz
      refine ⟨D :: [], z, _, rs.drop i, rfl, upd_same, ?_, bk.go (Go.of (B := [D]) s2), ok.drop i, fun v' H' s' d' => ky _ _ _ rfl (s2.trans s') d'⟩
      have c := ((hR.s t1).s s2).cut (some ((0 : Int) + i)) none
      rw [cut_fromV _ (by omega)] at c
      have e : ((0 : Int) + (i : Int)).toNat = i := by omega
      rw [e, ← List.map_drop] at c
      exact c
    rw [fm_some, lr] at hW
    have lw := hW.len
    rw [List.length_map, List.length_range] at lw
    have spAt : ∀ {i : Nat} {x : V}, ws[i]? = some x → i < rs.length ∧ Dt [] H1 x (eSp (rs.drop i)) := fun {i x} hx => by
      have hi : i < rs.length := by rw [← lw]; exact (List.getElem?_eq_some_iff.mp hx).1
      obtain ⟨d, fd, dx⟩ := hW.un.getV hx
      rw [List.getElem?_map, List.getElem?_range hi] at fd
      cases fd
      exact ⟨hi, dx⟩
    refine ⟨_, rfl, D, ws, rfl, SqL.of eD, fun D2 hD2 => ?_⟩
    refine lc_pure (B := []) (walk_enum (xs := ws)) hD2 (bk0 _) (fun H' s' => SqL.of (s' _ _ eD)) (by omega) (fun i => some (eB (pT rs 0 i))) (fun i x H' H'' Ny Nn hi t2 bk y ky kn => ?_) (fun H2 ws2 s2 eD2 hW2 => ?_)
    · obtain ⟨tp, x1, x2, rfl, htp, rfl, e1, e2⟩ := y
      cases e1
      obtain ⟨hi2, dx⟩ := spAt e2
      have s3 := sm_new (o := .tup [.int (i : Int), x2]) htp
      have dx' : Dt [D2] H1 x2 (eSp (rs.drop i)) := dx.fr hD2
      have bk3 := bk.go (Go.of (B := [D2]) s3)
      refine ⟨tp, _, rfl, SqT.of upd_same, rfl, _, _, rfl, _, _, rfl, rfl, rfl, ?_⟩
      generalize upd H' tp (.tup [.int (i : Int), x2]) = H3 at *
      have dx3 := (dx'.s t2).s s3
      obtain ⟨sa, svs, rfl, _, esa, hSA⟩ := dx3.lstI
      have ls := hSA.len
      rw [sprL_len, List.length_drop] at ls
      obtain ⟨v0, f0, d0⟩ := hSA.get (sprL_at (rs := rs.drop i) (i := rs.length - i - 1) (by rw [List.length_drop]; omega))
      rw [List.take_of_length_le (show (rs.drop i).length ≤ rs.length - i - 1 + 1 by rw [List.length_drop]; omega)] at d0
      refine lc_yes ⟨_, rfl, _, rfl, sa, _, -1, v0, rfl, rfl, SqL.of esa, ?_, _, rfl, (by show 1 ≤ sizeLine; decide), fun t4 ht4 => ⟨(by show 2 ≤ sizeLine; decide), fun t5 ht5 => ?_⟩⟩
      · unfold atI
        rw [ixN_last (by omega), ls]
        exact f0
      have s4 := sm_new (o := .tup [.int (i : Int)]) ht4
      have s5 := sm_new (o := .tup [v0, .ref t4]) ht5
      refine ky _ _ _ rfl ((s3.trans s4).trans s5) ?_
      exact .tup ((bk3.go (Go.of (B := [D2]) s4)).ne ht5) upd_same (.cons (d0.s (s4.trans s5)) (.cons (Dt.ofCol (ns := [(i : Int)]) (bk3.ne ht4) (s5 _ _ upd_same)) .nil))
    rw [fm_some, lw] at hW2
    obtain ⟨n, hn⟩ : ∃ n : Nat, n = min m rs.length - 1 := ⟨_, rfl⟩
    have hmn : (if (rvs.length : Int) < (m : Int) then (rvs.length : Int) else (m : Int)) = (n : Int) + 1 := by
      rw [lr]
      split <;> omega
    have eD' := s2 _ _ eD
    refine ⟨_, rfl, _, rfl, ra, _, rfl, .inl (SqL.of ((s1.trans s2) _ _ era)), _, _, rfl, 1, (n : Int) + 1, by rw [hmn], ⟨by omega, by omega, by omega, by omega⟩, for_range (lo := 1) (n := ((n : Int) + 1 - 1).toNat) (fun i σ H' => ∃ y4 y5 y6 y7 y8 ba bvs, σ = [some (.ref ra), some (.int (m : Int)), some (.ref D), some (.ref ba), y4, y5, y6, y7, y8] ∧ Same H2 H' ∧ H' ba = some (.lst bvs) ∧ DtA [] H' bvs ((List.range rs.length).map fun j => eB (pT rs i j)))
      ⟨_, _, _, _, _, _, _, rfl, Same.refl _, eD2, hW2.un⟩ (fun i σ H3 hi h3 => ?_) (fun σ H3 h3 => ?_)⟩
    · obtain ⟨y4, y5, y6, y7, y8, ba, bvs, rfl, s3, eba, hV⟩ := h3
      have eD3 := s3 _ _ eD'
      have hi' : i < n := by omega
      refine ⟨_, rfl, D, ws, rfl, SqL.of eD3, fun D3 hD3 => ?_⟩
      refine lc_pure (B := []) (walk_enum (xs := ws)) hD3 (bk0 _) (fun H' s' => SqL.of (s' _ _ eD3)) (by omega) (fun j => some (eB (pT rs (i + 1) j))) (fun j x H' H'' Ny Nn hj t2 bk y ky kn => ?_) (fun H4 ws4 s4 eD4 hW4 => ?_)
      · obtain ⟨tp, x1, x2, rfl, htp, rfl, e1, e2⟩ := y
        cases e1
        obtain ⟨hi2, dx⟩ := spAt e2
        have s5 := sm_new (o := .tup [.int (j : Int), x2]) htp
        have dx' : Dt [D3] H3 x2 (eSp (rs.drop j)) := (dx.s (s2.trans s3)).fr hD3
        have dl : Dt [D3] H3 (.ref ba) (.list ((List.range rs.length).map fun j => eB (pT rs i j))) := (Dt.lst (fun h => nomatch h) eba hV : Dt [] H3 (.ref ba) _).fr hD3
        refine ⟨tp, _, rfl, SqT.of upd_same, rfl, _, _, rfl, _, _, rfl, rfl, rfl, ?_⟩
        refine lc_yes ⟨_, rfl, _, rfl, _, rfl, [D3], j, x2, .ref ba, rs, pT rs i, rfl, (dx'.s t2).s s5, (dl.s t2).s s5, hi2, bk.go (Go.of (B := [D3]) s5), ok, fun z => (pT_q ok i z).mono (by omega), fun z => Nat.le_trans (pT_len rs i z) (by omega), fun v' H' s' d' => ?_⟩
        exact ky _ _ _ rfl (s5.trans s') d'
      · rw [fm_some, lw] at hW4
        exact ⟨_, _, _, _, _, _, _, rfl, s3.trans s4, eD4, hW4.un⟩
    · obtain ⟨y4, y5, y6, y7, y8, ba, bvs, rfl, s3, eba, hV⟩ := h3
      have en : ((n : Int) + 1 - 1).toNat = n := by omega
      rw [en] at hV
      obtain ⟨v0, f0, d0⟩ := hV.get (i := 0) (d := eB (pT rs n 0)) (by rw [List.getElem?_map, List.getElem?_range r0]; rfl)
      obtain ⟨a2, p2, q2, rfl, _, ea2, dp2, dq2⟩ := d0.bstI
      obtain ⟨q2', e2', _, eq2⟩ := dq2.col
      cases e2'
      have lb := pT_len rs n 0
      refine ⟨_, rfl, ba, _, 0, .ref a2, rfl, rfl, SqL.of eba, atI_nat (j := 0) f0, a2, _, rfl, SqT.of ea2, rfl, _, _, rfl, _, _, rfl, rfl, ?_⟩
      refine ⟨_, rfl, _, rfl, q2, _, rfl, .inr (SqT.of eq2), fun l hl => ⟨(by show 2 ≤ sizeLine; decide), fun p hp => ?_⟩⟩
      have t3 := (s1.trans s2).trans s3
      have s4 := sm_new (o := .lst ((nI (pT rs n 0).2).map V.int)) hl
      have s5 := sm_new (o := .tup [.ref p2, .ref l]) hp
      rw [hn] at *
      exact q p l p2 _ ((t3.trans s4).trans s5) (t3.free (s4.free hp)) (t3.free hl) upd_same ((dp2.s s4).s s5) (s5 _ _ upd_same)
/-! ### the best of all groupings of a line -/
def sums (gs : List (List (Int × Int))) : Rat := (gs.map sprd).foldr (· + ·) 0
def begs (b : Nat) : List (List (Int × Int)) → List Nat
  | [] => []
  | g :: gs => b :: begs (b + g.length) gs
structure Grp (rs : List (Int × Int)) (b t : Nat) (gs : List (List (Int × Int))) : Prop where
  f : gs.flatten = rs.drop b
  n : ∀ g ∈ gs, g ≠ []
  l : gs.length ≤ t + 1
  e : gs ≠ []
theorem fS_le : ∀ (cs : List Bst) (c : Bst), ∀ x ∈ c :: cs, (cs.foldl fS c).1 ≤ x.1
  | [], c, x, hx => by rw [List.mem_singleton.mp hx]; exact Rat.le_refl
  | d :: cs, c, x, hx => by
    have h := fS_le cs (fS c d)
    have h0 := h (fS c d) (List.mem_cons_self ..)
    have hc : (fS c d).1 ≤ c.1 ∧ (fS c d).1 ≤ d.1 := by
      unfold fS
      split <;> grind
    rw [List.foldl_cons]
    rcases List.mem_cons.mp hx with z | z
    · rw [z]; grind
    · rcases List.mem_cons.mp z with y | y
      · rw [y]; grind
      · exact h x (List.mem_cons_of_mem _ y)
theorem cut_app {rs : List (Int × Int)} {b : Nat} {g : List (Int × Int)} {r : List (Int × Int)} (h : g ++ r = rs.drop b) : cutR rs b (b + g.length) = g ∧ r = rs.drop (b + g.length) := by
  unfold cutR
  rw [← h]
  refine ⟨by rw [show b + g.length - b = g.length by omega, List.take_left], ?_⟩
  rw [← List.drop_drop, ← h, List.drop_left]
theorem pT_at (rs : List (Int × Int)) : ∀ t b, b < rs.length → ∃ gs, Grp rs b t gs ∧ sums gs = (pT rs t b).1 ∧ begs b gs = (pT rs t b).2
  | 0, b, hb => ⟨[rs.drop b], ⟨by simp, fun g hg => by
      rw [List.mem_singleton.mp hg]
      exact fun z => by have := congrArg List.length z; simp at this; omega, Nat.le_refl _, by simp⟩, by show sprd (rs.drop b) + 0 = sprd (rs.drop b); grind, rfl⟩
  | t + 1, b, hb => by
    show ∃ gs, Grp rs b (t + 1) gs ∧ sums gs = ((cands rs (pT rs t) b).foldl fS (sprd (rs.drop b), [b])).1 ∧ begs b gs = ((cands rs (pT rs t) b).foldl fS (sprd (rs.drop b), [b])).2
    rcases List.mem_cons.mp (fS_mem (cands rs (pT rs t) b) (sprd (rs.drop b), [b])) with z | z
    · rw [z]
      exact ⟨[rs.drop b], ⟨by simp, fun g hg => by
        rw [List.mem_singleton.mp hg]
        exact fun z => by have := congrArg List.length z; simp at this; omega, by simp, by simp⟩, by show sprd (rs.drop b) + 0 = sprd (rs.drop b); grind, rfl⟩
    · obtain ⟨j, hj, e⟩ := List.mem_map.mp z
      rw [← e]
      have hj := List.mem_range.mp hj
      obtain ⟨gs, ⟨f, n, l, ne⟩, s, bg⟩ := pT_at rs t (b + 1 + j) (by omega)
      have lg : (cutR rs b (b + 1 + j)).length = 1 + j := by
        unfold cutR
        rw [List.length_take, List.length_drop]
        omega
      refine ⟨cutR rs b (b + 1 + j) :: gs, ⟨?_, fun g hg => ?_, by rw [List.length_cons]; omega, by simp⟩, ?_, ?_⟩
      · rw [List.flatten_cons, f]
        unfold cutR
        rw [show b + 1 + j - b = 1 + j by omega, show b + 1 + j = b + (1 + j) by omega, ← List.drop_drop, List.take_append_drop]
      · rcases List.mem_cons.mp hg with y | y
        · rw [y]
          exact fun z => by rw [z] at lg; simp at lg; omega
        · exact n g y
      · show sprd _ + sums gs = sprd _ + _
        rw [s]
      · show b :: begs (b + (cutR rs b (b + 1 + j)).length) gs = b :: _
        rw [lg, ← bg, show b + (1 + j) = b + 1 + j by omega]
theorem pT_le (rs : List (Int × Int)) : ∀ t b gs, Grp rs b t gs → (pT rs t b).1 ≤ sums gs
  | t, b, [], h => absurd rfl h.e
  | t, b, [g], h => by
    have hg : g = rs.drop b := by
      have := h.f
      simpa using this
    have hs : sums [g] = sprd g := by show sprd g + 0 = sprd g; grind
    rw [hs, hg]
    cases t with
    | zero => exact Rat.le_refl
    | succ t => exact fS_le (cands rs (pT rs t) b) (sprd (rs.drop b), [b]) _ (List.mem_cons_self ..)
  | 0, b, g :: g2 :: gs, h => by
    have := h.l
    simp at this
  | t + 1, b, g :: g2 :: gs, h => by
    have hf := h.f
    rw [List.flatten_cons] at hf
    obtain ⟨c1, c2⟩ := cut_app hf
    have g0 : 0 < g.length := List.length_pos_iff.mpr (h.n g (List.mem_cons_self ..))
    have g20 : 0 < g2.length := List.length_pos_iff.mpr (h.n g2 (by simp))
    have hl : b + g.length < rs.length := by
      have := congrArg List.length c2
      rw [List.flatten_cons, List.length_append, List.length_drop] at this
      omega
    have ih := pT_le rs t (b + g.length) (g2 :: gs) ⟨c2, fun x hx => h.n x (List.mem_cons_of_mem _ hx), by have := h.l; simp at this ⊢; omega, by simp⟩
    have hm : cand rs (pT rs t) b (g.length - 1) ∈ (sprd (rs.drop b), [b]) :: cands rs (pT rs t) b := by
      refine List.mem_cons_of_mem _ (List.mem_map.mpr ⟨g.length - 1, List.mem_range.mpr (by omega), rfl⟩)
    have le := fS_le (cands rs (pT rs t) b) (sprd (rs.drop b), [b]) _ hm
    have ec : (cand rs (pT rs t) b (g.length - 1)).1 = sprd g + (pT rs t (b + g.length)).1 := by
      show sprd (cutR rs b (b + 1 + (g.length - 1))) + (pT rs t (b + 1 + (g.length - 1))).1 = _
      rw [show b + 1 + (g.length - 1) = b + g.length by omega, c1]
    rw [ec] at le
    show ((cands rs (pT rs t) b).foldl fS (sprd (rs.drop b), [b])).1 ≤ sprd g + sums (g2 :: gs)
    grind
/-! rows moved, mirrored, doubled -/
def ln (u v : Int) (r : Int × Int) : Int × Int := (u * r.1 + v, r.2)
theorem S0_ln (u v : Int) (rs : List (Int × Int)) : S0 (rs.map (ln u v)) = S0 rs := by
  unfold S0
  rw [List.map_map]
  rfl
theorem S1_ln (u v : Int) : ∀ rs : List (Int × Int), S1 (rs.map (ln u v)) = u * S1 rs + v * S0 rs
  | [] => by show (0 : Int) = u * 0 + v * 0; omega
  | r :: rs => by
    have ih := S1_ln u v rs
    unfold S1 S0 at ih ⊢
    simp only [List.map_cons, List.sum_cons] at ih ⊢
    rw [ih]
    show r.2 * (u * r.1 + v) + _ = _
    grind
theorem S2_ln (u v : Int) : ∀ rs : List (Int × Int), S2 (rs.map (ln u v)) = u * u * S2 rs + 2 * u * v * S1 rs + v * v * S0 rs
  | [] => by show (0 : Int) = u * u * 0 + 2 * u * v * 0 + v * v * 0; omega
  | r :: rs => by
    have ih := S2_ln u v rs
    unfold S2 S1 S0 at ih ⊢
    simp only [List.map_cons, List.sum_cons] at ih ⊢
    rw [ih]
    show r.2 * (u * r.1 + v) * (u * r.1 + v) + _ = _
    grind
theorem sprd_ln {u : Int} (hu : u * u = 1) (v : Int) (rs : List (Int × Int)) : sprd (rs.map (ln u v)) = sprd rs := by
  unfold sprd
  rw [S0_ln, S1_ln, S2_ln]
  congr 1
  have : u * u * S2 rs = S2 rs := by rw [hu, Int.one_mul]
  have h2 : (u * S1 rs) * (u * S1 rs) = S1 rs * S1 rs := by
    have : (u * S1 rs) * (u * S1 rs) = (u * u) * (S1 rs * S1 rs) := by grind
    rw [this, hu, Int.one_mul]
  grind
theorem sum_rev' (l : List Int) : l.reverse.sum = l.sum := by
  induction l with
  | nil => rfl
  | cons a l ih => rw [List.reverse_cons, List.sum_append, ih]; simp; omega
theorem sprd_rev (rs : List (Int × Int)) : sprd rs.reverse = sprd rs := by
  unfold sprd S0 S1 S2
  rw [List.map_reverse, List.map_reverse, List.map_reverse, sum_rev', sum_rev', sum_rev']
theorem sums_app : ∀ (a b : List (List (Int × Int))), sums (a ++ b) = sums a + sums b
  | [], b => by show sums b = 0 + sums b; grind
  | g :: a, b => by
    show sprd g + sums (a ++ b) = sprd g + sums a + sums b
    rw [sums_app a b]
    grind
theorem sums_rev : ∀ gs : List (List (Int × Int)), sums gs.reverse = sums gs
  | [] => rfl
  | g :: gs => by
    rw [List.reverse_cons, sums_app, sums_rev gs]
    show sums gs + (sprd g + 0) = sprd g + sums gs
    grind
theorem sums_map {f : List (Int × Int) → List (Int × Int)} (h : ∀ g, sprd (f g) = sprd g) : ∀ gs, sums (gs.map f) = sums gs
  | [] => rfl
  | g :: gs => by
    show sprd (f g) + sums (gs.map f) = sprd g + sums gs
    rw [h, sums_map h gs]
def mirL (rs : List (Int × Int)) : List (Int × Int) := (rs.map (ln (-1) 999)).reverse
theorem sprd_mir (rs : List (Int × Int)) : sprd (mirL rs) = sprd rs := by
  unfold mirL
  rw [sprd_rev, sprd_ln (by decide)]
theorem ln_ln (r : Int × Int) : ln (-1) 999 (ln (-1) 999 r) = r := by
  unfold ln
  obtain ⟨a, b⟩ := r
  simp only [Prod.mk.injEq, and_true]
  omega
theorem mir_mir (rs : List (Int × Int)) : mirL (mirL rs) = rs := by
  unfold mirL
  rw [List.map_reverse, List.reverse_reverse, List.map_map]
  exact (List.map_congr_left fun r _ => ln_ln r).trans (List.map_id _)
theorem Grp.mir {rs : List (Int × Int)} {t : Nat} {gs : List (List (Int × Int))} (h : Grp rs 0 t gs) : Grp (mirL rs) 0 t ((gs.map mirL).reverse) ∧ sums ((gs.map mirL).reverse) = sums gs := by
  refine ⟨⟨?_, fun g hg => ?_, by rw [List.length_reverse, List.length_map]; exact h.l, fun z => h.e ?_⟩, by rw [sums_rev, sums_map sprd_mir]⟩
  · have hf := h.f
    rw [List.drop_zero] at hf ⊢
    have e : gs.map mirL = (gs.map fun g => g.map (ln (-1) 999)).map List.reverse := by rw [List.map_map]; rfl
    rw [e, ← List.reverse_flatten]
    unfold mirL
    congr 1
    rw [← hf, List.map_flatten]
  · obtain ⟨x, hx, rfl⟩ := List.mem_map.mp (List.mem_reverse.mp hg)
    intro z
    unfold mirL at z
    have := congrArg List.length z
    rw [List.length_reverse, List.length_map] at this
    exact h.n x hx (List.length_eq_zero_iff.mp this)
  · have := congrArg List.length z
    rw [List.length_reverse, List.length_map] at this
    exact List.length_eq_zero_iff.mp this
theorem mir_len (rs : List (Int × Int)) : (mirL rs).length = rs.length := by unfold mirL; simp
theorem pT_mir_le {rs : List (Int × Int)} (r0 : 0 < rs.length) (t : Nat) : (pT (mirL rs) t 0).1 ≤ (pT rs t 0).1 := by
  obtain ⟨gs, hg, hs, _⟩ := pT_at rs t 0 r0
  obtain ⟨h1, h2⟩ := hg.mir
  have := pT_le (mirL rs) t 0 _ h1
  rw [h2, hs] at this
  exact this
theorem pT_mir {rs : List (Int × Int)} (r0 : 0 < rs.length) (t : Nat) : (pT (mirL rs) t 0).1 = (pT rs t 0).1 := by
  have a := pT_mir_le r0 t
  have b := pT_mir_le (rs := mirL rs) (by rw [mir_len]; exact r0) t
  rw [mir_mir] at b
  grind
theorem pT_ln {u : Int} (hu : u * u = 1) (v : Int) (rs : List (Int × Int)) : ∀ t b, pT (rs.map (ln u v)) t b = pT rs t b
  | 0, b => by
    show (sprd ((rs.map (ln u v)).drop b), [b]) = (sprd (rs.drop b), [b])
    rw [← List.map_drop, sprd_ln hu]
  | t + 1, b => by
    show (cands (rs.map (ln u v)) (pT (rs.map (ln u v)) t) b).foldl fS (sprd ((rs.map (ln u v)).drop b), [b]) = (cands rs (pT rs t) b).foldl fS (sprd (rs.drop b), [b])
    rw [← List.map_drop, sprd_ln hu]
    congr 1
    unfold cands
    rw [List.length_map]
    refine List.map_congr_left fun j _ => ?_
    unfold cand cutR
    rw [pT_ln hu v rs t, ← List.map_drop, ← List.map_take, sprd_ln hu]
def db (r : Int × Int) : Int × Int := (r.1, 2 * r.2)
def scB (x : Bst) : Bst := (2 * x.1, x.2)
theorem S0_db (rs : List (Int × Int)) : S0 (rs.map db) = 2 * S0 rs := by
  induction rs with
  | nil => rfl
  | cons r rs ih =>
    unfold S0 at ih ⊢
    simp only [List.map_cons, List.sum_cons] at ih ⊢
    rw [ih]
    show 2 * r.2 + _ = _
    omega
theorem S1_db (rs : List (Int × Int)) : S1 (rs.map db) = 2 * S1 rs := by
  induction rs with
  | nil => rfl
  | cons r rs ih =>
    unfold S1 at ih ⊢
    simp only [List.map_cons, List.sum_cons] at ih ⊢
    rw [ih]
    show 2 * r.2 * r.1 + _ = _
    grind
theorem S2_db (rs : List (Int × Int)) : S2 (rs.map db) = 2 * S2 rs := by
  induction rs with
  | nil => rfl
  | cons r rs ih =>
    unfold S2 at ih ⊢
    simp only [List.map_cons, List.sum_cons] at ih ⊢
    rw [ih]
    show 2 * r.2 * r.1 * r.1 + _ = _
    grind
theorem sprd_db (rs : List (Int × Int)) : sprd (rs.map db) = 2 * sprd rs := by
  unfold sprd
  rw [S0_db, S1_db, S2_db]
  have e1 : 2 * S2 rs * (2 * S0 rs) - 2 * S1 rs * (2 * S1 rs) = 2 * (2 * (S2 rs * S0 rs - S1 rs * S1 rs)) := by grind
  rw [e1, Rat.divInt_mul_left (by decide)]
  have e2 : (2 : Rat) = Rat.divInt 2 1 := rfl
  rw [e2, Rat.divInt_mul_divInt, Int.one_mul]
theorem fS_sc (x y : Bst) : fS (scB x) (scB y) = scB (fS x y) := by
  unfold fS scB
  simp only
  by_cases h : y.1 < x.1
  · rw [if_pos h, if_pos (by grind)]
  · rw [if_neg h, if_neg (by grind)]
theorem fold_sc : ∀ (cs : List Bst) (c : Bst), (cs.map scB).foldl fS (scB c) = scB (cs.foldl fS c)
  | [], _ => rfl
  | d :: cs, c => by
    rw [List.map_cons, List.foldl_cons, List.foldl_cons, fS_sc, fold_sc cs]
theorem pT_db (rs : List (Int × Int)) : ∀ t b, pT (rs.map db) t b = scB (pT rs t b)
  | 0, b => by
    show (sprd ((rs.map db).drop b), [b]) = (2 * sprd (rs.drop b), [b])
    rw [← List.map_drop, sprd_db]
  | t + 1, b => by
    show (cands (rs.map db) (pT (rs.map db) t) b).foldl fS (sprd ((rs.map db).drop b), [b]) = scB ((cands rs (pT rs t) b).foldl fS (sprd (rs.drop b), [b]))
    rw [← fold_sc, ← List.map_drop, sprd_db]
    have e : cands (rs.map db) (pT (rs.map db) t) b = (cands rs (pT rs t) b).map scB := by
      unfold cands
      rw [List.length_map, List.map_map]
      refine List.map_congr_left fun j _ => ?_
      show cand (rs.map db) (pT (rs.map db) t) b j = scB (cand rs (pT rs t) b j)
      unfold cand cutR scB
      rw [pT_db rs t, ← List.map_drop, ← List.map_take, sprd_db]
      unfold scB
      simp only [Prod.mk.injEq, and_true]
      grind
    rw [e]
    rfl
/-! one group more is less -/
theorem sprd_one (r : Int × Int) : sprd [r] = 0 := by
  unfold sprd S0 S1 S2
  simp only [List.map_cons, List.map_nil, List.sum_cons, List.sum_nil, Int.add_zero]
  have : r.2 * r.1 * r.1 * r.2 - r.2 * r.1 * (r.2 * r.1) = 0 := by grind
  rw [this, Rat.zero_divInt]
theorem S1_gt {x : Int} : ∀ {rs : List (Int × Int)}, rs ≠ [] → (∀ r ∈ rs, x < r.1 ∧ 0 < r.2) → x * S0 rs < S1 rs
  | [], h, _ => absurd rfl h
  | [r], _, h => by
    obtain ⟨h1, h2⟩ := h r (List.mem_cons_self ..)
    unfold S0 S1
    simp only [List.map_cons, List.map_nil, List.sum_cons, List.sum_nil, Int.add_zero]
    rw [Int.mul_comm]
    exact Int.mul_lt_mul_of_pos_left h1 h2
  | r :: r2 :: rs, _, h => by
    have ih := S1_gt (rs := r2 :: rs) (by simp) fun y hy => h y (List.mem_cons_of_mem _ hy)
    obtain ⟨h1, h2⟩ := h r (List.mem_cons_self ..)
    have h3 := Int.mul_lt_mul_of_pos_left h1 h2
    unfold S0 S1 at ih ⊢
    rw [List.map_cons, List.sum_cons, List.map_cons (f := fun r : Int × Int => r.2 * r.1), List.sum_cons]
    rw [Int.mul_add, Int.mul_comm x r.2]
    omega
theorem S0_pos : ∀ {rs : List (Int × Int)}, rs ≠ [] → (∀ r ∈ rs, 0 < r.2) → 0 < S0 rs
  | [], h, _ => absurd rfl h
  | [r], _, h => by
    have := h r (List.mem_cons_self ..)
    unfold S0
    simpa using this
  | r :: r2 :: rs, _, h => by
    have ih := S0_pos (rs := r2 :: rs) (by simp) fun y hy => h y (List.mem_cons_of_mem _ hy)
    have := h r (List.mem_cons_self ..)
    unfold S0 at ih ⊢
    rw [List.map_cons, List.sum_cons]
    omega
theorem div_mul_q5 {t b : Int} (h : b ≠ 0) : Rat.divInt t b * (b : Rat) = (t : Rat) := by
  rw [Rat.divInt_eq_div]
  refine Rat.div_mul_cancel ?_
  intro z
  exact h (Rat.intCast_inj.mp z)
theorem sprd_less {a : Int × Int} {rs : List (Int × Int)} (ne : rs ≠ []) (ha : 0 < a.2) (h : ∀ r ∈ rs, a.1 < r.1 ∧ 0 < r.2) : sprd rs < sprd (a :: rs) := by
  have p := S0_pos ne fun r hr => (h r hr).2
  have g := S1_gt ne h
  have e0 : S0 (a :: rs) = a.2 + S0 rs := by unfold S0; rw [List.map_cons, List.sum_cons]
  have e1 : S1 (a :: rs) = a.2 * a.1 + S1 rs := by unfold S1; rw [List.map_cons, List.sum_cons]
  have e2 : S2 (a :: rs) = a.2 * a.1 * a.1 + S2 rs := by unfold S2; rw [List.map_cons, List.sum_cons]
  unfold sprd
  rw [e0, e1, e2]
  generalize S0 rs = s0 at *
  generalize S1 rs = s1 at *
  generalize S2 rs = s2 at *
  obtain ⟨x, c⟩ := a
  simp only at *
  have d : 0 < s1 - x * s0 := by omega
  have dd : 0 < c * ((s1 - x * s0) * (s1 - x * s0)) := Int.mul_pos ha (Int.mul_pos d d)
  have e : ((c * x * x + s2) * (c + s0) - (c * x + s1) * (c * x + s1)) * s0 - (s2 * s0 - s1 * s1) * (c + s0) = c * ((s1 - x * s0) * (s1 - x * s0)) := by grind
  generalize (c * x * x + s2) * (c + s0) - (c * x + s1) * (c * x + s1) = B at *
  generalize s2 * s0 - s1 * s1 = A at *
  refine Rat.not_le.mp fun le => ?_
  have q0 : (0 : Rat) ≤ ((s0 * (c + s0) : Int) : Rat) := Rat.intCast_nonneg.mpr (Int.mul_nonneg (by omega) (by omega))
  have le2 := Rat.mul_le_mul_of_nonneg_right le q0
  have a1 : Rat.divInt A s0 * ((s0 * (c + s0) : Int) : Rat) = ((A * (c + s0) : Int) : Rat) := by
    rw [Rat.intCast_mul, Rat.intCast_mul, ← Rat.mul_assoc, div_mul_q5 (by omega)]
  have a2 : Rat.divInt B (c + s0) * ((s0 * (c + s0) : Int) : Rat) = ((B * s0 : Int) : Rat) := by
    rw [Int.mul_comm s0, Rat.intCast_mul, Rat.intCast_mul, ← Rat.mul_assoc, div_mul_q5 (by omega)]
  rw [a1, a2] at le2
  have := Rat.intCast_le_intCast.mp le2
  omega
theorem flat_le : ∀ {gs : List (List (Int × Int))}, (∀ g ∈ gs, g ≠ []) → gs.length ≤ gs.flatten.length
  | [], _ => Nat.le_refl _
  | g :: gs, h => by
    have ih := flat_le (gs := gs) fun x hx => h x (List.mem_cons_of_mem _ hx)
    have := List.length_pos_iff.mpr (h g (List.mem_cons_self ..))
    rw [List.flatten_cons, List.length_append, List.length_cons]
    omega
def Ris (rs : List (Int × Int)) : Prop := rs.Pairwise fun x y => x.1 < y.1
theorem split1 : ∀ {gs : List (List (Int × Int))}, (∀ g ∈ gs, g ≠ []) → gs.length < gs.flatten.length → Ris gs.flatten → (∀ r ∈ gs.flatten, 0 < r.2) → ∃ gs' : List (List (Int × Int)), gs'.flatten = gs.flatten ∧ (∀ g ∈ gs', g ≠ []) ∧ gs'.length = gs.length + 1 ∧ sums gs' < sums gs
  | [], _, h, _, _ => by simp at h
  | [] :: gs, hn, _, _, _ => absurd rfl (hn [] (List.mem_cons_self ..))
  | [a] :: gs, hn, hl, hr, hp => by
    have e : ([a] :: gs).flatten = a :: gs.flatten := rfl
    rw [e] at hl hr hp
    obtain ⟨gs', h1, h2, h3, h4⟩ := split1 (gs := gs) (fun x hx => hn x (List.mem_cons_of_mem _ hx)) (by rw [List.length_cons, List.length_cons] at hl; omega) (List.pairwise_cons.mp hr).2 fun x hx => hp x (List.mem_cons_of_mem _ hx)
    refine ⟨[a] :: gs', by rw [e, ← h1]; rfl, fun g hg => ?_, by rw [List.length_cons, h3, List.length_cons], ?_⟩
    · rcases List.mem_cons.mp hg with z | z
      · rw [z]; simp
      · exact h2 g z
    · show sprd [a] + sums gs' < sprd [a] + sums gs
      grind
  | (a :: b :: g) :: gs, hn, hl, hr, hp => by
    have e : ((a :: b :: g) :: gs).flatten = a :: (b :: g ++ gs.flatten) := rfl
    rw [e] at hr hp
    refine ⟨[a] :: (b :: g) :: gs, rfl, fun x hx => ?_, rfl, ?_⟩
    · rcases List.mem_cons.mp hx with z | z
      · rw [z]; simp
      · rcases List.mem_cons.mp z with y | y
        · rw [y]; simp
        · exact hn x (List.mem_cons_of_mem _ y)
    · have p := (List.pairwise_cons.mp hr).1
      have := sprd_less (a := a) (rs := b :: g) (by simp) (hp a (List.mem_cons_self ..)) fun r hr' => ⟨p r (List.mem_append_left _ hr'), hp r (List.mem_cons_of_mem _ (List.mem_append_left _ hr'))⟩
      show sprd [a] + (sprd (b :: g) + sums gs) < sprd (a :: b :: g) + sums gs
      rw [sprd_one]
      grind
theorem begs_len : ∀ (gs : List (List (Int × Int))) b, (begs b gs).length = gs.length
  | [], _ => rfl
  | g :: gs, b => by rw [begs, List.length_cons, begs_len gs, List.length_cons]
section
variable {rs : List (Int × Int)} (r0 : 0 < rs.length) (ri : Ris rs) (rp : ∀ r ∈ rs, 0 < r.2)
include r0 ri rp
theorem pT_split {t : Nat} {gs : List (List (Int × Int))} (h : Grp rs 0 t gs) (hl : gs.length < rs.length) : (pT rs gs.length 0).1 < sums gs := by
  have hf := h.f
  rw [List.drop_zero] at hf
  obtain ⟨gs', h1, h2, h3, h4⟩ := split1 h.n (by rw [hf]; exact hl) (by rw [hf]; exact ri) (by rw [hf]; exact rp)
  have := pT_le rs gs.length 0 gs' ⟨by rw [h1]; exact h.f, h2, by omega, fun z => by rw [z] at h3; simp at h3⟩
  grind
theorem pT_mono {t : Nat} : ∀ d, (pT rs (t + d) 0).1 ≤ (pT rs t 0).1
  | d => by
    obtain ⟨gs, hg, hs, _⟩ := pT_at rs t 0 r0
    rw [← hs]
    exact pT_le rs (t + d) 0 gs ⟨hg.f, hg.n, by have := hg.l; omega, hg.e⟩
theorem pT_strict {t : Nat} (h : t + 1 < rs.length) : (pT rs (t + 1) 0).1 < (pT rs t 0).1 := by
  obtain ⟨gs, hg, hs, _⟩ := pT_at rs t 0 r0
  have l := hg.l
  have a := pT_split r0 ri rp hg (by omega)
  have b := pT_mono r0 ri rp (t := gs.length) (t + 1 - gs.length)
  rw [show gs.length + (t + 1 - gs.length) = t + 1 by omega] at b
  rw [← hs]
  grind
theorem pT_length (t : Nat) : (pT rs t 0).2.length = min (t + 1) rs.length := by
  obtain ⟨gs, hg, hs, hb⟩ := pT_at rs t 0 r0
  rw [← hb, begs_len]
  have l1 := hg.l
  have l2 := flat_le hg.n
  have hf := hg.f
  rw [List.drop_zero] at hf
  rw [hf] at l2
  by_cases c : gs.length < min (t + 1) rs.length
  · exfalso
    have a := pT_split r0 ri rp hg (by omega)
    have b := pT_mono r0 ri rp (t := gs.length) (t - gs.length)
    rw [show gs.length + (t - gs.length) = t by omega] at b
    grind
  · omega
omit r0 ri rp in
theorem ones : ∀ {gs : List (List (Int × Int))}, (∀ g ∈ gs, g ≠ []) → gs.flatten.length = gs.length → sums gs = 0 ∧ ∀ b, begs b gs = (List.range gs.length).map (b + ·)
  | [], _, _ => ⟨rfl, fun _ => rfl⟩
  | g :: gs, hn, h => by
    have l := flat_le (gs := gs) fun x hx => hn x (List.mem_cons_of_mem _ hx)
    have p := List.length_pos_iff.mpr (hn g (List.mem_cons_self ..))
    rw [List.flatten_cons, List.length_append, List.length_cons] at h
    obtain ⟨i1, i2⟩ := ones (gs := gs) (fun x hx => hn x (List.mem_cons_of_mem _ hx)) (by omega)
    have hg : g.length = 1 := by omega
    obtain ⟨a, rfl⟩ : ∃ a, g = [a] := List.length_eq_one_iff.mp hg
    refine ⟨?_, fun b => ?_⟩
    · show sprd [a] + sums gs = 0
      rw [sprd_one, i1]
      grind
    · show b :: begs (b + 1) gs = _
      rw [i2, List.length_cons, List.range_succ_eq_map, List.map_cons, List.map_map]
      congr 1
      refine List.map_congr_left fun j _ => ?_
      show b + 1 + j = b + (j + 1)
      omega
theorem pT_all {t : Nat} (h : rs.length ≤ t + 1) : (pT rs t 0).1 = 0 ∧ (pT rs t 0).2 = List.range rs.length := by
  have hl := pT_length r0 ri rp t
  obtain ⟨gs, hg, hs, hb⟩ := pT_at rs t 0 r0
  rw [← hb, begs_len] at hl
  have hf := hg.f
  rw [List.drop_zero] at hf
  obtain ⟨o1, o2⟩ := ones hg.n (by rw [hf, hl]; omega)
  refine ⟨by rw [← hs, o1], ?_⟩
  rw [← hb, o2, hl, Nat.min_eq_right h]
  exact (List.map_congr_left fun j _ => Nat.zero_add j).trans (List.map_id _)
end
/-! ### of equal totals the first begins -/
theorem lst_tr {a b c : List Nat} (h1 : a < c) (h2 : ¬ b < c) : a < b := by
  rcases List.le_iff_lt_or_eq.mp (List.not_lt.mp h2) with z | z
  · exact List.lt_trans h1 z
  · rw [← z]
    exact h1
theorem fS_lex : ∀ (cs : List Bst) (c : Bst), (c :: cs).Pairwise (fun x y => x.2 < y.2) → ∀ x ∈ c :: cs, x.1 = (cs.foldl fS c).1 → ¬ x.2 < (cs.foldl fS c).2
  | [], c, _, x, hx, _ => by
    rw [List.mem_singleton.mp hx]
    exact List.lt_irrefl _
  | d :: cs, c, pw, x, hx, e => by
    obtain ⟨p1, p2⟩ := List.pairwise_cons.mp pw
    obtain ⟨p3, p4⟩ := List.pairwise_cons.mp p2
    rw [List.foldl_cons] at e ⊢
    by_cases h : d.1 < c.1
    · have ef : fS c d = d := by unfold fS; rw [if_pos h]
      rw [ef] at e ⊢
      rcases List.mem_cons.mp hx with z | z
      · exfalso
        have := fS_le cs d d (List.mem_cons_self ..)
        rw [z] at e
        grind
      · exact fS_lex cs d p2 x z e
    · have ef : fS c d = c := by unfold fS; rw [if_neg h]
      rw [ef] at e ⊢
      have pw2 : (c :: cs).Pairwise (fun x y : Bst => x.2 < y.2) := List.pairwise_cons.mpr ⟨fun y hy => p1 y (List.mem_cons_of_mem _ hy), p4⟩
      rcases List.mem_cons.mp hx with z | z
      · exact fS_lex cs c pw2 x (by rw [z]; simp) e
      · rcases List.mem_cons.mp z with y | y
        · have le := fS_le cs c c (List.mem_cons_self ..)
          rw [y] at e ⊢
          have ec : c.1 = (cs.foldl fS c).1 := by grind
          have nc := fS_lex cs c pw2 c (List.mem_cons_self ..) ec
          exact fun lt => nc (List.lt_trans (p1 d (List.mem_cons_self ..)) lt)
        · exact fS_lex cs c pw2 x (List.mem_cons_of_mem _ y) e
theorem pT_lex (rs : List (Int × Int)) : ∀ t b gs, Grp rs b t gs → sums gs = (pT rs t b).1 → ¬ begs b gs < (pT rs t b).2
  | t, b, [], h, _ => absurd rfl h.e
  | 0, b, [g], h, e => List.lt_irrefl _
  | t + 1, b, [g], h, e => by
    have hg : g = rs.drop b := by
      have := h.f
      simpa using this
    have hs : sums [g] = sprd g := by show sprd g + 0 = sprd g; grind
    rw [hs, hg] at e
    have pw : ((sprd (rs.drop b), [b]) :: cands rs (pT rs t) b).Pairwise (fun x y : Bst => x.2 < y.2) := List.pairwise_cons.mpr ⟨cands_last rs t b, cands_pw rs t b⟩
    exact fS_lex (cands rs (pT rs t) b) (sprd (rs.drop b), [b]) pw (sprd (rs.drop b), [b]) (List.mem_cons_self ..) e
  | 0, b, g :: g2 :: gs, h, _ => by
    have := h.l
    simp at this
  | t + 1, b, g :: g2 :: gs, h, e => by
    have hf := h.f
    rw [List.flatten_cons] at hf
    obtain ⟨c1, c2⟩ := cut_app hf
    have g0 : 0 < g.length := List.length_pos_iff.mpr (h.n g (List.mem_cons_self ..))
    have g20 : 0 < g2.length := List.length_pos_iff.mpr (h.n g2 (by simp))
    have hl : b + g.length < rs.length := by
      have := congrArg List.length c2
      rw [List.flatten_cons, List.length_append, List.length_drop] at this
      omega
    have hG : Grp rs (b + g.length) t (g2 :: gs) := ⟨c2, fun x hx => h.n x (List.mem_cons_of_mem _ hx), by have := h.l; simp at this ⊢; omega, by simp⟩
    have ih := pT_le rs t (b + g.length) (g2 :: gs) hG
    have hm : cand rs (pT rs t) b (g.length - 1) ∈ (sprd (rs.drop b), [b]) :: cands rs (pT rs t) b := by
      refine List.mem_cons_of_mem _ (List.mem_map.mpr ⟨g.length - 1, List.mem_range.mpr (by omega), rfl⟩)
    have le := fS_le (cands rs (pT rs t) b) (sprd (rs.drop b), [b]) _ hm
    have ej : b + 1 + (g.length - 1) = b + g.length := by omega
    have ec : cand rs (pT rs t) b (g.length - 1) = (sprd g + (pT rs t (b + g.length)).1, b :: (pT rs t (b + g.length)).2) := by
      show (sprd (cutR rs b (b + 1 + (g.length - 1))) + (pT rs t (b + 1 + (g.length - 1))).1, b :: (pT rs t (b + 1 + (g.length - 1))).2) = _
      rw [ej, c1]
    have e1 : sprd g + sums (g2 :: gs) = ((cands rs (pT rs t) b).foldl fS (sprd (rs.drop b), [b])).1 := e
    rw [ec] at le hm
    simp only at le
    have a1 : sums (g2 :: gs) = (pT rs t (b + g.length)).1 := by grind
    have pw : ((sprd (rs.drop b), [b]) :: cands rs (pT rs t) b).Pairwise (fun x y : Bst => x.2 < y.2) := List.pairwise_cons.mpr ⟨cands_last rs t b, cands_pw rs t b⟩
    have nl := fS_lex (cands rs (pT rs t) b) (sprd (rs.drop b), [b]) pw _ hm (by simp only; grind)
    have ih2 := pT_lex rs t (b + g.length) (g2 :: gs) hG a1
    obtain ⟨l, el⟩ := pT_head rs (t + 1) b
    rw [el]
    change ¬ b :: (pT rs t (b + g.length)).2 < (pT rs (t + 1) b).2 at nl
    rw [el] at nl
    show ¬ b :: begs (b + g.length) (g2 :: gs) < b :: l
    intro lt
    have lt2 : begs (b + g.length) (g2 :: gs) < l := by
      rcases List.cons_lt_cons_iff.mp lt with z | z
      · exact absurd z (Nat.lt_irrefl _)
      · exact z.2
    have nl2 : ¬ (pT rs t (b + g.length)).2 < l := fun z => nl (List.cons_lt_cons_iff.mpr (.inr ⟨rfl, z⟩))
    exact ih2 (lst_tr lt2 nl2)
/-! even steps -/
def ev (n : Nat) (d c : Int) : List (Int × Int) := (List.range n).map fun (k : Nat) => (d * (k : Int), c)
theorem ev_len (n : Nat) (d c : Int) : (ev n d c).length = n := by unfold ev; simp
theorem ev_cut {n b s : Nat} (d c : Int) (h : b + s ≤ n) : ((ev n d c).drop b).take s = (ev s d c).map (ln 1 (d * (b : Int))) := by
  refine List.ext_getElem (by simp [ev_len]; omega) fun i h1 h2 => ?_
  rw [List.getElem_take, List.getElem_drop, List.getElem_map]
  unfold ev
  rw [List.getElem_map, List.getElem_map, List.getElem_range, List.getElem_range]
  unfold ln
  simp only [Prod.mk.injEq, and_true]
  rw [Int.natCast_add]
  grind
theorem S_succ (s : Nat) (d c : Int) : S0 (ev (s + 1) d c) = S0 (ev s d c) + c ∧ S1 (ev (s + 1) d c) = S1 (ev s d c) + c * (d * (s : Int)) ∧ S2 (ev (s + 1) d c) = S2 (ev s d c) + c * (d * (s : Int)) * (d * (s : Int)) := by
  unfold ev S0 S1 S2
  rw [List.range_succ, List.map_append, List.map_append, List.map_append, List.map_append, List.sum_append, List.sum_append, List.sum_append]
  simp only [List.map_cons, List.map_nil, List.sum_cons, List.sum_nil, Int.add_zero]
  exact ⟨trivial, trivial, trivial⟩
theorem S_ev : ∀ (s : Nat) (d c : Int), S0 (ev s d c) = c * (s : Int) ∧ 2 * S1 (ev s d c) = c * d * ((s : Int) * ((s : Int) - 1)) ∧ 6 * S2 (ev s d c) = c * d * d * (((s : Int) - 1) * (s : Int) * (2 * (s : Int) - 1))
  | 0, d, c => by
    refine ⟨?_, ?_, ?_⟩
    · show (0 : Int) = c * 0; omega
    · show 2 * (0 : Int) = c * d * (0 * (0 - 1)); grind
    · show 6 * (0 : Int) = c * d * d * ((0 - 1) * 0 * (2 * 0 - 1)); grind
  | s + 1, d, c => by
    obtain ⟨a1, a2, a3⟩ := S_succ s d c
    obtain ⟨b1, b2, b3⟩ := S_ev s d c
    rw [a1, a2, a3, Int.mul_add 2, Int.mul_add 6, b1, b2, b3, Int.natCast_add]
    refine ⟨by grind, by grind, by grind⟩
def fE (s : Nat) : Int := (s : Int) * ((s : Int) * (s : Int) - 1)
theorem sprd_ev {s : Nat} {d c : Int} (hs : 0 < s) (hc : 0 < c) : sprd (ev s d c) = Rat.divInt (c * d * d * fE s) 12 := by
  obtain ⟨b1, b2, b3⟩ := S_ev s d c
  unfold sprd fE
  have p : 0 < c * (s : Int) := Int.mul_pos hc (by omega)
  rw [b1]
  rw [Rat.divInt_eq_divInt_iff (by omega) (by decide)]
  generalize S1 (ev s d c) = s1 at *
  generalize S2 (ev s d c) = s2 at *
  generalize (s : Int) = x at *
  have e1 : (s2 * (c * x) - s1 * s1) * 12 = 2 * (6 * s2) * (c * x) - 3 * (2 * s1) * (2 * s1) := by grind
  rw [e1, b2, b3]
  grind
def FE (gs : List (List (Int × Int))) : Int := (gs.map fun g => fE g.length).sum
theorem add_12 (a b : Int) : Rat.divInt a 12 + Rat.divInt b 12 = Rat.divInt (a + b) 12 := by
  rw [Rat.divInt_add_divInt _ _ (by decide) (by decide)]
  rw [Rat.divInt_eq_divInt_iff (by decide) (by decide)]
  omega
theorem even_sum {n : Nat} {d c : Int} (hc : 0 < c) : ∀ (gs : List (List (Int × Int))) (b : Nat), (∀ g ∈ gs, g ≠ []) → gs.flatten = (ev n d c).drop b → sums gs = Rat.divInt (c * d * d * FE gs) 12
  | [], _, _, _ => by
    show (0 : Rat) = Rat.divInt (c * d * d * 0) 12
    rw [Int.mul_zero, Rat.zero_divInt]
  | g :: gs, b, hn, h => by
    rw [List.flatten_cons] at h
    obtain ⟨c1, c2⟩ := cut_app h
    have g0 : 0 < g.length := List.length_pos_iff.mpr (hn g (List.mem_cons_self ..))
    have hl : b + g.length ≤ n := by
      have := congrArg List.length h
      rw [List.length_append, List.length_drop, ev_len] at this
      omega
    have ih := even_sum hc gs (b + g.length) (fun x hx => hn x (List.mem_cons_of_mem _ hx)) c2
    have eg : sprd g = Rat.divInt (c * d * d * fE g.length) 12 := by
      rw [← sprd_ev g0 hc, ← sprd_ln (u := 1) (by decide) (d * (b : Int)) (ev g.length d c), ← ev_cut d c hl]
      unfold cutR at c1
      rw [show b + g.length - b = g.length by omega] at c1
      rw [c1]
    show sprd g + sums gs = _
    rw [eg, ih, add_12]
    unfold FE
    rw [List.map_cons, List.sum_cons, Int.mul_add]
def cutsOf (rs : List (Int × Int)) (st : Nat → Nat) (g : Nat) : List (List (Int × Int)) := (List.range g).map fun k => cutR rs (st k) (st (k + 1))
theorem cuts_succ (rs : List (Int × Int)) (st : Nat → Nat) (g : Nat) : cutsOf rs st (g + 1) = cutsOf rs st g ++ [cutR rs (st g) (st (g + 1))] := by
  unfold cutsOf
  rw [List.range_succ, List.map_append]
  rfl
theorem cuts_flat {rs : List (Int × Int)} {st : Nat → Nat} (s0 : st 0 = 0) : ∀ g, (∀ k, k < g → st k ≤ st (k + 1)) → (cutsOf rs st g).flatten = rs.take (st g)
  | 0, _ => by rw [s0]; rfl
  | g + 1, h => by
    rw [cuts_succ, List.flatten_append, cuts_flat s0 g fun k hk => h k (by omega)]
    have := h g (by omega)
    unfold cutR
    simp only [List.flatten_cons, List.flatten_nil, List.append_nil]
    have e : st (g + 1) = st g + (st (g + 1) - st g) := by omega
    conv => rhs; rw [e, List.take_add]
theorem begs_app : ∀ (gs : List (List (Int × Int))) (b : Nat) (x : List (Int × Int)), begs b (gs ++ [x]) = begs b gs ++ [b + gs.flatten.length]
  | [], b, x => rfl
  | g :: gs, b, x => by
    show b :: begs (b + g.length) (gs ++ [x]) = b :: begs (b + g.length) gs ++ [b + (g ++ gs.flatten).length]
    rw [begs_app gs, List.length_append, Nat.add_assoc]
    rfl
theorem cuts_begs {rs : List (Int × Int)} {st : Nat → Nat} (s0 : st 0 = 0) : ∀ g, (∀ k, k < g → st k ≤ st (k + 1)) → st g ≤ rs.length → begs 0 (cutsOf rs st g) = (List.range g).map st
  | 0, _, _ => rfl
  | g + 1, h, hl => by
    have hg := h g (by omega)
    rw [cuts_succ, begs_app, cuts_begs s0 g (fun k hk => h k (by omega)) (by omega), cuts_flat s0 g fun k hk => h k (by omega), List.length_take, List.range_succ, List.map_append, Nat.min_eq_left (by omega), Nat.zero_add]
    rfl
theorem cut_len {rs : List (Int × Int)} {a b : Nat} (h : b ≤ rs.length) : (cutR rs a b).length = b - a := by
  unfold cutR
  rw [List.length_take, List.length_drop]
  omega
theorem FE_app (a b : List (List (Int × Int))) : FE (a ++ b) = FE a + FE b := by
  unfold FE
  rw [List.map_append, List.sum_append]
def dE (q : Nat) : Int := fE (q + 1) - fE q
theorem tang (s q : Nat) : fE q + dE q * ((s : Int) - (q : Int)) ≤ fE s ∧ (fE s = fE q + dE q * ((s : Int) - (q : Int)) → s = q ∨ s = q + 1) ∧ (s = q ∨ s = q + 1 → fE s = fE q + dE q * ((s : Int) - (q : Int))) := by
  have e : fE s - (fE q + dE q * ((s : Int) - (q : Int))) = ((s : Int) - q) * ((s : Int) - q - 1) * ((s : Int) + 2 * q + 1) := by
    unfold dE fE
    rw [Int.natCast_add]
    generalize (s : Int) = x
    generalize (q : Int) = y
    grind
  have p : (0 : Int) < (s : Int) + 2 * q + 1 := by omega
  have d0 : 0 ≤ ((s : Int) - q) * ((s : Int) - q - 1) := by
    rcases Nat.lt_or_ge q s with h | h
    · exact Int.mul_nonneg (by omega) (by omega)
    · have := Int.mul_nonneg (a := (q : Int) - s) (b := (q : Int) - s + 1) (by omega) (by omega)
      have e2 : ((s : Int) - q) * ((s : Int) - q - 1) = ((q : Int) - s) * ((q : Int) - s + 1) := by grind
      rw [e2]
      exact this
  refine ⟨?_, fun h => ?_, fun h => ?_⟩
  · have := Int.mul_nonneg d0 (Int.le_of_lt p)
    omega
  · have z : ((s : Int) - q) * ((s : Int) - q - 1) * ((s : Int) + 2 * q + 1) = 0 := by omega
    rcases Int.mul_eq_zero.mp z with z | z
    · rcases Int.mul_eq_zero.mp z with y | y <;> omega
    · omega
  · have z : ((s : Int) - q) * ((s : Int) - q - 1) * ((s : Int) + 2 * q + 1) = 0 := by
      rcases h with h | h
      · have : (s : Int) - q = 0 := by omega
        rw [this]; simp
      · have : (s : Int) - q - 1 = 0 := by omega
        rw [this]; simp
    omega
theorem FE_ge (q : Nat) : ∀ gs : List (List (Int × Int)), (gs.length : Int) * fE q + dE q * ((gs.flatten.length : Int) - (gs.length : Int) * q) ≤ FE gs ∧ (FE gs = (gs.length : Int) * fE q + dE q * ((gs.flatten.length : Int) - (gs.length : Int) * q) → ∀ g ∈ gs, g.length = q ∨ g.length = q + 1) ∧ ((∀ g ∈ gs, g.length = q ∨ g.length = q + 1) → FE gs = (gs.length : Int) * fE q + dE q * ((gs.flatten.length : Int) - (gs.length : Int) * q))
  | [] => ⟨by simp [FE], fun _ _ h => (nomatch h), fun _ => by simp [FE]⟩
  | g :: gs => by
    obtain ⟨i1, i2, i3⟩ := FE_ge q gs
    obtain ⟨t1, t2, t3⟩ := tang g.length q
    have eF : FE (g :: gs) = fE g.length + FE gs := by unfold FE; rw [List.map_cons, List.sum_cons]
    have eB : ((g :: gs).length : Int) * fE q + dE q * (((g :: gs).flatten.length : Int) - ((g :: gs).length : Int) * q) = (fE q + dE q * ((g.length : Int) - (q : Int))) + ((gs.length : Int) * fE q + dE q * ((gs.flatten.length : Int) - (gs.length : Int) * q)) := by
      rw [List.flatten_cons, List.length_append, List.length_cons, Int.natCast_add, Int.natCast_add]
      grind
    rw [eB, eF]
    refine ⟨by omega, fun h x hx => ?_, fun h => ?_⟩
    · rcases List.mem_cons.mp hx with z | z
      · rw [z]
        exact t2 (by omega)
      · exact i2 (by omega) x z
    · rw [t3 (h g (List.mem_cons_self ..)), i3 fun x hx => h x (List.mem_cons_of_mem _ hx)]
theorem flat_up {q : Nat} : ∀ {gs : List (List (Int × Int))}, (∀ g ∈ gs, g.length = q ∨ g.length = q + 1) → gs.flatten.length ≤ gs.length * (q + 1)
  | [], _ => by simp
  | g :: gs, h => by
    have ih := flat_up (gs := gs) fun x hx => h x (List.mem_cons_of_mem _ hx)
    have := h g (List.mem_cons_self ..)
    rw [List.flatten_cons, List.length_append, List.length_cons, Nat.succ_mul]
    omega
theorem begs_ge {q : Nat} : ∀ (gs : List (List (Int × Int))) (b : Nat), (∀ g ∈ gs, g.length = q ∨ g.length = q + 1) → ∀ (k : Nat) (x : Nat), (begs b gs)[k]? = some x → b + k * q ≤ x ∧ b + gs.flatten.length ≤ x + (gs.length - k) * (q + 1)
  | [], b, _, k, x, h => by simp [begs] at h
  | g :: gs, b, hg, 0, x, h => by
    have e : b = x := by simpa [begs] using h
    have := flat_up hg
    rw [← e]
    rw [Nat.sub_zero]
    omega
  | g :: gs, b, hg, k + 1, x, h => by
    have h2 : (begs (b + g.length) gs)[k]? = some x := by simpa [begs] using h
    obtain ⟨a1, a2⟩ := begs_ge gs (b + g.length) (fun y hy => hg y (List.mem_cons_of_mem _ hy)) k x h2
    have hl := hg g (List.mem_cons_self ..)
    rw [List.flatten_cons, List.length_append, List.length_cons, Nat.succ_mul, Nat.succ_sub_succ]
    omega
theorem lex_eq : ∀ {a b : List Nat}, a.length = b.length → (∀ (k x y : Nat), a[k]? = some x → b[k]? = some y → x ≤ y) → ¬ a < b → a = b
  | [], [], _, _, _ => rfl
  | [], _ :: _, h, _, _ => by simp at h
  | _ :: _, [], h, _, _ => by simp at h
  | x :: a, y :: b, hl, hp, hn => by
    have h0 := hp 0 x y rfl rfl
    have e : x = y := by
      rcases Nat.lt_or_ge x y with z | z
      · exact absurd (List.cons_lt_cons_iff.mpr (.inl z)) hn
      · omega
    subst e
    congr 1
    exact lex_eq (by simpa using hl) (fun k u v h1 h2 => hp (k + 1) u v (by simpa using h1) (by simpa using h2)) fun z => hn (List.cons_lt_cons_iff.mpr (.inr ⟨rfl, z⟩))
def stB (n g : Nat) (k : Nat) : Nat := k * (n / g) + (k - (g - n % g))
def szB (n g : Nat) (k : Nat) : Nat := n / g + (if g - n % g ≤ k then 1 else 0)
theorem st_succ (n g k : Nat) : stB n g (k + 1) = stB n g k + szB n g k := by
  unfold stB szB
  rw [Nat.succ_mul]
  split <;> omega
theorem st_all {n g : Nat} (g0 : 0 < g) : stB n g g = n := by
  unfold stB
  have := Nat.mod_lt n g0
  have e := Nat.div_add_mod n g
  omega
theorem st_zero {n g : Nat} (g0 : 0 < g) : stB n g 0 = 0 := by
  unfold stB
  simp
theorem pT_even {n g : Nat} {d c : Int} (hd : 0 < d) (hc : 0 < c) (g0 : 0 < g) (gn : g ≤ n) :
    pT (ev n d c) (g - 1) 0 = (Rat.divInt (c * d * d * FE (cutsOf (ev n d c) (stB n g) g)) 12, (List.range g).map (stB n g)) := by
  have ln := ev_len n d c
  have r0 : 0 < (ev n d c).length := by omega
  have ri : Ris (ev n d c) := by
    unfold Ris ev
    rw [List.pairwise_map]
    refine List.Pairwise.imp (fun {i j} h => ?_) (List.pairwise_lt_range (n := n))
    show d * (i : Int) < d * (j : Int)
    exact Int.mul_lt_mul_of_pos_left (by omega) hd
  have rp : ∀ r ∈ ev n d c, 0 < r.2 := fun r hr => by
    unfold ev at hr
    obtain ⟨k, _, rfl⟩ := List.mem_map.mp hr
    exact hc
  have q0 : 0 < n / g := Nat.div_pos gn g0
  have mono : ∀ k, k < g → stB n g k ≤ stB n g (k + 1) := fun k _ => by rw [st_succ]; omega
  have flB : (cutsOf (ev n d c) (stB n g) g).flatten = ev n d c := by
    rw [cuts_flat (st_zero g0) g mono, st_all g0, List.take_of_length_le (by rw [ln]; exact Nat.le_refl _)]
  have lB : (cutsOf (ev n d c) (stB n g) g).length = g := by unfold cutsOf; simp
  have szs : ∀ x ∈ cutsOf (ev n d c) (stB n g) g, x.length = n / g ∨ x.length = n / g + 1 := fun x hx => by
    unfold cutsOf at hx
    obtain ⟨k, hk, rfl⟩ := List.mem_map.mp hx
    have hk := List.mem_range.mp hk
    have le : ∀ j, k + 1 + j ≤ g → stB n g (k + 1) ≤ stB n g (k + 1 + j) := fun j => by
      induction j with
      | zero => intro _; exact Nat.le_refl _
      | succ j ih => intro h; have := ih (by omega); have := mono (k + 1 + j) (by omega); rw [← Nat.add_assoc]; omega
    have := le (g - (k + 1)) (by omega)
    rw [show k + 1 + (g - (k + 1)) = g by omega, st_all g0] at this
    rw [cut_len (by rw [ln]; exact this), st_succ]
    unfold szB
    split <;> omega
  have GB : Grp (ev n d c) 0 (g - 1) (cutsOf (ev n d c) (stB n g) g) := ⟨by rw [flB]; rfl, fun x hx z => by have := szs x hx; rw [z] at this; simp at this; omega, by omega, fun z => by rw [z] at lB; simp at lB; omega⟩
  have bB := cuts_begs (rs := ev n d c) (st_zero g0) g mono (by rw [st_all g0, ln]; exact Nat.le_refl _)
  have sB := even_sum hc _ 0 GB.n GB.f
  obtain ⟨gs, hG, hs, hb⟩ := pT_at (ev n d c) (g - 1) 0 r0
  have hl := pT_length r0 ri rp (g - 1)
  rw [← hb, begs_len, ln] at hl
  have lgs : gs.length = g := by omega
  have sG := even_sum hc _ 0 hG.n hG.f
  have fG : gs.flatten.length = n := by rw [hG.f, List.drop_zero, ln]
  have le := pT_le (ev n d c) (g - 1) 0 _ GB
  rw [← hs, sG, sB] at le
  have K : 0 < c * d * d := Int.mul_pos (Int.mul_pos hc hd) hd
  have leF : FE gs ≤ FE (cutsOf (ev n d c) (stB n g) g) := by
    have t1 := Rat.mul_le_mul_of_nonneg_right le (show (0 : Rat) ≤ ((12 : Int) : Rat) by decide)
    rw [div_mul_q5 (by decide), div_mul_q5 (by decide)] at t1
    exact Int.le_of_mul_le_mul_left (Rat.intCast_le_intCast.mp t1) K
  obtain ⟨u1, u2, _⟩ := FE_ge (n / g) gs
  obtain ⟨_, _, w3⟩ := FE_ge (n / g) (cutsOf (ev n d c) (stB n g) g)
  have w3 := w3 szs
  rw [lB, flB, ln] at w3
  rw [lgs, fG] at u1 u2
  have eF : FE gs = FE (cutsOf (ev n d c) (stB n g) g) := by omega
  have us := u2 (by omega)
  have nl := pT_lex (ev n d c) (g - 1) 0 _ GB (by rw [sB, ← hs, sG, eF])
  rw [bB, ← hb] at nl
  have eb : (List.range g).map (stB n g) = begs 0 gs := by
    refine lex_eq (by rw [begs_len, List.length_map, List.length_range, lgs]) (fun k x y h1 h2 => ?_) nl
    have hk : k < g := by
      have := (List.getElem?_eq_some_iff.mp h1).1
      simpa using this
    rw [List.getElem?_map, List.getElem?_range hk] at h1
    have ex : stB n g k = x := Option.some.inj h1
    obtain ⟨a1, a2⟩ := begs_ge gs 0 us k y h2
    rw [fG, lgs] at a2
    rw [← ex]
    unfold stB
    have e1 := Nat.div_add_mod n g
    have e2 := Nat.mod_lt n g0
    have e3 : (g - k) * (n / g + 1) = (g - k) * (n / g) + (g - k) := by rw [Nat.mul_add, Nat.mul_one]
    have e4 : g * (n / g) = k * (n / g) + (g - k) * (n / g) := by rw [← Nat.add_mul]; congr 1; omega
    omega
  have : pT (ev n d c) (g - 1) 0 = ((pT (ev n d c) (g - 1) 0).1, (pT (ev n d c) (g - 1) 0).2) := rfl
  rw [this, ← hs, ← hb, sG, eF, eb]
/-! heaps -/
theorem S_app (x y : List (Int × Int)) : S0 (x ++ y) = S0 x + S0 y ∧ S1 (x ++ y) = S1 x + S1 y ∧ S2 (x ++ y) = S2 x + S2 y := by
  unfold S0 S1 S2
  simp only [List.map_append, List.sum_append]
  exact ⟨trivial, trivial, trivial⟩
theorem sq_nonneg' (z : Int) : 0 ≤ z * z := by
  rcases Int.le_total 0 z with h | h
  · exact Int.mul_nonneg h h
  · have := Int.mul_nonneg (a := -z) (b := -z) (by omega) (by omega)
    rwa [Int.neg_mul_neg] at this
theorem sprd_nil : sprd [] = 0 := by
  show Rat.divInt (0 * 0 - 0 * 0) 0 = 0
  rw [Rat.divInt_zero]
theorem sprd_super {x y : List (Int × Int)} (hx : 0 < S0 x) (hy : 0 < S0 y) : sprd x + sprd y ≤ sprd (x ++ y) := by
  obtain ⟨e0, e1, e2⟩ := S_app x y
  unfold sprd
  rw [e0, e1, e2]
  generalize S0 x = s at *
  generalize S0 y = t at *
  generalize S1 x = p at *
  generalize S1 y = q at *
  generalize S2 x = a at *
  generalize S2 y = b at *
  have dd := sq_nonneg' (p * t - q * s)
  have e : ((a + b) * (s + t) - (p + q) * (p + q)) * (s * t) - (a * s - p * p) * t * (s + t) - (b * t - q * q) * s * (s + t) = (p * t - q * s) * (p * t - q * s) := by grind
  generalize (a + b) * (s + t) - (p + q) * (p + q) = N at *
  generalize a * s - p * p = A at *
  generalize b * t - q * q = B at *
  have q0 : (0 : Rat) < ((s * t * (s + t) : Int) : Rat) := Rat.intCast_pos.mpr (Int.mul_pos (Int.mul_pos hx hy) (by omega))
  refine Rat.le_of_mul_le_mul_right ?_ q0
  rw [Rat.add_mul]
  have a1 : Rat.divInt A s * ((s * t * (s + t) : Int) : Rat) = ((A * (t * (s + t)) : Int) : Rat) := by
    rw [Int.mul_assoc, Rat.intCast_mul s, Rat.intCast_mul A, ← Rat.mul_assoc, div_mul_q5 (by omega)]
  have a2 : Rat.divInt B t * ((s * t * (s + t) : Int) : Rat) = ((B * (s * (s + t)) : Int) : Rat) := by
    rw [Int.mul_comm s t, Int.mul_assoc, Rat.intCast_mul t, Rat.intCast_mul B, ← Rat.mul_assoc, div_mul_q5 (by omega)]
  have a3 : Rat.divInt N (s + t) * ((s * t * (s + t) : Int) : Rat) = ((N * (s * t) : Int) : Rat) := by
    rw [Int.mul_comm (s * t), Rat.intCast_mul (s + t), Rat.intCast_mul N, ← Rat.mul_assoc, div_mul_q5 (by omega)]
  rw [a1, a2, a3, ← Rat.intCast_add]
  refine Rat.intCast_le_intCast.mpr ?_
  have f1 : A * t * (s + t) = A * (t * (s + t)) := Int.mul_assoc ..
  have f2 : B * s * (s + t) = B * (s * (s + t)) := Int.mul_assoc ..
  omega
theorem sprd_nn : ∀ {x : List (Int × Int)}, (∀ r ∈ x, 0 < r.2) → 0 ≤ sprd x
  | [], _ => by rw [sprd_nil]; exact Rat.le_refl
  | [r], _ => by rw [sprd_one]; exact Rat.le_refl
  | r :: r2 :: x, h => by
    have ih := sprd_nn (x := r2 :: x) fun y hy => h y (List.mem_cons_of_mem _ hy)
    have s := sprd_super (x := [r]) (y := r2 :: x) (S0_pos (by simp) fun y hy => h y (by simp at hy; simp [hy])) (S0_pos (by simp) fun y hy => h y (List.mem_cons_of_mem _ hy))
    rw [sprd_one] at s
    have e : [r] ++ r2 :: x = r :: r2 :: x := rfl
    rw [e] at s
    grind
theorem sprd_sub {u w v : List (Int × Int)} (h : ∀ r ∈ u ++ (w ++ v), 0 < r.2) (hw : w ≠ []) : sprd w ≤ sprd (u ++ (w ++ v)) := by
  have h1 : sprd w ≤ sprd (w ++ v) := by
    cases v with
    | nil => rw [List.append_nil]; exact Rat.le_refl
    | cons b v =>
      have s := sprd_super (x := w) (y := b :: v) (S0_pos hw fun y hy => h y (by simp [hy])) (S0_pos (by simp) fun y hy => h y (by simp at hy ⊢; grind))
      have n := sprd_nn (x := b :: v) fun y hy => h y (by simp at hy ⊢; grind)
      grind
  cases u with
  | nil => exact h1
  | cons a u =>
    have s := sprd_super (x := a :: u) (y := w ++ v) (S0_pos (by simp) fun y hy => h y (List.mem_append_left _ hy)) (S0_pos (by simp [hw]) fun y hy => h y (List.mem_append_right _ hy))
    have n := sprd_nn (x := a :: u) fun y hy => h y (List.mem_append_left _ hy)
    grind
theorem sprd_two {a b : Int × Int} (ha : 0 < a.2) (hb : 0 < b.2) (h : a.1 + 155 ≤ b.1) : (12000 : Rat) ≤ sprd [a, b] := by
  obtain ⟨x, c⟩ := a
  obtain ⟨y, d⟩ := b
  simp only at *
  have e0 : S0 [(x, c), (y, d)] = c + d := by unfold S0; simp
  have e : S2 [(x, c), (y, d)] * S0 [(x, c), (y, d)] - S1 [(x, c), (y, d)] * S1 [(x, c), (y, d)] = c * d * ((y - x) * (y - x)) := by
    unfold S0 S1 S2
    simp only [List.map_cons, List.map_nil, List.sum_cons, List.sum_nil, Int.add_zero]
    grind
  unfold sprd
  rw [e, e0]
  have q0 : (0 : Rat) < ((c + d : Int) : Rat) := Rat.intCast_pos.mpr (by omega)
  refine Rat.le_of_mul_le_mul_right ?_ q0
  rw [div_mul_q5 (by omega)]
  have e3 : (12000 : Rat) * ((c + d : Int) : Rat) = ((12000 * (c + d) : Int) : Rat) := by
    rw [Rat.intCast_mul]
    rfl
  rw [e3]
  refine Rat.intCast_le_intCast.mpr ?_
  have h1 : 155 * 155 ≤ (y - x) * (y - x) := Int.mul_le_mul (by omega) (by omega) (by omega) (by omega)
  have h2 : c + d ≤ 2 * (c * d) := by
    have := Int.mul_nonneg (a := c - 1) (b := d - 1) (by omega) (by omega)
    have e4 : (c - 1) * (d - 1) = c * d - c - d + 1 := by grind
    have h5 : 1 * 1 ≤ c * d := Int.mul_le_mul (by omega) (by omega) (by omega) (by omega)
    omega
  have h3 : c * d * (155 * 155) ≤ c * d * ((y - x) * (y - x)) := Int.mul_le_mul_of_nonneg_left h1 (Int.mul_nonneg (by omega) (by omega))
  omega
def HOk : Nat → List (List (Int × Int)) → Prop
  | _, [] => True
  | i, h :: hs => (h ≠ [] ∧ h.length ≤ 6 ∧ ∀ r ∈ h, 160 * (i : Int) ≤ r.1 ∧ r.1 ≤ 160 * (i : Int) + 5 ∧ 1 ≤ r.2 ∧ r.2 ≤ 3) ∧ HOk (i + 1) hs
theorem HOk.pos : ∀ {hs : List (List (Int × Int))} {i : Nat}, HOk i hs → ∀ r ∈ hs.flatten, 0 < r.2 ∧ 160 * (i : Int) ≤ r.1
  | [], _, _, r, hr => by simp at hr
  | h :: hs, i, hk, r, hr => by
    rw [List.flatten_cons] at hr
    rcases List.mem_append.mp hr with z | z
    · have := hk.1.2.2 r z
      omega
    · have := HOk.pos hk.2 r z
      omega
def Crs (g : List (Int × Int)) : Prop := ∃ u a b v, g = u ++ ([a, b] ++ v) ∧ a.1 + 155 ≤ b.1
theorem align : ∀ (gs : List (List (Int × Int))) (i : Nat) (hs : List (List (Int × Int))), HOk i hs → (∀ g ∈ gs, g ≠ []) → gs.flatten = hs.flatten → (∃ g ∈ gs, Crs g) ∨ ∃ pss : List (List (List (Int × Int))), pss.flatten = gs ∧ pss.map List.flatten = hs ∧ ∀ ps ∈ pss, ps ≠ []
  | [], i, [], _, _, _ => .inr ⟨[], rfl, rfl, fun _ h => nomatch h⟩
  | [], i, h :: hs, hk, _, e => by
    exfalso
    rw [List.flatten_cons] at e
    have := congrArg List.length e
    rw [List.length_append] at this
    have := List.length_pos_iff.mpr hk.1.1
    simp at *
    omega
  | g :: gs, i, [], _, hn, e => by
    exfalso
    have l : (g ++ gs.flatten).length = 0 := by rw [← List.flatten_cons, e]; rfl
    rw [List.length_append] at l
    have := List.length_pos_iff.mpr (hn g (List.mem_cons_self ..))
    omega
  | g :: gs, i, h :: hs, hk, hn, e => by
    rw [List.flatten_cons, List.flatten_cons] at e
    have hng : ∀ x ∈ gs, x ≠ [] := fun x hx => hn x (List.mem_cons_of_mem _ hx)
    rcases List.append_eq_append_iff.mp e with ⟨w, e1, e2⟩ | ⟨w, e1, e2⟩
    · -- h = g ++ w
      cases w with
      | nil =>
        rw [List.append_nil] at e1
        rw [List.nil_append] at e2
        rcases align gs (i + 1) hs hk.2 hng e2 with ⟨x, hx, c⟩ | ⟨pss, p1, p2, p3⟩
        · exact .inl ⟨x, List.mem_cons_of_mem _ hx, c⟩
        · refine .inr ⟨[g] :: pss, by rw [List.flatten_cons, p1]; rfl, by rw [List.map_cons, p2, e1]; simp, fun ps hps => ?_⟩
          rcases List.mem_cons.mp hps with z | z
          · rw [z]; simp
          · exact p3 ps z
      | cons w0 w =>
        have hk2 : HOk i ((w0 :: w) :: hs) := ⟨⟨by simp, by have := hk.1.2.1; rw [e1, List.length_append] at this; omega, fun r hr => hk.1.2.2 r (by rw [e1]; exact List.mem_append_right _ hr)⟩, hk.2⟩
        rcases align gs i ((w0 :: w) :: hs) hk2 hng (by rw [List.flatten_cons]; exact e2) with ⟨x, hx, c⟩ | ⟨pss, p1, p2, p3⟩
        · exact .inl ⟨x, List.mem_cons_of_mem _ hx, c⟩
        · cases pss with
          | nil => simp at p2
          | cons ps pss =>
            rw [List.map_cons] at p2
            obtain ⟨p4, p5⟩ := List.cons.inj p2
            refine .inr ⟨(g :: ps) :: pss, by rw [List.flatten_cons, ← p1, List.flatten_cons]; rfl, by rw [List.map_cons, p5, List.flatten_cons, p4, e1], fun qs hqs => ?_⟩
            rcases List.mem_cons.mp hqs with z | z
            · rw [z]; simp
            · exact p3 qs (List.mem_cons_of_mem _ z)
    · -- g = h ++ w
      cases w with
      | nil =>
        rw [List.append_nil] at e1
        rw [List.nil_append] at e2
        rcases align gs (i + 1) hs hk.2 hng e2.symm with ⟨x, hx, c⟩ | ⟨pss, p1, p2, p3⟩
        · exact .inl ⟨x, List.mem_cons_of_mem _ hx, c⟩
        · refine .inr ⟨[g] :: pss, by rw [List.flatten_cons, p1]; rfl, by rw [List.map_cons, p2, e1]; simp, fun ps hps => ?_⟩
          rcases List.mem_cons.mp hps with z | z
          · rw [z]; simp
          · exact p3 ps z
      | cons b w =>
        refine .inl ⟨g, List.mem_cons_self .., ?_⟩
        have hb := hk.2.pos b (by rw [e2]; simp)
        obtain ⟨u, a, hu⟩ : ∃ u a, h = u ++ [a] := ⟨h.dropLast, h.getLast hk.1.1, (List.dropLast_concat_getLast hk.1.1).symm⟩
        have ha := hk.1.2.2 a (by rw [hu]; simp)
        refine ⟨u, a, b, w, by rw [e1, hu]; simp, ?_⟩
        have : ((i + 1 : Nat) : Int) = (i : Int) + 1 := Int.natCast_add ..
        omega
theorem sums_nn : ∀ {gs : List (List (Int × Int))}, (∀ r ∈ gs.flatten, 0 < r.2) → 0 ≤ sums gs ∧ ∀ g ∈ gs, sprd g ≤ sums gs
  | [], _ => ⟨Rat.le_refl, fun _ h => nomatch h⟩
  | g :: gs, h => by
    rw [List.flatten_cons] at h
    obtain ⟨i1, i2⟩ := sums_nn (gs := gs) fun r hr => h r (List.mem_append_right _ hr)
    have n := sprd_nn (x := g) fun r hr => h r (List.mem_append_left _ hr)
    have e : sums (g :: gs) = sprd g + sums gs := rfl
    rw [e]
    refine ⟨by grind, fun x hx => ?_⟩
    rcases List.mem_cons.mp hx with z | z
    · rw [z]; grind
    · have := i2 x z
      grind
theorem S2_in5 : ∀ {h : List (Int × Int)}, (∀ r ∈ h, 0 ≤ r.1 ∧ r.1 ≤ 5 ∧ 1 ≤ r.2 ∧ r.2 ≤ 3) → S2 h ≤ 75 * (h.length : Int)
  | [], _ => by unfold S2; simp
  | r :: h, hh => by
    have ih := S2_in5 (h := h) fun x hx => hh x (List.mem_cons_of_mem _ hx)
    obtain ⟨h1, h2, h3, h4⟩ := hh r (List.mem_cons_self ..)
    unfold S2 at ih ⊢
    rw [List.map_cons, List.sum_cons, List.length_cons]
    have m1 : r.2 * r.1 ≤ 3 * 5 := Int.mul_le_mul h4 h2 h1 (by omega)
    have m2 : r.2 * r.1 * r.1 ≤ 3 * 5 * 5 := Int.mul_le_mul m1 h2 h1 (by omega)
    omega
theorem heap_le {h : List (Int × Int)} {i : Nat} (h0 : h ≠ []) (hl : h.length ≤ 6) (hh : ∀ r ∈ h, 160 * (i : Int) ≤ r.1 ∧ r.1 ≤ 160 * (i : Int) + 5 ∧ 1 ≤ r.2 ∧ r.2 ≤ 3) : sprd h ≤ 450 := by
  rw [← sprd_ln (u := 1) (by decide) (-(160 * (i : Int))) h]
  have hs : ∀ r ∈ h.map (ln 1 (-(160 * (i : Int)))), 0 ≤ r.1 ∧ r.1 ≤ 5 ∧ 1 ≤ r.2 ∧ r.2 ≤ 3 := fun r hr => by
    obtain ⟨x, hx, rfl⟩ := List.mem_map.mp hr
    have := hh x hx
    unfold ln
    simp only
    omega
  have l2 : (h.map (ln 1 (-(160 * (i : Int))))).length ≤ 6 := by rw [List.length_map]; exact hl
  have ne : h.map (ln 1 (-(160 * (i : Int)))) ≠ [] := by simp [h0]
  generalize h.map (ln 1 (-(160 * (i : Int)))) = w at *
  have p := S0_pos ne fun r hr => by have := hs r hr; omega
  have b := S2_in5 hs
  unfold sprd
  have q0 : (0 : Rat) < ((S0 w : Int) : Rat) := Rat.intCast_pos.mpr p
  refine Rat.le_of_mul_le_mul_right ?_ q0
  rw [div_mul_q5 (by omega)]
  have e3 : (450 : Rat) * ((S0 w : Int) : Rat) = ((450 * S0 w : Int) : Rat) := by
    rw [Rat.intCast_mul]
    rfl
  rw [e3]
  refine Rat.intCast_le_intCast.mpr ?_
  have := sq_nonneg' (S1 w)
  have k : S2 w * S0 w ≤ 450 * S0 w := Int.mul_le_mul_of_nonneg_right (by omega) (by omega)
  omega
theorem heaps_le : ∀ {hs : List (List (Int × Int))} {i : Nat}, HOk i hs → sums hs ≤ 450 * ((hs.length : Int) : Rat)
  | [], _, _ => by show (0 : Rat) ≤ 450 * ((0 : Int) : Rat); rw [show ((0 : Int) : Rat) = 0 from rfl]; grind
  | h :: hs, i, hk => by
    have ih := heaps_le hk.2
    have a := heap_le hk.1.1 hk.1.2.1 hk.1.2.2
    show sprd h + sums hs ≤ _
    rw [List.length_cons, Int.natCast_add, Rat.intCast_add]
    have : (((1 : Nat) : Int) : Rat) = 1 := rfl
    rw [this]
    grind
theorem all_one {α : Type} : ∀ {pss : List (List α)}, (∀ ps ∈ pss, ps ≠ []) → pss.length ≤ pss.flatten.length ∧ (pss.flatten.length = pss.length → pss = pss.flatten.map fun x => [x])
  | [], _ => ⟨Nat.le_refl _, fun _ => rfl⟩
  | ps :: pss, h => by
    obtain ⟨i1, i2⟩ := all_one (pss := pss) fun x hx => h x (List.mem_cons_of_mem _ hx)
    have p := List.length_pos_iff.mpr (h ps (List.mem_cons_self ..))
    rw [List.flatten_cons, List.length_append, List.length_cons]
    refine ⟨by omega, fun e => ?_⟩
    obtain ⟨a, rfl⟩ := List.length_eq_one_iff.mp (show ps.length = 1 by omega)
    conv => lhs; rw [i2 (by omega)]
    rfl
theorem one_two {α : Type} : ∀ {pss : List (List α)}, (∀ ps ∈ pss, ps ≠ []) → pss.flatten.length = pss.length + 1 → ∃ (A : List α) (x y : α) (C : List α), pss = (A.map fun x => [x]) ++ [x, y] :: (C.map fun x => [x])
  | [], _, h => by simp at h
  | ps :: pss, hn, h => by
    have hn2 : ∀ x ∈ pss, x ≠ [] := fun x hx => hn x (List.mem_cons_of_mem _ hx)
    obtain ⟨i1, i2⟩ := all_one hn2
    have p := List.length_pos_iff.mpr (hn ps (List.mem_cons_self ..))
    rw [List.flatten_cons, List.length_append, List.length_cons] at h
    by_cases c : ps.length = 1
    · obtain ⟨a, rfl⟩ := List.length_eq_one_iff.mp c
      obtain ⟨A, x, y, C, e⟩ := one_two hn2 (by omega)
      exact ⟨a :: A, x, y, C, by rw [e]; rfl⟩
    · have c2 : ps.length = 2 := by omega
      match ps, c2 with
      | [x, y], _ => exact ⟨[], x, y, pss.flatten, by rw [← i2 (by omega)]; rfl⟩
theorem sing_map (A : List (List (Int × Int))) : (A.map fun x => [x]).map List.flatten = A := by
  rw [List.map_map]
  refine (List.map_congr_left fun x _ => ?_).trans (List.map_id _)
  simp
section
variable {hs : List (List (Int × Int))} (hk : HOk 0 hs) (h1 : 1 ≤ hs.length) (h6 : hs.length ≤ 6) (ri : Ris hs.flatten) (h2 : ∀ h ∈ hs, 2 ≤ h.length)
include hk h1 h6 ri
theorem no_cross {t : Nat} {gs : List (List (Int × Int))} (hG : Grp hs.flatten 0 t gs) (hs' : sums gs ≤ sums hs) : ¬ ∃ g ∈ gs, Crs g := by
  rintro ⟨g, hg, u, a, b, v, e, d⟩
  have hf := hG.f
  rw [List.drop_zero] at hf
  have pos : ∀ r ∈ gs.flatten, 0 < r.2 := fun r hr => (hk.pos r (by rw [← hf]; exact hr)).1
  have le := (sums_nn pos).2 g hg
  have pg : ∀ r ∈ g, 0 < r.2 := fun r hr => pos r (List.mem_flatten.mpr ⟨g, hg, hr⟩)
  rw [e] at pg
  have s1 := sprd_sub (w := [a, b]) pg (by simp)
  have s2 := sprd_two (pg a (by simp)) (pg b (by simp)) d
  rw [← e] at s1
  have u1 := heaps_le hk
  have u2 : ((hs.length : Int) : Rat) ≤ ((6 : Int) : Rat) := Rat.intCast_le_intCast.mpr (by omega)
  have u3 : ((6 : Int) : Rat) = 6 := rfl
  rw [u3] at u2
  grind
theorem heaps_grp (t : Nat) (ht : hs.length ≤ t + 1) : Grp hs.flatten 0 t hs := ⟨by rw [List.drop_zero], fun g hg => by
  have : ∀ {hs : List (List (Int × Int))} {i : Nat}, HOk i hs → ∀ g ∈ hs, g ≠ [] := by
    intro hs
    induction hs with
    | nil => intro i _ g hg; exact nomatch hg
    | cons h hs ih =>
      intro i hk g hg
      rcases List.mem_cons.mp hg with z | z
      · rw [z]; exact hk.1.1
      · exact ih hk.2 g z
  exact this hk g hg, ht, fun z => by rw [z] at h1; simp at h1⟩
theorem flat_two : hs.length ≤ hs.flatten.length := flat_le (heaps_grp hk h1 h6 ri hs.length (by omega)).n
theorem pT_heaps : pT hs.flatten (hs.length - 1) 0 = (sums hs, begs 0 hs) := by
  have hg0 := heaps_grp hk h1 h6 ri (hs.length - 1) (by omega)
  have lf := flat_two hk h1 h6 ri
  have r0 : 0 < hs.flatten.length := by omega
  have rp : ∀ r ∈ hs.flatten, 0 < r.2 := fun r hr => (hk.pos r hr).1
  obtain ⟨gs, hG, hs', hb⟩ := pT_at hs.flatten (hs.length - 1) 0 r0
  have le := pT_le hs.flatten (hs.length - 1) 0 _ hg0
  rw [← hs'] at le
  have hl := pT_length r0 ri rp (hs.length - 1)
  rw [← hb, begs_len] at hl
  have hf := hG.f
  rw [List.drop_zero] at hf
  rcases align gs 0 hs hk hG.n hf with c | ⟨pss, p1, p2, p3⟩
  · exact absurd c (no_cross hk h1 h6 ri hG le)
  · have lp : pss.length = hs.length := by rw [← p2, List.length_map]
    obtain ⟨_, a2⟩ := all_one p3
    have e := a2 (by rw [p1, lp]; omega)
    rw [p1] at e
    rw [e, sing_map] at p2
    subst p2
    have : pT gs.flatten (gs.length - 1) 0 = ((pT gs.flatten (gs.length - 1) 0).1, (pT gs.flatten (gs.length - 1) 0).2) := rfl
    rw [this, ← hs', ← hb]
theorem cut_le {A C : List (List (Int × Int))} {x y : List (Int × Int)} (e : hs = A ++ (x ++ y) :: C) (hx : x ≠ []) (hy : y ≠ []) : (pT hs.flatten hs.length 0).1 ≤ sums (A ++ x :: y :: C) := by
  have hg0 := heaps_grp hk h1 h6 ri hs.length (by omega)
  refine pT_le hs.flatten hs.length 0 _ ⟨?_, fun g hg => ?_, ?_, by simp⟩
  · rw [List.drop_zero]
    conv => rhs; rw [e]
    simp
  · rcases List.mem_append.mp hg with z | z
    · exact hg0.n g (by rw [e]; exact List.mem_append_left _ z)
    · rcases List.mem_cons.mp z with z | z
      · rw [z]; exact hx
      · rcases List.mem_cons.mp z with z | z
        · rw [z]; exact hy
        · exact hg0.n g (by rw [e]; exact List.mem_append_right _ (List.mem_cons_of_mem _ z))
  · rw [e]
    simp
    omega
include h2 in
theorem cut_at : ∃ A x y C, hs = A ++ (x ++ y) :: C ∧ x ≠ [] ∧ y ≠ [] ∧ (pT hs.flatten hs.length 0).1 = sums (A ++ x :: y :: C) := by
  have lf := flat_two hk h1 h6 ri
  have l2 : ∀ {hs : List (List (Int × Int))}, (∀ h ∈ hs, 2 ≤ h.length) → 2 * hs.length ≤ hs.flatten.length := by
    intro hs
    induction hs with
    | nil => intro _; simp
    | cons h hs ih =>
      intro hh
      have := ih fun x hx => hh x (List.mem_cons_of_mem _ hx)
      have := hh h (List.mem_cons_self ..)
      rw [List.flatten_cons, List.length_append, List.length_cons]
      omega
  have l2 := l2 h2
  have r0 : 0 < hs.flatten.length := by omega
  have rp : ∀ r ∈ hs.flatten, 0 < r.2 := fun r hr => (hk.pos r hr).1
  obtain ⟨gs, hG, hs', hb⟩ := pT_at hs.flatten hs.length 0 r0
  have le := pT_le hs.flatten hs.length 0 _ (heaps_grp hk h1 h6 ri hs.length (by omega))
  rw [← hs'] at le
  have hl := pT_length r0 ri rp hs.length
  rw [← hb, begs_len] at hl
  have hf := hG.f
  rw [List.drop_zero] at hf
  rcases align gs 0 hs hk hG.n hf with c | ⟨pss, p1, p2, p3⟩
  · exact absurd c (no_cross hk h1 h6 ri hG le)
  · have lp : pss.length = hs.length := by rw [← p2, List.length_map]
    obtain ⟨A, x, y, C, e⟩ := one_two p3 (by rw [p1]; omega)
    have eg : gs = A ++ x :: y :: C := by
      rw [← p1, e]
      have sf : ∀ Z : List (List (Int × Int)), (Z.map fun x => [x]).flatten = Z := fun Z => by
        induction Z with
        | nil => rfl
        | cons z Z ih => rw [List.map_cons, List.flatten_cons, ih]; rfl
      rw [List.flatten_append, List.flatten_cons, sf, sf]
      rfl
    rw [e, List.map_append, List.map_cons, sing_map, sing_map] at p2
    refine ⟨A, x, y, C, ?_, ?_, ?_, by rw [← hs', eg]⟩
    · rw [← p2]
      simp
    · exact hG.n x (by rw [eg]; simp)
    · exact hG.n y (by rw [eg]; simp)
end
theorem sums_cut (A C : List (List (Int × Int))) (x y : List (Int × Int)) : sums (A ++ x :: y :: C) = sums (A ++ (x ++ y) :: C) + -sprd (x ++ y) + (sprd x + sprd y) := by
  rw [sums_app, sums_app]
  show sums A + (sprd x + (sprd y + sums C)) = sums A + (sprd (x ++ y) + sums C) + -sprd (x ++ y) + (sprd x + sprd y)
  grind
/-! ### rows of a line, as data -/
theorem rows_apart {B : List Addr} {H : Hp} {D : Addr} {us : List V} (eD : H D = some (.lst us)) : ∀ {rvs : List V} {rs : List (Int × Int)}, DtA B H rvs (rs.map eLR) → DtA (D :: B) H rvs (rs.map eLR)
  | [], [], _ => .nil
  | [], _ :: _, h => nomatch h
  | _ :: _, [], h => nomatch h
  | v :: rvs, r :: rs, h => by
    rw [List.map_cons] at h ⊢
    cases h with
    | cons h1 h2 =>
      refine .cons ?_ (rows_apart eD h2)
      obtain ⟨a, q, rfl, na, ea, nq, eq⟩ := Dt.rowI h1
      have n1 : a ≠ D := fun z => by rw [z, eD] at ea; cases ea
      have n2 : q ≠ D := fun z => by rw [z, eD] at eq; cases eq
      exact Dt.ofRow (fun z => by
        rcases List.mem_cons.mp z with y | y
        · exact n1 y
        · exact na y) ea (Dt.ofCol (fun z => by
        rcases List.mem_cons.mp z with y | y
        · exact n2 y
        · exact nq y) eq)
theorem two_q (x : Rat) : Rat.divInt (2 * x.num) (x.den : Int) = 2 * x := by
  have e2 : (2 : Rat) = Rat.divInt 2 1 := rfl
  have e : (2 : Rat) * x = Rat.divInt 2 1 * Rat.divInt x.num x.den := by rw [Rat.num_divInt_den, ← e2]
  rw [e, Rat.divInt_mul_divInt, Int.one_mul]
theorem eBL_I {B : List Addr} {H : Hp} {v : V} {x : Bst} (h : Dt B H v (eBL x)) : ∃ a p q, v = .ref a ∧ a ∉ B ∧ H a = some (.tup [.ref p, .ref q]) ∧ Dt B H (.ref p) (enc (qp x.1)) ∧ q ∉ B ∧ H q = some (.lst ((nI x.2).map V.int)) := by
  obtain ⟨a, vs, rfl, na, ea, hA⟩ := h.tupI
  cases hA with
  | cons h1 h2 =>
    cases h2 with
    | cons h3 h4 =>
      cases h4
      obtain ⟨p, rfl, _⟩ := h1.col
      obtain ⟨q, rfl, nq, eq⟩ := h3.ints
      exact ⟨a, p, q, rfl, na, ea, h1, nq, eq⟩
theorem bol_dt {H : Hp} {p q t : Addr} {x : Bst} (e1 : H p = some (.tup [.ref t, .ref q])) (e2 : Dt [] H (.ref t) (enc (qp x.1))) (e3 : H q = some (.lst ((nI x.2).map V.int))) : Dt [] H (.ref p) (eBL x) := .tup (fun h => nomatch h) e1 (.cons e2 (.cons (Dt.ofInts (fun h => nomatch h) e3) .nil))
theorem atLast55 {ws : List V} {v : V} (h : 0 < ws.length) (e : ws[ws.length - 1]? = some v) : atI ws (-1) = some v := by
  have e8 : ixN ws.length (-1) = some (ws.length - 1) := by
    unfold ixN
    rw [if_neg (by decide), if_pos (by omega)]
    congr 1
    omega
  unfold atI
  rw [e8]
  exact e
theorem sh_eBL {x : Bst} (h : x.2.length ≤ 1000) : Sh (eBL x) 2 := sh_tup (by simp) fun d hd => by
  simp only [List.mem_cons, List.not_mem_nil, or_false] at hd
  rcases hd with rfl | rfl
  · exact sh_eC (by simp)
  · exact sh_eI (by unfold nI; rw [List.length_map]; omega)
theorem sh_eLR (r : Int × Int) : Sh (eLR r) 2 := sh_tup (by simp) fun d hd => by
  simp only [List.mem_cons, List.not_mem_nil, or_false] at hd
  rcases hd with rfl | rfl
  · exact sh_eC (by simp)
  · exact sh_int _ 1
theorem sh_lines {rs : List (Int × Int)} (h : rs.length ≤ 60) : Sh (.list (rs.map eLR)) 3 := sh_lst (by rw [List.length_map]; omega) fun d hd => by
  obtain ⟨r, _, rfl⟩ := List.mem_map.mp hd
  exact sh_eLR r
/-! ### what the law promises -/
def spLaw (K : PySem.W.Frag) : Sp := fun vs H Q _ => ∃ (a : Addr) (ns : List Int), vs = [.ref a] ∧ SqL K H a (ns.map V.int) ∧ ns.length ≤ 63 ∧ ∀ H', Q (.bl true) H'
/-! ### even steps -/
def spRight : Sp := fun vs H Q _ => ∃ (L : Addr) (n : Nat), vs = [.ref L] ∧ Lf L H n ∧ n < 1000000 ∧ ∀ H', Go [L] H H' → Lf L H' (n + 1000) → Q (.bl true) H'
def totB (n g : Nat) (d c : Int) (m : Nat) : Rat := Rat.divInt (c * d * d * FE (cutsOf (ev n d c) (stB n g) m)) 12
theorem cuts_step {n g : Nat} {d c : Int} (g0 : 0 < g) {m : Nat} (hm : m < g) : FE (cutsOf (ev n d c) (stB n g) (m + 1)) = FE (cutsOf (ev n d c) (stB n g) m) + fE (szB n g m) := by
  rw [cuts_succ, FE_app]
  have le : ∀ j, m + 1 + j ≤ g → stB n g (m + 1) ≤ stB n g (m + 1 + j) := fun j => by
    induction j with
    | zero => intro _; exact Nat.le_refl _
    | succ j ih => intro h; have := ih (by omega); have := st_succ n g (m + 1 + j); rw [← Nat.add_assoc]; omega
  have := le (g - (m + 1)) (by omega)
  rw [show m + 1 + (g - (m + 1)) = g by omega, st_all g0] at this
  have e : FE [cutR (ev n d c) (stB n g m) (stB n g (m + 1))] = fE (szB n g m) := by
    unfold FE
    rw [List.map_cons, List.map_nil, List.sum_cons, List.sum_nil, Int.add_zero, cut_len (by rw [ev_len]; exact this), st_succ]
    congr 1
    omega
  rw [e]
theorem tot_step {n g : Nat} {d c : Int} (g0 : 0 < g) {m : Nat} (hm : m < g) : totB n g d c m + Rat.divInt (c * d * d * fE (szB n g m)) 12 = totB n g d c (m + 1) := by
  unfold totB
  rw [add_12, cuts_step g0 hm, Int.mul_add]
theorem fE_in {s : Nat} (h : s ≤ 61) : 0 ≤ fE s ∧ fE s ≤ 230000 := by
  unfold fE
  rcases Nat.eq_zero_or_pos s with z | z
  · rw [z]; decide
  · have h1 : (s : Int) * (s : Int) ≤ 61 * 61 := Int.mul_le_mul (by omega) (by omega) (by omega) (by omega)
    have h0 : 1 * 1 ≤ (s : Int) * (s : Int) := Int.mul_le_mul (by omega) (by omega) (by omega) (by omega)
    have h2 : (s : Int) * ((s : Int) * (s : Int) - 1) ≤ 61 * (61 * 61) := Int.mul_le_mul (by omega) (by omega) (by omega) (by omega)
    have h3 : 0 ≤ (s : Int) * ((s : Int) * (s : Int) - 1) := Int.mul_nonneg (by omega) (by omega)
    omega
theorem sz_in {n g k : Nat} (hn : n ≤ 60) : szB n g k ≤ 61 := by
  unfold szB
  have := Nat.div_le_self n g
  split <;> omega
theorem FE_in {n g : Nat} {d c : Int} (g0 : 0 < g) (hn : n ≤ 60) : ∀ m, m ≤ g → 0 ≤ FE (cutsOf (ev n d c) (stB n g) m) ∧ FE (cutsOf (ev n d c) (stB n g) m) ≤ 230000 * (m : Int)
  | 0, _ => by unfold FE cutsOf; simp
  | m + 1, h => by
    have ih := FE_in (d := d) (c := c) g0 hn m (by omega)
    have := fE_in (sz_in (g := g) (k := m) hn)
    rw [cuts_step g0 (by omega)]
    omega
theorem qb_12 {x : Int} (h : x.natAbs < 2 ^ 64) : Qb (Rat.divInt x 12) := Fr.qb (M := 12) (A := 2 ^ 64) ⟨x, rfl, Nat.le_of_lt h⟩ (by decide) (by unfold lim; exact Nat.lt_of_lt_of_le (show 12 < 2 ^ 64 by decide) (Nat.pow_le_pow_right (by decide) (by decide))) (by unfold lim; exact Nat.pow_lt_pow_right (by decide) (by decide))
theorem K_in {c d x : Int} {b : Int} (hc : 0 < c ∧ c ≤ 1000) (hd : 0 < d ∧ d ≤ 15) (hx : 0 ≤ x ∧ x ≤ 2300000) : (c * d * d * x).natAbs < 2 ^ 64 := by
  have h1 : c * d ≤ 1000 * 15 := Int.mul_le_mul hc.2 hd.2 (by omega) (by omega)
  have h1' : 0 < c * d := Int.mul_pos hc.1 hd.1
  have h2 : c * d * d ≤ 1000 * 15 * 15 := Int.mul_le_mul h1 hd.2 (by omega) (by omega)
  have h2' : 0 < c * d * d := Int.mul_pos h1' hd.1
  have h3 : c * d * d * x ≤ 1000 * 15 * 15 * 2300000 := Int.mul_le_mul h2 hx.2 hx.1 (by omega)
  have h3' : 0 ≤ c * d * d * x := Int.mul_nonneg (by omega) hx.1
  omega
set_option maxHeartbeats 2000000 in
theorem ok_l_even_right (T : Tx K mg) {k : Nat} : FnOk P w K mg base CX0 (k + 6) T.f_l_even_right T.d_l_even_right ["_law_left_here"] spRight := by
  refine T.F_l_even_right.ok sc_l_even_right (fun vs H Q E h => ?_) (fun cdv A outer s H vs Q E hr h => ?_)
  · obtain ⟨L, n, rfl, _⟩ := h
    rfl
  · obtain ⟨L, n0, rfl, hL, hn, q⟩ := h
    refine ⟨_, (pss_cons (ps_asg (pe_tup (pa_cons (pe_op op_add pe_int (pe_call (ok_l_pick T (k := k + 3)) hr (by rfl) T.g_l_pick T.F_l_pick.kp T.b_l_pick .nil pass0 (pa_cons (pv 0) (pa_cons pe_int pa_nil)))) (pa_cons (pe_ix (ix_listK K) (pe_lst (pa_cons pe_int (pa_cons pe_int (pa_cons pe_int pa_nil)))) (pe_call (ok_l_pick T (k := k + 3)) hr (by rfl) T.g_l_pick T.F_l_pick.kp T.b_l_pick .nil pass0 (pa_cons (pv 0) (pa_cons pe_int pa_nil))) (fun _ _ => rfl)) pa_nil))) (pg_tupK K (n := 2) rfl (pgs_cons (pg_name (i := 1) sc_l_even_right.nd rfl (.inl rfl)) (pgs_cons (pg_name (i := 2) sc_l_even_right.nd rfl (.inr rfl)) pgs_nil))))
      (pss_cons (ps_set (i := 3) sc_l_even_right.nd rfl (.inr rfl) (pe_op op_add pe_int (pe_call (ok_l_pick T (k := k + 3)) hr (by rfl) T.g_l_pick T.F_l_pick.kp T.b_l_pick .nil pass0 (pa_cons (pv 0) (pa_cons pe_int pa_nil)))))
      (pss_cons (ps_setLc (i := 4) (own := [("_law_k", 9)]) (by rfl) sc_l_even_right.nd rfl rfl (sw_true rfl rfl rfl (by decide +kernel)) (pi_range1 (by rfl) T.z_range (pa_cons (pv 1) pa_nil)) (blkOk_by (own := [("_law_k", 9)]) (N := N_l_even_right) (sc := defScope s_l_even_right) (by decide +kernel)) (fun _ _ _ _ _ => (pg_name (i := 9) sc_l_even_right.nd rfl (.inl rfl))) (fun _ _ _ _ _ => pts_nil) (fun _ _ _ _ _ => (pe_tup (pa_cons (pe_tup (pa_cons (pe_op op_mul (pv 3) (pv 9)) pa_nil)) (pa_cons (pv 2) pa_nil)))))
      (pss_cons (ps_set (i := 5) sc_l_even_right.nd rfl (.inl rfl) (pe_op op_add pe_int (pe_call (ok_l_pick T (k := k + 3)) hr (by rfl) T.g_l_pick T.F_l_pick.kp T.b_l_pick .nil pass0 (pa_cons (pv 0) (pa_cons (pe_callB (call_min2 rfl) (by rfl) T.z_min (by decide +kernel) (pa_cons pe_int (pa_cons (pv 1) pa_nil))) pa_nil)))))
      (pss_cons (ps_par3 (i := 6) (j := 7) (l := 8) (by rfl) sc_l_even_right.nd rfl rfl rfl (by decide) (by decide) (by decide) rfl rfl rfl (pa_cons (pe_lst pa_nil) (pa_cons (pe_tup (pa_cons pe_int (pa_cons pe_int pa_nil))) (pa_cons pe_int pa_nil))) (by rfl))
      (pss_cons (ps_for PassesOwn.never rfl (pi_range1 (by rfl) T.z_range (pa_cons (pv 5) pa_nil)) (pg_name (i := 9) sc_l_even_right.nd rfl (.inl rfl)) (pss_cons (ps_set (i := 10) sc_l_even_right.nd rfl (.inl rfl) (pe_op op_add (pe_op op_fdiv (pv 1) (pv 5)) (pe_callTy call_int1 (by rfl) T.z_int (by decide +kernel) (pa_cons (pe_cmpR op_ge (pv 9) (pe_op op_sub (pv 5) (pe_op op_mod (pv 1) (pv 5))) (nomark _)) pa_nil))))
      (pss_cons (ps_expr (pe_bm PySem.F.plainAttrs_list PySem.F.slot_list_append PySem.F.type_list_append mt_append (pv 6) (pa_cons (pv 8) pa_nil)))
      (pss_cons (ps_set (i := 8) sc_l_even_right.nd rfl (.inl rfl) (pe_op op_add (pv 8) (pv 10)))
      (pss_one (ps_set (i := 7) sc_l_even_right.nd rfl (.inl rfl) (pe_call (ok_l_plus T (k := k + 3)) hr (by rfl) T.g_l_plus T.F_l_plus.kp T.b_l_plus .nil pass0 (pa_cons (pv 7) (pa_cons (pe_call (ok_l_part T (k := k + 4)) hr (by rfl) T.g_l_part T.F_l_part.kp T.b_l_part .nil pass0 (pa_cons (pe_op op_mul (pe_op op_mul (pe_op op_mul (pe_op op_mul (pv 2) (pv 3)) (pv 3)) (pv 10)) (pe_op op_sub (pe_op op_mul (pv 10) (pv 10)) pe_int)) (pa_cons pe_int pa_nil))) pa_nil)))))))))
      (pss_one (ps_ret (pe_cmpR (op_eqDK K hr.units) (pe_call (ok_best_on_line T (k := k)) hr (by rfl) T.g_best_on_line T.F_best_on_line.kp T.b_best_on_line .nil pass0 (pa_cons (pv 4) (pa_cons (pv 5) pa_nil))) (pe_tup (pa_cons (pv 7) (pa_cons (pv 6) pa_nil))) (nomark _)))))))))), ?_⟩
    refine ⟨_, rfl, L, 59, n0, rfl, hL, by omega, by decide, by decide, fun r1 H1 g1 l1 a1 b1 => ?_⟩
    refine ⟨_, _, rfl, rfl, ?_⟩
    obtain ⟨n, hnn⟩ : ∃ n : Nat, (2 : Int) + r1 = (n : Int) := ⟨(2 + r1).toNat, by omega⟩
    dsimp only
    rw [hnn]
    have n2 : 2 ≤ n ∧ n ≤ 60 := by omega
    clear hnn
    refine ⟨(by show 3 ≤ sizeLine; decide), fun z hz => ?_⟩
    have g2 := g1.trans (Go.new (B := [L]) (o := .lst ([1, 2, 1000].map V.int)) hz)
    have l2 := l1.new (o := .lst ([1, 2, 1000].map V.int)) hz
    have ez : (upd H1 z (.lst ([1, 2, 1000].map V.int))) z = some (.lst ([1, 2, 1000].map V.int)) := upd_same
    have nz : z ∉ [L] := l1.bk.ne hz
    refine ⟨_, rfl, L, 3, n0 + 1, rfl, l2, by omega, by decide, by decide, fun r2 H3 g3 l3 a2 b2 => ?_⟩
    obtain ⟨c, mc, hc⟩ := at_int (ns := [1, 2, 1000]) a2 b2
    have c01 : 0 < c ∧ c ≤ 1000 := by
      simp at mc
      omega
    refine ⟨z, _, _, .int c, rfl, rfl, SqL.of (g3.k z _ nz ez), hc, (by show 2 ≤ sizeLine; decide), fun tp htp => ?_⟩
    have g4 := (g2.trans g3).trans (Go.new (B := [L]) (o := .tup [.int (n : Int), .int c]) htp)
    have l4 := l3.new (o := .tup [.int (n : Int), .int c]) htp
    have etp : (upd H3 tp (.tup [.int (n : Int), .int c])) tp = some (.tup [.int (n : Int), .int c]) := upd_same
    generalize upd H3 tp (.tup [.int (n : Int), .int c]) = H4 at *
    refine ⟨tp, _, rfl, SqT.of etp, rfl, _, _, rfl, _, _, rfl, rfl, ?_⟩
    refine ⟨_, rfl, L, 15, _, rfl, l4, by omega, by decide, by decide, fun r5 H5 g5 l5 a5 b5 => ?_⟩
    refine ⟨_, _, rfl, rfl, ?_⟩
    obtain ⟨d, hd⟩ : ∃ d : Int, 1 + r5 = d := ⟨_, rfl⟩
    dsimp only
    rw [hd]
    have d01 : 0 < d ∧ d ≤ 15 := by omega
    clear hd
    -- rows
    refine ⟨_, rfl, _, rfl, by omega, by omega, fun D hD => ?_⟩
    refine lc_pure (σ := [some (.ref L), some (.int (n : Int)), some (.int c), some (.int d), none, none, none, none, none, none, none]) (B := [L]) (walk_range (lo := 0) (n := (n : Int).toNat)) hD l5.bk (fun _ _ => True.intro) (by omega) (fun j => ((ev n d c).map eLR)[j]?) (fun j x H' H'' Ny Nn hj t1 bk y ky kn => ?_) (fun H6 ws s6 eD6 hW6 => ?_)
    · obtain ⟨rfl, rfl⟩ := y
      have hj2 : j < n := by omega
      have hm : ((ev n d c).map eLR)[j]? = some (eLR (d * (j : Int), c)) := by
        unfold ev
        rw [List.getElem?_map, List.getElem?_map, List.getElem?_range hj2]
        rfl
      refine ⟨rfl, lc_yes ⟨_, rfl, _, rfl, _, _, rfl, rfl, .inl ⟨by omega, by omega⟩, (by show 1 ≤ sizeLine; decide), fun p1 hp1 => ?_⟩⟩
      refine ⟨_, rfl, (by show 2 ≤ sizeLine; decide), fun p2 hp2 => ?_⟩
      have q1 := sm_new (o := .tup [.int (d * (0 + (j : Int)))]) hp1
      have q2 := sm_new (o := .tup [.ref p1, .int c]) hp2
      refine ky _ _ _ hm (q1.trans q2) (Dt.ofRow ((bk.go (Go.of (B := []) q1)).ne hp2) upd_same (Dt.ofCol (bk.ne hp1) (q2 _ _ ?_)))
      rw [upd_same]
      show some (HO.tup [V.int (d * (0 + (j : Int)))]) = some (HO.tup [V.int (d * (j : Int))])
      rw [Int.zero_add]
    rw [Int.toNat_natCast, fm_all (by rw [List.length_map, ev_len])] at hW6
    have g6 := (g4.trans g5).trans (Go.of (B := [L]) s6)
    have l6 := l5.same s6
    -- how many groups
    refine ⟨_, rfl, _, rfl, _, _, rfl, L, _, _, rfl, l6, by omega, by split <;> omega, by split <;> omega, fun r7 H7 g7 l7 a7 b7 => ?_⟩
    refine ⟨_, _, rfl, rfl, ?_⟩
    obtain ⟨g, hg⟩ : ∃ g : Nat, 1 + r7 = (g : Int) := ⟨(1 + r7).toNat, by omega⟩
    dsimp only
    rw [hg]
    have g01 : 0 < g ∧ g ≤ 10 ∧ g ≤ n := by
      split at b7 <;> omega
    clear hg
    have eD7 := g7.k D _ (l5.bk.ne hD) eD6
    have hW7 : DtA [] H7 ws ((ev n d c).map eLR) := (hW6.un.g g7).sub fun _ h => nomatch h
    -- what is due
    refine ⟨Nat.zero_le _, fun S hS => ?_⟩
    have s8 := sm_new (o := .lst []) hS
    have eS : (upd H7 S (.lst [])) S = some (.lst []) := upd_same
    generalize upd H7 S (.lst []) = H8 at *
    refine ⟨(by show 2 ≤ sizeLine; decide), fun tq htq => ?_⟩
    have s9 := sm_new (o := .tup [.int 0, .int 1]) htq
    have d9 : Dt [S] (upd H8 tq (.tup [.int 0, .int 1])) (.ref tq) (enc (qp (totB n g d c 0))) := by
      have e0 : totB n g d c 0 = 0 := by
        unfold totB FE cutsOf
        simp
      rw [e0]
      exact Dt.ofCol (fun q => by
        rw [List.mem_singleton.mp q, eS] at htq
        cases htq) upd_same
    have eS9 := s9 _ _ eS
    generalize upd H8 tq (.tup [.int 0, .int 1]) = H9 at *
    refine ⟨_, _, _, rfl, ?_⟩
    refine ⟨_, rfl, _, rfl, by omega, by omega, for_range (lo := 0) (n := (g : Int).toNat) (fun m σ H' => ∃ y9 y10 tv, σ = [some (.ref L), some (.int (n : Int)), some (.int c), some (.int d), some (.ref D), some (.int (g : Int)), some (.ref S), some tv, some (.int (stB n g m : Int)), y9, y10] ∧ Go [S] H9 H' ∧ H' S = some (.lst ((nI ((List.range m).map (stB n g))).map V.int)) ∧ Dt [S] H' tv (enc (qp (totB n g d c m))))
      ⟨_, _, _, by rw [st_zero g01.1]; rfl, Go.refl, eS9, d9⟩ (fun m σ H10 hm hh => ?_) (fun σ H10 hh => ?_)⟩
    · obtain ⟨y9, y10, tv, rfl, g10, eS10, d10⟩ := hh
      have hm' : m < g := by omega
      have hsz : (n : Int) / (g : Int) + (if decide ((0 : Int) + (m : Int) ≥ (g : Int) - (n : Int) % (g : Int)) = true then 1 else 0) = ((szB n g m : Nat) : Int) := by
        unfold szB
        have := Nat.mod_lt n g01.1
        rw [Int.natCast_add, Int.natCast_ediv]
        congr 1
        by_cases c : g - n % g ≤ m
        · rw [if_pos c, if_pos (decide_eq_true (by omega))]
          rfl
        · rw [if_neg c, if_neg (fun z => c (by have := of_decide_eq_true z; omega))]
          rfl
      have z61 := sz_in (g := g) (k := m) n2.2
      refine ⟨_, rfl, _, rfl, _, _, rfl, rfl, ⟨by omega, by omega⟩, _, rfl, _, rfl, _, rfl, _, rfl, _, _, rfl, rfl, (by show (0 : Int) < (g : Int); omega), _, _, rfl, rfl, _, _, rfl, rfl, .inr ⟨_, rfl, _, _, rfl, rfl, ?_⟩⟩
      dsimp only
      rw [hsz]
      refine ⟨_, rfl, .inl ⟨rfl, _, SqL.of eS10⟩, _, rfl, S, _, _, rfl, rfl, eS10, sz (by unfold nI; simp; omega), ?_⟩
      have g11 : Go [S] H10 (upd H10 S (.lst ((nI ((List.range m).map (stB n g))).map V.int ++ [.int (stB n g m : Int)]))) := Go.refl.at (List.mem_cons_self ..)
      have eS11 : (upd H10 S (.lst ((nI ((List.range m).map (stB n g))).map V.int ++ [.int (stB n g m : Int)]))) S = some (.lst ((nI ((List.range (m + 1)).map (stB n g))).map V.int)) := by
        rw [upd_same, List.range_succ]
        unfold nI
        simp
      generalize upd H10 S (.lst ((nI ((List.range m).map (stB n g))).map V.int ++ [.int (stB n g m : Int)])) = H11 at *
      have d11 := d10.g g11
      refine ⟨_, rfl, _, rfl, _, _, rfl, rfl, ?_⟩
      have hst : (stB n g m : Int) + (szB n g m : Int) = ((stB n g (m + 1) : Nat) : Int) := by rw [st_succ]; omega
      dsimp only
      rw [hst]
      obtain ⟨f0, f1⟩ := fE_in z61
      have FI := FE_in (d := d) (c := c) g01.1 n2.2 m (by omega)
      have hsq : (szB n g m : Int) * (szB n g m : Int) ≤ 61 * 61 := Int.mul_le_mul (by omega) (by omega) (by omega) (by omega)
      have hsq0 : 0 ≤ (szB n g m : Int) * (szB n g m : Int) := Int.mul_nonneg (by omega) (by omega)
      refine ⟨_, rfl, _, rfl, _, rfl, _, _, rfl, rfl, .inl ⟨by omega, by omega⟩, _, rfl, _, _, rfl, rfl, .inr ⟨by omega, by omega⟩, _, rfl, _, _, rfl, rfl, .inr ⟨by omega, by omega⟩, _, rfl, _, rfl, _, _, rfl, rfl, .inl ⟨by omega, by omega⟩, _, _, rfl, rfl, _, _, rfl, rfl, .inr ⟨by omega, by omega⟩, _, _, rfl, by decide, by unfold lim2; exact Nat.lt_of_lt_of_le (show 12 < 2 ^ 64 by decide) (Nat.pow_le_pow_right (by decide) (by decide)), fun p12 H12 s12 hp12 ep12 => ?_⟩
      have ev1 : c * d * d * (szB n g m : Int) * ((szB n g m : Int) * (szB n g m : Int) - 1) = c * d * d * fE (szB n g m) := by
        unfold fE
        rw [Int.mul_assoc]
      rw [ev1] at ep12
      have np12 : p12 ∉ [S] := fun q => by
        rw [List.mem_singleton.mp q, eS11] at hp12
        cases hp12
      have K1 := K_in (b := 0) c01 d01 (x := FE (cutsOf (ev n d c) (stB n g) m)) ⟨FI.1, by omega⟩
      have K2 := K_in (b := 0) c01 d01 (x := fE (szB n g m)) ⟨f0, by omega⟩
      refine ⟨[S], tv, .ref p12, totB n g d c m, Rat.divInt (c * d * d * fE (szB n g m)) 12, rfl, d11.s s12, Dt.ofCol np12 ep12, qb_12 K1, qb_12 K2, fun p13 H13 s13 hp13 ep13 => ?_⟩
      dsimp only at ep13
      rw [tot_step g01.1 hm'] at ep13
      have eS13 := s13 _ _ (s12 _ _ eS11)
      have np13 : p13 ∉ [S] := fun q => by
        rw [List.mem_singleton.mp q, s12 _ _ eS11] at hp13
        cases hp13
      exact ⟨_, _, _, rfl, (g10.trans g11).trans (Go.of (s12.trans s13)), eS13, Dt.ofCol np13 ep13⟩
    · obtain ⟨y9, y10, tv, rfl, g10, eS10, d10⟩ := hh
      rw [Int.toNat_natCast] at eS10 d10
      have nDS : ∀ a ∈ [S], H7 a = none := fun a ha => by rw [List.mem_singleton.mp ha]; exact hS
      have t10 : Same H7 H10 := g10.sm (s8.trans s9) nDS
      have okE : lnOk (ev n d c) := ⟨by rw [ev_len]; omega, fun r hr' => by
        unfold ev at hr'
        obtain ⟨j, hj, rfl⟩ := List.mem_map.mp hr'
        have hj := List.mem_range.mp hj
        have h1 : d * (j : Int) ≤ 15 * 60 := Int.mul_le_mul (by omega) (by omega) (by omega) (by omega)
        have h2 : 0 ≤ d * (j : Int) := Int.mul_nonneg (by omega) (by omega)
        exact ⟨h2, by show d * (j : Int) ≤ 10000; omega, by show 1 ≤ c; omega, by show c ≤ 2000; omega⟩⟩
      refine ⟨_, rfl, _, rfl, D, ws, ev n d c, g, rfl, t10 _ _ eD7, hW7.s t10, by rw [ev_len]; omega, okE, by omega, by omega, fun p14 q14 t14 H14 s14 hp14 hq14 ep14 dt14 eq14 => ?_⟩
      rw [ev_len, Nat.min_eq_left g01.2.2, pT_even d01.1 c01.1 g01.1 g01.2.2] at dt14 eq14
      have d14 := bol_dt (x := (totB n g d c g, (List.range g).map (stB n g))) ep14 dt14 eq14
      refine ⟨_, rfl, _, rfl, (by show 2 ≤ sizeLine; decide), fun p15 hp15 => ?_⟩
      have s15 := sm_new (o := .tup [tv, .ref S]) hp15
      obtain ⟨ta, rfl, _, eta⟩ := d10.col
      have d15 := bol_dt (x := (totB n g d c g, (List.range g).map (stB n g))) (H := upd H14 p15 (.tup [.ref ta, .ref S])) upd_same (Dt.ofCol (fun h => nomatch h) (s15 _ _ (s14 _ _ eta))) (s15 _ _ (s14 _ _ eS10))
      have sh := sh_eBL (x := (totB n g d c g, (List.range g).map (stB n g))) (by simp; omega)
      refine ⟨_, _, (d14.s s15).dP, d15.dP, sh.sh (by omega), sh.sh (by omega), ?_⟩
      rw [SeqAt.eqv_refl _ sh.1]
      have tt := (t10.trans s14).trans s15
      exact q _ ((g6.trans g7).trans (Go.of tt)) ((l7.same tt).mono (by omega))
/-! ### the law's own spread of rows of a line -/
def spSpr56 : Sp := fun vs H Q _ => ∃ (v : V) (rs : List (Int × Int)), vs = [v] ∧ Dt [] H v (.list (rs.map eLR)) ∧ 0 < rs.length ∧ lnOk rs ∧ ∀ v' H', Same H H' → Dt [] H' v' (enc (qp (sprd rs))) → Q v' H'
set_option maxHeartbeats 1000000 in
theorem ok_l_spread (T : Tx K mg) {k : Nat} : FnOk P w K mg base CX0 (k + 3) T.f_l_spread T.d_l_spread ["_law_rows"] spSpr56 := by
  refine T.F_l_spread.ok sc_l_spread (fun vs H Q E h => ?_) (fun cdv A outer s H vs Q E hr h => ?_)
  · obtain ⟨v, rs, rfl, _⟩ := h
    rfl
  · obtain ⟨v, rs, rfl, dv, r0, ok, q⟩ := h
    refine ⟨_, (pss_cons (ps_set (i := 1) sc_l_spread.nd rfl (.inl rfl) (pe_callB (cr_sumK K rfl) (by rfl) T.z_sum (by decide +kernel) (pa_cons (pe_lc (own := [("_law_colour", 6), ("_law_count", 7)]) (by rfl) sc_l_spread.nd (pi_listK K (pv 0)) (blkOk_by (own := [("_law_colour", 6), ("_law_count", 7)]) (N := N_l_spread) (sc := defScope s_l_spread) (by decide +kernel)) (fun _ _ _ _ _ => (pg_tupK K (n := 2) rfl (pgs_cons (pg_name (i := 6) sc_l_spread.nd rfl (.inl rfl)) (pgs_cons (pg_name (i := 7) sc_l_spread.nd rfl (.inl rfl)) pgs_nil)))) (fun _ _ _ _ _ => pts_nil) (fun _ _ _ _ _ => (pv 7))) pa_nil)))
      (pss_cons (ps_set (i := 2) sc_l_spread.nd rfl (.inl rfl) (pe_tup (pa_cons pe_int (pa_cons pe_int pa_nil))))
      (pss_cons (ps_for PassesOwn.never rfl (pi_range1 (by rfl) T.z_range (pa_cons (pe_callB (len_K K) (by rfl) T.z_len PySem.boot_len (pa_cons (pe_ix (ix_tupK K) (pe_ix (ix_listK K) (pv 0) pe_int (fun _ _ => rfl)) pe_int (fun _ _ => rfl)) pa_nil)) pa_nil)) (pg_name (i := 3) sc_l_spread.nd rfl (.inr rfl)) (pss_cons (ps_set (i := 4) sc_l_spread.nd rfl (.inl rfl) (pe_callB (cr_sumK K rfl) (by rfl) T.z_sum (by decide +kernel) (pa_cons (pe_lc (own := [("_law_colour", 6), ("_law_count", 7)]) (by rfl) sc_l_spread.nd (pi_listK K (pv 0)) (blkOk_by (own := [("_law_colour", 6), ("_law_count", 7)]) (N := N_l_spread) (sc := defScope s_l_spread) (by decide +kernel)) (fun _ _ _ _ _ => (pg_tupK K (n := 2) rfl (pgs_cons (pg_name (i := 6) sc_l_spread.nd rfl (.inl rfl)) (pgs_cons (pg_name (i := 7) sc_l_spread.nd rfl (.inl rfl)) pgs_nil)))) (fun _ _ _ _ _ => pts_nil) (fun _ _ _ _ _ => (pe_op op_mul (pv 7) (pe_ix (ix_tupK K) (pv 6) (pv 3) (fun _ _ => rfl))))) pa_nil)))
      (pss_cons (ps_set (i := 5) sc_l_spread.nd rfl (.inl rfl) (pe_callB (cr_sumK K rfl) (by rfl) T.z_sum (by decide +kernel) (pa_cons (pe_lc (own := [("_law_colour", 6), ("_law_count", 7)]) (by rfl) sc_l_spread.nd (pi_listK K (pv 0)) (blkOk_by (own := [("_law_colour", 6), ("_law_count", 7)]) (N := N_l_spread) (sc := defScope s_l_spread) (by decide +kernel)) (fun _ _ _ _ _ => (pg_tupK K (n := 2) rfl (pgs_cons (pg_name (i := 6) sc_l_spread.nd rfl (.inl rfl)) (pgs_cons (pg_name (i := 7) sc_l_spread.nd rfl (.inl rfl)) pgs_nil)))) (fun _ _ _ _ _ => pts_nil) (fun _ _ _ _ _ => (pe_op op_mul (pe_op op_mul (pv 7) (pe_ix (ix_tupK K) (pv 6) (pv 3) (fun _ _ => rfl))) (pe_ix (ix_tupK K) (pv 6) (pv 3) (fun _ _ => rfl))))) pa_nil)))
      (pss_one (ps_set (i := 2) sc_l_spread.nd rfl (.inl rfl) (pe_call (ok_l_plus T (k := k)) hr (by rfl) T.g_l_plus T.F_l_plus.kp T.b_l_plus .nil pass0 (pa_cons (pv 2) (pa_cons (pe_call (ok_l_part T (k := k + 1)) hr (by rfl) T.g_l_part T.F_l_part.kp T.b_l_part .nil pass0 (pa_cons (pe_op op_sub (pe_op op_mul (pv 5) (pv 1)) (pe_op op_mul (pv 4) (pv 4))) (pa_cons (pv 1) pa_nil))) pa_nil))))))))
      (pss_one (ps_ret (pv 2)))))), ?_⟩
    have bk0 : ∀ X : Hp, Bk [] X := fun X _ h => nomatch h
    obtain ⟨ra, rvs, rfl, nra, era, hR⟩ := dv.lstI
    have lrv := hR.len
    rw [List.length_map] at lrv
    have r60 := ok.1
    obtain ⟨s0a, s0b⟩ := S0_in ok
    obtain ⟨s1a, s1b⟩ := S1_in ok
    obtain ⟨s2a, s2b⟩ := S2_in ok
    refine ⟨_, rfl, ra, rfl, ⟨_, SqL.of era⟩, fun D hD => ?_⟩
    refine lc_pure (σ := [some (.ref ra), none, none, none, none, none, none, none]) (B := []) (walk_list (xs := rvs)) hD (bk0 _) (fun H' s' => SqL.of (s' _ _ era)) (by omega) (fun j => ((rs.map fun r => r.2).map PyData.int)[j]?) (fun j x H' H'' Ny Nn hj t1 bk yy ky kn => ?_) (fun H1 ws s1 eD hA => ?_)
    · obtain ⟨rfl, yy⟩ := yy
      have hj2 : j < rs.length := by omega
      obtain ⟨d, f1, g1⟩ := (hR.s t1).getV yy
      rw [List.getElem?_map, List.getElem?_eq_getElem hj2] at f1
      have ed : d = eLR rs[j] := (Option.some.inj f1).symm
      subst ed
      have hm : ((rs.map fun r => r.2).map PyData.int)[j]? = some (.int (rs[j]).2) := by
        rw [List.getElem?_map, List.getElem?_map, List.getElem?_eq_getElem hj2]
        rfl
      generalize rs[j] = r at *
      obtain ⟨pa, pq, rfl, npa, epa, npq, epq⟩ := Dt.rowI g1
      refine ⟨pa, _, rfl, SqT.of epa, rfl, _, _, rfl, _, _, rfl, rfl, rfl, lc_yes ⟨_, rfl, ?_⟩⟩
      exact ky _ _ _ hm (Same.refl _) (.int _)
    rw [fm_all (by rw [List.length_map, List.length_map]; omega)] at hA
    have ew := hA.intsV
    subst ew
    refine ⟨D, _, rfl, SqL.of eD, ?_⟩
    have eS0 : (rs.map fun r => r.2).sum = S0 rs := rfl
    rw [eS0]
    refine ⟨(by show 2 ≤ sizeLine; decide), fun tq htq => ?_⟩
    have s2 := sm_new (o := .tup [.int 0, .int 1]) htq
    have d2 : Dt [] (upd H1 tq (.tup [.int 0, .int 1])) (.ref tq) (enc (qp 0)) := Dt.ofCol (fun h => nomatch h) upd_same
    generalize upd H1 tq (.tup [.int 0, .int 1]) = H2 at *
    have t2 := s1.trans s2
    have era2 := t2 _ _ era
    have hR2 := hR.s t2
    obtain ⟨v0, f0, g0⟩ := hR2.get (i := 0) (d := eLR rs[0]) (by rw [List.getElem?_map, List.getElem?_eq_getElem r0]; rfl)
    obtain ⟨p0, q0, rfl, _, ep0, _, eq0⟩ := Dt.rowI g0
    refine ⟨_, rfl, ra, _, 0, .ref p0, rfl, rfl, SqL.of era2, atI_nat (j := 0) f0, p0, _, 0, .ref q0, rfl, rfl, SqT.of ep0, rfl, q0, _, rfl, .inr (SqT.of eq0), _, rfl, by simp, by simp, for_range (lo := 0) (n := 1) (fun i σ H' => ∃ y3 y4 y5 y6 y7 tv, σ = [some (.ref ra), some (.int (S0 rs)), some tv, y3, y4, y5, y6, y7] ∧ Same H2 H' ∧ Dt [] H' tv (enc (qp (if i = 0 then 0 else sprd rs))))
      ⟨_, _, _, _, _, _, rfl, Same.refl _, d2⟩ (fun i σ H3 hi hh => ?_) (fun σ H3 hh => ?_)⟩
    · obtain ⟨y3, y4, y5, y6, y7, tv, rfl, s3, d3⟩ := hh
      obtain rfl : i = 0 := by omega
      rw [if_pos rfl] at d3
      have era3 := s3 _ _ era2
      have hR3 := hR2.s s3
      refine ⟨_, rfl, ra, rfl, ⟨_, SqL.of era3⟩, fun D4 hD4 => ?_⟩
      refine lc_pure (σ := [some (.ref ra), some (.int (S0 rs)), some tv, some (.int (0 + ((0 : Nat) : Int))), y4, y5, y6, y7]) (B := []) (walk_list (xs := rvs)) hD4 (bk0 _) (fun H' s' => SqL.of (s' _ _ era3)) (by omega) (fun j => ((rs.map fun r => r.2 * r.1).map PyData.int)[j]?) (fun j x H' H'' Ny Nn hj t1 bk yy ky kn => ?_) (fun H4 ws s4 eD4 hA4 => ?_)
      · obtain ⟨rfl, yy⟩ := yy
        have hj2 : j < rs.length := by omega
        obtain ⟨d, f1, g1⟩ := (hR3.s t1).getV yy
        rw [List.getElem?_map, List.getElem?_eq_getElem hj2] at f1
        have ed : d = eLR rs[j] := (Option.some.inj f1).symm
        subst ed
        have o := ok.2 _ (List.getElem_mem hj2)
        obtain ⟨o1, o2, o3, o4⟩ := o
        have hm : ((rs.map fun r => r.2 * r.1).map PyData.int)[j]? = some (.int (rs[j].2 * rs[j].1)) := by
          rw [List.getElem?_map, List.getElem?_map, List.getElem?_eq_getElem hj2]
          rfl
        generalize rs[j] = r at *
        obtain ⟨pa, pq, rfl, npa, epa, npq, epq⟩ := Dt.rowI g1
        refine ⟨pa, _, rfl, SqT.of epa, rfl, _, _, rfl, _, _, rfl, rfl, rfl, lc_yes ⟨_, rfl, _, rfl, _, rfl, pq, _, _, .int r.1, rfl, rfl, SqT.of epq, rfl, _, _, rfl, rfl, .inl ⟨by omega, by omega⟩, ?_⟩⟩
        exact ky _ _ _ hm (Same.refl _) (.int _)
      rw [fm_all (by rw [List.length_map, List.length_map]; omega)] at hA4
      have ew4 := hA4.intsV
      subst ew4
      refine ⟨D4, _, rfl, SqL.of eD4, ?_⟩
      have eS1 : (rs.map fun r => r.2 * r.1).sum = S1 rs := rfl
      rw [eS1]
      have era4 := s4 _ _ era3
      have hR4 := hR3.s s4
      refine ⟨_, rfl, ra, rfl, ⟨_, SqL.of era4⟩, fun D5 hD5 => ?_⟩
      refine lc_pure (σ := [some (.ref ra), some (.int (S0 rs)), some tv, some (.int (0 + ((0 : Nat) : Int))), some (.int (S1 rs)), y5, y6, y7]) (B := []) (walk_list (xs := rvs)) hD5 (bk0 _) (fun H' s' => SqL.of (s' _ _ era4)) (by omega) (fun j => ((rs.map fun r => r.2 * r.1 * r.1).map PyData.int)[j]?) (fun j x H' H'' Ny Nn hj t1 bk yy ky kn => ?_) (fun H5 ws s5 eD5 hA5 => ?_)
      · obtain ⟨rfl, yy⟩ := yy
        have hj2 : j < rs.length := by omega
        obtain ⟨d, f1, g1⟩ := (hR4.s t1).getV yy
        rw [List.getElem?_map, List.getElem?_eq_getElem hj2] at f1
        have ed : d = eLR rs[j] := (Option.some.inj f1).symm
        subst ed
        have o := ok.2 _ (List.getElem_mem hj2)
        obtain ⟨o1, o2, o3, o4⟩ := o
        have hm : ((rs.map fun r => r.2 * r.1 * r.1).map PyData.int)[j]? = some (.int (rs[j].2 * rs[j].1 * rs[j].1)) := by
          rw [List.getElem?_map, List.getElem?_map, List.getElem?_eq_getElem hj2]
          rfl
        generalize rs[j] = r at *
        obtain ⟨pa, pq, rfl, npa, epa, npq, epq⟩ := Dt.rowI g1
        refine ⟨pa, _, rfl, SqT.of epa, rfl, _, _, rfl, _, _, rfl, rfl, rfl, lc_yes ⟨_, rfl, _, rfl, _, rfl, pq, _, _, .int r.1, rfl, rfl, SqT.of epq, rfl, _, _, rfl, rfl, .inl ⟨by omega, by omega⟩, _, rfl, _, rfl, pq, _, _, .int r.1, rfl, rfl, SqT.of epq, rfl, _, _, rfl, rfl, .inr ⟨by omega, by omega⟩, ?_⟩⟩
        exact ky _ _ _ hm (Same.refl _) (.int _)
      rw [fm_all (by rw [List.length_map, List.length_map]; omega)] at hA5
      have ew5 := hA5.intsV
      subst ew5
      refine ⟨D5, _, rfl, SqL.of eD5, ?_⟩
      have eS2 : (rs.map fun r => r.2 * r.1 * r.1).sum = S2 rs := rfl
      rw [eS2]
      have hn0 : S0 rs ≠ 0 := by omega
      refine ⟨_, rfl, _, rfl, _, rfl, _, _, rfl, rfl, .inl ⟨by omega, by omega⟩, _, rfl, _, rfl, _, _, rfl, rfl, .inl ⟨by omega, by omega⟩, _, _, rfl, rfl, _, rfl, _, _, rfl, hn0, by unfold lim2; exact Nat.lt_of_lt_of_le (show (S0 rs).natAbs < 2 ^ 64 by omega) (Nat.pow_le_pow_right (by decide) (by decide)), fun p6 H6 s6 hp6 ep6 => ?_⟩
      have e6 : Rat.divInt (S2 rs * S0 rs - S1 rs * S1 rs) (S0 rs) = sprd rs := rfl
      rw [e6] at ep6
      refine ⟨[], tv, .ref p6, 0, sprd rs, rfl, ((d3.s s4).s s5).s s6, Dt.ofCol (fun h => nomatch h) ep6, (Q2.zero 1).qb (by decide), (sprd_q ok).qb (by decide), fun p7 H7 s7 hp7 ep7 => ?_⟩
      dsimp only at ep7
      rw [show (0 : Rat) + sprd rs = sprd rs by grind] at ep7
      exact ⟨_, _, _, _, _, _, rfl, s3.trans (((s4.trans s5).trans s6).trans s7), Dt.ofCol (fun h => nomatch h) ep7⟩
    · obtain ⟨y3, y4, y5, y6, y7, tv, rfl, s3, d3⟩ := hh
      exact ⟨_, rfl, q _ _ (t2.trans s3) d3⟩
/-! ### heaps, drawn and cut -/
theorem lc_dtsI {J : It} {n : Nat} {G : Hp → Prop} {Y : Nat → Hp → V → Hp → Prop} (w : Walk J n G Y) {g : TG} {tt : TT} {te : TE} {vs : List Nat} {σ : L2.St} {H1 : Hp} {D L : Addr} {B : List Addr} {Qd : Hp → Prop} (N u : Nat) (Pd : Nat → PyData → Prop)
    (hD : H1 D = none) (hL : Lf L H1 N) (LB : L ∈ B) (hB : Bk B H1) (hG : ∀ H', Go [L] H1 H' → G H') (hn : n ≤ 100000)
    (hs : ∀ (i : Nat) (x : V) (H' H'' : Hp) (Ny : V → Hp → Prop) (Nn : Hp → Prop), i < n → Go [L] H1 H' → Lf L H' (N + u * i) → Bk (D :: B) H' → Y i H' x H'' → (∀ (v : V) (d : PyData) H4, Go [L] H' H4 → Lf L H4 (N + u * i + u) → Dt (D :: B) H4 v d → Pd i d → Ny v H4) →
      g x (wipe σ vs) H'' fun σ2 H2 => wipe σ2 vs = wipe σ vs ∧ tt σ2 H2 fun b H3 => if b = true then te σ2 H3 Ny else Nn H3)
    (hd : ∀ (H' : Hp) (ws : List V) (ds : List PyData), Go [L] H1 H' → Lf L H' (N + u * n) → H' D = some (.lst ws) → DtA (D :: B) H' ws ds → ds.length = n → (∀ i d, ds[i]? = some d → Pd i d) → Qd H') :
    ∃ W : Nat → Nat → Hp → Prop, (∃ m, W 0 m (upd H1 D (.lst []))) ∧ ∀ i m H, W i m H →
      (J.stop i H ∧ Qd H) ∨ (J.go i H ∧ ∃ Nx : Hp → Prop, (∀ H', Nx H' → ∃ m', m' < m ∧ W (i + 1) m' H') ∧ ∀ x H', J.yld i H x H' → g x (wipe σ vs) H' fun σ2 H2 => wipe σ2 vs = wipe σ vs ∧ tt σ2 H2 fun b H3 =>
        if b = true then te σ2 H3 fun y H4 => ∃ acc, H4 D = some (.lst acc) ∧ acc.length < sizeLine ∧ Nx (upd H4 D (.lst (acc ++ [y]))) else Nx H3) := by
  have nD : D ∉ [L] := hL.bk.ne hD
  refine lc_it w (fun i H' => Go [L] H1 H' ∧ Lf L H' (N + u * i) ∧ ∃ ws ds, H' D = some (.lst ws) ∧ DtA (D :: B) H' ws ds ∧ ds.length = i ∧ ∀ j d, ds[j]? = some d → Pd j d) ⟨Go.new hD, hL.new hD, [], [], upd_same, .nil, rfl, fun j d h => by simp at h⟩ (fun i H' _ h => hG H' h.1) (fun i x H' H'' hi h y => ?_) (fun H' h => ?_)
  · obtain ⟨g1, l1, ws, ds, eD, hA, en, hp⟩ := h
    refine hs i x H' H'' _ _ hi g1 l1 ((hB.go g1).cons eD) y (fun z d H4 g4 l4 dz pd => ?_)
    have gm : Go (D :: B) H4 (upd H4 D (.lst (ws ++ [z]))) := Go.refl.at (List.mem_cons_self ..)
    have lw := hA.len
    refine ⟨ws, g4.k D _ nD eD, sz (by omega), (g1.trans g4).mut hD, (l4.up (hL.ne hD)).mono (by rw [Nat.mul_succ]; omega), ws ++ [z], ds ++ [d], upd_same, ((hA.g (g4.w1 (List.mem_cons_of_mem _ LB))).g gm).app (.one (dz.g gm)), by simp; omega, fun j e he => ?_⟩
    by_cases c : j < ds.length
    · rw [List.getElem?_append_left c] at he
      exact hp j e he
    · have hj : j = ds.length := by
        have := (List.getElem?_eq_some_iff.mp he).1
        rw [List.length_append, List.length_singleton] at this
        omega
      subst hj
      rw [List.getElem?_append_right (Nat.le_refl _), Nat.sub_self] at he
      cases he
      rw [en]
      exact pd
  · obtain ⟨g1, l1, ws, ds, eD, hA, en, hp⟩ := h
    exact hd H' ws ds g1 l1 eD hA en hp
def hOk (i : Nat) (h : List (Int × Int)) : Prop := 2 ≤ h.length ∧ h.length ≤ 6 ∧ Ris h ∧ ∀ r ∈ h, 160 * (i : Int) ≤ r.1 ∧ r.1 ≤ 160 * (i : Int) + 5 ∧ 1 ≤ r.2 ∧ r.2 ≤ 3
theorem HOk_app : ∀ {hs : List (List (Int × Int))} {i : Nat} {h : List (Int × Int)}, HOk i hs → hOk (i + hs.length) h → HOk i (hs ++ [h])
  | [], i, h, _, o => ⟨⟨by have := o.1; exact fun z => by rw [z] at this; simp at this, o.2.1, o.2.2.2⟩, trivial⟩
  | a :: hs, i, h, hk, o => ⟨hk.1, HOk_app hk.2 (by rw [show i + 1 + hs.length = i + (a :: hs).length by rw [List.length_cons]; omega]; exact o)⟩
theorem HOk.up : ∀ {hs : List (List (Int × Int))} {i : Nat}, HOk i hs → ∀ r ∈ hs.flatten, r.1 < 160 * ((i + hs.length : Nat) : Int) ∧ r.2 ≤ 3
  | [], _, _, r, hr => by simp at hr
  | h :: hs, i, hk, r, hr => by
    rw [List.flatten_cons] at hr
    rw [List.length_cons]
    rcases List.mem_append.mp hr with z | z
    · have := hk.1.2.2 r z
      omega
    · have := HOk.up hk.2 r z
      omega
structure HsOk (hs : List (List (Int × Int))) : Prop where
  k : HOk 0 hs
  r : Ris hs.flatten
  two : ∀ h ∈ hs, 2 ≤ h.length ∧ h.length ≤ 6
  m : hs.length ≤ 6
theorem HsOk.nil : HsOk [] := ⟨trivial, List.Pairwise.nil, fun _ h => (nomatch h), by simp⟩
theorem HsOk.app {hs : List (List (Int × Int))} {h : List (Int × Int)} (o : HsOk hs) (oh : hOk hs.length h) (hm : hs.length < 6) : HsOk (hs ++ [h]) := by
  refine ⟨HOk_app o.k (by rw [Nat.zero_add]; exact oh), ?_, fun x hx => ?_, by simp; omega⟩
  · rw [List.flatten_append]
    refine List.pairwise_append.mpr ⟨o.r, by simp only [List.flatten_cons, List.flatten_nil, List.append_nil]; exact oh.2.2.1, fun a ha b hb => ?_⟩
    have hb : b ∈ h := by simpa using hb
    have := (o.k.up a ha).1
    have := (oh.2.2.2 b hb).1
    rw [Nat.zero_add] at *
    omega
  · rcases List.mem_append.mp hx with z | z
    · exact o.two x z
    · rw [List.mem_singleton.mp z]
      exact ⟨oh.1, oh.2.1⟩
theorem HsOk.len {hs : List (List (Int × Int))} (o : HsOk hs) : hs.flatten.length ≤ 36 := by
  have : ∀ {hs : List (List (Int × Int))}, (∀ h ∈ hs, 2 ≤ h.length ∧ h.length ≤ 6) → hs.flatten.length ≤ 6 * hs.length ∧ 2 * hs.length ≤ hs.flatten.length := by
    intro hs
    induction hs with
    | nil => intro _; simp
    | cons h hs ih =>
      intro hh
      have := ih fun x hx => hh x (List.mem_cons_of_mem _ hx)
      have := hh h (List.mem_cons_self ..)
      rw [List.flatten_cons, List.length_append, List.length_cons]
      omega
  have := this o.two
  have := o.m
  omega
theorem HsOk.len2 {hs : List (List (Int × Int))} (o : HsOk hs) : 2 * hs.length ≤ hs.flatten.length := by
  have : ∀ {hs : List (List (Int × Int))}, (∀ h ∈ hs, 2 ≤ h.length ∧ h.length ≤ 6) → 2 * hs.length ≤ hs.flatten.length := by
    intro hs
    induction hs with
    | nil => intro _; simp
    | cons h hs ih =>
      intro hh
      have := ih fun x hx => hh x (List.mem_cons_of_mem _ hx)
      have := hh h (List.mem_cons_self ..)
      rw [List.flatten_cons, List.length_append, List.length_cons]
      omega
  exact this o.two
theorem HsOk.rows {hs : List (List (Int × Int))} (o : HsOk hs) : ∀ r ∈ hs.flatten, rLn r := fun r hr => by
  have a := o.k.pos r hr
  have b := o.k.up r hr
  have := o.m
  rw [Nat.zero_add] at b
  exact ⟨by omega, by omega, by omega, by omega⟩
theorem HsOk.ln {hs : List (List (Int × Int))} (o : HsOk hs) : lnOk hs.flatten := ⟨by have := o.len; omega, o.rows⟩
theorem HsOk.q {hs : List (List (Int × Int))} (o : HsOk hs) : Q2 400 (sums hs) := by
  have : ∀ {xs : List (List (Int × Int))}, (∀ h ∈ xs, lnOk h) → Q2 (65 * xs.length) (sums xs) := by
    intro xs
    induction xs with
    | nil => intro _; exact Q2.zero _
    | cons h xs ih =>
      intro hh
      have a := ih fun x hx => hh x (List.mem_cons_of_mem _ hx)
      have b := sprd_q (hh h (List.mem_cons_self ..))
      exact (b.add a).mono (by rw [List.length_cons]; omega)
  refine (this fun h hh => ⟨by have := (o.two h hh).2; omega, fun r hr => o.rows r (List.mem_flatten.mpr ⟨h, hh, hr⟩)⟩).mono ?_
  have := o.m
  omega
theorem Q2.neg {k : Nat} {x : Rat} (h : Q2 k x) : Q2 k (-x) := ⟨by rw [Rat.neg_den]; exact h.1, by rw [Rat.neg_num, Int.natAbs_neg]; exact h.2⟩
def IsCut (hs : List (List (Int × Int))) (v : Rat) : Prop := ∃ A x y C, hs = A ++ (x ++ y) :: C ∧ x ≠ [] ∧ y ≠ [] ∧ v = sums (A ++ x :: y :: C)
def stH (hs : List (List (Int × Int))) (i : Nat) : Nat := (hs.take i).flatten.length
theorem begs_st : ∀ (hs : List (List (Int × Int))) (b : Nat), begs b hs = (List.range hs.length).map fun i => b + stH hs i
  | [], _ => rfl
  | h :: hs, b => by
    rw [begs, begs_st hs, List.length_cons, List.range_succ_eq_map, List.map_cons, List.map_map]
    congr 1
    refine List.map_congr_left fun i _ => ?_
    show b + h.length + stH hs i = b + stH (h :: hs) (i + 1)
    unfold stH
    rw [List.take_succ_cons, List.flatten_cons, List.length_append]
    omega
theorem begs0 (hs : List (List (Int × Int))) : begs 0 hs = (List.range hs.length).map (stH hs) := by
  rw [begs_st]
  exact List.map_congr_left fun i _ => Nat.zero_add _
theorem stH_succ {hs : List (List (Int × Int))} {i : Nat} (h : i < hs.length) : stH hs (i + 1) = stH hs i + hs[i].length := by
  unfold stH
  rw [List.take_succ_eq_append_getElem h, List.flatten_append, List.length_append]
  simp
theorem stH_all (hs : List (List (Int × Int))) : stH hs hs.length = hs.flatten.length := by unfold stH; rw [List.take_length]
theorem split_at {hs : List (List (Int × Int))} {i : Nat} (h : i < hs.length) : hs = hs.take i ++ hs[i] :: hs.drop (i + 1) := by
  rw [← List.drop_eq_getElem_cons h, List.take_append_drop]
theorem cutR_st {hs : List (List (Int × Int))} {i a b : Nat} (h : i < hs.length) (ha : a ≤ b) (hb : b ≤ hs[i].length) : cutR hs.flatten (stH hs i + a) (stH hs i + b) = (hs[i].drop a).take (b - a) := by
  unfold cutR
  have e : hs.flatten = (hs.take i).flatten ++ (hs[i] ++ (hs.drop (i + 1)).flatten) := by
    have := congrArg List.flatten (split_at h)
    rw [List.flatten_append, List.flatten_cons] at this
    exact this
  rw [e]
  unfold stH
  rw [← List.drop_drop, List.drop_left, List.drop_append_of_le_length (by omega), List.take_append_of_le_length (by rw [List.length_drop]; omega)]
  congr 1
  omega
theorem cut_mid {α : Type} (xs : List α) {a b : Nat} (h : a ≤ b) (hb : b ≤ xs.length) : cutL xs (some (a : Int)) (some (b : Int)) = (xs.drop a).take (b - a) := by
  unfold cutL
  have e1 : HT.sIx xs.length 0 (some (a : Int)) = a := by
    show (if (a : Int) < 0 then ((a : Int) + (xs.length : Int)).toNat else min (a : Int).toNat xs.length) = _
    rw [if_neg (by omega), Int.toNat_natCast]
    omega
  have e2 : HT.sIx xs.length xs.length (some (b : Int)) = b := by
    show (if (b : Int) < 0 then ((b : Int) + (xs.length : Int)).toNat else min (b : Int).toNat xs.length) = _
    rw [if_neg (by omega), Int.toNat_natCast]
    omega
  rw [e1, e2]
theorem cut_uniq {hs A C : List (List (Int × Int))} {x y : List (Int × Int)} (e : hs = A ++ (x ++ y) :: C) : ∃ h : A.length < hs.length, A = hs.take A.length ∧ hs[A.length] = x ++ y ∧ C = hs.drop (A.length + 1) := by
  subst e
  refine ⟨by simp, by simp, by simp, ?_⟩
  rw [← List.drop_drop, List.drop_left]
  rfl
theorem cut_q56 {hs : List (List (Int × Int))} (o : HsOk hs) {v : Rat} (h : IsCut hs v) : Q2 500 v := by
  obtain ⟨A, x, y, C, e, hx, hy, rfl⟩ := h
  have gen : ∀ {xs : List (List (Int × Int))}, (∀ h ∈ xs, lnOk h) → Q2 (65 * xs.length) (sums xs) := by
    intro xs
    induction xs with
    | nil => intro _; exact Q2.zero _
    | cons h xs ih =>
      intro hh
      have a := ih fun x hx => hh x (List.mem_cons_of_mem _ hx)
      have b := sprd_q (hh h (List.mem_cons_self ..))
      exact (b.add a).mono (by rw [List.length_cons]; omega)
  have lm := o.m
  have okh : ∀ h ∈ hs, lnOk h := fun h hh => ⟨by have := (o.two h hh).2; omega, fun r hr => o.rows r (List.mem_flatten.mpr ⟨h, hh, hr⟩)⟩
  have oxy := okh (x ++ y) (by rw [e]; simp)
  have ll : (A ++ x :: y :: C).length = hs.length + 1 := by rw [e]; simp; omega
  refine (gen fun h hh => ?_).mono (by rw [ll]; omega)
  rcases List.mem_append.mp hh with z | z
  · exact okh h (by rw [e]; exact List.mem_append_left _ z)
  · rcases List.mem_cons.mp z with z | z
    · rw [z]
      exact ⟨by have := oxy.1; rw [List.length_append] at this; omega, fun r hr => oxy.2 r (List.mem_append_left _ hr)⟩
    · rcases List.mem_cons.mp z with z | z
      · rw [z]
        exact ⟨by have := oxy.1; rw [List.length_append] at this; omega, fun r hr => oxy.2 r (List.mem_append_right _ hr)⟩
      · exact okh h (by rw [e]; exact List.mem_append_right _ (List.mem_cons_of_mem _ z))
theorem ends_eq {hs : List (List (Int × Int))} (h : 1 ≤ hs.length) : ((nI (begs 0 hs)).map V.int).drop 1 ++ [V.int (hs.flatten.length : Int)] = (List.range hs.length).map fun i => V.int ((stH hs (i + 1) : Nat) : Int) := by
  rw [begs0, ← stH_all]
  unfold nI
  obtain ⟨m, hm⟩ : ∃ m, hs.length = m + 1 := ⟨hs.length - 1, by omega⟩
  rw [hm, List.map_map, List.map_map]
  have e1 : (List.range (m + 1)).map ((V.int ∘ Int.ofNat) ∘ stH hs) = V.int (stH hs 0 : Int) :: (List.range m).map fun i => V.int ((stH hs (i + 1) : Nat) : Int) := by
    rw [List.range_succ_eq_map, List.map_cons, List.map_map]
    rfl
  rw [e1, List.drop_one, List.tail_cons, List.range_succ, List.map_append]
  rfl
theorem begs_eq (hs : List (List (Int × Int))) : (nI (begs 0 hs)).map V.int = (List.range hs.length).map fun i => V.int ((stH hs i : Nat) : Int) := by
  rw [begs0]
  unfold nI
  rw [List.map_map, List.map_map]
  rfl
theorem cut_dt {B : List Addr} {H : Hp} {rvs : List V} {rs : List (Int × Int)} (h : DtA B H rvs (rs.map eLR)) {a b : Nat} (hab : a ≤ b) (hb : b ≤ rs.length) : DtA B H (cutV rvs (some (a : Int)) (some (b : Int))) ((cutR rs a b).map eLR) := by
  have c := h.cut (some (a : Int)) (some (b : Int))
  rw [cut_mid _ hab (by rw [List.length_map]; exact hb), ← List.map_drop, ← List.map_take] at c
  exact c
/-! ### heaps -/
theorem rowsOf {b : Int} : ∀ (ds : List PyData) (j : Nat), (∀ (k : Nat) d, ds[k]? = some d → ∃ c : Int, d = eLR (b + ((j + k : Nat) : Int), c) ∧ 1 ≤ c ∧ c ≤ 3) → ∃ h : List (Int × Int), ds = h.map eLR ∧ ∀ (k : Nat) r, h[k]? = some r → r.1 = b + ((j + k : Nat) : Int) ∧ 1 ≤ r.2 ∧ r.2 ≤ 3
  | [], _, _ => ⟨[], rfl, fun k r h => by simp at h⟩
  | d :: ds, j, hp => by
    obtain ⟨c, e, c1, c2⟩ := hp 0 d rfl
    obtain ⟨h, e2, h2⟩ := rowsOf ds (j + 1) fun k d hd => by
      have := hp (k + 1) d (by simpa using hd)
      rw [show j + (k + 1) = j + 1 + k by omega] at this
      exact this
    refine ⟨(b + ((j + 0 : Nat) : Int), c) :: h, by rw [e, e2]; rfl, fun k r hr => ?_⟩
    cases k with
    | zero =>
      cases hr
      exact ⟨rfl, c1, c2⟩
    | succ k =>
      have := h2 k r (by simpa using hr)
      rw [show j + (k + 1) = j + 1 + k by omega]
      exact this
theorem hOk_of {m : Nat} {h : List (Int × Int)} (l2 : 2 ≤ h.length) (l6 : h.length ≤ 6) (hp : ∀ (k : Nat) r, h[k]? = some r → r.1 = 160 * (m : Int) + ((0 + k : Nat) : Int) ∧ 1 ≤ r.2 ∧ r.2 ≤ 3) : hOk m h := by
  refine ⟨l2, l6, ?_, fun r hr => ?_⟩
  · unfold Ris
    rw [List.pairwise_iff_getElem]
    intro i j hi hj hij
    have a := (hp i h[i] (List.getElem?_eq_getElem hi)).1
    have b := (hp j h[j] (List.getElem?_eq_getElem hj)).1
    omega
  · obtain ⟨k, hk, rfl⟩ := List.getElem_of_mem hr
    have := hp k h[k] (List.getElem?_eq_getElem hk)
    omega
set_option maxHeartbeats 4000000 in
theorem ok_l_heaps_right (T : Tx K mg) {k : Nat} : FnOk P w K mg base CX0 (k + 6) T.f_l_heaps_right T.d_l_heaps_right ["_law_left_here"] spRight := by
  refine T.F_l_heaps_right.ok sc_l_heaps_right (fun vs H Q E h => ?_) (fun cdv A outer s H vs Q E hr h => ?_)
  · obtain ⟨L, n, rfl, _⟩ := h
    rfl
  · obtain ⟨L, n0, rfl, hL, hn, q⟩ := h
    refine ⟨_, (pss_cons (ps_par3 (i := 1) (j := 2) (l := 3) (by rfl) sc_l_heaps_right.nd rfl rfl rfl (by decide) (by decide) (by decide) rfl rfl rfl (pa_cons (pe_lst pa_nil) (pa_cons (pe_lst pa_nil) (pa_cons (pe_tup (pa_cons pe_int (pa_cons pe_int pa_nil))) pa_nil))) (by rfl))
      (pss_cons (ps_set (i := 4) sc_l_heaps_right.nd rfl (.inl rfl) (pe_op op_add pe_int (pe_call (ok_l_pick T (k := k + 3)) hr (by rfl) T.g_l_pick T.F_l_pick.kp T.b_l_pick .nil pass0 (pa_cons (pv 0) (pa_cons pe_int pa_nil)))))
      (pss_cons (ps_for PassesOwn.never rfl (pi_range1 (by rfl) T.z_range (pa_cons (pv 4) pa_nil)) (pg_name (i := 5) sc_l_heaps_right.nd rfl (.inr rfl)) (pss_cons (ps_set (i := 6) sc_l_heaps_right.nd rfl (.inl rfl) (pe_op op_add pe_int (pe_call (ok_l_pick T (k := k + 3)) hr (by rfl) T.g_l_pick T.F_l_pick.kp T.b_l_pick .nil pass0 (pa_cons (pv 0) (pa_cons pe_int pa_nil)))))
      (pss_cons (ps_expr (pe_bm PySem.F.plainAttrs_list PySem.F.slot_list_append PySem.F.type_list_append mt_append (pv 2) (pa_cons (pe_callB (len_K K) (by rfl) T.z_len PySem.boot_len (pa_cons (pv 1) pa_nil)) pa_nil)))
      (pss_cons (ps_setLc (i := 7) (own := [("_law_k", 17)]) (by rfl) sc_l_heaps_right.nd rfl rfl (sw_true rfl rfl rfl (by decide +kernel)) (pi_range1 (by rfl) T.z_range (pa_cons (pv 6) pa_nil)) (blkOk_by (own := [("_law_k", 17)]) (N := N_l_heaps_right) (sc := defScope s_l_heaps_right) (by decide +kernel)) (fun _ _ _ _ _ => (pg_name (i := 17) sc_l_heaps_right.nd rfl (.inl rfl))) (fun _ _ _ _ _ => pts_nil) (fun _ _ _ _ _ => (pe_tup (pa_cons (pe_tup (pa_cons (pe_op op_add (pe_op op_mul pe_int (pv 5)) (pv 17)) pa_nil)) (pa_cons (pe_op op_add pe_int (pe_call (ok_l_pick T (k := k + 3)) hr (by rfl) T.g_l_pick T.F_l_pick.kp T.b_l_pick .nil pass0 (pa_cons (pv 0) (pa_cons pe_int pa_nil)))) pa_nil)))))
      (pss_cons (ps_set (i := 1) sc_l_heaps_right.nd rfl (.inl rfl) (pe_op op_cat (pv 1) (pv 7)))
      (pss_one (ps_set (i := 3) sc_l_heaps_right.nd rfl (.inl rfl) (pe_call (ok_l_plus T (k := k + 3)) hr (by rfl) T.g_l_plus T.F_l_plus.kp T.b_l_plus .nil pass0 (pa_cons (pv 3) (pa_cons (pe_call (ok_l_spread T (k := k + 2)) hr (by rfl) T.g_l_spread T.F_l_spread.kp T.b_l_spread .nil pass0 (pa_cons (pv 7) pa_nil)) pa_nil))))))))))
      (pss_cons (ps_if (pt_cmpR (op_neDK K hr.units) (pe_call (ok_best_on_line T (k := k)) hr (by rfl) T.g_best_on_line T.F_best_on_line.kp T.b_best_on_line .nil pass0 (pa_cons (pv 1) (pa_cons (pv 4) pa_nil))) (pe_tup (pa_cons (pv 3) (pa_cons (pv 2) pa_nil))) (nomark _)) (pss_one (ps_ret pe_bl)) pss_nil)
      (pss_cons (ps_set (i := 8) sc_l_heaps_right.nd rfl (.inl rfl) (pe_op op_cat (pe_slice (sl_listK K) (pv 2) (po_some pe_int) po_none) (pe_lst (pa_cons (pe_callB (len_K K) (by rfl) T.z_len PySem.boot_len (pa_cons (pv 1) pa_nil)) pa_nil))))
      (pss_cons (ps_set (i := 9) sc_l_heaps_right.nd rfl (.inl rfl) (pe_lst pa_nil))
      (pss_cons (ps_for PassesOwn.never rfl (RZ.pi_zipA (by rfl) T.z_zip (pa_cons (pv 2) (pa_cons (pv 8) pa_nil))) (pg_tupK K (n := 2) rfl (pgs_cons (pg_name (i := 10) sc_l_heaps_right.nd rfl (.inl rfl)) (pgs_cons (pg_name (i := 11) sc_l_heaps_right.nd rfl (.inl rfl)) pgs_nil))) (pss_one (ps_for PassesOwn.never rfl (pi_range2 (by rfl) T.z_range (pa_cons (pe_op op_add (pv 10) pe_int) (pa_cons (pv 11) pa_nil))) (pg_name (i := 12) sc_l_heaps_right.nd rfl (.inl rfl)) (pss_cons (ps_set (i := 13) sc_l_heaps_right.nd rfl (.inl rfl) (pe_call (ok_l_spread T (k := k + 2)) hr (by rfl) T.g_l_spread T.F_l_spread.kp T.b_l_spread .nil pass0 (pa_cons (pe_slice (sl_listK K) (pv 1) (po_some (pv 10)) (po_some (pv 11))) pa_nil)))
      (pss_cons (ps_set (i := 14) sc_l_heaps_right.nd rfl (.inl rfl) (pe_call (ok_l_plus T (k := k + 3)) hr (by rfl) T.g_l_plus T.F_l_plus.kp T.b_l_plus .nil pass0 (pa_cons (pe_call (ok_l_spread T (k := k + 2)) hr (by rfl) T.g_l_spread T.F_l_spread.kp T.b_l_spread .nil pass0 (pa_cons (pe_slice (sl_listK K) (pv 1) (po_some (pv 10)) (po_some (pv 12))) pa_nil)) (pa_cons (pe_call (ok_l_spread T (k := k + 2)) hr (by rfl) T.g_l_spread T.F_l_spread.kp T.b_l_spread .nil pass0 (pa_cons (pe_slice (sl_listK K) (pv 1) (po_some (pv 12)) (po_some (pv 11))) pa_nil)) pa_nil))))
      (pss_one (ps_expr (pe_bm PySem.F.plainAttrs_list PySem.F.slot_list_append PySem.F.type_list_append mt_append (pv 9) (pa_cons (pe_call (ok_l_plus T (k := k + 3)) hr (by rfl) T.g_l_plus T.F_l_plus.kp T.b_l_plus .nil pass0 (pa_cons (pe_call (ok_l_plus T (k := k + 3)) hr (by rfl) T.g_l_plus T.F_l_plus.kp T.b_l_plus .nil pass0 (pa_cons (pv 3) (pa_cons (pe_tup (pa_cons (pe_un un_neg (pe_ix (ix_tupK K) (pv 13) pe_int (fun _ _ => rfl))) (pa_cons (pe_ix (ix_tupK K) (pv 13) pe_int (fun _ _ => rfl)) pa_nil))) pa_nil))) (pa_cons (pv 14) pa_nil))) pa_nil)))))))))
      (pss_cons (ps_set (i := 15) sc_l_heaps_right.nd rfl (.inl rfl) (pe_ix (ix_listK K) (pv 9) pe_int (fun _ _ => rfl)))
      (pss_cons (ps_for PassesOwn.never rfl (pi_listK K (pv 9)) (pg_name (i := 16) sc_l_heaps_right.nd rfl (.inl rfl)) (pss_one (ps_if (pt_val (pe_call (ok_l_less T (k := k + 4)) hr (by rfl) T.g_l_less T.F_l_less.kp T.b_l_less .nil pass0 (pa_cons (pv 16) (pa_cons (pv 15) pa_nil)))) (pss_one (ps_set (i := 15) sc_l_heaps_right.nd rfl (.inl rfl) (pv 16))) pss_nil)))
      (pss_one (ps_ret (pe_cmpR (op_eqDK K hr.units) (pe_ix (ix_tupK K) (pe_call (ok_best_on_line T (k := k)) hr (by rfl) T.g_best_on_line T.F_best_on_line.kp T.b_best_on_line .nil pass0 (pa_cons (pv 1) (pa_cons (pe_op op_add (pv 4) pe_int) pa_nil))) pe_int (fun _ _ => rfl)) (pv 15) (nomark _))))))))))))), ?_⟩
    have bk0 : ∀ X : Hp, Bk [] X := fun X _ h => nomatch h
    refine ⟨Nat.zero_le _, fun R0 hR0 => ?_⟩
    have s1 := sm_new (o := .lst []) hR0
    have eR1 : (upd H R0 (.lst [])) R0 = some (.lst []) := upd_same
    have nR1 : R0 ≠ L := hL.ne hR0
    have l1 := hL.new (o := .lst []) hR0
    generalize upd H R0 (.lst []) = H1 at *
    refine ⟨Nat.zero_le _, fun Bg hBg => ?_⟩
    have s2 := sm_new (o := .lst []) hBg
    have eB2 : (upd H1 Bg (.lst [])) Bg = some (.lst []) := upd_same
    have nBL : Bg ≠ L := l1.ne hBg
    have nRB : R0 ≠ Bg := fun z => by rw [z, hBg] at eR1; cases eR1
    have l2 := l1.new (o := .lst []) hBg
    have hBgH : H Bg = none := s1.free hBg
    generalize upd H1 Bg (.lst []) = H2 at *
    refine ⟨(by show 2 ≤ sizeLine; decide), fun tq htq => ⟨_, _, _, rfl, ?_⟩⟩
    have s3 := sm_new (o := .tup [.int 0, .int 1]) htq
    have l3 := l2.new (o := .tup [.int 0, .int 1]) htq
    have bk2 : Bk [L, Bg] H2 := fun a ha => by
      rcases List.mem_cons.mp ha with z | z
      · rw [z]; exact l2.bk L (List.mem_cons_self ..)
      · rw [List.mem_singleton.mp z, eB2]; exact fun h => nomatch h
    have d3 : Dt [L, Bg] (upd H2 tq (.tup [.int 0, .int 1])) (.ref tq) (enc (qp 0)) := Dt.ofCol (bk2.ne htq) upd_same
    generalize upd H2 tq (.tup [.int 0, .int 1]) = H3 at *
    have t3 := (s1.trans s2).trans s3
    have eR3 := s3 _ _ (s2 _ _ eR1)
    have eB3 := s3 _ _ eB2
    have bk3 := bk2.go (Go.of (B := []) s3)
    refine ⟨_, rfl, L, 6, n0, rfl, l3, by omega, by decide, by decide, fun r4 H4 g4 l4 a4 b4 => ⟨_, _, rfl, rfl, ?_⟩⟩
    obtain ⟨M, hM⟩ : ∃ M : Nat, (1 : Int) + r4 = (M : Int) := ⟨(1 + r4).toNat, by omega⟩
    dsimp only
    rw [hM]
    have M1 : 1 ≤ M ∧ M ≤ 6 := by omega
    clear hM
    have bk4 := bk3.go g4
    refine ⟨_, rfl, _, rfl, by omega, by omega, for_range (lo := 0) (n := (M : Int).toNat) (fun m σ H' => ∃ R rvs tv hs y5 y6 y7 y8 y9 y10 y11 y12 y13 y14 y15 y16 y17, σ = [some (.ref L), some (.ref R), some (.ref Bg), some tv, some (.int (M : Int)), y5, y6, y7, y8, y9, y10, y11, y12, y13, y14, y15, y16, y17] ∧ Go [L, Bg] H4 H' ∧ Lf L H' (n0 + 1 + 10 * m) ∧ R ∉ [L, Bg] ∧ H' R = some (.lst rvs) ∧ DtA [L, Bg] H' rvs (hs.flatten.map eLR) ∧ H' Bg = some (.lst ((nI (begs 0 hs)).map V.int)) ∧ Dt [L, Bg] H' tv (enc (qp (sums hs))) ∧ HsOk hs ∧ hs.length = m)
      ⟨R0, [], .ref tq, [], _, _, _, _, _, _, _, _, _, _, _, _, _, rfl, Go.refl, l4, by simp [nR1, nRB], g4.k _ _ (by simp [nR1]) eR3, .nil, g4.k _ _ (by simp [nBL]) eB3, d3.g (g4.w1 (by simp)), HsOk.nil, rfl⟩ (fun m σ H5 hm hh => ?_) (fun σ H5 hh => ?_)⟩
    · obtain ⟨R, rvs, tv, hs, y5, y6, y7, y8, y9, y10, y11, y12, y13, y14, y15, y16, y17, rfl, g5, l5, nR, eR, hRv, eB, dtv, hso, hsl⟩ := hh
      have hm' : m < M := by omega
      have bk5 := bk4.go g5
      have lrv := hRv.len
      rw [List.length_map] at lrv
      have fl := hso.len
      refine ⟨_, rfl, L, 5, _, rfl, l5, by omega, by decide, by decide, fun r6 H6 g6 l6 a6 b6 => ⟨_, _, rfl, rfl, ?_⟩⟩
      obtain ⟨s, hs6⟩ : ∃ s : Nat, (2 : Int) + r6 = (s : Int) := ⟨(2 + r6).toNat, by omega⟩
      dsimp only
      rw [hs6]
      have s26 : 2 ≤ s ∧ s ≤ 6 := by omega
      clear hs6
      have g6' : Go [L, Bg] H5 H6 := g6.w1 (by simp)
      have eR6 := g6.k R _ (fun z => nR (by simp at z; simp [z])) eR
      have eB6 := g6.k Bg _ (by simp [nBL]) eB
      refine ⟨_, rfl, .inl ⟨rfl, _, SqL.of eB6⟩, _, rfl, R, _, rfl, .inl (SqL.of eR6), Bg, _, _, rfl, rfl, eB6, sz (by unfold nI; rw [List.length_map, List.length_map, begs_len]; omega), ?_⟩
      have g7 : Go [L, Bg] H6 (upd H6 Bg (.lst ((nI (begs 0 hs)).map V.int ++ [.int rvs.length]))) := Go.refl.at (by simp)
      have eB7 : (upd H6 Bg (.lst ((nI (begs 0 hs)).map V.int ++ [.int rvs.length]))) Bg = some (.lst ((nI (begs 0 hs)).map V.int ++ [.int rvs.length])) := upd_same
      have l7 : Lf L (upd H6 Bg (.lst ((nI (begs 0 hs)).map V.int ++ [.int rvs.length]))) (n0 + 1 + 10 * m + 1) := l6.up nBL
      generalize upd H6 Bg (.lst ((nI (begs 0 hs)).map V.int ++ [.int rvs.length])) = H7 at *
      have eR7 := g7.k R _ nR eR6
      have bk7 := (bk5.go g6').go g7
      have g57 := g6'.trans g7
      refine ⟨_, rfl, _, rfl, by omega, by omega, fun D hD => ?_⟩
      refine lc_dtsI (σ := [some (.ref L), some (.ref R), some (.ref Bg), some tv, some (.int (M : Int)), some (.int (0 + (m : Int))), some (.int (s : Int)), y7, y8, y9, y10, y11, y12, y13, y14, y15, y16, y17]) (walk_range (lo := 0) (n := (s : Int).toNat)) (B := [L, Bg]) (n0 + 1 + 10 * m + 1) 1 (fun k d => ∃ c : Int, d = eLR (160 * (m : Int) + ((0 + k : Nat) : Int), c) ∧ 1 ≤ c ∧ c ≤ 3) hD l7 (by simp) bk7 (fun _ _ => True.intro) (by omega) (fun j x H8 H8' Ny Nn hj g8 l8 bk8 y ky => ?_) (fun H8 ws ds g8 l8 eD8 hW hn8 hp8 => ?_)
      · obtain ⟨rfl, rfl⟩ := y
        refine ⟨rfl, lc_yes ⟨_, rfl, _, _, rfl, rfl, .inl ⟨by omega, by omega⟩, _, rfl, _, _, rfl, rfl, (by show 1 ≤ sizeLine; decide), fun p1 hp1 => ?_⟩⟩
        have q1 := sm_new (o := .tup [.int (160 * (0 + (m : Int)) + (0 + (j : Int)))]) hp1
        have l9 := l8.new (o := .tup [.int (160 * (0 + (m : Int)) + (0 + (j : Int)))]) hp1
        have np1 := bk8.ne hp1
        refine ⟨_, rfl, L, 3, _, rfl, l9, by omega, by decide, by decide, fun r9 H9 g9 l9' a9 b9 => ⟨_, _, rfl, rfl, (by show 2 ≤ sizeLine; decide), fun p2 hp2 => ?_⟩⟩
        have bk9 : Bk (D :: [L, Bg]) H9 := (bk8.go (Go.of (B := []) q1)).go g9
        have q2 := sm_new (o := .tup [.ref p1, .int (1 + r9)]) hp2
        refine ky _ (eLR (160 * (m : Int) + ((0 + j : Nat) : Int), 1 + r9)) _ (((Go.of q1).trans g9).trans (Go.of q2)) (l9'.new hp2) (Dt.ofRow (bk9.ne hp2) upd_same (Dt.ofCol np1 (q2 _ _ (g9.k p1 _ (fun z => np1 (by simp at z; simp [z])) ?_)))) ⟨_, rfl, by omega, by omega⟩
        rw [upd_same]
        show some (HO.tup [V.int (160 * (0 + (m : Int)) + (0 + (j : Int)))]) = some (HO.tup [V.int (160 * (m : Int) + ((0 + j : Nat) : Int))])
        rw [Int.zero_add, Int.zero_add, Nat.zero_add]
      rw [Int.toNat_natCast] at l8 hn8
      obtain ⟨h, e8, h8⟩ := rowsOf (b := 160 * (m : Int)) ds 0 hp8
      subst e8
      rw [List.length_map] at hn8
      have oh : hOk m h := hOk_of (by omega) (by omega) h8
      have hsn := hso.app (h := h) (by rw [hsl]; exact oh) (by omega)
      have okh : lnOk h := ⟨by omega, fun r hr' => hsn.rows r (by rw [List.flatten_append]; exact List.mem_append_right _ (by simpa using hr'))⟩
      have eR8 := g8.k R _ (fun z => nR (by simp at z; simp [z])) eR7
      have eB8 := g8.k Bg _ (by simp [nBL]) eB7
      have nD : D ∉ [L, Bg] := bk7.ne hD
      have lw8 := hW.len
      rw [List.length_map] at lw8
      have g58 := g57.trans (g8.w1 (B := [L, Bg]) (by simp))
      have hR8 := hRv.g g58
      refine ⟨_, rfl, _, rfl, R, D, _, _, rfl, rfl, eR8, eD8, Nat.le_of_lt (sz (by omega)), fun R2 hR2 => ?_⟩
      have s9 := sm_new (o := .lst (rvs ++ ws)) hR2
      have eR9 : (upd H8 R2 (.lst (rvs ++ ws))) R2 = some (.lst (rvs ++ ws)) := upd_same
      have bk8 : Bk [L, Bg] H8 := bk5.go g58
      have nR2 := bk8.ne hR2
      generalize upd H8 R2 (.lst (rvs ++ ws)) = H9 at *
      have dD9 : Dt [] H9 (.ref D) (.list (h.map eLR)) := .lst (fun h => nomatch h) (s9 _ _ eD8) ((hW.s s9).sub (fun _ h => nomatch h))
      refine ⟨_, rfl, _, rfl, .ref D, h, rfl, dD9, by omega, okh, fun v10 H10 s10 d10 => ?_⟩
      have dtv10 := ((dtv.g g58).s s9).s s10
      have qn := hso.q.qb (by decide)
      have qh := (sprd_q okh).qb (by decide)
      refine ⟨[], tv, v10, sums hs, sprd h, rfl, dtv10.sub (fun _ h => nomatch h), d10, qn, qh, fun p11 H11 s11 hp11 ep11 => ?_⟩
      have t911 := (s9.trans s10).trans s11
      have bk10 : Bk [L, Bg] H10 := bk8.go (Go.of (B := []) (s9.trans s10))
      have es : sums (hs ++ [h]) = sums hs + sprd h := by
        rw [sums_app]
        show sums hs + (sprd h + 0) = _
        grind
      have eB11 := t911 _ _ eB8
      refine ⟨R2, rvs ++ ws, .ref p11, hs ++ [h], _, _, _, _, _, _, _, _, _, _, _, _, _, rfl, (g5.trans g58).trans (Go.of t911), (l8.same t911).mono (by omega), nR2, (s10.trans s11) _ _ eR9, ?_, ?_, ?_, hsn, by rw [List.length_append, hsl]; rfl⟩
      · rw [List.flatten_append, List.map_append]
        have hW2 : DtA [L, Bg] H8 ws (h.map eLR) := hW.un
        have := (hR8.app hW2).s t911
        simpa using this
      · rw [begs_app, eB11, Nat.zero_add]
        unfold nI
        rw [List.map_append, List.map_append, lrv]
        rfl
      · rw [es]
        exact Dt.ofCol (bk10.ne hp11) ep11
    · obtain ⟨R, rvs, tv, hs, y5, y6, y7, y8, y9, y10, y11, y12, y13, y14, y15, y16, y17, rfl, g5, l5, nR, eR, hRv, eB, dtv, hso, hsl⟩ := hh
      rw [Int.toNat_natCast] at hsl
      have l2 := hso.len2
      have fl := hso.len
      have lrv := hRv.len
      rw [List.length_map] at lrv
      have h1 : 1 ≤ hs.length := by omega
      have h6 := hso.m
      have okr := hso.ln
      have tw : ∀ h ∈ hs, 2 ≤ h.length := fun h hh => (hso.two h hh).1
      have hRv0 : DtA [] H5 rvs (hs.flatten.map eLR) := hRv.sub (fun _ h => nomatch h)
      have dtv0 : Dt [] H5 tv (enc (qp (sums hs))) := dtv.sub (fun _ h => nomatch h)
      obtain ⟨ta, rfl, _, eta⟩ := dtv0.col
      refine ⟨_, rfl, _, rfl, R, rvs, hs.flatten, M, rfl, eR, hRv0, by omega, okr, by omega, by omega, fun p6 q6 t6 H6 s6 hp6 hq6 ep6 dt6 eq6 => ?_⟩
      rw [Nat.min_eq_left (by omega), show M - 1 = hs.length - 1 by omega, pT_heaps hso.k h1 h6 hso.r] at dt6 eq6
      have d6 := bol_dt (x := (sums hs, begs 0 hs)) ep6 dt6 eq6
      refine ⟨_, rfl, _, rfl, (by show 2 ≤ sizeLine; decide), fun p7 hp7 => ?_⟩
      have s7 := sm_new (o := .tup [.ref ta, .ref Bg]) hp7
      have t67 := s6.trans s7
      have d7 := bol_dt (x := (sums hs, begs 0 hs)) (H := upd H6 p7 (.tup [.ref ta, .ref Bg])) upd_same ((dtv0.s s6).s s7) (s7 _ _ (s6 _ _ eB))
      have sh := sh_eBL (x := (sums hs, begs 0 hs)) (by show (begs 0 hs).length ≤ 1000; rw [begs_len]; omega)
      have d6' := d6.s s7
      generalize upd H6 p7 (.tup [.ref ta, .ref Bg]) = H7 at *
      refine ⟨_, _, d6'.dP, d7.dP, sh.sh (by omega), sh.sh (by omega), _, rfl, iteN (by rw [SeqAt.eqv_refl _ sh.1]; rfl) ?_⟩
      have eR7 := t67 _ _ eR
      have eB7 := t67 _ _ eB
      -- ends
      refine ⟨_, rfl, 1, rfl, Bg, _, rfl, SqL.of eB7, fun c8 hc8 => ?_⟩
      have s8 := sm_new (o := .lst (cutV ((nI (begs 0 hs)).map V.int) (some 1) none)) hc8
      have e8 : (upd H7 c8 (.lst (cutV ((nI (begs 0 hs)).map V.int) (some 1) none))) c8 = some (.lst (((nI (begs 0 hs)).map V.int).drop 1)) := by
        rw [upd_same]
        have := cut_fromV ((nI (begs 0 hs)).map V.int) (n := 1) (by decide)
        unfold cutV
        unfold cutL at this
        rw [this]
        rfl
      generalize upd H7 c8 (.lst (cutV ((nI (begs 0 hs)).map V.int) (some 1) none)) = H8 at *
      refine ⟨_, rfl, R, _, rfl, .inl (SqL.of (s8 _ _ eR7)), (by show 1 ≤ sizeLine; decide), fun c9 hc9 => ?_⟩
      have s9 := sm_new (o := .lst [.int rvs.length]) hc9
      have e9 : (upd H8 c9 (.lst [.int rvs.length])) c9 = some (.lst [.int rvs.length]) := upd_same
      generalize upd H8 c9 (.lst [.int rvs.length]) = H9 at *
      refine ⟨c8, c9, _, _, rfl, rfl, s9 _ _ e8, e9, Nat.le_of_lt (sz (by unfold nI; rw [List.length_drop, List.length_map, List.length_map, begs_len]; simp; omega)), fun c10 hc10 => ?_⟩
      have s10 := sm_new (o := .lst (((nI (begs 0 hs)).map V.int).drop 1 ++ [.int rvs.length])) hc10
      have e10 : (upd H9 c10 (.lst (((nI (begs 0 hs)).map V.int).drop 1 ++ [.int rvs.length]))) c10 = some (.lst ((List.range hs.length).map fun i => V.int ((stH hs (i + 1) : Nat) : Int))) := by
        rw [upd_same, lrv, ends_eq h1]
      generalize upd H9 c10 (.lst (((nI (begs 0 hs)).map V.int).drop 1 ++ [.int rvs.length])) = H10 at *
      -- cuts
      refine ⟨Nat.zero_le _, fun C hC => ?_⟩
      have s11 := sm_new (o := .lst []) hC
      have eC : (upd H10 C (.lst [])) C = some (.lst []) := upd_same
      have t10 := ((t67.trans s8).trans s9).trans s10
      have eB11 := s11 _ _ (t10 _ _ eB)
      rw [begs_eq] at eB11
      have e11 := s11 _ _ e10
      have eR11 := s11 _ _ (t10 _ _ eR)
      have hR11 : DtA [C] (upd H10 C (.lst [])) rvs (hs.flatten.map eLR) := ((hRv0.s t10).fr hC).s s11
      have dt11 : Dt [C] (upd H10 C (.lst [])) (.ref ta) (enc (qp (sums hs))) := ((dtv0.s t10).fr hC).s s11
      have nC : ∀ {a o}, H10 a = some o → a ∉ [C] := fun {a o} h z => by rw [List.mem_singleton.mp z, hC] at h; cases h
      have nBC := nC (t10 _ _ eB)
      have nEC := nC e10
      have nRC := nC (t10 _ _ eR)
      have hCH : H5 C = none := t10.free hC
      have t11 := t10.trans s11
      generalize upd H10 C (.lst []) = H11 at *
      refine ⟨_, rfl, _, rfl, Bg, c10, _, _, rfl, .inl ⟨SqL.of eB11, SqL.of e11, for_it (walk_zip (n := hs.length) (xs := (List.range hs.length).map fun i => V.int ((stH hs i : Nat) : Int)) (ys := (List.range hs.length).map fun i => V.int ((stH hs (i + 1) : Nat) : Int)) (by simp)) (fun i σ H' => ∃ cvs vals y10 y11 y12 y13 y14 y15 y16 y17, σ = [some (.ref L), some (.ref R), some (.ref Bg), some (.ref ta), some (.int (M : Int)), y5, y6, y7, some (.ref c10), some (.ref C), y10, y11, y12, y13, y14, y15, y16, y17] ∧ Go [C] H11 H' ∧ H' C = some (.lst cvs) ∧ DtA [C] H' cvs ((vals : List Rat).map fun v => enc (qp v)) ∧ vals.length ≤ 6 * i ∧ (∀ v ∈ vals, IsCut hs v) ∧ (∀ A x y D, hs = A ++ (x ++ y) :: D → x ≠ [] → y ≠ [] → A.length < i → sums (A ++ x :: y :: D) ∈ vals))
        ⟨[], [], _, _, _, _, _, _, _, _, rfl, Go.refl, eC, .nil, by simp, (fun _ h => nomatch h), fun _ _ _ _ _ _ _ h => absurd h (Nat.not_lt_zero _)⟩ (fun i σ H' _ hh => ?_) (fun i xx σ H12' H12 hi hh y => ?_) (fun σ H12 hh => ?_)⟩⟩
      · obtain ⟨cvs, vals, y10, y11, y12, y13, y14, y15, y16, y17, rfl, g12, _⟩ := hh
        exact ⟨SqL.of (g12.k _ _ nBC eB11), SqL.of (g12.k _ _ nEC e11)⟩
      · obtain ⟨cvs, vals, y10, y11, y12, y13, y14, y15, y16, y17, rfl, g12, eC12, hC12, lv, ic, cc⟩ := hh
        obtain ⟨pt, x1, x2, rfl, hpt, rfl, f1, f2⟩ := y
        have hi' : i < hs.length := hi
        have f1 : ((List.range hs.length).map fun i => V.int ((stH hs i : Nat) : Int))[i]? = some x1 := f1
        have f2 : ((List.range hs.length).map fun i => V.int ((stH hs (i + 1) : Nat) : Int))[i]? = some x2 := f2
        rw [List.getElem?_map, List.getElem?_range hi'] at f1 f2
        have e1 : V.int ((stH hs i : Nat) : Int) = x1 := Option.some.inj f1
        have e2 : V.int ((stH hs (i + 1) : Nat) : Int) = x2 := Option.some.inj f2
        subst e1 e2
        have s13 := sm_new (o := .tup [.int ((stH hs i : Nat) : Int), .int ((stH hs (i + 1) : Nat) : Int)]) hpt
        refine ⟨pt, _, rfl, SqT.of upd_same, rfl, _, _, rfl, _, _, rfl, rfl, ?_⟩
        generalize upd H12' pt (.tup [.int ((stH hs i : Nat) : Int), .int ((stH hs (i + 1) : Nat) : Int)]) = H13 at *
        have hst := stH_succ hi'
        obtain ⟨two, six⟩ := hso.two _ (List.getElem_mem hi')
        have hle : stH hs (i + 1) ≤ hs.flatten.length := by
          have e := congrArg (fun x => (List.flatten x).length) (List.take_append_drop (i + 1) hs)
          simp only [List.flatten_append, List.length_append] at e
          unfold stH
          omega
        refine ⟨_, rfl, _, _, rfl, rfl, _, rfl, _, _, rfl, ⟨by omega, by omega, by omega, by omega⟩, for_range (lo := ((stH hs i : Nat) : Int) + 1) (n := (((stH hs (i + 1) : Nat) : Int) - (((stH hs i : Nat) : Int) + 1)).toNat) (fun j σ H' => ∃ cvs vals y12 y13 y14 y15 y16 y17, σ = [some (.ref L), some (.ref R), some (.ref Bg), some (.ref ta), some (.int (M : Int)), y5, y6, y7, some (.ref c10), some (.ref C), some (.int ((stH hs i : Nat) : Int)), some (.int ((stH hs (i + 1) : Nat) : Int)), y12, y13, y14, y15, y16, y17] ∧ Go [C] H11 H' ∧ H' C = some (.lst cvs) ∧ DtA [C] H' cvs ((vals : List Rat).map fun v => enc (qp v)) ∧ vals.length ≤ 6 * i + j ∧ (∀ v ∈ vals, IsCut hs v) ∧ (∀ A x y D, hs = A ++ (x ++ y) :: D → x ≠ [] → y ≠ [] → (A.length < i ∨ (A.length = i ∧ x.length ≤ j)) → sums (A ++ x :: y :: D) ∈ vals))
          ⟨cvs, vals, _, _, _, _, _, _, rfl, g12.trans (Go.of s13), s13 _ _ eC12, hC12.s s13, by omega, ic, fun A x y D e hx hy h => ?_⟩ (fun j σ H14 hj hh => ?_) (fun σ H14 hh => ?_)⟩
        · rcases h with h | h
          · exact cc A x y D e hx hy h
          · have := List.length_pos_iff.mpr hx
            omega
        · obtain ⟨cvs, vals, y12, y13, y14, y15, y16, y17, rfl, g14, eC14, hC14, lv, ic, cc⟩ := hh
          have hj' : j + 1 < hs[i].length := by omega
          have ea : ((stH hs i : Nat) : Int) + 1 + (j : Int) = ((stH hs i + (j + 1) : Nat) : Int) := by omega
          rw [ea]
          clear ea
          have eR14 := g14.k R _ nRC eR11
          have hR14 : DtA [] H14 rvs (hs.flatten.map eLR) := (hR11.g g14).sub (fun _ h => nomatch h)
          have okh : lnOk hs[i] := ⟨by omega, fun r hr' => hso.rows r (List.mem_flatten.mpr ⟨_, List.getElem_mem hi', hr'⟩)⟩
          have c0 := cutR_st (hs := hs) (i := i) (a := 0) (b := hs[i].length) hi' (Nat.zero_le _) (Nat.le_refl _)
          rw [Nat.add_zero, List.drop_zero, Nat.sub_zero, List.take_length, ← hst] at c0
          have c1 := cutR_st (hs := hs) (i := i) (a := 0) (b := j + 1) hi' (Nat.zero_le _) (by omega)
          rw [Nat.add_zero, List.drop_zero, Nat.sub_zero] at c1
          have c2 := cutR_st (hs := hs) (i := i) (a := j + 1) (b := hs[i].length) hi' (by omega) (Nat.le_refl _)
          rw [← hst, List.take_of_length_le (by rw [List.length_drop]; exact Nat.le_refl _)] at c2
          have hcut : IsCut hs (sums hs + -sprd hs[i] + (sprd (hs[i].take (j + 1)) + sprd (hs[i].drop (j + 1)))) := by
            refine ⟨hs.take i, hs[i].take (j + 1), hs[i].drop (j + 1), hs.drop (i + 1), by rw [List.take_append_drop]; exact split_at hi', fun z => by have := congrArg List.length z; rw [List.length_take, List.length_nil] at this; omega, fun z => by have := congrArg List.length z; rw [List.length_drop, List.length_nil] at this; omega, ?_⟩
            rw [sums_cut, List.take_append_drop, ← split_at hi']
          have hval : ∀ A x y D, hs = A ++ (x ++ y) :: D → A.length = i → x.length = j + 1 → sums (A ++ x :: y :: D) = sums hs + -sprd hs[i] + (sprd (hs[i].take (j + 1)) + sprd (hs[i].drop (j + 1))) := fun A x y D e hA hx => by
            rw [sums_cut, ← e]
            obtain ⟨u1, _, u2, _⟩ := cut_uniq e
            subst hA
            rw [u2, ← hx, List.take_left, List.drop_left]
          have qv := cut_q56 hso hcut
          have okx : lnOk (hs[i].take (j + 1)) := okh.take _
          have oky : lnOk (hs[i].drop (j + 1)) := okh.drop _
          generalize hx : hs[i].take (j + 1) = X at *
          generalize hy : hs[i].drop (j + 1) = Y at *
          have lX : X.length = j + 1 := by rw [← hx, List.length_take]; omega
          have lY : 0 < Y.length := by rw [← hy, List.length_drop]; omega
          generalize hs[i] = hi0 at *
          -- the whole
          refine ⟨_, rfl, _, rfl, _, rfl, _, rfl, _, rfl, R, _, rfl, SqL.of eR14, fun c15 hc15 => ?_⟩
          have s15 := sm_new (o := .lst (cutV rvs (some ((stH hs i : Nat) : Int)) (some ((stH hs (i + 1) : Nat) : Int)))) hc15
          have d15 : Dt [] (upd H14 c15 (.lst (cutV rvs (some ((stH hs i : Nat) : Int)) (some ((stH hs (i + 1) : Nat) : Int))))) (.ref c15) (.list (hi0.map eLR)) := by
            have := cut_dt hR14 (a := stH hs i) (b := stH hs (i + 1)) (by omega) hle
            rw [c0] at this
            exact .lst (fun h => nomatch h) upd_same (this.s s15)
          generalize upd H14 c15 (.lst (cutV rvs (some ((stH hs i : Nat) : Int)) (some ((stH hs (i + 1) : Nat) : Int)))) = H15 at *
          refine ⟨.ref c15, hi0, rfl, d15, by omega, okh, fun v16 H16 s16 d16 => ?_⟩
          have t16 := s15.trans s16
          have hR16 := hR14.s t16
          -- both
          refine ⟨_, rfl, _, rfl, _, rfl, _, rfl, _, rfl, R, _, rfl, SqL.of (t16 _ _ eR14), fun c17 hc17 => ?_⟩
          have s17 := sm_new (o := .lst (cutV rvs (some ((stH hs i : Nat) : Int)) (some ((stH hs i + (j + 1) : Nat) : Int)))) hc17
          have d17 : Dt [] (upd H16 c17 (.lst (cutV rvs (some ((stH hs i : Nat) : Int)) (some ((stH hs i + (j + 1) : Nat) : Int))))) (.ref c17) (.list (X.map eLR)) := by
            have := cut_dt hR16 (a := stH hs i) (b := stH hs i + (j + 1)) (by omega) (by omega)
            rw [c1] at this
            exact .lst (fun h => nomatch h) upd_same (this.s s17)
          generalize upd H16 c17 (.lst (cutV rvs (some ((stH hs i : Nat) : Int)) (some ((stH hs i + (j + 1) : Nat) : Int)))) = H17 at *
          refine ⟨.ref c17, X, rfl, d17, by omega, okx, fun v18 H18 s18 d18 => ?_⟩
          have t18 := (t16.trans s17).trans s18
          have hR18 := hR14.s t18
          refine ⟨_, rfl, _, rfl, _, rfl, _, rfl, _, rfl, R, _, rfl, SqL.of (t18 _ _ eR14), fun c19 hc19 => ?_⟩
          have s19 := sm_new (o := .lst (cutV rvs (some ((stH hs i + (j + 1) : Nat) : Int)) (some ((stH hs (i + 1) : Nat) : Int)))) hc19
          have d19 : Dt [] (upd H18 c19 (.lst (cutV rvs (some ((stH hs i + (j + 1) : Nat) : Int)) (some ((stH hs (i + 1) : Nat) : Int))))) (.ref c19) (.list (Y.map eLR)) := by
            have := cut_dt hR18 (a := stH hs i + (j + 1)) (b := stH hs (i + 1)) (by omega) hle
            rw [c2] at this
            exact .lst (fun h => nomatch h) upd_same (this.s s19)
          generalize upd H18 c19 (.lst (cutV rvs (some ((stH hs i + (j + 1) : Nat) : Int)) (some ((stH hs (i + 1) : Nat) : Int)))) = H19 at *
          refine ⟨.ref c19, Y, rfl, d19, lY, oky, fun v20 H20 s20 d20 => ?_⟩
          refine ⟨[], v18, v20, sprd X, sprd Y, rfl, (d18.s s19).s s20, d20, (sprd_q okx).qb (by decide), (sprd_q oky).qb (by decide), fun p21 H21 s21 hp21 ep21 => ?_⟩
          dsimp only at ep21
          have t21 := ((t18.trans s19).trans s20).trans s21
          have eC21 := t21 _ _ eC14
          have d16' := (((((d16.s s17).s s18).s s19).s s20).s s21)
          obtain ⟨wa, rfl, _, ewa⟩ := d16'.col
          change H21 wa = some (.tup [.int (sprd hi0).num, .int ((sprd hi0).den : Int)]) at ewa
          -- put in
          refine ⟨_, rfl, .inl ⟨rfl, _, SqL.of eC21⟩, ?_⟩
          have dt21 := dt11.g (g14.trans (Go.of t21))
          refine ⟨_, rfl, _, rfl, wa, _, 0, .int (sprd hi0).num, rfl, rfl, SqT.of ewa, rfl, _, rfl, _, rfl, wa, _, 1, .int ((sprd hi0).den : Int), rfl, rfl, SqT.of ewa, rfl, (by show 2 ≤ sizeLine; decide), fun p22 hp22 => ?_⟩
          have s22 := sm_new (o := .tup [.int (-(sprd hi0).num), .int ((sprd hi0).den : Int)]) hp22
          have d22 : Dt [] (upd H21 p22 (.tup [.int (-(sprd hi0).num), .int ((sprd hi0).den : Int)])) (.ref p22) (enc (qp (-sprd hi0))) := by
            refine Dt.ofCol (fun h => nomatch h) ?_
            rw [upd_same]
            show _ = some (HO.tup [V.int (-sprd hi0).num, V.int ((-sprd hi0).den : Int)])
            rw [Rat.neg_num, Rat.neg_den]
          have qs := hso.q
          have qh := sprd_q okh
          have qx := sprd_q okx
          have qy := sprd_q oky
          refine ⟨[], .ref ta, .ref p22, sums hs, -sprd hi0, rfl, (dt21.s s22).sub (fun _ h => nomatch h), d22, qs.qb (by decide), (Q2.neg qh).qb (by decide), fun p23 H23 s23 hp23 ep23 => ?_⟩
          dsimp only at ep23
          have d21 : Dt [] H23 (.ref p21) (enc (qp (sprd X + sprd Y))) := Dt.ofCol (fun h => nomatch h) ((s22.trans s23) _ _ ep21)
          have q23 : Q2 500 (sums hs + -sprd hi0) := (qs.add (Q2.neg qh)).mono (by decide)
          have qxy : Q2 200 (sprd X + sprd Y) := (qx.add qy).mono (by decide)
          refine ⟨_, rfl, [], .ref p23, .ref p21, sums hs + -sprd hi0, sprd X + sprd Y, rfl, Dt.ofCol (fun h => nomatch h) ep23, d21, q23.qb (by decide), qxy.qb (by decide), fun p24 H24 s24 hp24 ep24 => ?_⟩
          dsimp only at ep24
          have t24 := (t21.trans (s22.trans s23)).trans s24
          have eC24 := t24 _ _ eC14
          have lcv := hC14.len
          rw [List.length_map] at lcv
          refine ⟨C, _, _, rfl, rfl, eC24, sz (by omega), ?_⟩
          have np24 : p24 ∉ [C] := fun z => by
            have e23 := (t21.trans (s22.trans s23)) _ _ eC14
            rw [List.mem_singleton.mp z, e23] at hp24
            cases hp24
          have gm : Go [C] H24 (upd H24 C (.lst (cvs ++ [.ref p24]))) := Go.refl.at (List.mem_cons_self ..)
          refine ⟨cvs ++ [.ref p24], vals ++ [sums hs + -sprd hi0 + (sprd X + sprd Y)], _, _, _, _, _, _, rfl, (g14.trans (Go.of t24)).trans gm, upd_same, ?_, by rw [List.length_append]; simp; omega, fun v hv => ?_, fun A x y D e hx' hy' h => ?_⟩
          · rw [List.map_append]
            exact ((hC14.s t24).g gm).app (.one ((Dt.ofCol np24 ep24).g gm))
          · rcases List.mem_append.mp hv with z | z
            · exact ic v z
            · rw [List.mem_singleton.mp z]
              exact hcut
          · by_cases z : A.length = i ∧ x.length = j + 1
            · rw [hval A x y D e z.1 z.2]
              simp
            · exact List.mem_append_left _ (cc A x y D e hx' hy' (by omega))
        · obtain ⟨cvs, vals, y12, y13, y14, y15, y16, y17, rfl, g14, eC14, hC14, lv, ic, cc⟩ := hh
          refine ⟨cvs, vals, _, _, _, _, _, _, _, _, rfl, g14, eC14, hC14, by omega, ic, fun A x y D e hx hy h => ?_⟩
          rcases Nat.lt_or_ge A.length i with z | z
          · exact cc A x y D e hx hy (.inl z)
          · obtain ⟨u1, _, u2, _⟩ := cut_uniq e
            have hA : A.length = i := by omega
            subst hA
            refine cc A x y D e hx hy (.inr ⟨rfl, ?_⟩)
            have := congrArg List.length u2
            rw [List.length_append] at this
            have := List.length_pos_iff.mpr hy
            omega
      · obtain ⟨cvs, vals, y10, y11, y12, y13, y14, y15, y16, y17, rfl, g12, eC12, hC12, lv, ic, cc⟩ := hh
        obtain ⟨A0, x0, y0, D0, e0, hx0, hy0, ev0⟩ := cut_at hso.k h1 h6 hso.r tw
        have hv0 := cc A0 x0 y0 D0 e0 hx0 hy0 (by obtain ⟨u, _⟩ := cut_uniq e0; exact u)
        rw [← ev0] at hv0
        have lcv := hC12.len
        rw [List.length_map] at lcv
        have lv0 : 0 < vals.length := List.length_pos_of_mem hv0
        obtain ⟨cv0, fc0, dc0⟩ := hC12.get (i := 0) (d := enc (qp vals[0])) (by rw [List.getElem?_map, List.getElem?_eq_getElem lv0]; rfl)
        have hC0 : DtA [] H12 cvs (vals.map fun v => enc (qp v)) := hC12.sub (fun _ h => nomatch h)
        refine ⟨_, rfl, C, _, 0, cv0, rfl, rfl, SqL.of eC12, atI_nat (j := 0) fc0, ?_⟩
        refine ⟨_, rfl, C, rfl, ⟨_, SqL.of eC12⟩, for_it (walk_list (xs := cvs)) (fun j σ H' => ∃ lV lv y16 y17, σ = [some (.ref L), some (.ref R), some (.ref Bg), some (.ref ta), some (.int (M : Int)), y5, y6, y7, some (.ref c10), some (.ref C), y10, y11, y12, y13, y14, some lV, y16, y17] ∧ Same H12 H' ∧ Dt [] H' lV (enc (qp lv)) ∧ lv ∈ vals ∧ ∀ (a : Nat) v, a < j → vals[a]? = some v → lv ≤ v)
          ⟨cv0, vals[0], _, _, rfl, Same.refl _, dc0.sub (fun _ h => nomatch h), List.getElem_mem lv0, fun a v h => absurd h (Nat.not_lt_zero _)⟩ (fun j σ H' _ hh => ?_) (fun j xx σ H13' H13 hj hh y => ?_) (fun σ H13 hh => ?_)⟩
        · obtain ⟨lV, lv, y16, y17, rfl, s13, _⟩ := hh
          exact SqL.of (s13 _ _ eC12)
        · obtain ⟨lV, lv, y16, y17, rfl, s13, dl, ml, hl⟩ := hh
          obtain ⟨rfl, y⟩ := y
          have hj2 : j < vals.length := by omega
          obtain ⟨d, f1, g1⟩ := (hC0.s s13).getV y
          rw [List.getElem?_map, List.getElem?_eq_getElem hj2] at f1
          have ed : d = enc (qp vals[j]) := (Option.some.inj f1).symm
          subst ed
          refine ⟨_, rfl, _, rfl, [], xx, lV, vals[j], lv, rfl, g1, dl, (cut_q56 hso (ic _ (List.getElem_mem hj2))).qb (by decide), (cut_q56 hso (ic _ ml)).qb (by decide), _, rfl, ite2 (fun e => ?_) (fun e => ?_)⟩
          · have lt : vals[j] < lv := of_decide_eq_true e
            refine ⟨_, rfl, xx, vals[j], _, _, rfl, s13, g1, List.getElem_mem hj2, fun a v ha hv => ?_⟩
            by_cases c : a = j
            · subst c
              rw [List.getElem?_eq_getElem hj2] at hv
              cases hv
              exact Rat.le_refl
            · have := hl a v (by omega) hv
              grind
          · have nlt : ¬ vals[j] < lv := fun z => e (decide_eq_true z)
            refine ⟨lV, lv, _, _, rfl, s13, dl, ml, fun a v ha hv => ?_⟩
            by_cases c : a = j
            · subst c
              rw [List.getElem?_eq_getElem hj2] at hv
              cases hv
              exact Rat.not_lt.mp nlt
            · exact hl a v (by omega) hv
        · obtain ⟨lV, lv, y16, y17, rfl, s13, dl, ml, hl⟩ := hh
          have e1 : lv = (pT hs.flatten hs.length 0).1 := by
            obtain ⟨a, ha, ea⟩ := List.getElem_of_mem hv0
            have u1 := hl a _ (by omega) (by rw [List.getElem?_eq_getElem ha, ea])
            obtain ⟨A1, x1, y1, D1, f1, f2, f3, f4⟩ := ic lv ml
            have u2 := cut_le hso.k h1 h6 hso.r f1 f2 f3
            rw [← f4] at u2
            grind
          have gC := (g12.trans (Go.of (B := [C]) s13))
          have eR13 := gC.k R _ nRC eR11
          have hR13 : DtA [] H13 rvs (hs.flatten.map eLR) := (hR11.g gC).sub (fun _ h => nomatch h)
          refine ⟨_, rfl, _, rfl, _, _, rfl, rfl, R, rvs, hs.flatten, M + 1, rfl, eR13, hR13, by omega, okr, by omega, by omega, fun p14 q14 t14 H14 s14 hp14 hq14 ep14 dt14 eq14 => ?_⟩
          rw [Nat.min_eq_left (by omega), show M + 1 - 1 = hs.length by omega, ← e1] at dt14
          have shT : Sh (enc (qp lv)) 1 := sh_eC (by simp)
          refine ⟨p14, _, 0, .ref t14, rfl, rfl, SqT.of ep14, atI_nat (j := 0) rfl, _, rfl, _, _, dt14.dP, (dl.s s14).dP, shT.sh (by omega), shT.sh (by omega), ?_⟩
          rw [SeqAt.eqv_refl _ shT.1]
          have nLC : L ∉ [C] := fun z => (l5.same t10).bk L (List.mem_cons_self ..) (by rw [List.mem_singleton.mp z]; exact hC)
          have gA : Go [L] H H5 := Go.cons (g5.w fun a ha => by simp at ha ⊢; exact ha.symm) ((Go.of t3).trans g4) hBgH
          have gB : Go [L] H H12 := Go.cons (B := [L]) (p := C) (g12.w fun a ha => by simp at ha; simp [ha]) (gA.trans (Go.of t11)) (gA.free hCH)
          refine q _ (gB.trans (Go.of (s13.trans s14))) ((((l5.same t11).go g12 nLC).same (s13.trans s14)).mono ?_)
          rw [Int.toNat_natCast]
          omega
/-! ### the law -/
theorem ok_law (T : Tx K mg) {f : Addr} {fd : FuncData} (F : Fun K "law" "law" s_law f fd) {k : Nat} (hk : k ≤ 10) : FnOk P w K mg base CX0 (k + 7) f fd ["_law_script"] (spLaw K) := by
  refine F.ok sc_law (fun vs H Q E h => ?_) (fun cdv A outer s H vs Q E hr h => ?_)
  · obtain ⟨a, ns, rfl, _⟩ := h
    rfl
  · obtain ⟨a, ns0, rfl, hS, hlen, q⟩ := h
    refine ⟨_, (pss_cons (ps_for PassesOwn.never rfl (pi_range1 (by rfl) T.z_range (pa_cons (pe_callB (call_max2 rfl) (by rfl) T.z_max (by decide +kernel) (pa_cons pe_int (pa_cons (pe_callB (call_min2 rfl) (by rfl) T.z_min (by decide +kernel) (pa_cons (pe_callB (len_K K) (by rfl) T.z_len PySem.boot_len (pa_cons (pv 0) pa_nil)) (pa_cons pe_int pa_nil))) pa_nil))) pa_nil)) (pg_name (i := 1) sc_law.nd rfl (.inl rfl)) (pss_cons (ps_set (i := 2) sc_law.nd rfl (.inl rfl) (pe_call (ok_l_left T (k := k + 5)) hr (by rfl) T.g_l_left T.F_l_left.kp T.b_l_left .nil pass0 (pa_cons (pv 0) (pa_cons (pv 1) pa_nil))))
      (pss_one (ps_if (PW.pt (pw_or (pt_not (pt_val (pe_call (ok_l_even_right T (k := k)) hr (by rfl) T.g_l_even_right T.F_l_even_right.kp T.b_l_even_right .nil pass0 (pa_cons (pv 2) pa_nil)))) (pw_or1 (pt_not (pt_val (pe_call (ok_l_heaps_right T (k := k)) hr (by rfl) T.g_l_heaps_right T.F_l_heaps_right.kp T.b_l_heaps_right .nil pass0 (pa_cons (pv 2) pa_nil))))))) (pss_one (ps_ret pe_bl)) pss_nil))))
      (pss_one (ps_ret pe_bl))), ?_⟩
    refine ⟨_, rfl, a, _, rfl, .inl hS, _, _, rfl, _, _, rfl, ?_⟩
    obtain ⟨m, hm⟩ : ∃ m : Int, m = (if (if (5 : Int) < ((ns0.map V.int).length : Int) then (5 : Int) else ((ns0.map V.int).length : Int)) > 2 then (if (5 : Int) < ((ns0.map V.int).length : Int) then (5 : Int) else ((ns0.map V.int).length : Int)) else 2) := ⟨_, rfl⟩
    have m0 : 0 ≤ m ∧ m ≤ 10 := by
      rw [hm]
      split <;> split <;> omega
    refine ⟨m, by rw [hm], by omega, by omega, for_range (lo := 0) (n := m.toNat) (fun i σ H' => ∃ y1 y2, σ = [some (.ref a), y1, y2] ∧ Same H H')
      ⟨none, none, rfl, Same.refl H⟩ (fun i σ H1 hi h1 => ?_) (fun σ H1 h1 => ?_)⟩
    · obtain ⟨y1, y2, rfl, s1⟩ := h1
      refine ⟨_, rfl, _, rfl, a, ns0, _, rfl, s1.seq hS, by omega, fun L x0 y0 hL0 x0n => ?_⟩
      have lf1 : Lf L (upd H1 L (.lst [.int x0, .int y0, .int 0])) 0 := ⟨x0, y0, 0, upd_same, x0n, by omega, by omega⟩
      have s2 := sm_mut (o := .lst [.int x0, .int y0, .int 0]) s1 (s1.free hL0)
      have hLH : H L = none := s1.free hL0
      generalize upd H1 L (.lst [.int x0, .int y0, .int 0]) = H2 at *
      have nB : ∀ b ∈ [L], H b = none := fun b hb => by rw [List.mem_singleton.mp hb]; exact hLH
      refine ⟨_, rfl, L, 0, rfl, lf1, by omega, fun H3 g3 l3 => ?_⟩
      refine ⟨_, rfl, iteF ?_⟩
      refine ⟨_, rfl, L, _, rfl, l3, by omega, fun H4 g4 l4 => ?_⟩
      refine ⟨_, rfl, iteF ?_⟩
      exact ⟨_, _, rfl, (g3.trans g4).sm s2 nB⟩
    · obtain ⟨y1, y2, rfl, s1⟩ := h1
      exact q _

end
theorem all_mk {l : PySem.W.OpenLaw} {w : World} {K : PySem.W.Frag} {h : Heap} {mg : Str → Option Value} {fa : Addr} (X : K.In h) (G : h.Ns mainGlobals mg) (hfa : mg "law" = some (.ref fa))
    {f0 : Addr} {od0 an0 : Option Addr} {sl0 : Array (Option Value)} {oc0 kV0 dc0 pm0 cd0 ct0 : Value}
    (a0 : PySem.W.nsIn K mainGlobals "common_measure" = some (some (.ref f0))) (l0 : K.lookup f0 = some ⟨oc0, od0, .func (PySem.W.fnOf "common_measure" "common_measure" (defArgs s_common_measure) (defBody s_common_measure) (defScope s_common_measure) .none kV0 dc0 pm0 an0 cd0 ct0), sl0⟩) (c0 : PySem.W.codeIn K cd0 "common_measure" = true) (k0 : PySem.W.keepIn K (.ref f0) = true)
    {f1 : Addr} {od1 an1 : Option Addr} {sl1 : Array (Option Value)} {oc1 kV1 dc1 pm1 cd1 ct1 : Value}
    (a1 : PySem.W.nsIn K mainGlobals "part" = some (some (.ref f1))) (l1 : K.lookup f1 = some ⟨oc1, od1, .func (PySem.W.fnOf "part" "part" (defArgs s_part) (defBody s_part) (defScope s_part) .none kV1 dc1 pm1 an1 cd1 ct1), sl1⟩) (c1 : PySem.W.codeIn K cd1 "part" = true) (k1 : PySem.W.keepIn K (.ref f1) = true)
    {f2 : Addr} {od2 an2 : Option Addr} {sl2 : Array (Option Value)} {oc2 kV2 dc2 pm2 cd2 ct2 : Value}
    (a2 : PySem.W.nsIn K mainGlobals "plus" = some (some (.ref f2))) (l2 : K.lookup f2 = some ⟨oc2, od2, .func (PySem.W.fnOf "plus" "plus" (defArgs s_plus) (defBody s_plus) (defScope s_plus) .none kV2 dc2 pm2 an2 cd2 ct2), sl2⟩) (c2 : PySem.W.codeIn K cd2 "plus" = true) (k2 : PySem.W.keepIn K (.ref f2) = true)
    {f3 : Addr} {od3 an3 : Option Addr} {sl3 : Array (Option Value)} {oc3 kV3 dc3 pm3 cd3 ct3 : Value}
    (a3 : PySem.W.nsIn K mainGlobals "before" = some (some (.ref f3))) (l3 : K.lookup f3 = some ⟨oc3, od3, .func (PySem.W.fnOf "before" "before" (defArgs s_before) (defBody s_before) (defScope s_before) .none kV3 dc3 pm3 an3 cd3 ct3), sl3⟩) (c3 : PySem.W.codeIn K cd3 "before" = true) (k3 : PySem.W.keepIn K (.ref f3) = true)
    {f4 : Addr} {od4 an4 : Option Addr} {sl4 : Array (Option Value)} {oc4 kV4 dc4 pm4 cd4 ct4 : Value}
    (a4 : PySem.W.nsIn K mainGlobals "spreads_from" = some (some (.ref f4))) (l4 : K.lookup f4 = some ⟨oc4, od4, .func (PySem.W.fnOf "spreads_from" "spreads_from" (defArgs s_spreads_from) (defBody s_spreads_from) (defScope s_spreads_from) .none kV4 dc4 pm4 an4 cd4 ct4), sl4⟩) (c4 : PySem.W.codeIn K cd4 "spreads_from" = true) (k4 : PySem.W.keepIn K (.ref f4) = true)
    {f5 : Addr} {od5 an5 : Option Addr} {sl5 : Array (Option Value)} {oc5 kV5 dc5 pm5 cd5 ct5 : Value}
    (a5 : PySem.W.nsIn K mainGlobals "best_from" = some (some (.ref f5))) (l5 : K.lookup f5 = some ⟨oc5, od5, .func (PySem.W.fnOf "best_from" "best_from" (defArgs s_best_from) (defBody s_best_from) (defScope s_best_from) .none kV5 dc5 pm5 an5 cd5 ct5), sl5⟩) (c5 : PySem.W.codeIn K cd5 "best_from" = true) (k5 : PySem.W.keepIn K (.ref f5) = true)
    {f6 : Addr} {od6 an6 : Option Addr} {sl6 : Array (Option Value)} {oc6 kV6 dc6 pm6 cd6 ct6 : Value}
    (a6 : PySem.W.nsIn K mainGlobals "best_on_line" = some (some (.ref f6))) (l6 : K.lookup f6 = some ⟨oc6, od6, .func (PySem.W.fnOf "best_on_line" "best_on_line" (defArgs s_best_on_line) (defBody s_best_on_line) (defScope s_best_on_line) .none kV6 dc6 pm6 an6 cd6 ct6), sl6⟩) (c6 : PySem.W.codeIn K cd6 "best_on_line" = true) (k6 : PySem.W.keepIn K (.ref f6) = true)
    {f7 : Addr} {od7 an7 : Option Addr} {sl7 : Array (Option Value)} {oc7 kV7 dc7 pm7 cd7 ct7 : Value}
    (a7 : PySem.W.nsIn K mainGlobals "_law_mix" = some (some (.ref f7))) (l7 : K.lookup f7 = some ⟨oc7, od7, .func (PySem.W.fnOf "_law_mix" "_law_mix" (defArgs s_l_mix) (defBody s_l_mix) (defScope s_l_mix) .none kV7 dc7 pm7 an7 cd7 ct7), sl7⟩) (c7 : PySem.W.codeIn K cd7 "_law_mix" = true) (k7 : PySem.W.keepIn K (.ref f7) = true)
    {f8 : Addr} {od8 an8 : Option Addr} {sl8 : Array (Option Value)} {oc8 kV8 dc8 pm8 cd8 ct8 : Value}
    (a8 : PySem.W.nsIn K mainGlobals "_law_left" = some (some (.ref f8))) (l8 : K.lookup f8 = some ⟨oc8, od8, .func (PySem.W.fnOf "_law_left" "_law_left" (defArgs s_l_left) (defBody s_l_left) (defScope s_l_left) .none kV8 dc8 pm8 an8 cd8 ct8), sl8⟩) (c8 : PySem.W.codeIn K cd8 "_law_left" = true) (k8 : PySem.W.keepIn K (.ref f8) = true)
    {f9 : Addr} {od9 an9 : Option Addr} {sl9 : Array (Option Value)} {oc9 kV9 dc9 pm9 cd9 ct9 : Value}
    (a9 : PySem.W.nsIn K mainGlobals "_law_pick" = some (some (.ref f9))) (l9 : K.lookup f9 = some ⟨oc9, od9, .func (PySem.W.fnOf "_law_pick" "_law_pick" (defArgs s_l_pick) (defBody s_l_pick) (defScope s_l_pick) .none kV9 dc9 pm9 an9 cd9 ct9), sl9⟩) (c9 : PySem.W.codeIn K cd9 "_law_pick" = true) (k9 : PySem.W.keepIn K (.ref f9) = true)
    {f10 : Addr} {od10 an10 : Option Addr} {sl10 : Array (Option Value)} {oc10 kV10 dc10 pm10 cd10 ct10 : Value}
    (a10 : PySem.W.nsIn K mainGlobals "_law_part" = some (some (.ref f10))) (l10 : K.lookup f10 = some ⟨oc10, od10, .func (PySem.W.fnOf "_law_part" "_law_part" (defArgs s_l_part) (defBody s_l_part) (defScope s_l_part) .none kV10 dc10 pm10 an10 cd10 ct10), sl10⟩) (c10 : PySem.W.codeIn K cd10 "_law_part" = true) (k10 : PySem.W.keepIn K (.ref f10) = true)
    {f11 : Addr} {od11 an11 : Option Addr} {sl11 : Array (Option Value)} {oc11 kV11 dc11 pm11 cd11 ct11 : Value}
    (a11 : PySem.W.nsIn K mainGlobals "_law_plus" = some (some (.ref f11))) (l11 : K.lookup f11 = some ⟨oc11, od11, .func (PySem.W.fnOf "_law_plus" "_law_plus" (defArgs s_l_plus) (defBody s_l_plus) (defScope s_l_plus) .none kV11 dc11 pm11 an11 cd11 ct11), sl11⟩) (c11 : PySem.W.codeIn K cd11 "_law_plus" = true) (k11 : PySem.W.keepIn K (.ref f11) = true)
    {f12 : Addr} {od12 an12 : Option Addr} {sl12 : Array (Option Value)} {oc12 kV12 dc12 pm12 cd12 ct12 : Value}
    (a12 : PySem.W.nsIn K mainGlobals "_law_less" = some (some (.ref f12))) (l12 : K.lookup f12 = some ⟨oc12, od12, .func (PySem.W.fnOf "_law_less" "_law_less" (defArgs s_l_less) (defBody s_l_less) (defScope s_l_less) .none kV12 dc12 pm12 an12 cd12 ct12), sl12⟩) (c12 : PySem.W.codeIn K cd12 "_law_less" = true) (k12 : PySem.W.keepIn K (.ref f12) = true)
    {f13 : Addr} {od13 an13 : Option Addr} {sl13 : Array (Option Value)} {oc13 kV13 dc13 pm13 cd13 ct13 : Value}
    (a13 : PySem.W.nsIn K mainGlobals "_law_spread" = some (some (.ref f13))) (l13 : K.lookup f13 = some ⟨oc13, od13, .func (PySem.W.fnOf "_law_spread" "_law_spread" (defArgs s_l_spread) (defBody s_l_spread) (defScope s_l_spread) .none kV13 dc13 pm13 an13 cd13 ct13), sl13⟩) (c13 : PySem.W.codeIn K cd13 "_law_spread" = true) (k13 : PySem.W.keepIn K (.ref f13) = true)
    {f14 : Addr} {od14 an14 : Option Addr} {sl14 : Array (Option Value)} {oc14 kV14 dc14 pm14 cd14 ct14 : Value}
    (a14 : PySem.W.nsIn K mainGlobals "_law_even_right" = some (some (.ref f14))) (l14 : K.lookup f14 = some ⟨oc14, od14, .func (PySem.W.fnOf "_law_even_right" "_law_even_right" (defArgs s_l_even_right) (defBody s_l_even_right) (defScope s_l_even_right) .none kV14 dc14 pm14 an14 cd14 ct14), sl14⟩) (c14 : PySem.W.codeIn K cd14 "_law_even_right" = true) (k14 : PySem.W.keepIn K (.ref f14) = true)
    {f15 : Addr} {od15 an15 : Option Addr} {sl15 : Array (Option Value)} {oc15 kV15 dc15 pm15 cd15 ct15 : Value}
    (a15 : PySem.W.nsIn K mainGlobals "_law_heaps_right" = some (some (.ref f15))) (l15 : K.lookup f15 = some ⟨oc15, od15, .func (PySem.W.fnOf "_law_heaps_right" "_law_heaps_right" (defArgs s_l_heaps_right) (defBody s_l_heaps_right) (defScope s_l_heaps_right) .none kV15 dc15 pm15 an15 cd15 ct15), sl15⟩) (c15 : PySem.W.codeIn K cd15 "_law_heaps_right" = true) (k15 : PySem.W.keepIn K (.ref f15) = true)
    {f16 : Addr} {od16 an16 : Option Addr} {sl16 : Array (Option Value)} {oc16 kV16 dc16 pm16 cd16 ct16 : Value}
    (a16 : PySem.W.nsIn K mainGlobals "law" = some (some (.ref f16))) (l16 : K.lookup f16 = some ⟨oc16, od16, .func (PySem.W.fnOf "law" "law" (defArgs s_law) (defBody s_law) (defScope s_law) .none kV16 dc16 pm16 an16 cd16 ct16), sl16⟩) (c16 : PySem.W.codeIn K cd16 "law" = true) (k16 : PySem.W.keepIn K (.ref f16) = true)
    (z_abs : PySem.W.nsIn K mainGlobals "abs" = some none)
    (z_enumerate : PySem.W.nsIn K mainGlobals "enumerate" = some none)
    (z_int : PySem.W.nsIn K mainGlobals "int" = some none)
    (z_len : PySem.W.nsIn K mainGlobals "len" = some none)
    (z_list : PySem.W.nsIn K mainGlobals "list" = some none)
    (z_max : PySem.W.nsIn K mainGlobals "max" = some none)
    (z_min : PySem.W.nsIn K mainGlobals "min" = some none)
    (z_range : PySem.W.nsIn K mainGlobals "range" = some none)
    (z_sum : PySem.W.nsIn K mainGlobals "sum" = some none)
    (z_zip : PySem.W.nsIn K mainGlobals "zip" = some none)
    : ∃ fd : FuncData, (∀ (s : Shared) (v : Value), BindsTo s fd ⟨[v], []⟩ [("_law_script", v)]) ∧ ∀ base : Heap, K.In base → base.Ns mainGlobals mg → FnOk l.prog w K mg base CX0 7 fa fd ["_law_script"] (spLaw K) := by
  have e := hfa.symm.trans (PySem.W.mg_of X G a16)
  cases e
  exact ⟨_, fun s v => .of_eq rfl, fun base _ _ => ok_law (k := 0) {
      f_common_measure := f0, d_common_measure := _, F_common_measure := fun_mk (st := s_common_measure) l0 c0 k0, b_common_measure := (fun_mk (st := s_common_measure) l0 c0 k0).binds (ps := ["one", "other"]) fun _ _ _ _ _ _ us hl => match us, hl with | [_, _], _ => rfl, g_common_measure := PySem.W.mg_of X G a0,
      f_part := f1, d_part := _, F_part := fun_mk (st := s_part) l1 c1 k1, b_part := (fun_mk (st := s_part) l1 c1 k1).binds (ps := ["top", "bottom"]) fun _ _ _ _ _ _ us hl => match us, hl with | [_, _], _ => rfl, g_part := PySem.W.mg_of X G a1,
      f_plus := f2, d_plus := _, F_plus := fun_mk (st := s_plus) l2 c2 k2, b_plus := (fun_mk (st := s_plus) l2 c2 k2).binds (ps := ["one", "other"]) fun _ _ _ _ _ _ us hl => match us, hl with | [_, _], _ => rfl, g_plus := PySem.W.mg_of X G a2,
      f_before := f3, d_before := _, F_before := fun_mk (st := s_before) l3 c3 k3, b_before := (fun_mk (st := s_before) l3 c3 k3).binds (ps := ["one", "other"]) fun _ _ _ _ _ _ us hl => match us, hl with | [_, _], _ => rfl, g_before := PySem.W.mg_of X G a3,
      f_spreads_from := f4, d_spreads_from := _, F_spreads_from := fun_mk (st := s_spreads_from) l4 c4 k4, b_spreads_from := (fun_mk (st := s_spreads_from) l4 c4 k4).binds (ps := ["rows"]) fun _ _ _ _ _ _ us hl => match us, hl with | [_], _ => rfl, g_spreads_from := PySem.W.mg_of X G a4,
      f_best_from := f5, d_best_from := _, F_best_from := fun_mk (st := s_best_from) l5 c5 k5, b_best_from := (fun_mk (st := s_best_from) l5 c5 k5).binds (ps := ["begin", "spreads", "later"]) fun _ _ _ _ _ _ us hl => match us, hl with | [_, _, _], _ => rfl, g_best_from := PySem.W.mg_of X G a5,
      f_best_on_line := f6, d_best_on_line := _, F_best_on_line := fun_mk (st := s_best_on_line) l6 c6 k6, b_best_on_line := (fun_mk (st := s_best_on_line) l6 c6 k6).binds (ps := ["rows", "many"]) fun _ _ _ _ _ _ us hl => match us, hl with | [_, _], _ => rfl, g_best_on_line := PySem.W.mg_of X G a6,
      f_l_mix := f7, d_l_mix := _, F_l_mix := fun_mk (st := s_l_mix) l7 c7 k7, b_l_mix := (fun_mk (st := s_l_mix) l7 c7 k7).binds (ps := ["_law_cell", "_law_k"]) fun _ _ _ _ _ _ us hl => match us, hl with | [_, _], _ => rfl, g_l_mix := PySem.W.mg_of X G a7,
      f_l_left := f8, d_l_left := _, F_l_left := fun_mk (st := s_l_left) l8 c8 k8, b_l_left := (fun_mk (st := s_l_left) l8 c8 k8).binds (ps := ["_law_script", "_law_k"]) fun _ _ _ _ _ _ us hl => match us, hl with | [_, _], _ => rfl, g_l_left := PySem.W.mg_of X G a8,
      f_l_pick := f9, d_l_pick := _, F_l_pick := fun_mk (st := s_l_pick) l9 c9 k9, b_l_pick := (fun_mk (st := s_l_pick) l9 c9 k9).binds (ps := ["_law_left_here", "_law_many"]) fun _ _ _ _ _ _ us hl => match us, hl with | [_, _], _ => rfl, g_l_pick := PySem.W.mg_of X G a9,
      f_l_part := f10, d_l_part := _, F_l_part := fun_mk (st := s_l_part) l10 c10 k10, b_l_part := (fun_mk (st := s_l_part) l10 c10 k10).binds (ps := ["_law_top", "_law_bottom"]) fun _ _ _ _ _ _ us hl => match us, hl with | [_, _], _ => rfl, g_l_part := PySem.W.mg_of X G a10,
      f_l_plus := f11, d_l_plus := _, F_l_plus := fun_mk (st := s_l_plus) l11 c11 k11, b_l_plus := (fun_mk (st := s_l_plus) l11 c11 k11).binds (ps := ["_law_one", "_law_other"]) fun _ _ _ _ _ _ us hl => match us, hl with | [_, _], _ => rfl, g_l_plus := PySem.W.mg_of X G a11,
      f_l_less := f12, d_l_less := _, F_l_less := fun_mk (st := s_l_less) l12 c12 k12, b_l_less := (fun_mk (st := s_l_less) l12 c12 k12).binds (ps := ["_law_one", "_law_other"]) fun _ _ _ _ _ _ us hl => match us, hl with | [_, _], _ => rfl, g_l_less := PySem.W.mg_of X G a12,
      f_l_spread := f13, d_l_spread := _, F_l_spread := fun_mk (st := s_l_spread) l13 c13 k13, b_l_spread := (fun_mk (st := s_l_spread) l13 c13 k13).binds (ps := ["_law_rows"]) fun _ _ _ _ _ _ us hl => match us, hl with | [_], _ => rfl, g_l_spread := PySem.W.mg_of X G a13,
      f_l_even_right := f14, d_l_even_right := _, F_l_even_right := fun_mk (st := s_l_even_right) l14 c14 k14, b_l_even_right := (fun_mk (st := s_l_even_right) l14 c14 k14).binds (ps := ["_law_left_here"]) fun _ _ _ _ _ _ us hl => match us, hl with | [_], _ => rfl, g_l_even_right := PySem.W.mg_of X G a14,
      f_l_heaps_right := f15, d_l_heaps_right := _, F_l_heaps_right := fun_mk (st := s_l_heaps_right) l15 c15 k15, b_l_heaps_right := (fun_mk (st := s_l_heaps_right) l15 c15 k15).binds (ps := ["_law_left_here"]) fun _ _ _ _ _ _ us hl => match us, hl with | [_], _ => rfl, g_l_heaps_right := PySem.W.mg_of X G a15,
      z_abs := PySem.W.mg_none_of X G z_abs,
      z_enumerate := PySem.W.mg_none_of X G z_enumerate,
      z_int := PySem.W.mg_none_of X G z_int,
      z_len := PySem.W.mg_none_of X G z_len,
      z_list := PySem.W.mg_none_of X G z_list,
      z_max := PySem.W.mg_none_of X G z_max,
      z_min := PySem.W.mg_none_of X G z_min,
      z_range := PySem.W.mg_none_of X G z_range,
      z_sum := PySem.W.mg_none_of X G z_sum,
      z_zip := PySem.W.mg_none_of X G z_zip } (fun_mk (st := s_law) l16 c16 k16) (by decide)⟩
end Z
open PySem PySem.W PyProof.Rows
set_option maxHeartbeats 0 in
theorem PySem.Challenge.cw_fewcolours_k56_lines_of_even_steps_holds : PySem.Challenge.rw_fewcolours_k56_lines_of_even_steps.Holds := by
  w_on; o_law; k_head; (case hw => w_witness2)
  k_fill
  refine L2.walk_of (l := PySem.Challenge.rw_fewcolours_k56_lines_of_even_steps) (n := 63) (k := 7) (x := "_law_script") (CX := fun _ => L2.CX0) (sp := fun w => Z.spLaw _) rfl (by decide) rfl ⟨rfl, by decide, by decide⟩ (fun w h Y => PySem.W.kIn_of Y) ?F (fun _ _ a ns hl _ hS => ⟨a, ns, rfl, hS, hl, fun _ => rfl⟩) (fun _ _ _ _ _ h => h)
  case F =>
    intro w mg fa h KX G hmg
    refine' Z.all_mk KX G hmg ?a0 ?l0 ?c0 ?k0 ?a1 ?l1 ?c1 ?k1 ?a2 ?l2 ?c2 ?k2 ?a3 ?l3 ?c3 ?k3 ?a4 ?l4 ?c4 ?k4 ?a5 ?l5 ?c5 ?k5 ?a6 ?l6 ?c6 ?k6 ?a7 ?l7 ?c7 ?k7 ?a8 ?l8 ?c8 ?k8 ?a9 ?l9 ?c9 ?k9 ?a10 ?l10 ?c10 ?k10 ?a11 ?l11 ?c11 ?k11 ?a12 ?l12 ?c12 ?k12 ?a13 ?l13 ?c13 ?k13 ?a14 ?l14 ?c14 ?k14 ?a15 ?l15 ?c15 ?k15 ?a16 ?l16 ?c16 ?k16 ?z_abs ?z_enumerate ?z_int ?z_len ?z_list ?z_max ?z_min ?z_range ?z_sum ?z_zip
    case a0 => k_is
    case l0 => k_is
    case c0 => k_is
    case k0 => k_is
    case a1 => k_is
    case l1 => k_is
    case c1 => k_is
    case k1 => k_is
    case a2 => k_is
    case l2 => k_is
    case c2 => k_is
    case k2 => k_is
    case a3 => k_is
    case l3 => k_is
    case c3 => k_is
    case k3 => k_is
    case a4 => k_is
    case l4 => k_is
    case c4 => k_is
    case k4 => k_is
    case a5 => k_is
    case l5 => k_is
    case c5 => k_is
    case k5 => k_is
    case a6 => k_is
    case l6 => k_is
    case c6 => k_is
    case k6 => k_is
    case a7 => k_is
    case l7 => k_is
    case c7 => k_is
    case k7 => k_is
    case a8 => k_is
    case l8 => k_is
    case c8 => k_is
    case k8 => k_is
    case a9 => k_is
    case l9 => k_is
    case c9 => k_is
    case k9 => k_is
    case a10 => k_is
    case l10 => k_is
    case c10 => k_is
    case k10 => k_is
    case a11 => k_is
    case l11 => k_is
    case c11 => k_is
    case k11 => k_is
    case a12 => k_is
    case l12 => k_is
    case c12 => k_is
    case k12 => k_is
    case a13 => k_is
    case l13 => k_is
    case c13 => k_is
    case k13 => k_is
    case a14 => k_is
    case l14 => k_is
    case c14 => k_is
    case k14 => k_is
    case a15 => k_is
    case l15 => k_is
    case c15 => k_is
    case k15 => k_is
    case a16 => k_is
    case l16 => k_is
    case c16 => k_is
    case k16 => k_is
    case z_abs => k_is
    case z_enumerate => k_is
    case z_int => k_is
    case z_len => k_is
    case z_list => k_is
    case z_max => k_is
    case z_min => k_is
    case z_range => k_is
    case z_sum => k_is
    case z_zip => k_is

