import PyProof.Rows.All
import Wide.All
import OpenK.AllK
import Wide.FinOn
import HandS.ForMost
import HandS.Zip
import HandS.IsInst
import HandS.TupAny
import HandS.SortRule
import HandS.Style
import HandS.Walk
import HandS.Evl
import KE.DataMinMax
import HandS.Wide
import HandS.DictTup
import HandS.Small
import KE.SortData
import HandS.TryOnly
import HandS.Dict
import HandS.Iter
import HandS.Deep
import KE.GoesEnum
import KE.GoesMore
import HandS.Conv
import HandS.Star
import KE.KDictZip
import PySem.Challenge.RW_fewcolours_k32_told_by_more_and_again
set_option Elab.async false
set_option linter.all false
set_option maxRecDepth 100000
namespace Z
open PySem PySem.Spec PyProof.Rows L2
/-! ### heaps but for some addresses -/
def Dom (H H' : Hp) : Prop := ∀ a, H a ≠ none → H' a ≠ none
structure Go (B : List Addr) (H H' : Hp) : Prop where
  k : ∀ a o, a ∉ B → H a = some o → H' a = some o
  d : Dom H H'
def Bk (B : List Addr) (H : Hp) : Prop := ∀ a ∈ B, H a ≠ none
section
variable {B C : List Addr} {H H' H1 H2 : Hp} {p L : Addr} {o : HO}
theorem dom_new : Dom H (upd H p o) := fun a h => by
  by_cases e : a = p
  · subst e
    rw [upd_same]
    exact fun z => nomatch z
  · rw [upd_ne e]
    exact h
theorem dom_mut (d : Dom H H') : Dom H (upd H' p o) := fun a h => dom_new a (d a h)
theorem Go.refl : Go B H H := ⟨fun _ _ _ h => h, fun _ h => h⟩
theorem Go.trans (a : Go B H H1) (b : Go B H1 H2) : Go B H H2 := ⟨fun c o n h => b.k c o n (a.k c o n h), fun c h => b.d c (a.d c h)⟩
theorem same_dom (s : Same H H') : Dom H H' := fun a h => by
  cases q : H a with
  | none => exact absurd q h
  | some o => rw [s a o q]; exact fun z => nomatch z
theorem Go.of (s : Same H H') : Go B H H' := ⟨fun a o _ h => s a o h, same_dom s⟩
theorem Go.new (h : H p = none) : Go B H (upd H p o) := ⟨fun a u _ e => by
  rw [upd_ne (ne_of_none e h)]
  exact e, dom_new⟩
theorem Go.mut (g : Go B H H') (h : H p = none) : Go B H (upd H' p o) := ⟨fun a u n e => by
  rw [upd_ne (ne_of_none e h)]
  exact g.k a u n e, dom_mut g.d⟩
theorem Go.at (g : Go B H H') (h : p ∈ B) : Go B H (upd H' p o) := ⟨fun a u n e => by
  rw [upd_ne (show a ≠ p from fun z => n (by rw [z]; exact h))]
  exact g.k a u n e, dom_mut g.d⟩
theorem Go.w (g : Go C H H') (s : ∀ a ∈ C, a ∈ B) : Go B H H' := ⟨fun a o n h => g.k a o (fun q => n (s a q)) h, g.d⟩
theorem Go.w1 (g : Go [L] H H') (s : L ∈ B) : Go B H H' := g.w fun a h => by rw [List.mem_singleton.mp h]; exact s
theorem Go.free (g : Go B H H') (h : H' p = none) : H p = none := by
  cases q : H p with
  | none => rfl
  | some o => exact absurd h (g.d p (by rw [q]; exact fun z => nomatch z))
theorem Bk.go (b : Bk B H) (g : Go C H H') : Bk B H' := fun a h => g.d a (b a h)
theorem Bk.ne (b : Bk B H) (h : H p = none) : p ∉ B := fun q => b p q h
theorem Bk.cons (b : Bk B H) (h : H p = some o) : Bk (p :: B) H := fun a q => by
  rcases List.mem_cons.mp q with e | e
  · subst e
    rw [h]
    exact fun z => nomatch z
  · exact b a e
theorem Bk.up (b : Bk B H) : Bk B (upd H p o) := fun a h => dom_new a (b a h)
theorem sm_new (h : H p = none) : Same H (upd H p o) := fun b x e => by
  rw [upd_ne (ne_of_none e h)]
  exact e
theorem sm_mut (s : Same H H') (h : H p = none) : Same H (upd H' p o) := fun b x e => by
  rw [upd_ne (ne_of_none e h)]
  exact s b x e
/-- what was new behind H, and is in B, may change -/
theorem Go.sm (g : Go B H1 H2) (s : Same H H1) (n : ∀ a ∈ B, H a = none) : Same H H2 := fun a o h => g.k a o (fun q => by rw [n a q] at h; cases h) (s a o h)
theorem Go.cons (g : Go (p :: B) H1 H2) (s : Go B H H1) (h : H p = none) : Go B H H2 := ⟨fun a o n e => g.k a o (fun q => by
  rcases List.mem_cons.mp q with z | z
  · rw [z, h] at e
    cases e
  · exact n z) (s.k a o n e), fun a e => g.d a (s.d a e)⟩
end
/-! ### the list that is drawn from -/
def Lf (L : Addr) (H : Hp) (n : Nat) : Prop := ∃ a b c : Int, H L = some (.lst [.int a, .int b, .int c]) ∧ 0 ≤ a ∧ 0 ≤ c ∧ c ≤ (n : Int)
section
variable {L p : Addr} {H H' : Hp} {n m : Nat} {o : HO} {B : List Addr}
theorem Lf.mono (h : Lf L H n) (l : n ≤ m) : Lf L H m := by
  obtain ⟨a, b, c, e, h1, h2, h3⟩ := h
  exact ⟨a, b, c, e, h1, h2, by omega⟩
theorem Lf.same (h : Lf L H n) (s : Same H H') : Lf L H' n := by
  obtain ⟨a, b, c, e, h1, h2, h3⟩ := h
  exact ⟨a, b, c, s _ _ e, h1, h2, h3⟩
theorem Lf.go (h : Lf L H n) (g : Go B H H') (i : L ∉ B) : Lf L H' n := by
  obtain ⟨a, b, c, e, h1, h2, h3⟩ := h
  exact ⟨a, b, c, g.k _ _ i e, h1, h2, h3⟩
theorem Lf.ne (h : Lf L H n) (e : H p = none) : p ≠ L := fun q => by
  obtain ⟨a, b, c, e', _⟩ := h
  rw [q, e'] at e
  cases e
theorem Lf.up (h : Lf L H n) (e : p ≠ L) : Lf L (upd H p o) n := by
  obtain ⟨a, b, c, e', h1, h2, h3⟩ := h
  refine ⟨a, b, c, ?_, h1, h2, h3⟩
  rw [upd_ne (Ne.symm e)]
  exact e'
theorem Lf.new (h : Lf L H n) (e : H p = none) : Lf L (upd H p o) n := h.up (h.ne e)
theorem Lf.bk (h : Lf L H n) : Bk [L] H := fun a q => by
  obtain ⟨_, _, _, e, _⟩ := h
  rw [List.mem_singleton.mp q, e]
  exact fun z => nomatch z
end
/-! ### data apart from some addresses -/
mutual
inductive Dt (B : List Addr) (H : Hp) : V → PyData → Prop
  | non : Dt B H .non .none
  | bl (b : Bool) : Dt B H (.bl b) (.bool b)
  | int (i : Int) : Dt B H (.int i) (.int i)
  | str (x : Str) : Dt B H (.str x) (.str x)
  | lst {a : Addr} {xs : List V} {ds : List PyData} : a ∉ B → H a = some (.lst xs) → DtA B H xs ds → Dt B H (.ref a) (.list ds)
  | tup {a : Addr} {xs : List V} {ds : List PyData} : a ∉ B → H a = some (.tup xs) → DtA B H xs ds → Dt B H (.ref a) (.tuple ds)
inductive DtA (B : List Addr) (H : Hp) : List V → List PyData → Prop
  | nil : DtA B H [] []
  | cons {v : V} {vs : List V} {d : PyData} {ds : List PyData} : Dt B H v d → DtA B H vs ds → DtA B H (v :: vs) (d :: ds)
end
section
variable {B C : List Addr} {H H' : Hp} {p L : Addr}
mutual
/-- the general way from one to another -/
theorem Dt.to (f : ∀ a o, a ∉ B → H a = some o → a ∉ C ∧ H' a = some o) : ∀ (d : PyData) (v : V), Dt B H v d → Dt C H' v d
  | .none, _, h => by cases h; exact .non
  | .bool b, _, h => by cases h; exact .bl b
  | .int i, _, h => by cases h; exact .int i
  | .str x, _, h => by cases h; exact .str x
  | .list ds, _, h => by
    cases h with
    | lst n hs ha => exact .lst (f _ _ n hs).1 (f _ _ n hs).2 (DtA.to f ds _ ha)
  | .tuple ds, _, h => by
    cases h with
    | tup n hs ha => exact .tup (f _ _ n hs).1 (f _ _ n hs).2 (DtA.to f ds _ ha)
  | .dict _, _, h => by cases h
theorem DtA.to (f : ∀ a o, a ∉ B → H a = some o → a ∉ C ∧ H' a = some o) : ∀ (ds : List PyData) (vs : List V), DtA B H vs ds → DtA C H' vs ds
  | [], _, h => by cases h; exact .nil
  | d :: ds, _, h => by
    cases h with
    | cons h1 h2 => exact .cons (Dt.to f d _ h1) (DtA.to f ds _ h2)
end
mutual
theorem Dt.dp {K : PySem.W.Frag} : ∀ (d : PyData) (v : V), Dt B H v d → Dp K H v d
  | .none, _, h => by cases h; exact .non
  | .bool b, _, h => by cases h; exact .bl b
  | .int i, _, h => by cases h; exact .int i
  | .str x, _, h => by cases h; exact .str x
  | .list ds, _, h => by
    cases h with
    | lst n hs ha => exact .lst (SqL.of hs) (DtA.dp ds _ ha)
  | .tuple ds, _, h => by
    cases h with
    | tup n hs ha => exact .tup (SqT.of hs) (DtA.dp ds _ ha)
  | .dict _, _, h => by cases h
theorem DtA.dp {K : PySem.W.Frag} : ∀ (ds : List PyData) (vs : List V), DtA B H vs ds → DpAll K H vs ds
  | [], _, h => by cases h; exact .nil
  | d :: ds, _, h => by
    cases h with
    | cons h1 h2 => exact .cons (Dt.dp d _ h1) (DtA.dp ds _ h2)
end
variable {d : PyData} {v : V} {ds : List PyData} {vs ws : List V}
theorem Dt.g (h : Dt B H v d) (g : Go B H H') : Dt B H' v d := Dt.to (fun a o n e => ⟨n, g.k a o n e⟩) d v h
theorem DtA.g (h : DtA B H vs ds) (g : Go B H H') : DtA B H' vs ds := DtA.to (fun a o n e => ⟨n, g.k a o n e⟩) ds vs h
theorem Dt.s (h : Dt B H v d) (s : Same H H') : Dt B H' v d := h.g (Go.of s)
theorem DtA.s (h : DtA B H vs ds) (s : Same H H') : DtA B H' vs ds := h.g (Go.of s)
/-- a new address may change, too -/
theorem Dt.fr (h : Dt B H v d) (e : H p = none) : Dt (p :: B) H v d := Dt.to (fun a o n q => ⟨fun z => by
  rcases List.mem_cons.mp z with y | y
  · rw [y, e] at q
    cases q
  · exact n y, q⟩) d v h
theorem DtA.fr (h : DtA B H vs ds) (e : H p = none) : DtA (p :: B) H vs ds := DtA.to (fun a o n q => ⟨fun z => by
  rcases List.mem_cons.mp z with y | y
  · rw [y, e] at q
    cases q
  · exact n y, q⟩) ds vs h
theorem Dt.un (h : Dt (p :: B) H v d) : Dt B H v d := Dt.to (fun a o n q => ⟨fun z => n (List.mem_cons_of_mem _ z), q⟩) d v h
theorem DtA.un (h : DtA (p :: B) H vs ds) : DtA B H vs ds := DtA.to (fun a o n q => ⟨fun z => n (List.mem_cons_of_mem _ z), q⟩) ds vs h
theorem Dt.sub (h : Dt B H v d) (s : ∀ a ∈ C, a ∈ B) : Dt C H v d := Dt.to (fun a o n q => ⟨fun z => n (s a z), q⟩) d v h
theorem DtA.sub (h : DtA B H vs ds) (s : ∀ a ∈ C, a ∈ B) : DtA C H vs ds := DtA.to (fun a o n q => ⟨fun z => n (s a z), q⟩) ds vs h
theorem Dt.dP {K : PySem.W.Frag} (h : Dt B H v d) : Dp K H v d := Dt.dp d v h
theorem DtA.len {vs : List V} : ∀ {ds : List PyData}, DtA B H vs ds → vs.length = ds.length := by
  induction vs with
  | nil => intro ds h; cases h; rfl
  | cons v vs ih => intro ds h; cases h with | cons h1 h2 => rw [List.length_cons, List.length_cons, ih h2]
theorem DtA.get {vs : List V} : ∀ {ds : List PyData} {i : Nat} {d : PyData}, DtA B H vs ds → ds[i]? = some d → ∃ v, vs[i]? = some v ∧ Dt B H v d := by
  induction vs with
  | nil => intro ds i d h e; cases h; simp at e
  | cons v vs ih =>
    intro ds i d h e
    cases h with
    | cons h1 h2 =>
      cases i with
      | zero => cases e; exact ⟨v, rfl, h1⟩
      | succ i => exact ih (i := i) h2 (by simpa using e)
theorem DtA.getV {vs : List V} : ∀ {ds : List PyData} {i : Nat} {v : V}, DtA B H vs ds → vs[i]? = some v → ∃ d, ds[i]? = some d ∧ Dt B H v d := by
  induction vs with
  | nil => intro ds i d h e; simp at e
  | cons v vs ih =>
    intro ds i d h e
    cases h with
    | cons h1 h2 =>
      cases i with
      | zero => cases e; exact ⟨_, rfl, h1⟩
      | succ i => exact ih (i := i) h2 (by simpa using e)
theorem DtA.app {vs ws : List V} : ∀ {ds es : List PyData}, DtA B H vs ds → DtA B H ws es → DtA B H (vs ++ ws) (ds ++ es) := by
  induction vs with
  | nil => intro ds es h h2; cases h; exact h2
  | cons v vs ih =>
    intro ds es h h2
    cases h with
    | cons h1 h3 => exact .cons h1 (ih h3 h2)
theorem DtA.one (h : Dt B H v d) : DtA B H [v] [d] := .cons h .nil
theorem DtA.ints : ∀ ns : List Int, DtA B H (ns.map V.int) (ns.map PyData.int)
  | [] => .nil
  | n :: ns => .cons (.int n) (DtA.ints ns)
theorem DtA.intsV : ∀ {ns : List Int} {vs : List V}, DtA B H vs (ns.map PyData.int) → vs = ns.map V.int
  | [], _, h => by cases h; rfl
  | n :: ns, _, h => by
    cases h with
    | cons h1 h2 =>
      cases h1
      rw [DtA.intsV h2]
      rfl
theorem DtA.blsV : ∀ {ns : List Bool} {vs : List V}, DtA B H vs (ns.map PyData.bool) → vs = ns.map V.bl
  | [], _, h => by cases h; rfl
  | n :: ns, _, h => by
    cases h with
    | cons h1 h2 =>
      cases h1
      rw [DtA.blsV h2]
      rfl
/-- a colour; a list of ints; a palette -/
def eC (ns : List Int) : PyData := .tuple (ns.map .int)
def eI (ns : List Int) : PyData := .list (ns.map .int)
def eP (cs : List (List Int)) : PyData := .list (cs.map eC)
theorem Dt.col {v : V} {ns : List Int} (h : Dt B H v (eC ns)) : ∃ a, v = .ref a ∧ a ∉ B ∧ H a = some (.tup (ns.map V.int)) := by
  cases h with
  | tup n hs ha =>
    have e := DtA.intsV ha
    subst e
    exact ⟨_, rfl, n, hs⟩
theorem Dt.ofCol {a : Addr} {ns : List Int} (n : a ∉ B) (h : H a = some (.tup (ns.map V.int))) : Dt B H (.ref a) (eC ns) := .tup n h (DtA.ints ns)
theorem Dt.ofInts {a : Addr} {ns : List Int} (n : a ∉ B) (h : H a = some (.lst (ns.map V.int))) : Dt B H (.ref a) (eI ns) := .lst n h (DtA.ints ns)
theorem Dt.ints {v : V} {ns : List Int} (h : Dt B H v (eI ns)) : ∃ a, v = .ref a ∧ a ∉ B ∧ H a = some (.lst (ns.map V.int)) := by
  cases h with
  | lst n hs ha =>
    have e := DtA.intsV ha
    subst e
    exact ⟨_, rfl, n, hs⟩
theorem Dt.tupI {v : V} {ds : List PyData} (h : Dt B H v (.tuple ds)) : ∃ a vs, v = .ref a ∧ a ∉ B ∧ H a = some (.tup vs) ∧ DtA B H vs ds := by
  cases h with
  | tup n hs ha => exact ⟨_, _, rfl, n, hs, ha⟩
theorem Dt.lstI {v : V} {ds : List PyData} (h : Dt B H v (.list ds)) : ∃ a vs, v = .ref a ∧ a ∉ B ∧ H a = some (.lst vs) ∧ DtA B H vs ds := by
  cases h with
  | lst n hs ha => exact ⟨_, _, rfl, n, hs, ha⟩
theorem Dt.pal {v : V} {cs : List (List Int)} (h : Dt B H v (eP cs)) : ∃ a vs, v = .ref a ∧ a ∉ B ∧ H a = some (.lst vs) ∧ DtA B H vs (cs.map eC) := Dt.lstI h
theorem Dt.intI {v : V} {i : Int} (h : Dt B H v (.int i)) : v = .int i := by
  cases h
  rfl
end
/-! ### the rules that speak of the written part, with it named -/
def rLenS (K : PySem.W.Frag) : List V → Hp → VK → Prop := fun xs H Q => ∃ p ys, xs = [.ref p] ∧ (SqL K H p ys ∨ SqT K H p ys) ∧ Q (.int ys.length) H
def rListOf (K : PySem.W.Frag) : List V → Hp → VK → Prop := fun xs H Q => ∃ p ys, xs = [.ref p] ∧ (SqL K H p ys ∨ SqT K H p ys) ∧ ∀ l, H l = none → Q (.ref l) (upd H l (.lst ys))
def rTupOf (K : PySem.W.Frag) : List V → Hp → VK → Prop := fun xs H Q => ∃ p ys, xs = [.ref p] ∧ ((SqL K H p ys ∧ ∀ l, H l = none → Q (.ref l) (upd H l (.tup ys))) ∨ (SqT K H p ys ∧ Q (.ref p) H))
section
variable (K : PySem.W.Frag) {X : Cx}
theorem ix_listK (h : X.K = K := by rfl) : IxR X (rIxL K) := h ▸ ix_list
theorem ix_tupK (h : X.K = K := by rfl) : IxR X (rIxT K) := h ▸ ix_tup
theorem sl_listK (h : X.K = K := by rfl) : SlR X (rSlL K) := h ▸ sl_list
theorem sl_tupAK (h : X.K = K := by rfl) : SlR X (rSlA K) := h ▸ sl_tupA
theorem op_catAK (h : X.K = K := by rfl) : OpR X (binaryOp .Add) (rCatA K) := h ▸ op_catA
theorem op_eqDK (hu : X.A.units + 64 < cLine) (h : X.K = K := by rfl) : OpR X (compareOp .Eq) (rEqD K) := h ▸ op_eqD hu
theorem op_neDK (hu : X.A.units + 64 < cLine) (h : X.K = K := by rfl) : OpR X (compareOp .NotEq) (rNeD K) := h ▸ op_neD hu
theorem len_K (h : X.K = K := by rfl) : CallR X (.builtin "len") (rLenS K) := h ▸ call_len_seq
theorem list_K (h : X.K = K := by rfl) : CallR X (.type "list") (rListOf K) := h ▸ call_list_of
theorem tuple_K (h : X.K = K := by rfl) : CallR X (.type "tuple") (rTupOf K) := h ▸ call_tuple_of
theorem cr_sumK (hc : X.calm = true) (h : X.K = K := by rfl) : CallR X (.builtin "sum") (rSum K) := h ▸ cr_sum hc
theorem cr_maxK (hc : X.calm = true) (h : X.K = K := by rfl) : CallR X (.builtin "max") (rMax K) := h ▸ cr_max hc
theorem cr_minK (hc : X.calm = true) (h : X.K = K := by rfl) : CallR X (.builtin "min") (rMin K) := h ▸ cr_min hc
theorem cr_anyK (hc : X.calm = true) (h : X.K = K := by rfl) : CallR X (.builtin "any") (rAny K) := h ▸ cr_any hc
theorem cr_allK (hc : X.calm = true) (h : X.K = K := by rfl) : CallR X (.builtin "all") (rAll K) := h ▸ cr_all hc
theorem call_isiK1 (h : X.K = K := by rfl) : CallR X (.builtin "isinstance") (rIsi K) := h ▸ call_isi
theorem call_isiTK (h : X.K = K := by rfl) : CallR X (.builtin "isinstance") (rIsiT K) := h ▸ call_isiT
theorem cr_sortedK (h : X.K = K := by rfl) : CallR X (.builtin "sorted") (rSortedPO K) := h ▸ cr_sortedPO
theorem mt_indexK (h : X.K = K := by rfl) : MtR X "list.index" (rIndex K) := h ▸ mt_index
theorem pi_listK {tg l : Expr} {tl : TE} (hl : PE X l tl) (h : X.K = K := by rfl) : PI X tg l (iList K tl) := h ▸ pi_list hl
theorem pg_tupK {pos : Pos} {es : List Expr} {kk : Nat} {t : TGs} {n : Nat} (hc : X.calm = true) (h : PGs X es t) (hn : (assignEach es X.env).length = n := by rfl) (hst : (assignEach es X.env).findIdx? (·.1) = none := by rfl) (h2 : X.K = K := by rfl) : PG X (.Tuple es kk pos) (gTup K n t) :=
  h2 ▸ pg_tup hc h hn hst
theorem pi_tupK {tg l : Expr} {tl : TE} (hl : PE X l tl) (h : X.K = K := by rfl) : PI X tg l (iTup K tl) := h ▸ pi_tup hl
end
/-! ### shapes -/
mutual
def wide : PyData → Bool
  | .none | .bool _ | .int _ | .str _ => true
  | .list xs | .tuple xs => decide (xs.length ≤ 100000) && wideAll xs
  | .dict _ => false
def wideAll : List PyData → Bool
  | [] => true
  | x :: xs => wide x && wideAll xs
end
def Sh (d : PyData) (k : Nat) : Prop := d.canLay0 = true ∧ d.depth ≤ k ∧ wide d = true
theorem sh_all : ∀ {ds : List PyData} {k : Nat}, (∀ d ∈ ds, Sh d k) → PyData.canLayAll0 ds = true ∧ PyData.depthAll ds ≤ k ∧ wideAll ds = true
  | [], _, _ => ⟨rfl, Nat.zero_le _, by rw [wideAll]⟩
  | d :: ds, k, h => by
    obtain ⟨h1, h2, h4⟩ := sh_all (ds := ds) (k := k) fun x hx => h x (List.mem_cons_of_mem _ hx)
    have h3 := h d (List.mem_cons_self ..)
    refine ⟨?_, ?_, ?_⟩
    · rw [PyData.canLayAll0, h1, h3.1]; rfl
    · rw [PyData.depthAll]
      exact Nat.max_le.mpr ⟨h3.2.1, h2⟩
    · rw [wideAll, h4, h3.2.2]; rfl
theorem sh_mem : ∀ {ds : List PyData} {k : Nat}, PyData.canLayAll0 ds = true → PyData.depthAll ds ≤ k → wideAll ds = true → ∀ d ∈ ds, Sh d k
  | [], _, _, _, _, _, h => nomatch h
  | d :: ds, k, h1, h2, h3, x, hx => by
    rw [PyData.canLayAll0] at h1
    rw [PyData.depthAll] at h2
    rw [wideAll] at h3
    have a := Bool.and_eq_true_iff.mp h1
    have b := Nat.max_le.mp h2
    have c := Bool.and_eq_true_iff.mp h3
    rcases List.mem_cons.mp hx with e | e
    · rw [e]; exact ⟨a.1, b.1, c.1⟩
    · exact sh_mem a.2 b.2 c.2 x e
theorem sh_tup {ds : List PyData} {k : Nat} (l : ds.length ≤ 100000) (h : ∀ d ∈ ds, Sh d k) : Sh (.tuple ds) (k + 1) := by
  obtain ⟨h1, h2, h3⟩ := sh_all h
  exact ⟨by rw [PyData.canLay0]; exact h1, by rw [PyData.depth]; omega, by rw [wide, h3, decide_eq_true l]; rfl⟩
theorem sh_lst {ds : List PyData} {k : Nat} (l : ds.length ≤ 100000) (h : ∀ d ∈ ds, Sh d k) : Sh (.list ds) (k + 1) := by
  obtain ⟨h1, h2, h3⟩ := sh_all h
  exact ⟨by rw [PyData.canLay0]; exact h1, by rw [PyData.depth]; omega, by rw [wide, h3, decide_eq_true l]; rfl⟩
theorem sh_int (i : Int) (k : Nat) : Sh (.int i) k := ⟨rfl, by rw [PyData.depth]; omega, by rw [wide]⟩
theorem sh_bool (i : Bool) (k : Nat) : Sh (.bool i) k := ⟨rfl, by rw [PyData.depth]; omega, by rw [wide]⟩
theorem sh_none (k : Nat) : Sh .none k := ⟨rfl, by rw [PyData.depth]; omega, by rw [wide]⟩
theorem sh_eC {ns : List Int} (l : ns.length ≤ 100000) : Sh (eC ns) 1 := sh_tup (by simpa using l) fun d hd => by
  obtain ⟨n, _, rfl⟩ := List.mem_map.mp hd
  exact sh_int n 0
theorem sh_eI {ns : List Int} (l : ns.length ≤ 100000) : Sh (eI ns) 1 := sh_lst (by simpa using l) fun d hd => by
  obtain ⟨n, _, rfl⟩ := List.mem_map.mp hd
  exact sh_int n 0
theorem sh_eP {cs : List (List Int)} (l : cs.length ≤ 100000) (h : ∀ c ∈ cs, c.length ≤ 100000) : Sh (eP cs) 2 := sh_lst (by simpa using l) fun d hd => by
  obtain ⟨n, m, rfl⟩ := List.mem_map.mp hd
  exact sh_eC (h n m)
theorem Sh.mono {d : PyData} {j k : Nat} (h : Sh d j) (l : j ≤ k) : Sh d k := ⟨h.1, Nat.le_trans h.2.1 l, h.2.2⟩
theorem Sh.sh {d : PyData} {k : Nat} (h : Sh d k) (l : k ≤ 64) : SeqAt.shaped d = true := by
  unfold SeqAt.shaped
  rw [h.1, decide_eq_true (Nat.le_trans h.2.1 l)]
  rfl
theorem Sh.tupI {ds : List PyData} {k : Nat} (h : Sh (.tuple ds) k) : ∃ j, k = j + 1 ∧ (∀ d ∈ ds, Sh d j) ∧ ds.length ≤ 100000 := by
  obtain ⟨h1, h2, h3⟩ := h
  rw [PyData.canLay0] at h1
  rw [PyData.depth] at h2
  rw [wide] at h3
  have c := Bool.and_eq_true_iff.mp h3
  exact ⟨k - 1, by omega, sh_mem h1 (by omega) c.2, of_decide_eq_true c.1⟩
theorem Sh.lstI {ds : List PyData} {k : Nat} (h : Sh (.list ds) k) : ∃ j, k = j + 1 ∧ (∀ d ∈ ds, Sh d j) ∧ ds.length ≤ 100000 := by
  obtain ⟨h1, h2, h3⟩ := h
  rw [PyData.canLay0] at h1
  rw [PyData.depth] at h2
  rw [wide] at h3
  have c := Bool.and_eq_true_iff.mp h3
  exact ⟨k - 1, by omega, sh_mem h1 (by omega) c.2, of_decide_eq_true c.1⟩
/-! ### isinstance -/
def tyn : PyData → String
  | .none => "NoneType" | .bool _ => "bool" | .int _ => "int" | .str _ => "str" | .list _ => "list" | .tuple _ => "tuple" | .dict _ => "dict"
theorem Dt.ty {K : PySem.W.Frag} {B : List Addr} {H : Hp} {v : V} {d : PyData} (h : Dt B H v d) : TyX K H v (.type (tyn d)) := by
  cases h with
  | non => exact .base .non
  | bl b => exact .base (.bl b)
  | int i => exact .base (.int i)
  | str x => exact .base (.str x)
  | lst n hs ha => exact .base (.lst hs)
  | tup n hs ha => exact .base (.tup hs)
theorem r_isi {K : PySem.W.Frag} {H : Hp} {Q : VK} {x : V} {t n : String} {b : Bool} (h : TyX K H x (.type t)) (e : kitB t n = some b) (q : Q (.bl b) H) : rIsi K [x, .ty n] H Q := ⟨x, .ty n, _, _, b, rfl, .ty n, h, kit_ty e, q⟩
theorem iteD {c A B : Prop} [Decidable c] (hc : c) (h : A) : if decide c = true then A else B := by
  rw [if_pos (decide_eq_true hc)]
  exact h
theorem iteE {A B : Prop} {c : Bool} (hc : c = true) (h : A) : if c = true then A else B := by
  rw [if_pos hc]
  exact h
theorem iteN {A B : Prop} {c : Bool} (hc : c = false) (h : B) : if c = true then A else B := by
  rw [hc, if_neg Bool.false_ne_true]
  exact h
/-! ### comprehensions -/
theorem lc_yes {te : TE} {σ : L2.St} {H : Hp} {Qy : VK} {N : Hp → Prop} (h : te σ H Qy) : tYes σ H (fun b H3 => if b = true then te σ H3 Qy else N H3) := by
  show if true = true then te σ H Qy else N H
  rw [if_pos rfl]
  exact h
theorem walk_zipT {K : PySem.W.Frag} {a b : Addr} {xs ys : List V} {n : Nat} (hn : n = min xs.length ys.length) : Walk (RZ.ItzT K a b) n (fun H => SqT K H a xs ∧ SqT K H b ys) (YPair (fun i => xs[i]?) (fun i => ys[i]?)) := by
  subst hn
  refine ⟨fun i _ hi q => ?_, fun _ q => ⟨xs, ys, q.1, q.2, by omega⟩, fun i H v H' _ q y => ?_⟩
  · have h1 : i < xs.length := by omega
    have h2 : i < ys.length := by omega
    exact ⟨xs, ys, xs[i], ys[i], q.1, q.2, by simp [h1], by simp [h2]⟩
  · obtain ⟨T, x, z, h1, h2, h3, h4, h5⟩ := y
    exact ⟨T, x, z, h1, h2, h3, h4 xs q.1, h5 ys q.2⟩
theorem sz {n : Nat} (h : n ≤ 100000) : n < sizeLine := Nat.lt_of_le_of_lt h (by decide)
/-- a comprehension that leaves all as it was: what it makes, item by item -/
theorem lc_pure {J : It} {n : Nat} {G : Hp → Prop} {Y : Nat → Hp → V → Hp → Prop} (w : Walk J n G Y) {g : TG} {tt : TT} {te : TE} {vs : List Nat} {σ : L2.St} {H1 : Hp} {D : Addr} {Qd : Hp → Prop} {B : List Addr}
    (hD : H1 D = none) (hB : Bk B H1) (hG : ∀ H', Same H1 H' → G H') (hn : n ≤ 100000) (e : Nat → Option PyData)
    (hs : ∀ (i : Nat) (x : V) (H' H'' : Hp) (Ny : V → Hp → Prop) (Nn : Hp → Prop), i < n → Same H1 H' → Bk (D :: B) H' → Y i H' x H'' → (∀ y H4 d, e i = some d → Same H' H4 → Dt (D :: B) H4 y d → Ny y H4) → (∀ H3, e i = none → Same H' H3 → Nn H3) →
      g x (wipe σ vs) H'' fun σ2 H2 => wipe σ2 vs = wipe σ vs ∧ tt σ2 H2 fun b H3 => if b = true then te σ2 H3 Ny else Nn H3)
    (hd : ∀ (H' : Hp) (ws : List V), Same H1 H' → H' D = some (.lst ws) → DtA (D :: B) H' ws ((List.range n).filterMap e) → Qd H') :
    ∃ W : Nat → Nat → Hp → Prop, (∃ m, W 0 m (upd H1 D (.lst []))) ∧ ∀ i m H, W i m H →
      (J.stop i H ∧ Qd H) ∨ (J.go i H ∧ ∃ Nx : Hp → Prop, (∀ H', Nx H' → ∃ m', m' < m ∧ W (i + 1) m' H') ∧ ∀ x H', J.yld i H x H' → g x (wipe σ vs) H' fun σ2 H2 => wipe σ2 vs = wipe σ vs ∧ tt σ2 H2 fun b H3 =>
        if b = true then te σ2 H3 fun y H4 => ∃ acc, H4 D = some (.lst acc) ∧ acc.length < sizeLine ∧ Nx (upd H4 D (.lst (acc ++ [y]))) else Nx H3) := by
  refine lc_it w (fun i H' => Same H1 H' ∧ ∃ ws, H' D = some (.lst ws) ∧ DtA (D :: B) H' ws ((List.range i).filterMap e) ∧ ws.length ≤ i) ⟨sm_new hD, [], upd_same, .nil, Nat.le_refl _⟩ (fun i H' _ h => hG H' h.1) (fun i x H' H'' hi h y => ?_) (fun H' h => ?_)
  · obtain ⟨s1, ws, eD, hA, hl⟩ := h
    have hb : Bk (D :: B) H' := (hB.go (Go.of (B := B) s1)).cons eD
    refine hs i x H' H'' _ _ hi s1 hb y (fun y H4 d ed s4 hy => ?_) (fun H3 ed s3 => ?_)
    · refine ⟨ws, s4 _ _ eD, sz (by omega), sm_mut (s1.trans s4) hD, ws ++ [y], upd_same, ?_, by simp; omega⟩
      rw [List.range_succ, List.filterMap_append]
      have g4 : Go (D :: B) H4 (upd H4 D (.lst (ws ++ [y]))) := Go.refl.at (List.mem_cons_self ..)
      refine DtA.app ((hA.s s4).g g4) ?_
      simp only [List.filterMap_cons, List.filterMap_nil, ed]
      exact .one (hy.g g4)
    · refine ⟨s1.trans s3, ws, s3 _ _ eD, ?_, by omega⟩
      rw [List.range_succ, List.filterMap_append]
      simp only [List.filterMap_cons, List.filterMap_nil, ed, List.append_nil]
      exact hA.s s3
  · obtain ⟨s1, ws, eD, hA, hl⟩ := h
    exact hd H' ws s1 eD hA
theorem fm_take {α : Type} (ys : List α) : ∀ n, (List.range n).filterMap (fun i => ys[i]?) = ys.take n
  | 0 => by simp
  | n + 1 => by
    rw [List.range_succ, List.filterMap_append, fm_take ys n, List.take_add_one]
    cases h : ys[n]? <;> simp [h]
theorem fm_all {α : Type} {ys : List α} {n : Nat} (h : ys.length = n) : (List.range n).filterMap (fun i => ys[i]?) = ys := by
  rw [fm_take, ← h, List.take_length]
theorem at0 {α : Type} {xs : List α} {i : Int} {v : α} (h : 0 ≤ i) (e : xs[i.toNat]? = some v) : atI xs i = some v := by
  have := atI_nat e
  rw [Int.toNat_of_nonneg h] at this
  exact this
theorem bit_ok (b : Bool) : (-(2 ^ 64) : Int) < (if b = true then 1 else 0) ∧ (if b = true then 1 else 0 : Int) < 2 ^ 64 := by cases b <;> decide
theorem md {j : Int} (h : 0 < j) : 0 < j := h
theorem at_in {xs : List V} {r : Int} (h0 : 0 ≤ r) (h1 : r < xs.length) : ∃ v, v ∈ xs ∧ atI xs r = some v := by
  have h : r.toNat < xs.length := by omega
  exact ⟨xs[r.toNat], List.getElem_mem h, at0 h0 (List.getElem?_eq_getElem h)⟩
theorem at_int {ns : List Int} {r : Int} (h0 : 0 ≤ r) (h1 : r < ns.length) : ∃ z, z ∈ ns ∧ atI (ns.map V.int) r = some (.int z) := by
  have h : r.toNat < ns.length := by omega
  exact ⟨ns[r.toNat], List.getElem_mem h, at0 h0 (by rw [List.getElem?_map, List.getElem?_eq_getElem h]; rfl)⟩
theorem at2 (x y : V) (b : Bool) : atI [x, y] (if b = true then 1 else 0) = some (if b = true then y else x) := by cases b <;> rfl
/-- numbers within bounds -/
def cIn (lo hi : Int) (ns : List Int) : Prop := ∀ x ∈ ns, lo ≤ x ∧ x ≤ hi
theorem cIn.app {lo hi x : Int} {ns : List Int} (h : cIn lo hi ns) (h1 : lo ≤ x) (h2 : x ≤ hi) : cIn lo hi (ns ++ [x]) := fun y hy => by
  rcases List.mem_append.mp hy with q | q
  · exact h y q
  · rw [List.mem_singleton.mp q]
    exact ⟨h1, h2⟩
theorem cIn.nil {lo hi : Int} : cIn lo hi [] := fun _ h => nomatch h
theorem cIn.mono {lo hi lo' hi' : Int} {ns : List Int} (h : cIn lo hi ns) (h1 : lo' ≤ lo) (h2 : hi ≤ hi') : cIn lo' hi' ns := fun x hx => by
  have := h x hx
  omega
/-- a comprehension of drawn numbers -/
theorem lc_ints {J : It} {n : Nat} {G : Hp → Prop} {Y : Nat → Hp → V → Hp → Prop} (w : Walk J n G Y) {g : TG} {tt : TT} {te : TE} {vs : List Nat} {σ : L2.St} {H1 : Hp} {D L : Addr} {Qd : Hp → Prop} (N u : Nat) (lo hi : Int)
    (hD : H1 D = none) (hL : Lf L H1 N) (hG : ∀ H', Go [L] H1 H' → G H') (hn : n ≤ 100000)
    (hs : ∀ (i : Nat) (x : V) (H' H'' : Hp) (Ny : V → Hp → Prop) (Nn : Hp → Prop), i < n → Go [L] H1 H' → Lf L H' (N + u * i) → Y i H' x H'' → (∀ (z : Int) H4, Go [L] H' H4 → Lf L H4 (N + u * i + u) → lo ≤ z → z ≤ hi → Ny (.int z) H4) →
      g x (wipe σ vs) H'' fun σ2 H2 => wipe σ2 vs = wipe σ vs ∧ tt σ2 H2 fun b H3 => if b = true then te σ2 H3 Ny else Nn H3)
    (hd : ∀ (H' : Hp) (ns : List Int), Go [L] H1 H' → Lf L H' (N + u * n) → H' D = some (.lst (ns.map V.int)) → ns.length = n → cIn lo hi ns → Qd H') :
    ∃ W : Nat → Nat → Hp → Prop, (∃ m, W 0 m (upd H1 D (.lst []))) ∧ ∀ i m H, W i m H →
      (J.stop i H ∧ Qd H) ∨ (J.go i H ∧ ∃ Nx : Hp → Prop, (∀ H', Nx H' → ∃ m', m' < m ∧ W (i + 1) m' H') ∧ ∀ x H', J.yld i H x H' → g x (wipe σ vs) H' fun σ2 H2 => wipe σ2 vs = wipe σ vs ∧ tt σ2 H2 fun b H3 =>
        if b = true then te σ2 H3 fun y H4 => ∃ acc, H4 D = some (.lst acc) ∧ acc.length < sizeLine ∧ Nx (upd H4 D (.lst (acc ++ [y]))) else Nx H3) := by
  have nD : D ∉ [L] := hL.bk.ne hD
  refine lc_it w (fun i H' => Go [L] H1 H' ∧ Lf L H' (N + u * i) ∧ ∃ ns : List Int, H' D = some (.lst (ns.map V.int)) ∧ ns.length = i ∧ cIn lo hi ns) ⟨Go.new hD, hL.new hD, [], upd_same, rfl, cIn.nil⟩ (fun i H' _ h => hG H' h.1) (fun i x H' H'' hi h y => ?_) (fun H' h => ?_)
  · obtain ⟨g1, l1, ns, eD, en, cn⟩ := h
    refine hs i x H' H'' _ _ hi g1 l1 y (fun z H4 g4 l4 z0 z1 => ?_)
    refine ⟨ns.map V.int, g4.k D _ nD eD, sz (by rw [List.length_map]; omega), (g1.trans g4).mut hD, (l4.up (hL.ne hD)).mono (by rw [Nat.mul_succ]; omega), ns ++ [z], ?_, by simp; omega, cn.app z0 z1⟩
    rw [upd_same, List.map_append]
    rfl
  · obtain ⟨g1, l1, ns, eD, en, cn⟩ := h
    exact hd H' ns g1 l1 eD en cn
theorem mat {a : List Int} {i : Nat} {x : V} (h : i < a.length) (e : (a.map V.int)[i]? = some x) : x = .int a[i] := by
  rw [List.getElem?_map, List.getElem?_eq_getElem h] at e
  exact (Option.some.inj e).symm
end Z

set_option Elab.async false
set_option linter.all false
set_option maxRecDepth 100000
namespace Z
open PySem PySem.Spec PyProof.Rows L2
open PySem.W (dataLt minD alike alikeAll dataLt_tuple dataLt_all_yes dataLt_all_no dataLt_int min_list_data readsAll_at reads_keeps AlikeAll)
/-! ### the least of pairs -/
def enc (p : Int × Int) : PyData := eC [p.1, p.2]
theorem enc_inj {p q : Int × Int} (h : enc p = enc q) : p = q := by
  have h1 : [PyData.int p.1, PyData.int p.2] = [PyData.int q.1, PyData.int q.2] := by
    unfold enc eC at h
    exact PyData.tuple.inj h
  have h2 := (List.cons.inj h1)
  have h3 := (List.cons.inj h2.2)
  exact Prod.ext (PyData.int.inj h2.1) (PyData.int.inj h3.1)
theorem lt_enc (p q : Int × Int) : dataLt (enc p) (enc q) = SrtO.lexB p q := by
  unfold enc eC
  rw [dataLt_tuple]
  simp only [List.map_cons, List.map_nil]
  unfold SrtO.lexB
  by_cases h : p.1 = q.1
  · rw [if_pos h, dataLt_all_yes (by rfl) (by simp [PyData.eqv, h])]
    by_cases h2 : p.2 = q.2
    · rw [dataLt_all_yes (by rfl) (by simp [PyData.eqv, h2]), decide_eq_false (by omega)]
      rfl
    · rw [dataLt_all_no (by rfl) (by simp [PyData.eqv, h2]), dataLt_int]
  · rw [if_neg h, dataLt_all_no (by rfl) (by simp [PyData.eqv, h]), dataLt_int]
def minP (p : Int × Int) (ps : List (Int × Int)) : Int × Int := ps.foldl (fun a y => if SrtO.lexB y a then y else a) p
theorem minD_enc (p : Int × Int) (ps : List (Int × Int)) : minD (enc p) (ps.map enc) = enc (minP p ps) := by
  unfold minD minP
  induction ps generalizing p with
  | nil => rfl
  | cons x r ih =>
    rw [List.map_cons, List.foldl_cons, List.foldl_cons, lt_enc]
    by_cases h : SrtO.lexB x p = true
    · rw [if_pos h, if_pos h]; exact ih x
    · rw [if_neg h, if_neg h]; exact ih p
theorem minP_le (p : Int × Int) (ps : List (Int × Int)) : ∀ q ∈ p :: ps, SrtO.lexB q (minP p ps) = false := by
  unfold minP
  induction ps generalizing p with
  | nil =>
    intro q hq
    rw [List.mem_singleton.mp hq]
    exact SrtO.lexB_no.mpr (by simp only [List.foldl_nil]; omega)
  | cons x r ih =>
    intro q hq
    rw [List.foldl_cons]
    by_cases h : SrtO.lexB x p = true
    · rw [if_pos h]
      rcases List.mem_cons.mp hq with e | e
      · have i1 := SrtO.lexB_no.mp (ih x x (List.mem_cons_self ..))
        have i2 := SrtO.lexB_iff.mp h
        rw [e]
        exact SrtO.lexB_no.mpr (by omega)
      · exact ih x q e
    · rw [if_neg h]
      rcases List.mem_cons.mp hq with e | e
      · exact ih p q (by rw [e]; exact List.mem_cons_self ..)
      · rcases List.mem_cons.mp e with e | e
        · have i1 := SrtO.lexB_no.mp (ih p p (List.mem_cons_self ..))
          have i2 := SrtO.lexB_no.mp (Bool.eq_false_iff.mpr h)
          rw [e]
          exact SrtO.lexB_no.mpr (by omega)
        · exact ih p q (List.mem_cons_of_mem _ e)
theorem alike_enc (p q : Int × Int) : alike (enc p) (enc q) = true := by
  unfold enc eC
  simp [alike, alikeAll]
theorem dep_enc : ∀ ps : List (Int × Int), PyData.depthAll (ps.map enc) ≤ 1
  | [] => Nat.zero_le _
  | p :: ps => by
    rw [List.map_cons, PyData.depthAll]
    exact Nat.max_le.mpr ⟨(sh_eC (ns := [p.1, p.2]) (by simp)).2.1, dep_enc ps⟩
/-- min(xs), xs a list of pairs of ints: one of the least -/
def rMinP (K : PySem.W.Frag) : List V → Hp → VK → Prop := fun vs H Q => ∃ (a : Addr) (xs : List V) (p : Int × Int) (ps : List (Int × Int)), vs = [V.ref a] ∧ SqL K H a xs ∧ DpAll K H xs ((p :: ps).map enc) ∧
  ∀ (i : Nat) (x : V), xs[i]? = some x → (p :: ps)[i]? = some (minP p ps) → Q x H
theorem cr_minP (K : PySem.W.Frag) {X : Cx} (hc : X.calm = true) (hu : X.A.units + 64 < cLine) (hK : X.K = K := by rfl) : CallR X (.builtin "min") (rMinP K) := by
  subst hK
  intro pins s σ H vs us Q I r h
  obtain ⟨a, xs, p, ps, rfl, hs, hd, q⟩ := h
  obtain ⟨its, rv, hl, hz⟩ := I.list hs
  obtain ⟨u, rfl, ru⟩ := vals1 r
  obtain rfl : u = Value.ref a := ru
  obtain ⟨as, hr⟩ := Dp.readsAll I _ xs its hd rv
  rw [List.map_cons] at hr
  have hdep := dep_enc (p :: ps)
  rw [List.map_cons] at hdep
  refine min_list_data (x := enc p) (xs := ps.map enc) (I.ok.hd hc) hl.isList (by simpa using hr) ⟨fun x hx y hy => ?_, fun x hx => ?_⟩ (by omega) fun i v h' tk bs hv rd hk => ?_
  · rw [← List.map_cons] at hx hy
    obtain ⟨x, _, rfl⟩ := List.mem_map.mp hx
    obtain ⟨y, _, rfl⟩ := List.mem_map.mp hy
    exact alike_enc x y
  · rw [← List.map_cons] at hx
    obtain ⟨x, _, rfl⟩ := List.mem_map.mp hx
    intro z
    unfold enc eC at z
    cases z
  · have hv2 : its[i]? = some v := by simpa using hv
    have hi : i < its.length := (List.getElem?_eq_some_iff.mp hv2).1
    have hi2 : i < xs.length := by rw [rv.length]; exact hi
    obtain ⟨w, hw, rw1⟩ := rv.get (List.getElem?_eq_getElem hi2)
    have ew : w = v := Option.some.inj (hw.symm.trans hv2)
    subst ew
    obtain ⟨cs, r1, l1, m1, _⟩ := readsAll_at hr i w hv2
    rw [← List.map_cons] at l1 m1 r1
    rw [List.length_map] at l1
    have eg : ((p :: ps).map enc).getD i .none = enc (p :: ps)[i] := by
      rw [List.getD_eq_getElem?_getD, List.getElem?_map, List.getElem?_eq_getElem l1]
      rfl
    rw [eg] at r1
    rw [minD_enc] at rd
    have ee := SeqAt.Reads.unique _ _ _ _ _ (sh_eC (ns := [((p :: ps)[i]).1, ((p :: ps)[i]).2]) (by simp)).1 (reads_keeps hk r1) rd
    have ep : (p :: ps)[i] = minP p ps := enc_inj ee
    exact ⟨xs[i], H, I.kept (t' := tk) hk, rw1, q i _ (List.getElem?_eq_getElem hi2) (by rw [List.getElem?_eq_getElem l1, ep])⟩
theorem DtA.rev {B : List Addr} {H : Hp} : ∀ {vs : List V} {ds : List PyData}, DtA B H vs ds → DtA B H vs.reverse ds.reverse
  | [], _, h => by
    cases h
    exact .nil
  | v :: vs, _, h => by
    cases h with
    | cons h1 h2 =>
      rw [List.reverse_cons, List.reverse_cons]
      exact (DtA.rev h2).app (.one h1)
theorem DtA.dP {K : PySem.W.Frag} {B : List Addr} {H : Hp} {vs : List V} {ds : List PyData} (h : DtA B H vs ds) : DpAll K H vs ds := DtA.dp ds vs h
/-- a comprehension of drawn data -/
theorem lc_dtsB {J : It} {n : Nat} {G : Hp → Prop} {Y : Nat → Hp → V → Hp → Prop} (w : Walk J n G Y) {g : TG} {tt : TT} {te : TE} {vs : List Nat} {σ : L2.St} {H1 : Hp} {D L : Addr} {B : List Addr} {Qd : Hp → Prop} (N u : Nat) (Pd : PyData → Prop)
    (hD : H1 D = none) (hL : Lf L H1 N) (LB : L ∈ B) (hB : Bk B H1) (hG : ∀ H', Go [L] H1 H' → G H') (hn : n ≤ 100000)
    (hs : ∀ (i : Nat) (x : V) (H' H'' : Hp) (Ny : V → Hp → Prop) (Nn : Hp → Prop), i < n → Go [L] H1 H' → Lf L H' (N + u * i) → Bk (D :: B) H' → Y i H' x H'' → (∀ (v : V) (d : PyData) H4, Go [L] H' H4 → Lf L H4 (N + u * i + u) → Dt (D :: B) H4 v d → Pd d → Ny v H4) →
      g x (wipe σ vs) H'' fun σ2 H2 => wipe σ2 vs = wipe σ vs ∧ tt σ2 H2 fun b H3 => if b = true then te σ2 H3 Ny else Nn H3)
    (hd : ∀ (H' : Hp) (ws : List V) (ds : List PyData), Go [L] H1 H' → Lf L H' (N + u * n) → H' D = some (.lst ws) → DtA (D :: B) H' ws ds → ds.length = n → (∀ d ∈ ds, Pd d) → Qd H') :
    ∃ W : Nat → Nat → Hp → Prop, (∃ m, W 0 m (upd H1 D (.lst []))) ∧ ∀ i m H, W i m H →
      (J.stop i H ∧ Qd H) ∨ (J.go i H ∧ ∃ Nx : Hp → Prop, (∀ H', Nx H' → ∃ m', m' < m ∧ W (i + 1) m' H') ∧ ∀ x H', J.yld i H x H' → g x (wipe σ vs) H' fun σ2 H2 => wipe σ2 vs = wipe σ vs ∧ tt σ2 H2 fun b H3 =>
        if b = true then te σ2 H3 fun y H4 => ∃ acc, H4 D = some (.lst acc) ∧ acc.length < sizeLine ∧ Nx (upd H4 D (.lst (acc ++ [y]))) else Nx H3) := by
  have nD : D ∉ [L] := hL.bk.ne hD
  refine lc_it w (fun i H' => Go [L] H1 H' ∧ Lf L H' (N + u * i) ∧ ∃ ws ds, H' D = some (.lst ws) ∧ DtA (D :: B) H' ws ds ∧ ds.length = i ∧ ∀ d ∈ ds, Pd d) ⟨Go.new hD, hL.new hD, [], [], upd_same, .nil, rfl, fun _ h => (nomatch h)⟩ (fun i H' _ h => hG H' h.1) (fun i x H' H'' hi h y => ?_) (fun H' h => ?_)
  · obtain ⟨g1, l1, ws, ds, eD, hA, en, hp⟩ := h
    refine hs i x H' H'' _ _ hi g1 l1 ((hB.go g1).cons eD) y (fun z d H4 g4 l4 dz pd => ?_)
    have gm : Go (D :: B) H4 (upd H4 D (.lst (ws ++ [z]))) := Go.refl.at (List.mem_cons_self ..)
    have lw := hA.len
    refine ⟨ws, g4.k D _ nD eD, sz (by omega), (g1.trans g4).mut hD, (l4.up (hL.ne hD)).mono (by rw [Nat.mul_succ]; omega), ws ++ [z], ds ++ [d], upd_same, ((hA.g (g4.w1 (List.mem_cons_of_mem _ LB))).g gm).app (.one (dz.g gm)), by simp; omega, fun e he => ?_⟩
    rcases List.mem_append.mp he with he | he
    · exact hp e he
    · rw [List.mem_singleton.mp he]
      exact pd
  · obtain ⟨g1, l1, ws, ds, eD, hA, en, hp⟩ := h
    exact hd H' ws ds g1 l1 eD hA en hp
/-- a part of a list -/
def cutL {α : Type} (xs : List α) (lo hi : Option Int) : List α := (xs.drop (HT.sIx xs.length 0 lo)).take (HT.sIx xs.length xs.length hi - HT.sIx xs.length 0 lo)
theorem cutL_sub {α : Type} {xs : List α} {lo hi : Option Int} {x : α} (h : x ∈ cutL xs lo hi) : x ∈ xs := List.mem_of_mem_drop (List.mem_of_mem_take h)
theorem cutL_len {α : Type} (xs : List α) (lo hi : Option Int) : (cutL xs lo hi).length ≤ xs.length := by
  unfold cutL
  rw [List.length_take, List.length_drop]
  omega
theorem DtA.drop {B : List Addr} {H : Hp} : ∀ (n : Nat) {vs : List V} {ds : List PyData}, DtA B H vs ds → DtA B H (vs.drop n) (ds.drop n)
  | 0, _, _, h => h
  | n + 1, [], _, h => by cases h; exact .nil
  | n + 1, v :: vs, _, h => by
    cases h with
    | cons h1 h2 => exact DtA.drop n h2
theorem DtA.take {B : List Addr} {H : Hp} : ∀ (n : Nat) {vs : List V} {ds : List PyData}, DtA B H vs ds → DtA B H (vs.take n) (ds.take n)
  | 0, _, _, h => .nil
  | n + 1, [], _, h => by cases h; exact .nil
  | n + 1, v :: vs, _, h => by
    cases h with
    | cons h1 h2 => exact .cons h1 (DtA.take n h2)
theorem DtA.cut {B : List Addr} {H : Hp} {vs : List V} {ds : List PyData} (h : DtA B H vs ds) (lo hi : Option Int) : DtA B H (cutV vs lo hi) (cutL ds lo hi) := by
  unfold cutV cutL
  rw [h.len]
  exact DtA.take _ (DtA.drop _ h)
theorem slice_dt {K : PySem.W.Frag} {B : List Addr} {H : Hp} {x : V} {ds : List PyData} {lo hi : Option Int} {Q : VK} (hx : Dt B H x (.tuple ds)) (hB : Bk B H) (q : ∀ v H', Same H H' → Dt B H' v (.tuple (cutL ds lo hi)) → Q v H') : rSlA K x lo hi H Q := by
  obtain ⟨a, vs, rfl, na, ha, hA⟩ := hx.tupI
  refine ⟨a, vs, rfl, SqT.of ha, fun h => q _ H (Same.refl _) ?_, fun _ p hp => q _ _ (sm_new hp) (.tup (hB.ne hp) upd_same ((hA.cut lo hi).s (sm_new hp)))⟩
  have e : cutL ds lo hi = ds := by
    unfold cutL
    rw [← hA.len, h.1, h.2, List.drop_zero, Nat.sub_zero, hA.len, List.take_length]
  rw [e]
  exact hx
theorem cat_dt {K : PySem.W.Frag} {B : List Addr} {H : Hp} {x y : V} {xs ys : List PyData} {Q : VK} (hx : Dt B H x (.tuple xs)) (hy : Dt B H y (.tuple ys)) (hB : Bk B H) (l : xs.length + ys.length ≤ 100000) (q : ∀ v H', Same H H' → Dt B H' v (.tuple (xs ++ ys)) → Q v H') : rCatA K x y H Q := by
  obtain ⟨a, vs, rfl, na, ha, hA⟩ := hx.tupI
  obtain ⟨b, ws, rfl, nb, hb, hC⟩ := hy.tupI
  have l1 := hA.len
  have l2 := hC.len
  refine ⟨a, b, vs, ws, rfl, rfl, SqT.of ha, SqT.of hb, Nat.le_of_lt (sz (by omega)), fun e => ?_, fun _ e => ?_, fun _ _ p hp => q _ _ (sm_new hp) (.tup (hB.ne hp) upd_same ((hA.app hC).s (sm_new hp)))⟩
  · subst e
    have : xs = [] := List.eq_nil_of_length_eq_zero (by rw [← l1]; rfl)
    subst this
    exact q _ H (Same.refl _) hy
  · subst e
    have : ys = [] := List.eq_nil_of_length_eq_zero (by rw [← l2]; rfl)
    subst this
    exact q _ H (Same.refl _) (by rw [List.append_nil]; exact hx)
theorem sh_cut {ds : List PyData} {k : Nat} {lo hi : Option Int} (h : Sh (.tuple ds) k) : Sh (.tuple (cutL ds lo hi)) k := by
  obtain ⟨j, rfl, h1, h2⟩ := h.tupI
  exact sh_tup (Nat.le_trans (cutL_len _ _ _) h2) fun d hd => h1 d (cutL_sub hd)
theorem sh_cat {xs ys : List PyData} {k : Nat} (h1 : Sh (.tuple xs) k) (h2 : Sh (.tuple ys) k) (l : xs.length + ys.length ≤ 100000) : Sh (.tuple (xs ++ ys)) k := by
  obtain ⟨j, rfl, a1, a2⟩ := h1.tupI
  obtain ⟨j', e, b1, b2⟩ := h2.tupI
  have : j = j' := by omega
  subst this
  exact sh_tup (by simpa using l) fun d hd => by
    rcases List.mem_append.mp hd with h | h
    · exact a1 d h
    · exact b1 d h
/-! ### a comprehension in another one -/
def FrAll (sc : Scope) : List Str → Prop
  | [] => True
  | x :: xs => (sc.names.lookup x = some .cell ∨ sc.names.lookup x = some .free) ∧ FrAll sc xs
theorem FrAll.mem {sc : Scope} : ∀ {xs : List Str}, FrAll sc xs → ∀ x ∈ xs, sc.names.lookup x = some .cell ∨ sc.names.lookup x = some .free
  | [], _, _, h => nomatch h
  | y :: ys, h, x, hx => by
    rcases List.mem_cons.mp hx with e | e
    · rw [e]; exact h.1
    · exact FrAll.mem h.2 x e
def frC (fr : List Str) (scope : Scope) : Bool := scope.names.all fun y => match y.2 with
  | .free => decide (y.1 ∈ fr)
  | _ => true
theorem blkOk_in {N : List Str} {sc scope : Scope} {own : List (Str × Nat)} (fr : List Str) (h : blkC N { kind := .function, names := fr.map fun x => (x, .free), isGenerator := false, isCoroutine := false } scope own = true) (h2 : frC fr scope = true) (hf : FrAll sc fr) : BlkOk N sc scope own := by
  have b := blkOk_by h
  refine ⟨b.kind, b.uniq, b.ix, fun y hy e => ?_, b.own⟩
  have := List.all_eq_true.mp h2 y hy
  rw [e] at this
  exact hf.mem _ (of_decide_eq_true this)
end Z

set_option Elab.async false
set_option linter.all false
set_option maxRecDepth 100000
set_option maxHeartbeats 400000
namespace Z
open PySem PySem.Spec PyProof.Rows L2
/-! ### '9' * n, and its number -/
def nines (n : Nat) : Str := ⟨(List.replicate n (Str.ofString "9").cps).foldl (· ++ ·) #[]⟩
theorem nines_int : ∀ i : Fin 41, 1 ≤ i.val → PySem.intText? (nines i.val) = some ((10 : Int) ^ i.val - 1) ∧ (nines i.val).length ≤ 640 := by decide +kernel
def rRep9 : R2 := fun x y H Q => ∃ n : Int, x = .str "9" ∧ y = .int n ∧ 1 ≤ n ∧ n ≤ 40 ∧ Q (.str (nines n.toNat)) H
theorem op_rep9 {X : Cx} : OpR X (binaryOp .Mult) rRep9 := by
  intro pins s σ H x y v u Q I rx ry h
  obtain ⟨n, rfl, rfl, n1, n2, q⟩ := h
  obtain ⟨t, rfl⟩ := rx
  obtain ⟨t', rfl⟩ := ry
  have l9 : (Str.ofString "9").length = 1 := by decide
  refine P.mul_str ?_ (fun _ _ => ?_) (fun _ _ => ?_) ?_
  · rw [decide_eq_false (by omega), decide_eq_false (by omega)]; rfl
  · rw [l9]
    have : (1 : Int) ≤ (2 ^ 63 - 1) / n := Int.le_ediv_of_mul_le (by omega) (by omega)
    omega
  · rw [l9, Nat.one_mul]
    have : n.toNat ≤ 40 := by omega
    show decide (n.toNat > sizeLine) = false
    exact decide_eq_false (fun h => absurd (Nat.lt_of_lt_of_le h this) (by decide))
  · rw [if_neg (by omega)]
    by_cases e : n = 1
    · subst e
      exact ⟨.str (nines 1), H, I, ⟨t, rfl⟩, q⟩
    · have e2 : ((n == 1) || (Str.ofString "9").length == 0) = false := by
        rw [l9]
        simp [e]
      rw [e2, if_neg Bool.false_ne_true]
      refine ⟨?_, .str (nines n.toNat), H, I.tok _, ⟨_, rfl⟩, q⟩
      exact Nat.le_trans (nines_int ⟨n.toNat, by omega⟩ (by show 1 ≤ n.toNat; omega)).2 (by decide)
/-! ### fractions: the greatest measure -/
def ab (t : Int) : Nat := t.natAbs
def gm (t b : Int) : Nat := Nat.gcd t.natAbs b.natAbs
def pn (t b : Int) : Int := (if b < 0 then -t else t) / (gm t b : Int)
def pd (t b : Int) : Int := (if b < 0 then -b else b) / (gm t b : Int)
theorem gm_pos {t b : Int} (h : b ≠ 0) : 0 < gm t b := Nat.gcd_pos_of_pos_right _ (by omega)
theorem gm_le {t b : Int} (h : b ≠ 0) : gm t b ≤ b.natAbs := Nat.gcd_le_right _ (by omega)
theorem pd_pos {t b : Int} (h : b ≠ 0) : 0 < pd t b := by
  have h1 := gm_pos (t := t) h
  have h2 := gm_le (t := t) h
  unfold pd
  have : (1 : Int) ≤ (if b < 0 then -b else b) / (gm t b : Int) := Int.le_ediv_of_mul_le (by omega) (by split <;> omega)
  omega
theorem pd_le {t b : Int} (h : b ≠ 0) : pd t b ≤ (b.natAbs : Int) := by
  have h1 := gm_pos (t := t) h
  unfold pd
  have h2 : (if b < 0 then -b else b) = (b.natAbs : Int) := by split <;> omega
  rw [h2]
  exact Int.ediv_le_self _ (by omega)
theorem ediv_natAbs {x g : Int} (h : 0 < g) : (x / g).natAbs ≤ x.natAbs := by
  rcases Int.le_total 0 x with h1 | h1
  · have a := Int.ediv_nonneg h1 (Int.le_of_lt h)
    have b := Int.ediv_le_self g h1
    omega
  · have a : x ≤ x / g := Int.le_ediv_of_mul_le h (by
      have : x * g ≤ x * 1 := Int.mul_le_mul_of_nonpos_left h1 (by omega)
      omega)
    have b : x / g < 1 := Int.ediv_lt_of_lt_mul h (by omega)
    omega
theorem pn_le {t b : Int} (h : b ≠ 0) : (pn t b).natAbs ≤ t.natAbs := by
  have h1 := gm_pos (t := t) h
  unfold pn
  refine Nat.le_trans (ediv_natAbs (by omega)) ?_
  split <;> omega
/-! ### // by a great number of either sign -/
def CDivN2 (_ j : Int) : Prop := j ≠ 0 ∧ j.natAbs.log2 < 9000
theorem op_fdivM {X : Cx} : OpR X (binaryOp .FloorDiv) (rI CDivN2 fun i j => .int (i.fdiv j)) := opI fun _ _ _ _ _ _ _ hc q => floordiv_int hc.1 q (.inl (PyProof.noPylong_of_log2 hc.2))
theorem fdiv_neg' {t g : Int} (h : 0 < g) : t.fdiv (-g) = (-t) / g := by
  have e : t.fdiv (-g) = (-t).fdiv g := by
    rw [← Int.neg_fdiv_neg (-t) g, Int.neg_neg]
  rw [e, Int.fdiv_eq_ediv_of_nonneg _ (by omega)]
theorem gm_dvd_l (t b : Int) : (gm t b : Int) ∣ t := Int.ofNat_dvd_left.mpr (Nat.gcd_dvd_left _ _)
theorem gm_dvd_r (t b : Int) : (gm t b : Int) ∣ b := Int.ofNat_dvd_left.mpr (Nat.gcd_dvd_right _ _)
theorem pn_mul {t b : Int} (h : b ≠ 0) : pn t b * (gm t b : Int) = if b < 0 then -t else t := by
  unfold pn
  refine Int.ediv_mul_cancel ?_
  split
  · exact Int.dvd_neg.mpr (gm_dvd_l t b)
  · exact gm_dvd_l t b
theorem pd_mul {t b : Int} (h : b ≠ 0) : pd t b * (gm t b : Int) = if b < 0 then -b else b := by
  unfold pd
  refine Int.ediv_mul_cancel ?_
  split
  · exact Int.dvd_neg.mpr (gm_dvd_r t b)
  · exact gm_dvd_r t b
theorem cross {t b : Int} (h : b ≠ 0) : pn t b * b = t * pd t b := by
  have g0 : (gm t b : Int) ≠ 0 := by have := gm_pos (t := t) h; omega
  have e1 := pn_mul (t := t) h
  have e2 := pd_mul (t := t) h
  refine Int.eq_of_mul_eq_mul_right g0 ?_
  have a1 : pn t b * b * (gm t b : Int) = (pn t b * (gm t b : Int)) * b := by rw [Int.mul_assoc, Int.mul_comm b, ← Int.mul_assoc]
  have a2 : t * pd t b * (gm t b : Int) = t * (pd t b * (gm t b : Int)) := Int.mul_assoc ..
  rw [a1, a2, e1, e2]
  split
  · rw [Int.neg_mul, Int.mul_neg]
  · rfl
theorem gm_low {t b : Int} (h : b ≠ 0) : gm (pn t b) (pd t b) = 1 := by
  have gp := gm_pos (t := t) h
  have e1 := pn_mul (t := t) h
  have e2 := pd_mul (t := t) h
  have n1 : (pn t b).natAbs * gm t b = t.natAbs := by
    have := congrArg Int.natAbs e1
    rw [Int.natAbs_mul, Int.natAbs_natCast] at this
    rw [this]
    split <;> omega
  have n2 : (pd t b).natAbs * gm t b = b.natAbs := by
    have := congrArg Int.natAbs e2
    rw [Int.natAbs_mul, Int.natAbs_natCast] at this
    rw [this]
    split <;> omega
  have h3 : gm (pn t b) (pd t b) * gm t b = gm t b := by
    show Nat.gcd (pn t b).natAbs (pd t b).natAbs * gm t b = gm t b
    rw [← Nat.gcd_mul_right, n1, n2]
    rfl
  exact Nat.eq_of_mul_eq_mul_right gp (by rw [h3, Nat.one_mul])
theorem pn_low {t b : Int} (h : b ≠ 0) : pn (pn t b) (pd t b) = pn t b := by
  have hp := pd_pos (t := t) h
  show (if pd t b < 0 then -(pn t b) else pn t b) / (gm (pn t b) (pd t b) : Int) = pn t b
  rw [gm_low h, if_neg (by omega)]
  exact Int.ediv_one _
theorem pd_low {t b : Int} (h : b ≠ 0) : pd (pn t b) (pd t b) = pd t b := by
  have hp := pd_pos (t := t) h
  show (if pd t b < 0 then -(pd t b) else pd t b) / (gm (pn t b) (pd t b) : Int) = pd t b
  rw [gm_low h, if_neg (by omega)]
  exact Int.ediv_one _
end Z

set_option Elab.async false
set_option linter.all false
set_option maxRecDepth 100000
namespace Z
open PySem PySem.Spec PyProof.Rows L2 L2.DX
/-! ### sorted(d.items()), keys tuples of ints, values ints -/
def entI (e : List Int × Int) : List L2.Key × V := (e.1.map Sum.inl, V.int e.2)
def eRow (e : List Int × Int) : PyData := .tuple [eC e.1, .int e.2]
theorem kV_ints (ns : List Int) : (ns.map Sum.inl).map kV = ns.map V.int := by
  rw [List.map_map]
  rfl
theorem reads_ints {h : Heap} : ∀ {ns : List Int} {us : List Value}, Vals (ns.map V.int) us → ReadsAll h us (ns.map .int) []
  | [], _, r => by
    cases r
    exact .nil
  | n :: ns, _, r => by
    cases r with
    | cons r1 r2 =>
      obtain ⟨t, rfl⟩ := r1
      exact ReadsAll.cons (as := []) (bs := []) (.int n t) (reads_ints r2)
theorem zipped {α β : Type} {R : α → β → Prop} : ∀ {as : List α} {bs : List β}, PySem.W.EachIs R as bs → ∃ zs : List (α × β), zs.map Prod.fst = as ∧ zs.map Prod.snd = bs ∧ ∀ z ∈ zs, R z.1 z.2
  | _, _, .nil => ⟨[], rfl, rfl, fun _ h => nomatch h⟩
  | a :: as, b :: bs, .cons h t => by
    obtain ⟨zs, e1, e2, h3⟩ := zipped t
    refine ⟨(a, b) :: zs, by rw [List.map_cons, e1], by rw [List.map_cons, e2], fun z hz => ?_⟩
    rcases List.mem_cons.mp hz with e | e
    · rw [e]; exact h
    · exact h3 z e
theorem fm_some {α : Type} (f : Nat → α) : ∀ n : Nat, (List.range n).filterMap (fun i => some (f i)) = (List.range n).map f := fun n => by
  rw [← List.filterMap_eq_map]
  rfl
def rSortII : List V → Hp → VK → Prop := fun vs H Q => ∃ (p a : Addr) (ks : List (List Int × Int)), vs = [.ref p] ∧ H p = some (itemsO p a) ∧ H a = some (.dT (ks.map entI)) ∧ ks.length ≤ 1000 ∧
  ∀ (H' : Hp) (l : Addr) (ps : List (Addr × List Int × Int)), Same H H' → H l = none → (ps.map (·.2)).Perm ks → H' l = some (.lst (ps.map fun z => V.ref z.1)) →
    (∀ z ∈ ps, ∃ q, H z.1 = none ∧ H' z.1 = some (.tup [.ref q, .int z.2.2]) ∧ H q = some (.tup (z.2.1.map V.int))) → Q (.ref l) H'
section
variable {X : Cx}
theorem set_dictU (hu : X.A.units + 64 < cLine) : PSet X rSetD := set_dict (by omega)
theorem cr_sortedII (hc : X.calm = true) (hu : X.A.units + 64 < cLine) : CallR X (.builtin "sorted") rSortII := by
  intro pins s σ H xs us Q I r h
  obtain ⟨p, a, ks, rfl, hp, ha, h64, q⟩ := h
  obtain rfl := Vals.ref1 r
  have view : s.heap.IsItemsView p a := (show ObjOk X.prog X.w H s.heap p (itemsO p a) from I.hok p _ hp).1
  obtain ⟨z, hd, xs', rel, o, es, ep, ho, hx, hdat, hes, his, hn⟩ := dt_of I.hok ha
  have l1 : (ks.map entI).length = xs'.length := Paired.length rel
  rw [List.length_map] at l1
  have l2 : es.size = xs'.length := size_of_entries hes
  have hh : X.A.handled = none := I.ok.hd hc
  refine DT.sortedI (es := es) (ep := ep) hh view ⟨o, ho, hx, hdat⟩ (by rw [sizeLine_eq]; omega) fun h' tk as hk hlt hl hG => ?_
  have lak : as.length = ks.length := by omega
  have nd : as.Nodup := List.Pairwise.imp (fun h => Nat.ne_of_lt h) hG.rise
  have pr : ∀ (j : Nat) (b : Addr), as[j]? = some b → ∃ (e : List Int × Int) (kq : Addr) (t : Tok), ks[j]? = some e ∧ H kq = some (.tup (e.1.map V.int)) ∧ h'.get? b = some { cls := .type "tuple", data := .seq #[Value.ref kq, Value.int e.2 t] } := by
    intro j b hj
    obtain ⟨en, he, hg⟩ := hG.pairs j b hj
    rw [entry_at hes j] at he
    cases hxj : xs'[j]? with
    | none =>
      rw [hxj] at he
      exact nomatch (show (none : Option DictEntry) = some en from he)
    | some x =>
      rw [hxj] at he
      have een : entryOfKey (tupleKind (mixKind X.prog X.w)) x = en := Option.some.inj he
      obtain ⟨e0, he0, r1, r2, r3⟩ := pget rel hxj
      rw [List.getElem?_map] at he0
      cases hkj : ks[j]? with
      | none =>
        rw [hkj] at he0
        exact nomatch (show (none : Option (List L2.Key × V)) = some e0 from he0)
      | some e =>
        rw [hkj] at he0
        have ee : entI e = e0 := Option.some.inj he0
        rw [← ee] at r2 r3
        obtain ⟨t, r3'⟩ : ∃ t, x.2.2 = Value.int e.2 t := r3
        refine ⟨e, x.2.1, t, rfl, ?_, ?_⟩
        · have r2' : H x.2.1 = some (.tup ((e.1.map Sum.inl).map kV)) := r2
          rw [kV_ints] at r2'
          exact r2'
        · rw [hg, ← een, ← r3']
          all_goals rfl
  have hob : (h'.push { cls := .type "list", data := .seq (as.map Value.ref).toArray }).get? h'.objs.size = some (seqObj "list" (as.map Value.ref).toArray 0) := Heap.get?_push_size _ rfl
  have kb : ∀ b o, s.heap.get? b = some o → (h'.push { cls := .type "list", data := .seq (as.map Value.ref).toArray }).get? b = some o := fun b o e => Heap.get?_push_of_some _ (hk b o e)
  have ne0 : ∀ b o, h'.get? b = some o → b ≠ h'.objs.size := fun b o e => Nat.ne_of_lt (Heap.lt_size e)
  generalize hh2 : h'.push { cls := .type "list", data := .seq (as.map Value.ref).toArray } = h2 at hob kb ⊢
  have ka : ∀ b o, h'.get? b = some o → h2.get? b = some o := fun b o e => by rw [← hh2]; exact Heap.get?_push_of_some _ e
  have rd : ∀ (j : Nat) (b : Addr) (e : List Int × Int), as[j]? = some b → ks[j]? = some e → Reads h2 (.ref b) (eRow e) [] := by
    intro j b e hj he
    obtain ⟨e', kq, t, he', hkq, hg⟩ := pr j b hj
    have ee : e' = e := Option.some.inj (he'.symm.trans he)
    subst ee
    obtain ⟨_, its, rv, ot, hot, hct, nt, hdt⟩ := (show ObjOk X.prog X.w H s.heap kq (.tup (e'.1.map V.int)) from I.hok kq _ hkq)
    refine .tuple (ka _ _ hg) rfl rfl ?_
    refine ReadsAll.cons (as := []) (bs := []) (Reads.tuple (kb _ _ hot) hct hdt ?_) (ReadsAll.cons (as := []) (bs := []) (.int _ t) .nil)
    have := reads_ints (h := h2) rv
    simpa using this
  have lens : (as.map Value.ref).length = ks.length := by rw [List.length_map, lak]
  have zidx : ∀ pz ∈ (as.map Value.ref).zip ks, ∃ (j : Nat) (b : Addr), pz.1 = .ref b ∧ as[j]? = some b ∧ ks[j]? = some pz.2 := by
    intro pz hpz
    obtain ⟨j, hj⟩ := List.mem_iff_getElem?.mp hpz
    obtain ⟨h1, h2'⟩ := List.getElem?_zip_eq_some.mp hj
    rw [List.getElem?_map] at h1
    cases e : as[j]? with
    | none => rw [e] at h1; cases h1
    | some b =>
      rw [e] at h1
      exact ⟨j, b, (Option.some.inj h1).symm, e, h2'⟩
  refine PySem.W.list_sort_data (s := { s with heap := h2, toks := tk }) (A := X.A.in1) (n := 0) (vs := as.map Value.ref) (bs := ks) (enc := eRow) (R := fun v e => ∃ (j : Nat) (b : Addr), v = .ref b ∧ as[j]? = some b ∧ ks[j]? = some e) hob
    (PySem.W.EachIs.of_zip lens zidx) (PySem.W.EachIs.of_zip lens fun pz hpz => ?_) (PySem.W.AllAlike.of fun b b' => ?_) (PySem.W.Sortable.tuples fun b => ⟨_, _, rfl⟩) (by rw [sizeLine_eq]; omega) (fun b _ => ?_) fun out lo eo => ?_
  · obtain ⟨j, b, e1, e2, e3⟩ := zidx pz hpz
    rw [e1]
    exact ⟨[], rd j b _ e2 e3, fun h => nomatch h⟩
  · unfold eRow eC
    simp [PySem.W.alike, PySem.W.alikeAll, PySem.W.alike_ints]
  · have : (eRow b).depth = 2 := by
      unfold eRow eC
      simp [PyData.depth, PyData.depthAll, PySem.W.depth_ints]
    show X.A.units + 1 + 1 + (eRow b).depth < cLine
    omega
  · show EP X pins σ Q (.ref h'.objs.size) { s with heap := sortedHeap h2 h'.objs.size (as.map Value.ref) out.toArray, toks := tk }
    obtain ⟨zs0, z1, z2, z3⟩ := zipped eo
    -- the addresses
    obtain ⟨zs, w1, w2, w3⟩ : ∃ zs : List (Addr × List Int × Int), zs.map (fun z => Value.ref z.1) = out ∧ zs.map (·.2) = ks.mergeSort (PySem.W.dataLe false eRow) ∧ ∀ z ∈ zs, ∃ j : Nat, as[j]? = some z.1 ∧ ks[j]? = some z.2 := by
      rw [← z1, ← z2]
      clear z1 z2 eo lo
      induction zs0 with
      | nil => exact ⟨[], rfl, rfl, fun _ h => nomatch h⟩
      | cons y ys ih =>
        obtain ⟨zs, w1, w2, w3⟩ := ih fun z hz => z3 z (List.mem_cons_of_mem _ hz)
        obtain ⟨j, b, e1, e2, e3⟩ := z3 y (List.mem_cons_self ..)
        refine ⟨(b, y.2) :: zs, by rw [List.map_cons, List.map_cons, w1, e1], by rw [List.map_cons, List.map_cons, w2], fun z hz => ?_⟩
        rcases List.mem_cons.mp hz with e | e
        · rw [e]; exact ⟨j, e2, e3⟩
        · exact w3 z e
    have hperm : (zs.map (·.2)).Perm ks := by
      rw [w2]
      exact List.mergeSort_perm _ _
    have kF : ∀ b o, b ≠ h'.objs.size → h2.get? b = some o → (sortedHeap h2 h'.objs.size (as.map Value.ref) out.toArray).get? b = some o := fun b o hb e => (PyProof.Rows.sortedHeap_old hb (Heap.lt_size e)).trans e
    have kS : ∀ b o, s.heap.get? b = some o → (sortedHeap h2 h'.objs.size (as.map Value.ref) out.toArray).get? b = some o := fun b o e => kF b o (ne0 _ _ (hk b o e)) (kb b o e)
    obtain ⟨eF, heF⟩ := PyProof.Rows.sortedHeap_at (vs := as.map Value.ref) (out := out.toArray) hob
    have I1 : Inv X pins σ H { s with heap := sortedHeap h2 h'.objs.size (as.map Value.ref) out.toArray, toks := tk } := I.kept (t' := tk) kS
    have hn0 : H h'.objs.size = none := I.hok.fresh (Nat.le_of_lt hlt)
    have hlen : (zs.map fun z => V.ref z.1).length ≤ sizeLine := by
      have e := hperm.length_eq
      rw [List.length_map] at e
      rw [List.length_map, sizeLine_eq]
      omega
    have rv : Vals (zs.map fun z => V.ref z.1) out.toArray.toList := by
      show Vals _ out
      rw [← w1]
      exact vals_maps (fun z : Addr × List Int × Int => V.ref z.1) (fun z => Value.ref z.1) zs fun _ _ => rfl
    have I2 : Inv X pins σ (upd H h'.objs.size (.lst (zs.map fun z => V.ref z.1))) { s with heap := sortedHeap h2 h'.objs.size (as.map Value.ref) out.toArray, toks := tk } :=
      I1.take (h' := sortedHeap h2 h'.objs.size (as.map Value.ref) out.toArray) (t' := tk) (fun b ob _ e => e) (I.fpOk (Nat.le_of_lt hlt) hn0) ⟨hlen, out.toArray.toList, eF, rv, heF⟩
    obtain ⟨H2, I3, g, qt⟩ := takeT (P := fun b vs => ∃ (j : Nat) (e : List Int × Int) (kq : Addr), as[j]? = some b ∧ ks[j]? = some e ∧ vs = [.ref kq, .int e.2] ∧ H kq = some (.tup (e.1.map V.int))) I as _ I2 nd fun b hb => by
      obtain ⟨j, hj⟩ := List.mem_iff_getElem?.mp hb
      obtain ⟨e, kq, t, he, hkq, hg⟩ := pr j b hj
      have hbl : s.heap.objs.size ≤ b := Nat.le_of_lt (hG.above b hb)
      refine ⟨hbl, ?_, [.ref kq, .int e.2], ⟨j, e, kq, hj, he, rfl, hkq⟩, fun H3 => ⟨(by rw [sizeLine_eq]; show 2 ≤ 16777216; omega), [Value.ref kq, Value.int e.2 t], .cons rfl (.cons ⟨t, rfl⟩ .nil), ⟨_, kF _ _ (ne0 _ _ hg) (ka _ _ hg), rfl, 0, rfl⟩⟩⟩
      rw [upd_ne (ne0 _ _ hg)]
      exact I.hok.fresh hbl
    have gr : ∀ b o, H b = some o → H2 b = some o := fun b o e => g b o (by rw [upd_ne (ne_of_none e hn0)]; exact e)
    refine ⟨.ref h'.objs.size, H2, I3, rfl, q H2 h'.objs.size zs gr hn0 hperm (g _ _ upd_same) fun z' hz' => ?_⟩
    obtain ⟨i, i1, i2⟩ := w3 z' hz'
    obtain ⟨vs, ⟨j, e, kq, j1, j2, ev, hkq⟩, hH⟩ := qt z'.1 (List.mem_of_getElem? i1)
    have eij : i = j := (List.getElem?_inj (List.getElem?_eq_some_iff.mp i1).1 nd).mp (i1.trans j1.symm)
    subst eij
    have ee : e = z'.2 := Option.some.inj (j2.symm.trans i2)
    rw [ev, ee] at hH
    rw [ee] at hkq
    exact ⟨kq, I.hok.fresh (Nat.le_of_lt (hG.above _ (List.mem_of_getElem? i1))), hH, hkq⟩
end
end Z

set_option Elab.async false
set_option linter.all false
set_option maxRecDepth 100000
set_option maxHeartbeats 400000
namespace Z
open PySem PySem.Spec PyProof.Rows L2
/-! ### lists of lists -/
def eN (ns : List (List Int)) : PyData := .list (ns.map eI)
def eG (ps : List (List (List Int))) : PyData := .list (ps.map eP)
theorem sh_eN {ns : List (List Int)} (l : ns.length ≤ 100000) (h : ∀ c ∈ ns, c.length ≤ 100000) : Sh (eN ns) 2 := sh_lst (by simpa using l) fun d hd => by
  obtain ⟨n, m, rfl⟩ := List.mem_map.mp hd
  exact sh_eI (h n m)
theorem sh_eG {ps : List (List (List Int))} (l : ps.length ≤ 100000) (h : ∀ p ∈ ps, p.length ≤ 100000 ∧ ∀ c ∈ p, c.length ≤ 100000) : Sh (eG ps) 3 := sh_lst (by simpa using l) fun d hd => by
  obtain ⟨n, m, rfl⟩ := List.mem_map.mp hd
  exact sh_eP (h n m).1 (h n m).2
theorem DtA.mk {B : List Addr} {H : Hp} : ∀ {vs : List V} {ds : List PyData}, vs.length = ds.length → (∀ (i : Nat) v d, vs[i]? = some v → ds[i]? = some d → Dt B H v d) → DtA B H vs ds
  | [], [], _, _ => .nil
  | [], _ :: _, h, _ => nomatch h
  | _ :: _, [], h, _ => nomatch h
  | v :: vs, d :: ds, h, f => .cons (f 0 v d rfl rfl) (DtA.mk (by simpa using h) fun i v d h1 h2 => f (i + 1) v d h1 h2)
theorem DtA.two {B : List Addr} {H : Hp} {vs : List V} {ds : List PyData} {i : Nat} {v : V} {d : PyData} (h : DtA B H vs ds) (h1 : vs[i]? = some v) (h2 : ds[i]? = some d) : Dt B H v d := by
  obtain ⟨d', e, h3⟩ := h.getV h1
  rw [h2] at e
  cases e
  exact h3
theorem at2i (x y : Int) (b : Bool) : ∃ z : Int, atI [V.int x, V.int y] (if b = true then 1 else 0) = some (.int z) ∧ (z = x ∨ z = y) := by
  cases b
  · exact ⟨x, rfl, .inl rfl⟩
  · exact ⟨y, rfl, .inr rfl⟩
theorem ixN_last {n : Nat} (h : 0 < n) : ixN n (-1) = some (n - 1) := by
  unfold ixN
  rw [if_neg (by omega), if_pos (by omega)]
  congr 1
  omega
theorem DtA.set {B : List Addr} {H : Hp} {v : V} {d : PyData} : ∀ {vs : List V} {ds : List PyData} (j : Nat), DtA B H vs ds → Dt B H v d → DtA B H (vs.set j v) (ds.set j d)
  | [], _, _, h, _ => by cases h; exact .nil
  | _ :: _, _, 0, h, hv => by cases h with | cons h1 h2 => exact .cons hv h2
  | _ :: _, _, j + 1, h, hv => by cases h with | cons h1 h2 => exact .cons h1 (DtA.set j h2 hv)
theorem Dt.lst2 {B : List Addr} {H : Hp} {v : V} {ds : List PyData} (h : Dt B H v (.list ds)) : ∃ a vs, v = .ref a ∧ a ∉ B ∧ H a = some (.lst vs) ∧ DtA B H vs ds := by
  cases h with
  | lst n hs ha => exact ⟨_, _, rfl, n, hs, ha⟩
theorem cut_fromV {α : Type} (xs : List α) {n : Int} (h0 : 0 ≤ n) : cutL xs (some n) none = xs.drop n.toNat := by
  unfold cutL
  have e : HT.sIx xs.length 0 (some n) = min n.toNat xs.length := by
    show (if n < 0 then (n + (xs.length : Int)).toNat else min n.toNat xs.length) = _
    rw [if_neg (by omega)]
  have e2 : HT.sIx xs.length xs.length none = xs.length := rfl
  rw [e, e2]
  rcases Nat.le_total n.toNat xs.length with h | h
  · rw [Nat.min_eq_left h, List.take_of_length_le (by rw [List.length_drop]; omega)]
  · rw [Nat.min_eq_right h, List.drop_of_length_le (Nat.le_refl _), List.drop_of_length_le h, List.take_nil]
theorem cut_toV {α : Type} (xs : List α) {n : Int} (h0 : 0 ≤ n) : cutL xs none (some n) = xs.take n.toNat := by
  unfold cutL
  have e : HT.sIx xs.length xs.length (some n) = min n.toNat xs.length := by
    show (if n < 0 then (n + (xs.length : Int)).toNat else min n.toNat xs.length) = _
    rw [if_neg (by omega)]
  have e2 : HT.sIx xs.length 0 none = 0 := rfl
  rw [e, e2, List.drop_zero, Nat.sub_zero]
  rcases Nat.le_total n.toNat xs.length with h | h
  · rw [Nat.min_eq_left h]
  · rw [Nat.min_eq_right h, List.take_length, List.take_of_length_le h]
theorem pg_lstK {X : Cx} (K : PySem.W.Frag) {pos : Pos} {es : List Expr} {kk : Nat} {t : TGs} {n : Nat} (hc : X.calm = true) (h : PGs X es t) (hn : (assignEach es X.env).length = n := by rfl) (hst : (assignEach es X.env).findIdx? (·.1) = none := by rfl) (h2 : X.K = K := by rfl) : PG X (.Tuple es kk pos) (gLst K n t) :=
  h2 ▸ pg_lst hc h hn hst
theorem pi_zipAK {X : Cx} (K : PySem.W.Frag) {e e2 : Expr} {ta : TA} {p pos tpos : Pos} {elts : List Expr} {kk : Nat} (hg : Gl X "zip") (hm : X.mg "zip" = none) (ha : PA X [e, e2] ta)
    (hs : starEach [e, e2] X.env = (false, eval e X.env) :: starEach [e2] X.env := by rfl) (hpl : (backTo pos (starEach [e2] X.env)).any (·.1) = false := by rfl) (hK : X.K = K := by rfl) :
    PI X (.Tuple elts kk tpos) (.Call (.Name "zip" p) [e, e2] [] pos) (RZ.iZipA K ta) := by
  subst hK
  exact RZ.pi_zipA hg hm ha hs hpl
theorem yesT {σ : L2.St} {H : Hp} {A N : Hp → Prop} (h : A H) : tYes σ H (fun b H3 => if b = true then A H3 else N H3) := by
  show if true = true then A H else N H
  rw [if_pos rfl]
  exact h
/-- any walk -/
theorem walk_W {J : It} {n : Nat} {G : Hp → Prop} {Y : Nat → Hp → V → Hp → Prop} (w : Walk J n G Y) {R : (Hp → Prop) → V → Hp → Prop} {Qd : Hp → Prop} {H0 : Hp} (Pv : Nat → Hp → Prop) (h0 : Pv 0 H0) (hG : ∀ i H, i ≤ n → Pv i H → G H) (hs : ∀ i x H H', i < n → Pv i H → Y i H x H' → R (Pv (i + 1)) x H') (hd : ∀ H, Pv n H → Qd H) :
    ∃ W : Nat → Nat → Hp → Prop, (∃ m, W 0 m H0) ∧ ∀ i m H, W i m H → (J.stop i H ∧ Qd H) ∨ (J.go i H ∧ ∃ Nx : Hp → Prop, (∀ H', Nx H' → ∃ m', m' < m ∧ W (i + 1) m' H') ∧ ∀ x H', J.yld i H x H' → R Nx x H') := by
  obtain ⟨w1, w2, w3⟩ := w
  refine ⟨fun i m H => i ≤ n ∧ m = n - i ∧ Pv i H, ⟨n, Nat.zero_le _, rfl, h0⟩, fun i m H h => ?_⟩
  obtain ⟨hi, hm, hp⟩ := h
  have g := hG i H hi hp
  by_cases e : i = n
  · subst e
    exact .inl ⟨w2 _ g, hd _ hp⟩
  · refine .inr ⟨w1 i H (by omega) g, Pv (i + 1), fun H' h' => ⟨n - (i + 1), by omega, by omega, rfl, h'⟩, fun x H' y => ?_⟩
    exact hs i x H H' (by omega) hp (w3 i H x H' (by omega) g y)
theorem colsOf {Pc : List Int → Prop} : ∀ {ds : List PyData}, (∀ d ∈ ds, ∃ c, d = eC c ∧ Pc c) → ∃ cs : List (List Int), ds = cs.map eC ∧ ∀ c ∈ cs, Pc c
  | [], _ => ⟨[], rfl, fun _ h => nomatch h⟩
  | d :: ds, h => by
    obtain ⟨m, e, hm⟩ := colsOf (ds := ds) fun x hx => h x (List.mem_cons_of_mem _ hx)
    obtain ⟨z, ez, hz⟩ := h d (List.mem_cons_self ..)
    refine ⟨z :: m, by rw [e, ez]; rfl, fun y hy => ?_⟩
    rcases List.mem_cons.mp hy with q | q
    · rw [q]; exact hz
    · exact hm y q
/-- a list whose items are new lists, each another one; what is in these was there ahead -/
structure Rws (B : List Addr) (H H' : Hp) (D : Addr) (rs : List Addr) (dss : List (List PyData)) : Prop where
  len : rs.length = dss.length
  nd : rs.Nodup
  nD : D ∉ rs
  fr : ∀ r ∈ rs, H r = none
  row : ∀ (i : Nat) r ds, rs[i]? = some r → dss[i]? = some ds → ∃ ws, H' r = some (.lst ws) ∧ DtA B H ws ds
section
variable {B C : List Addr} {H H' H2 : Hp} {D p : Addr} {rs : List Addr} {dss : List (List PyData)}
theorem Rws.s (h : Rws B H H' D rs dss) (s : Same H' H2) : Rws B H H2 D rs dss := ⟨h.len, h.nd, h.nD, h.fr, fun i r ds h1 h2 => by
  obtain ⟨ws, e, a⟩ := h.row i r ds h1 h2
  exact ⟨ws, s _ _ e, a⟩⟩
theorem Rws.up {o : HO} (h : Rws B H H' D rs dss) (n : p ∉ rs) : Rws B H (upd H' p o) D rs dss := ⟨h.len, h.nd, h.nD, h.fr, fun i r ds h1 h2 => by
  obtain ⟨ws, e, a⟩ := h.row i r ds h1 h2
  refine ⟨ws, ?_, a⟩
  rw [upd_ne (fun z => n (by rw [← z]; exact List.mem_of_getElem? h1))]
  exact e⟩
theorem Rws.go (h : Rws B H H' D rs dss) (g : Go C H' H2) (n : ∀ r ∈ rs, r ∉ C) : Rws B H H2 D rs dss := ⟨h.len, h.nd, h.nD, h.fr, fun i r ds h1 h2 => by
  obtain ⟨ws, e, a⟩ := h.row i r ds h1 h2
  exact ⟨ws, g.k _ _ (n r (List.mem_of_getElem? h1)) e, a⟩⟩
theorem Rws.tail {r : Addr} {ds : List PyData} (h : Rws B H H' D (r :: rs) (ds :: dss)) : Rws B H H' D rs dss := ⟨by simpa using h.len, (List.nodup_cons.mp h.nd).2, fun z => h.nD (List.mem_cons_of_mem _ z), fun x hx => h.fr x (List.mem_cons_of_mem _ hx), fun i x ds h1 h2 => h.row (i + 1) x ds h1 h2⟩
theorem Rws.dt (h : Rws B H H' D rs dss) (b : Bk B H) (s : Go B H H') : DtA B H' (rs.map V.ref) (dss.map PyData.list) := by
  refine DtA.mk (by rw [List.length_map, List.length_map]; exact h.len) fun i v d h1 h2 => ?_
  rw [List.getElem?_map] at h1 h2
  cases e1 : rs[i]? with
  | none => rw [e1] at h1; cases h1
  | some r =>
    cases e2 : dss[i]? with
    | none => rw [e2] at h2; cases h2
    | some ds =>
      rw [e1] at h1
      rw [e2] at h2
      cases h1
      cases h2
      obtain ⟨ws, e, a⟩ := h.row i r ds e1 e2
      exact .lst (b.ne (h.fr r (List.mem_of_getElem? e1))) e (a.g s)
end
/-- a comprehension of known values -/
theorem lc_vals {J : It} {n : Nat} {G : Hp → Prop} {Y : Nat → Hp → V → Hp → Prop} (w : Walk J n G Y) {g : TG} {tt : TT} {te : TE} {vs : List Nat} {σ : L2.St} {H1 : Hp} {D : Addr} {Qd : Hp → Prop}
    (hD : H1 D = none) (hG : ∀ H', Same H1 H' → G H') (hn : n ≤ 100000) (f : Nat → V)
    (hs : ∀ (i : Nat) (x : V) (H' H'' : Hp) (Ny : V → Hp → Prop) (Nn : Hp → Prop), i < n → Same H1 H' → Y i H' x H'' → (∀ H4, Same H' H4 → Ny (f i) H4) →
      g x (wipe σ vs) H'' fun σ2 H2 => wipe σ2 vs = wipe σ vs ∧ tt σ2 H2 fun b H3 => if b = true then te σ2 H3 Ny else Nn H3)
    (hd : ∀ (H' : Hp), Same H1 H' → H' D = some (.lst ((List.range n).map f)) → Qd H') :
    ∃ W : Nat → Nat → Hp → Prop, (∃ m, W 0 m (upd H1 D (.lst []))) ∧ ∀ i m H, W i m H →
      (J.stop i H ∧ Qd H) ∨ (J.go i H ∧ ∃ Nx : Hp → Prop, (∀ H', Nx H' → ∃ m', m' < m ∧ W (i + 1) m' H') ∧ ∀ x H', J.yld i H x H' → g x (wipe σ vs) H' fun σ2 H2 => wipe σ2 vs = wipe σ vs ∧ tt σ2 H2 fun b H3 =>
        if b = true then te σ2 H3 fun y H4 => ∃ acc, H4 D = some (.lst acc) ∧ acc.length < sizeLine ∧ Nx (upd H4 D (.lst (acc ++ [y]))) else Nx H3) := by
  refine lc_it w (fun i H' => Same H1 H' ∧ H' D = some (.lst ((List.range i).map f))) ⟨sm_new hD, upd_same⟩ (fun i H' _ h => hG H' h.1) (fun i x H' H'' hi h y => ?_) (fun H' h => hd H' h.1 h.2)
  obtain ⟨s1, eD⟩ := h
  refine hs i x H' H'' _ _ hi s1 y (fun H4 s4 => ?_)
  refine ⟨_, s4 _ _ eD, sz (by rw [List.length_map, List.length_range]; omega), sm_mut (s1.trans s4) hD, ?_⟩
  rw [upd_same, List.range_succ, List.map_append]
  rfl
/-- a comprehension of new lists -/
theorem lc_rows {J : It} {n : Nat} {G : Hp → Prop} {Y : Nat → Hp → V → Hp → Prop} (w : Walk J n G Y) {g : TG} {tt : TT} {te : TE} {vs : List Nat} {σ : L2.St} {H1 : Hp} {D : Addr} {Qd : Hp → Prop} (B : List Addr)
    (hD : H1 D = none) (hG : ∀ H', Same H1 H' → G H') (hn : n ≤ 100000) (e : Nat → List PyData)
    (hs : ∀ (i : Nat) (x : V) (H' H'' : Hp) (Ny : V → Hp → Prop) (Nn : Hp → Prop), i < n → Same H1 H' → Y i H' x H'' → (∀ r ws H4, Same H' H4 → H' r = none → H4 r = some (.lst ws) → DtA B H1 ws (e i) → Ny (.ref r) H4) →
      g x (wipe σ vs) H'' fun σ2 H2 => wipe σ2 vs = wipe σ vs ∧ tt σ2 H2 fun b H3 => if b = true then te σ2 H3 Ny else Nn H3)
    (hd : ∀ (H' : Hp) (rs : List Addr), Same H1 H' → H' D = some (.lst (rs.map V.ref)) → Rws B H1 H' D rs ((List.range n).map e) → Qd H') :
    ∃ W : Nat → Nat → Hp → Prop, (∃ m, W 0 m (upd H1 D (.lst []))) ∧ ∀ i m H, W i m H →
      (J.stop i H ∧ Qd H) ∨ (J.go i H ∧ ∃ Nx : Hp → Prop, (∀ H', Nx H' → ∃ m', m' < m ∧ W (i + 1) m' H') ∧ ∀ x H', J.yld i H x H' → g x (wipe σ vs) H' fun σ2 H2 => wipe σ2 vs = wipe σ vs ∧ tt σ2 H2 fun b H3 =>
        if b = true then te σ2 H3 fun y H4 => ∃ acc, H4 D = some (.lst acc) ∧ acc.length < sizeLine ∧ Nx (upd H4 D (.lst (acc ++ [y]))) else Nx H3) := by
  refine lc_it w (fun i H' => Same H1 H' ∧ ∃ rs, H' D = some (.lst (rs.map V.ref)) ∧ Rws B H1 H' D rs ((List.range i).map e)) ⟨sm_new hD, [], upd_same, ⟨rfl, List.nodup_nil, (fun h => nomatch h), (fun _ h => nomatch h), (fun i r ds h => by simp at h)⟩⟩ (fun i H' _ h => hG H' h.1) (fun i x H' H'' hi h y => ?_) (fun H' h => ?_)
  · obtain ⟨s1, rs, eD, R⟩ := h
    have hl : rs.length = i := by rw [R.len, List.length_map, List.length_range]
    refine hs i x H' H'' _ _ hi s1 y (fun r ws H4 s4 hr er ha => ?_)
    have nr : r ≠ D := fun z => by rw [z, eD] at hr; cases hr
    have nrs : r ∉ rs := fun z => by
      obtain ⟨j, hj, ej⟩ := List.getElem_of_mem z
      obtain ⟨ws', e', _⟩ := R.row j r (e j) (by rw [List.getElem?_eq_getElem hj, ej]) (by rw [List.getElem?_map, List.getElem?_range (by omega)]; rfl)
      rw [e'] at hr
      cases hr
    refine ⟨_, s4 _ _ eD, sz (by rw [List.length_map]; omega), sm_mut (s1.trans s4) hD, rs ++ [r], by rw [upd_same, List.map_append]; rfl, ?_⟩
    have R4 := (R.s s4).up (o := .lst (rs.map V.ref ++ [.ref r])) (R.nD)
    refine ⟨by simp [hl], ?_, ?_, fun z hz => ?_, fun j z ds h1 h2 => ?_⟩
    · rw [List.nodup_append]
      refine ⟨R.nd, by simp, fun a ha b hb => ?_⟩
      rw [List.mem_singleton.mp hb]
      exact fun q => nrs (by rw [← q]; exact ha)
    · intro q
      rcases List.mem_append.mp q with q | q
      · exact R.nD q
      · exact nr (List.mem_singleton.mp q).symm
    · rcases List.mem_append.mp hz with q | q
      · exact R.fr z q
      · rw [List.mem_singleton.mp q]
        exact s1.free hr
    · rw [List.getElem?_append] at h1
      rw [List.range_succ, List.map_append, List.getElem?_append, List.length_map, List.length_range] at h2
      by_cases c : j < rs.length
      · rw [if_pos c] at h1
        rw [if_pos (by omega)] at h2
        exact R4.row j z ds h1 h2
      · rw [if_neg c] at h1
        rw [if_neg (by omega)] at h2
        have j0 : j - rs.length = 0 := by
          cases q : j - rs.length with
          | zero => rfl
          | succ m => rw [q] at h1; simp at h1
        rw [j0] at h1
        rw [show j - i = 0 by omega] at h2
        cases h1
        cases h2
        refine ⟨ws, ?_, ha⟩
        rw [upd_ne nr]
        exact er
  · obtain ⟨s1, rs, eD, R⟩ := h
    exact hd H' rs s1 eD R
end Z

set_option Elab.async false
set_option linter.all false
set_option maxRecDepth 100000
set_option maxHeartbeats 400000
namespace Z
open PySem PySem.Spec PyProof.Rows L2
/-! ### sorted(xs), xs a list of data -/
theorem each_lift {α β γ : Type} {R : α → β → Prop} {R' : γ → β → Prop} {S : γ → α → Prop} (f : ∀ a b, R a b → ∃ c, S c a ∧ R' c b) : ∀ {as : List α} {bs : List β}, PySem.W.EachIs R as bs → ∃ cs : List γ, Paired S cs as ∧ PySem.W.EachIs R' cs bs
  | _, _, .nil => ⟨[], .nil, .nil⟩
  | a :: as, b :: bs, .cons h t => by
    obtain ⟨cs, h1, h2⟩ := each_lift f t
    obtain ⟨c, h3, h4⟩ := f a b h
    exact ⟨c :: cs, .cons h3 h1, .cons h4 h2⟩
theorem rdAll {h : Heap} : ∀ {vs : List Value} {ds : List PyData} {as : List Addr}, ReadsAll h vs ds as → vs.length = ds.length ∧ ∀ (j : Nat) v d, vs[j]? = some v → ds[j]? = some d → ∃ as, Reads h v d as
  | [], _, _, hh => by
    cases hh
    exact ⟨rfl, fun j v d h => by simp at h⟩
  | v :: vs, _, _, hh => by
    cases hh with
    | cons h1 h2 =>
      have ih := rdAll h2
      refine ⟨by rw [List.length_cons, List.length_cons, ih.1], fun j v d e1 e2 => ?_⟩
      cases j with
      | zero =>
        cases e1
        cases e2
        exact ⟨_, h1⟩
      | succ j => exact ih.2 j v d (by simpa using e1) (by simpa using e2)
def rSortedD (K : PySem.W.Frag) : List V → Hp → VK → Prop := fun vs H Q => ∃ (a : Addr) (xs : List V) (β : Type) (enc : β → PyData) (bs : List β), vs = [.ref a] ∧ SqL K H a xs ∧ DpAll K H xs (bs.map enc) ∧ PySem.W.AllAlike (bs.map enc) ∧ PySem.W.Sortable (bs.map enc) ∧ bs.length ≤ 10000 ∧ (∀ b ∈ bs, (enc b).depth ≤ 50) ∧
  ∀ (ys : List V) (p : Addr), PySem.W.EachIs (fun y b => ∃ j : Nat, xs[j]? = some y ∧ bs[j]? = some b) ys (bs.mergeSort (PySem.W.dataLe false enc)) → H p = none → Q (.ref p) (upd H p (.lst ys))
theorem cr_sortedD (K : PySem.W.Frag) {X : Cx} (hu : X.A.units + 64 < cLine) (hK : X.K = K := by rfl) : CallR X (.builtin "sorted") (rSortedD K) := by
  subst hK
  intro pins s σ H vs us Q I r h
  obtain ⟨a, xs, β, enc, bs, rfl, hs, hd, hal, hso, hl, hdep, q⟩ := h
  obtain ⟨its, rv, hp, hz⟩ := I.list hs
  obtain ⟨u, rfl, ru⟩ := vals1 r
  obtain rfl : u = Value.ref a := ru
  obtain ⟨as, hr⟩ := Dp.readsAll I _ xs its hd rv
  have le1 : its.length = xs.length := rv.length.symm
  have ra := @rdAll s.heap
  have le2 : its.length = bs.length := by
    have := (ra hr).1
    rwa [List.length_map] at this
  have zx : ∀ pz ∈ its.zip bs, ∃ j : Nat, its[j]? = some pz.1 ∧ bs[j]? = some pz.2 := by
    intro pz hpz
    obtain ⟨j, hj⟩ := List.mem_iff_getElem?.mp hpz
    obtain ⟨h1, h2⟩ := List.getElem?_zip_eq_some.mp hj
    exact ⟨j, h1, h2⟩
  refine PySem.W.sorted_data (enc := enc) (bs := bs) (R := fun v b => ∃ j : Nat, its[j]? = some v ∧ bs[j]? = some b) hp.isList (PySem.W.EachIs.of_zip le2 zx) (PySem.W.EachIs.of_zip le2 fun pz hpz => ?_) hal hso (by have : sizeLine = 16777216 := rfl; omega) (fun b hb => by have := hdep b hb; omega) fun out lo eo => ?_
  · obtain ⟨j, e1, e2⟩ := zx pz hpz
    exact (ra hr).2 j _ _ e1 (by rw [List.getElem?_map, e2]; rfl)
  · obtain ⟨ys, v1, v2⟩ := each_lift (S := L2.RelV) (R' := fun y b => ∃ j : Nat, xs[j]? = some y ∧ bs[j]? = some b) (fun v b h => by
      obtain ⟨j, e1, e2⟩ := h
      have hj : j < its.length := (List.getElem?_eq_some_iff.mp e1).1
      obtain ⟨u, hu, ru⟩ := rv.get (List.getElem?_eq_getElem (show j < xs.length by omega))
      rw [e1] at hu
      cases hu
      exact ⟨_, ru, j, List.getElem?_eq_getElem (by omega), e2⟩) eo
    obtain ⟨e, he⟩ := sortedAll_at s.heap its out.toArray
    have ly : ys.length = out.length := Paired.length v1
    refine ⟨.ref (s.heap.objs.size + 1), upd H (s.heap.objs.size + 1) (.lst ys), I.laid (fun b o e => sortedAll_old e) (by omega) ⟨by have : sizeLine = 16777216 := rfl; omega, out, e, v1, he⟩, rfl, q ys _ v2 (I.hok.fresh (by omega))⟩
/-- what is sorted is what was there -/
theorem each_mem {xs : List V} {β : Type} {bs cs : List β} {ys : List V} (h : PySem.W.EachIs (fun y b => ∃ j : Nat, xs[j]? = some y ∧ bs[j]? = some b) ys cs) {B : List Addr} {H : Hp} {enc : β → PyData} (hA : DtA B H xs (bs.map enc)) : DtA B H ys (cs.map enc) := by
  induction h with
  | nil => exact .nil
  | cons h t ih =>
    obtain ⟨j, e1, e2⟩ := h
    exact .cons (hA.two e1 (by rw [List.getElem?_map, e2]; rfl)) ih
end Z

set_option Elab.async false
set_option linter.all false
set_option maxRecDepth 100000
set_option maxHeartbeats 400000
namespace Z
open PySem PySem.Spec PyProof.Rows L2 L2.DX
theorem op_inDK (K : PySem.W.Frag) {X : Cx} (hu : X.A.units + 65 < cLine) (h : X.K = K := by rfl) : OpR X (compareOp .In) (rInD K) := h ▸ op_inD hu
theorem hu65 {k : Nat} {A : Around} (h : Room k A) : A.units + 65 < cLine := by
  have := h.un
  omega
/-! ### dicts by colours -/
theorem inl_inj {a b : List Int} (h : a.map (Sum.inl (β := Str)) = b.map Sum.inl) : a = b := by
  refine (List.map_inj_right (fun x y e => ?_)).mp h
  exact Sum.inl.inj e
theorem put_keys (ks : List (List Int × Int)) (c : List Int) (n : Int) : ∃ ks' : List (List Int × Int), putK (ks.map entI) (c.map Sum.inl) (.int n) = ks'.map entI ∧ (∀ e ∈ ks', e.1 = c ∨ ∃ f ∈ ks, f.1 = e.1) ∧ (∀ f ∈ ks, ∃ e ∈ ks', e.1 = f.1) ∧ (∃ e ∈ ks', e.1 = c) ∧ ks'.length ≤ ks.length + 1 := by
  unfold putK
  by_cases b : ((ks.map entI).any fun kv => decide (kv.1 = c.map Sum.inl)) = true
  · rw [if_pos b]
    refine ⟨ks.map fun e => if e.1.map (Sum.inl (β := Str)) = c.map Sum.inl then (e.1, n) else e, ?_, fun e he => ?_, fun f hf => ?_, ?_, by simp⟩
    · rw [List.map_map, List.map_map]
      refine List.map_congr_left fun e _ => ?_
      show (if (entI e).1 = c.map Sum.inl then ((entI e).1, V.int n) else entI e) = entI (if e.1.map Sum.inl = c.map Sum.inl then (e.1, n) else e)
      by_cases x : e.1.map (Sum.inl (β := Str)) = c.map Sum.inl
      · rw [if_pos (show (entI e).1 = _ from x), if_pos x]
        rfl
      · rw [if_neg (show ¬ (entI e).1 = _ from x), if_neg x]
    · obtain ⟨f, hf, rfl⟩ := List.mem_map.mp he
      right
      refine ⟨f, hf, ?_⟩
      split <;> rfl
    · refine ⟨_, List.mem_map.mpr ⟨f, hf, rfl⟩, ?_⟩
      split <;> rfl
    · obtain ⟨kv, hkv, hd⟩ := List.any_eq_true.mp b
      obtain ⟨f, hf, rfl⟩ := List.mem_map.mp hkv
      have hd' : f.1.map (Sum.inl (β := Str)) = c.map Sum.inl := of_decide_eq_true hd
      refine ⟨_, List.mem_map.mpr ⟨f, hf, rfl⟩, ?_⟩
      rw [if_pos hd']
      exact inl_inj hd'
  · rw [if_neg b]
    refine ⟨ks ++ [(c, n)], by rw [List.map_append]; rfl, fun e he => ?_, fun f hf => ⟨f, List.mem_append_left _ hf, rfl⟩, ⟨(c, n), by simp, rfl⟩, by simp⟩
    rcases List.mem_append.mp he with x | x
    · exact .inr ⟨e, x, rfl⟩
    · rw [List.mem_singleton.mp x]
      exact .inl rfl
theorem val_int (ks : List (List Int × Int)) (k : List L2.Key) : valV (ks.map entI) k = none ∨ ∃ n : Int, valV (ks.map entI) k = some (.int n) := by
  unfold valV
  cases h : (ks.map entI).find? fun kv => decide (kv.1 = k) with
  | none => exact .inl rfl
  | some kv =>
    obtain ⟨f, _, rfl⟩ := List.mem_map.mp (List.mem_of_find?_eq_some h)
    exact .inr ⟨f.2, rfl⟩
theorem val_at {ks : List (List Int × Int)} {e : List Int × Int} (h : e ∈ ks) : ∃ n : Int, valV (ks.map entI) (e.1.map Sum.inl) = some (.int n) := by
  rcases val_int ks (e.1.map Sum.inl) with z | z
  · exfalso
    unfold valV at z
    rw [Option.map_eq_none_iff, List.find?_eq_none] at z
    exact z (entI e) (List.mem_map.mpr ⟨e, h, rfl⟩) (by simp [entI])
  · exact z
/-- one more of a colour -/
def wS (φ : List Int → Int) (ks : List (List Int × Int)) : Int := (ks.map fun e => e.2 * φ e.1).sum
def gV (ks : List (List Int × Int)) (c : List Int) : V := (valV (ks.map entI) (c.map Sum.inl)).getD (.int 0)
theorem val_cons (e : List Int × Int) (ks : List (List Int × Int)) (c : List Int) : valV ((e :: ks).map entI) (c.map Sum.inl) = if e.1 = c then some (.int e.2) else valV (ks.map entI) (c.map Sum.inl) := by
  unfold valV
  rw [List.map_cons, List.find?_cons]
  by_cases h : e.1 = c
  · rw [if_pos h]
    have : decide ((entI e).1 = c.map Sum.inl) = true := decide_eq_true (by rw [← h]; rfl)
    rw [this]
    rfl
  · rw [if_neg h]
    have : decide ((entI e).1 = c.map Sum.inl) = false := decide_eq_false (fun z => h (inl_inj z))
    rw [this]
theorem val_none {ks : List (List Int × Int)} {c : List Int} (h : c ∉ ks.map Prod.fst) : valV (ks.map entI) (c.map Sum.inl) = none := by
  induction ks with
  | nil => rfl
  | cons e ks ih =>
    rw [val_cons, if_neg (fun z => h (by rw [← z]; simp)), ih (fun z => h (by rw [List.map_cons]; exact List.mem_cons_of_mem _ z))]
theorem val_some {ks : List (List Int × Int)} (nd : (ks.map Prod.fst).Nodup) {e : List Int × Int} (h : e ∈ ks) : valV (ks.map entI) (e.1.map Sum.inl) = some (.int e.2) := by
  induction ks with
  | nil => cases h
  | cons f ks ih =>
    rw [List.map_cons, List.nodup_cons] at nd
    rw [val_cons]
    rcases List.mem_cons.mp h with z | z
    · rw [z, if_pos rfl]
    · rw [if_neg (fun y => nd.1 (by rw [y]; exact List.mem_map.mpr ⟨e, z, rfl⟩)), ih nd.2 z]
def upK (c : List Int) (n : Int) (e : List Int × Int) : List Int × Int := if e.1 = c then (e.1, n) else e
theorem up_fst (c : List Int) (n : Int) (ks : List (List Int × Int)) : (ks.map (upK c n)).map Prod.fst = ks.map Prod.fst := by
  rw [List.map_map]
  refine List.map_congr_left fun e _ => ?_
  show (upK c n e).1 = e.1
  unfold upK
  split <;> rfl
theorem up_sum (φ : List Int → Int) {c : List Int} {n : Int} : ∀ {ks : List (List Int × Int)}, (ks.map Prod.fst).Nodup → ∀ {m : Int}, (c, m) ∈ ks → wS φ (ks.map (upK c n)) = wS φ ks + (n - m) * φ c
  | [], _, _, h => nomatch h
  | e :: ks, nd, m, h => by
    rw [List.map_cons, List.nodup_cons] at nd
    have same : c ∉ ks.map Prod.fst → ks.map (upK c n) = ks := fun hc => by
      refine (List.map_congr_left fun f hf => ?_).trans (List.map_id _)
      unfold upK
      rw [if_neg (fun z => hc (by rw [← z]; exact List.mem_map.mpr ⟨f, hf, rfl⟩))]
      rfl
    unfold wS at *
    rcases List.mem_cons.mp h with z | z
    · have hc : c ∉ ks.map Prod.fst := by have := nd.1; rw [← z] at this; exact this
      rw [List.map_cons, same hc, List.map_cons, List.sum_cons, List.map_cons, List.sum_cons, ← z]
      unfold upK
      rw [if_pos rfl]
      show n * φ c + _ = m * φ c + _ + (n - m) * φ c
      rw [Int.sub_mul]
      omega
    · have ih := up_sum φ (c := c) (n := n) nd.2 z
      unfold wS at ih
      have ne : e.1 ≠ c := fun y => nd.1 (by rw [y]; exact List.mem_map.mpr ⟨_, z, rfl⟩)
      rw [List.map_cons, List.map_cons, List.sum_cons, ih, List.map_cons, List.sum_cons]
      have : upK c n e = e := by unfold upK; rw [if_neg ne]
      rw [this]
      omega
/-- what the dict holds behind one more of c -/
theorem put_count (ks : List (List Int × Int)) (c : List Int) (nd : (ks.map Prod.fst).Nodup) (z : Int) (hz : gV ks c = .int z) : ∃ ks' : List (List Int × Int), putK (ks.map entI) (c.map Sum.inl) (.int (z + 1)) = ks'.map entI ∧ (ks'.map Prod.fst).Nodup ∧ (∀ φ, wS φ ks' = wS φ ks + φ c) ∧ (∀ e ∈ ks', e = (c, z + 1) ∨ e ∈ ks) ∧ (∀ f ∈ ks.map Prod.fst, f ∈ ks'.map Prod.fst) ∧ c ∈ ks'.map Prod.fst ∧ ks'.length ≤ ks.length + 1 := by
  by_cases hc : c ∈ ks.map Prod.fst
  · obtain ⟨e, he, rfl⟩ := List.mem_map.mp hc
    have hv := val_some nd he
    have ez : e.2 = z := by
      unfold gV at hz
      rw [hv] at hz
      exact V.int.inj hz
    have any : ((ks.map entI).any fun kv => decide (kv.1 = e.1.map Sum.inl)) = true := List.any_eq_true.mpr ⟨entI e, List.mem_map.mpr ⟨e, he, rfl⟩, decide_eq_true rfl⟩
    refine ⟨ks.map (upK e.1 (z + 1)), ?_, by rw [up_fst]; exact nd, fun φ => ?_, fun f hf => ?_, fun f hf => by rw [up_fst]; exact hf, by rw [up_fst]; exact hc, by simp⟩
    · unfold putK
      rw [if_pos any, List.map_map, List.map_map]
      refine List.map_congr_left fun f _ => ?_
      show (if (entI f).1 = e.1.map Sum.inl then ((entI f).1, V.int (z + 1)) else entI f) = entI (upK e.1 (z + 1) f)
      unfold upK
      by_cases x : f.1 = e.1
      · rw [if_pos x, if_pos (show (entI f).1 = _ by rw [← x]; rfl)]
        rfl
      · rw [if_neg x, if_neg (show ¬ (entI f).1 = _ from fun y => x (inl_inj y))]
    · rw [up_sum φ nd (m := z) (by rw [← ez]; exact he)]
      have : z + 1 - z = 1 := by omega
      rw [this, Int.one_mul]
    · obtain ⟨g, hg, rfl⟩ := List.mem_map.mp hf
      unfold upK
      split
      · rename_i h
        exact .inl (by rw [h])
      · exact .inr hg
  · have hv := val_none hc
    have ez : z = 0 := by
      unfold gV at hz
      rw [hv] at hz
      exact (V.int.inj hz).symm
    have any : ¬ ((ks.map entI).any fun kv => decide (kv.1 = c.map Sum.inl)) = true := fun h => by
      obtain ⟨kv, hkv, hd⟩ := List.any_eq_true.mp h
      obtain ⟨f, hf, rfl⟩ := List.mem_map.mp hkv
      exact hc (by rw [← inl_inj (of_decide_eq_true hd)]; exact List.mem_map.mpr ⟨f, hf, rfl⟩)
    refine ⟨ks ++ [(c, z + 1)], ?_, ?_, fun φ => ?_, fun f hf => ?_, fun f hf => ?_, by simp, by simp⟩
    · unfold putK
      rw [if_neg any, List.map_append]
      rfl
    · rw [List.map_append, List.nodup_append]
      refine ⟨nd, by simp, fun a ha b hb => ?_⟩
      simp at hb
      rw [hb]
      exact fun y => hc (by rw [← y]; exact ha)
    · unfold wS
      rw [List.map_append, List.sum_append]
      simp [ez]
    · rcases List.mem_append.mp hf with x | x
      · exact .inr x
      · exact .inl (List.mem_singleton.mp x)
    · rw [List.map_append]
      exact List.mem_append_left _ hf
end Z

set_option Elab.async false
set_option linter.all false
set_option maxRecDepth 100000
namespace Z
open PySem PySem.Spec PyProof.Rows L2
/-! ### zip of three lists -/
def It3L (K : PySem.W.Frag) (a b c : Addr) : It where
  go := fun i H => ∃ (xs ys ts : List V) (x y t : V), (SqL K H a xs ∧ SqL K H b ys ∧ SqL K H c ts) ∧ xs[i]? = some x ∧ ys[i]? = some y ∧ ts[i]? = some t
  yld := fun i H v H' => ∃ (T : Addr) (x y t : V), v = .ref T ∧ H T = none ∧ H' = upd H T (.tup [x, y, t]) ∧ (∀ l, SqL K H a l → l[i]? = some x) ∧ (∀ l, SqL K H b l → l[i]? = some y) ∧ ∀ l, SqL K H c l → l[i]? = some t
  stop := fun i H => ∃ xs ys ts : List V, (SqL K H a xs ∧ SqL K H b ys ∧ SqL K H c ts) ∧ i ≤ xs.length ∧ i ≤ ys.length ∧ i ≤ ts.length ∧ (i = xs.length ∨ i = ys.length ∨ i = ts.length)
def own3L (z TI TO i1 i2 i3 : Addr) : List Addr := [z, TI, TO, i1, i2, i3]
def at3L (a b c z TI TO i1 i2 i3 : Addr) (i : Nat) (h : Heap) : Prop :=
  IsZip h z TI TO .none ∧ IsTupOf3 h TI (.ref i1) (.ref i2) (.ref i3) ∧ (∃ x y t, IsTupOf3 h TO x y t) ∧ h.IsListIter i1 a i ∧ h.IsListIter i2 b i ∧ h.IsListIter i3 c i
theorem sixL {z TI TO i1 i2 i3 q : Addr} (h : q ∈ own3L z TI TO i1 i2 i3) : q = z ∨ q = TI ∨ q = TO ∨ q = i1 ∨ q = i2 ∨ q = i3 := by
  simpa [own3L] using h
theorem ne_itL {h : Heap} {t it l : Addr} {items : Array Value} {i : Nat} (p : h.IsList t items) (q : h.IsListIter it l i) : t ≠ it := fun e => by
  obtain ⟨o, ho, hcl, _⟩ := p
  obtain ⟨o', ho', hcl', _⟩ := q
  rw [e, ho'] at ho
  have eo := Option.some.inj ho
  rw [eo, hcl] at hcl'
  exact absurd (Value.type.inj hcl') (by decide)
set_option maxHeartbeats 1000000 in
theorem turn3L {P : Program} {w : World} {K : PySem.W.Frag} {elts : List Expr} {kk : Nat} {tpos : Pos} {a b c z TI TO i1 i2 i3 : Addr} (D : ZipSep3 z TI TO i1 i2 i3 [i1, a] [i2, b] [i3, c]) :
    Turn P w K (.Tuple elts kk tpos) (It3L K a b c) (own3L z TI TO i1 i2 i3) z (at3L a b c z TI TO i1 i2 i3) := by
  refine ⟨by simp [own3L], fun i h st q hq => ?_, fun i h h' st k => ?_, ?_, ?_, fun A i s Q E st h => wpAny_pyIter_zip st.1 h⟩
  · obtain ⟨hz, hTI, ⟨x, y, t, hTO⟩, ⟨o1, e1, _, d1⟩, ⟨o2, e2, _, d2⟩, ⟨o3, e3, _, d3⟩⟩ := st
    rcases sixL hq with rfl | rfl | rfl | rfl | rfl | rfl
    · exact ⟨_, hz, fun v q => nomatch q⟩
    · exact ⟨_, hTI, fun v q => nomatch q⟩
    · exact ⟨_, hTO, fun v q => nomatch q⟩
    · exact ⟨o1, e1, fun v q => by rw [d1] at q; cases q⟩
    · exact ⟨o2, e2, fun v q => by rw [d2] at q; cases q⟩
    · exact ⟨o3, e3, fun v q => by rw [d3] at q; cases q⟩
  · obtain ⟨hz, hTI, ⟨x, y, t, hTO⟩, h1, h2, h3⟩ := st
    exact ⟨k z (by simp [own3L]) _ hz, k TI (by simp [own3L]) _ hTI, ⟨x, y, t, k TO (by simp [own3L]) _ hTO⟩, h1.at fun o q => k i1 (by simp [own3L]) o q, h2.at fun o q => k i2 (by simp [own3L]) o q, h3.at fun o q => k i3 (by simp [own3L]) o q⟩
  · intro X hP hw hK hc i pins s σ H E I hf st hg
    subst hP hw hK
    obtain ⟨hz, hTI, ⟨x0, y0, t0, hTO⟩, h1, h2, h3⟩ := st
    obtain ⟨xs, ys, ts, x, y, t, ⟨qx, qy, qt⟩, fx, fy, ft⟩ := hg
    obtain ⟨js1, r1, pl1, _⟩ := I.list qx
    have p1 := pl1.isList
    obtain ⟨js2, r2, pl2, _⟩ := I.list qy
    have p2 := pl2.isList
    obtain ⟨js3, r3, pl3, _⟩ := I.list qt
    have p3 := pl3.isList
    obtain ⟨u1, f1, m1⟩ := r1.get fx
    obtain ⟨u2, f2, m2⟩ := r2.get fy
    obtain ⟨u3, f3, m3⟩ := r3.get ft
    have lz : z < s.heap.objs.size := Heap.lt_size hz
    have hd := I.ok.hd hc
    have n1 : a ≠ i1 := ne_itL p1 h1
    have n2 : b ≠ i2 := ne_itL p2 h2
    have n3 : c ≠ i3 := ne_itL p3 h3
    have k1 : i < js1.toArray.size := by have := (List.getElem?_eq_some_iff.mp f1).1; simpa using this
    have k2 : i < js2.toArray.size := by have := (List.getElem?_eq_some_iff.mp f2).1; simpa using this
    have k3 : i < js3.toArray.size := by have := (List.getElem?_eq_some_iff.mp f3).1; simpa using this
    refine wpAny_pyNext_zipD3_item D (Draws.list (A := X.A.in1) hd i1 a n1 js1.toArray) (Draws.list (A := X.A.in1) hd i2 b n2 js2.toArray) (Draws.list (A := X.A.in1) hd i3 c n3 js3.toArray) hz hTI hTO ⟨h1, p1⟩ ⟨h2, p2⟩ ⟨h3, p3⟩ k1 k2 k3 fun x1 x2 x3 h' tk e1 e2 e3 z' TO' st1 st2 st3 hT hsz hk => ?_
    have w1 : x1 = u1 := Option.some.inj (e1.symm.trans (by simpa using f1))
    have w2 : x2 = u2 := Option.some.inj (e2.symm.trans (by simpa using f2))
    have w3 : x3 = u3 := Option.some.inj (e3.symm.trans (by simpa using f3))
    subst w1 w2 w3
    refine ⟨_, rfl, wpAny_letOwnedTupleGo_zip (s := { s with heap := h', toks := tk }) z' fun h'' z'' sb => ?_⟩
    have up : ∀ q o, q ≠ z → h'.get? q = some o → h''.get? q = some o := fun q o n e => (sb.2 q n).trans e
    have hT2 := up _ _ (Nat.ne_of_gt lz) hT
    have fresh : H s.heap.objs.size = none := I.hok.fresh (Nat.le_refl _)
    have new : ObjOk X.prog X.w (upd H s.heap.objs.size (.tup [x, y, t])) h'' s.heap.objs.size (.tup [x, y, t]) :=
      ⟨by show 3 ≤ sizeLine; decide, [x1, x2, x3], .cons m1 (.cons m2 (.cons m3 .nil)), ⟨_, hT2, rfl, _, rfl⟩⟩
    have kp : ∀ q o, q ∉ own3L z TI TO i1 i2 i3 → s.heap.get? q = some o → h''.get? q = some o := fun q o nq e => by
      have nz : q ≠ z := fun y => nq (by simp [own3L, y])
      refine up q o nz (hk q o nz (fun y => nq (by simp [own3L, y])) (fun y => nq (by simp [own3L, y])) (fun y => nq (by simp [own3L, y])) (fun y => nq (by simp [own3L, y])) e)
    have zi : ∀ {j : Addr} {fp : List Addr}, j ∈ fp → z ∉ fp → j ≠ z := fun hj hz e => hz (by rw [← e]; exact hj)
    refine ⟨.ref s.heap.objs.size, _, I.turnedNew (t' := tk) (ch := own3L z TI TO i1 i2 i3) kp hf (Nat.le_refl _) new, rfl, ⟨_, x, y, t, rfl, fresh, rfl, fun l hl => by rw [I.list_inj hl qx]; exact fx, fun l hl => by rw [I.list_inj hl qy]; exact fy, fun l hl => by rw [I.list_inj hl qt]; exact ft⟩, ⟨z'', ?_, ⟨x1, x2, x3, up _ _ D.TOz TO'⟩, ?_, ?_, ?_⟩, fun q hq => ?_⟩
    · exact up _ _ D.TIz (hk _ _ D.TIz D.TITO D.TIi1 D.TIi2 D.TIi3 hTI)
    · exact st1.1.at fun o e => up _ _ (zi D.mem1 D.zf1) e
    · exact st2.1.at fun o e => up _ _ (zi D.mem2 D.zf2) e
    · exact st3.1.at fun o e => up _ _ (zi D.mem3 D.zf3) e
    · have lq : q < s.heap.objs.size := by
        rcases sixL hq with rfl | rfl | rfl | rfl | rfl | rfl
        · exact lz
        · exact Heap.lt_size hTI
        · exact Heap.lt_size hTO
        · obtain ⟨_, e, _⟩ := h1; exact Heap.lt_size e
        · obtain ⟨_, e, _⟩ := h2; exact Heap.lt_size e
        · obtain ⟨_, e, _⟩ := h3; exact Heap.lt_size e
      rw [upd_ne (Nat.ne_of_lt lq)]
      exact (hf q hq).1
  · intro X hP hw hK hc i pins s σ H E I hf st hg
    subst hP hw hK
    obtain ⟨hz, hTI, ⟨x0, y0, t0, hTO⟩, h1, h2, h3⟩ := st
    obtain ⟨xs, ys, ts, ⟨qx, qy, qt⟩, b1, b2, b3, hend⟩ := hg
    obtain ⟨js1, r1, pl1, _⟩ := I.list qx
    have p1 := pl1.isList
    obtain ⟨js2, r2, pl2, _⟩ := I.list qy
    have p2 := pl2.isList
    obtain ⟨js3, r3, pl3, _⟩ := I.list qt
    have p3 := pl3.isList
    have hd := I.ok.hd hc
    have l1 := r1.length
    have l2 := r2.length
    have l3 := r3.length
    have n1 : a ≠ i1 := ne_itL p1 h1
    have n2 : b ≠ i2 := ne_itL p2 h2
    have n3 : c ≠ i3 := ne_itL p3 h3
    refine wpAny_pyNext_zipD3_end D (Draws.list (A := X.A.in1) hd i1 a n1 js1.toArray) (Draws.list (A := X.A.in1) hd i2 b n2 js2.toArray) (Draws.list (A := X.A.in1) hd i3 c n3 js3.toArray) hz hTI hTO ⟨h1, p1⟩ ⟨h2, p2⟩ ⟨h3, p3⟩ (by simp; omega) (by simp; omega) (by simp; omega) (by simp; omega) fun h' tk hk => ?_
    exact ⟨rfl, I.turnedL (t' := tk) (ch := own3L z TI TO i1 i2 i3) (fun q o nq e => hk q o (fun y => nq (by simp [own3L, y])) (fun y => nq (by simp [own3L, y])) (fun y => nq (by simp [own3L, y])) (fun y => nq (by simp [own3L, y])) (fun y => nq (by simp [own3L, y])) e) hf⟩
set_option maxHeartbeats 400000
def iZip3L (K : PySem.W.Frag) (ta : TA) : TI := fun σ H R => ta σ H fun vs H1 => ∃ a b c xs ys ts, vs = [.ref a, .ref b, .ref c] ∧ SqL K H1 a xs ∧ SqL K H1 b ys ∧ SqL K H1 c ts ∧ R (It3L K a b c) H1
theorem own_leL {N y : Nat} (hy : y ∈ own3L (N + 5) (N + 3) (N + 4) N (N + 1) (N + 2)) : N ≤ y := by
  rcases sixL hy with z | z | z | z | z | z <;> rw [z]
  · exact Nat.le_add_right _ _
  · exact Nat.le_add_right _ _
  · exact Nat.le_add_right _ _
  · exact Nat.le_refl _
  · exact Nat.le_add_right _ _
  · exact Nat.le_add_right _ _
theorem zip3_endL {X : Cx} {pins : List (Addr × Obj)} {σ : L2.St} {H1 : Hp} {s1 : Shared} {R : It → Hp → Prop} {a b c : Addr} {xs ys ts : List V} {elts : List Expr} {kk : Nat} {tpos : Pos} (I1 : Inv X pins σ H1 s1) (qx : SqL X.K H1 a xs) (qy : SqL X.K H1 b ys) (qt : SqL X.K H1 c ts) (q : R (It3L X.K a b c) H1) :
    wpAny (model X.prog X.w) X.A (call (.type "zip") [.ref a, .ref b, .ref c]) (fun v s2 => wpAny (model X.prog X.w) X.A (pyIter v) (PIE X pins σ (.Tuple elts kk tpos) R) X.xe s2) X.xe s1 := by
  obtain ⟨js1, m1, pl1, _⟩ := I1.list qx
  have p1 := pl1.isList
  obtain ⟨js2, m2, pl2, _⟩ := I1.list qy
  have p2 := pl2.isList
  obtain ⟨js3, m3, pl3, _⟩ := I1.list qt
  have p3 := pl3.isList
  have la : a < s1.heap.objs.size := by obtain ⟨_, o, _⟩ := p1; exact Heap.lt_size o
  have lb : b < s1.heap.objs.size := by obtain ⟨_, o, _⟩ := p2; exact Heap.lt_size o
  have lc : c < s1.heap.objs.size := by obtain ⟨_, o, _⟩ := p3; exact Heap.lt_size o
  refine zip_begins3 (begins_list a js1.toArray) (begins_list b js2.toArray) (begins_list c js3.toArray) p1 p2 p3 fun h' hz hTI hTO g1 g2 g3 hsz hk => wpAny_pyIter_zip hz ?_
  have one : ∀ {x : Addr}, x < s1.heap.objs.size → ∀ y ∈ [x], y < s1.heap.objs.size := fun hx y hy => by rw [List.mem_singleton.mp hy]; exact hx
  have I2 : Inv X pins σ H1 { s1 with heap := h' } := I1.kept (t' := s1.toks) hk
  have fr : ∀ y, s1.heap.objs.size ≤ y → FpOk X pins H1 y := fun y hle => I1.fpOk hle (I1.hok.fresh hle)
  have sp := zip_sep3 (one la) (one lb) (one lc)
  generalize s1.heap.objs.size = N at *
  exact ⟨N + 5, own3L (N + 5) (N + 3) (N + 4) N (N + 1) (N + 2), at3L a b c (N + 5) (N + 3) (N + 4) N (N + 1) (N + 2), It3L X.K a b c, H1, rfl, I2, turn3L sp, ⟨hz, hTI, ⟨_, _, _, hTO⟩, ⟨_, g1, rfl, rfl⟩, ⟨_, g2, rfl, rfl⟩, ⟨_, g3, rfl, rfl⟩⟩, fun y hy => fr y (own_leL hy), q⟩
theorem pi_zip3L (K : PySem.W.Frag) {X : Cx} {e e2 e3 : Expr} {ta : TA} {p pos tpos : Pos} {elts : List Expr} {kk : Nat} (hg : Gl X "zip") (hm : X.mg "zip" = none) (ha : PA X [e, e2, e3] ta)
    (hs : starEach [e, e2, e3] X.env = (false, eval e X.env) :: starEach [e2, e3] X.env := by rfl) (hpl : (backTo pos (starEach [e2, e3] X.env)).any (·.1) = false := by rfl) (hK : X.K = K := by rfl) :
    PI X (.Tuple elts kk tpos) (.Call (.Name "zip" p) [e, e2, e3] [] pos) (iZip3L K ta) := by
  subst hK
  refine ⟨fun pins s σ H R I h => ?_⟩
  refine Call_ (ld_blt I hg hm PyProof.Rows.boot_zip (PyProof.Rows.callWith_type1 (thn (ha.run pos pins s σ H _ I h) fun us s1 ⟨vs, H1, I1, r1, q1⟩ => ?_) hs hpl))
  obtain ⟨a, b, c, xs, ys, ts, rfl, qx, qy, qt, q⟩ := q1
  obtain ⟨u1, us, rfl, ra, r1⟩ : ∃ u1 vs', us = u1 :: vs' ∧ RelV (.ref a) u1 ∧ Vals [.ref b, .ref c] vs' := by
    cases r1 with
    | cons x y => exact ⟨_, _, rfl, x, y⟩
  obtain ⟨u2, us, rfl, rb, r1⟩ : ∃ u1 vs', us = u1 :: vs' ∧ RelV (.ref b) u1 ∧ Vals [.ref c] vs' := by
    cases r1 with
    | cons x y => exact ⟨_, _, rfl, x, y⟩
  obtain ⟨u3, rfl, rc⟩ := vals1 r1
  cases (show u1 = Value.ref a from ra)
  cases (show u2 = Value.ref b from rb)
  cases (show u3 = Value.ref c from rc)
  exact zip3_endL I1 qx qy qt q
def YTriL (xs ys ts : List V) : Nat → Hp → V → Hp → Prop := fun i H v H' => ∃ T x y t, v = .ref T ∧ H T = none ∧ H' = upd H T (.tup [x, y, t]) ∧ xs[i]? = some x ∧ ys[i]? = some y ∧ ts[i]? = some t
theorem walk_zip3L {K : PySem.W.Frag} {a b c : Addr} {xs ys ts : List V} (h1 : ys.length = xs.length) (h2 : ts.length = xs.length) : Walk (It3L K a b c) xs.length (fun H => SqL K H a xs ∧ SqL K H b ys ∧ SqL K H c ts) (YTriL xs ys ts) := by
  refine ⟨fun i H hi q => ⟨xs, ys, ts, xs[i], ys[i]'(by omega), ts[i]'(by omega), q, by simp [hi], by simp, by simp⟩, fun H q => ⟨xs, ys, ts, q, by omega, by omega, by omega, .inl rfl⟩, fun i H v H' _ q y => ?_⟩
  obtain ⟨T, x, z, t, e1, e2, e3, e4, e5, e6⟩ := y
  exact ⟨T, x, z, t, e1, e2, e3, e4 xs q.1, e5 ys q.2.1, e6 ts q.2.2⟩
end Z

set_option Elab.async false
set_option linter.all false
set_option maxRecDepth 100000
set_option maxHeartbeats 400000
namespace Z
open PySem PySem.Spec PyProof.Rows L2
/-! ### list(reversed(xs)) -/
theorem lri_no_len : typeLookup (.type "list_reverseiterator") "__len__" = pure none := by rw [typeLookup_type, builtinLookup_eq_fast]; kernel_rfl
theorem lri_hint : typeLookup (.type "list_reverseiterator") "__length_hint__" = pure (some (.builtin "list_reverseiterator.__length_hint__")) := by rw [typeLookup_type, builtinLookup_eq_fast]; kernel_rfl
section
variable {prog : Program} {w : World} {A : Around}
theorem extend_rev {R S l : Addr} {items : Array Value} {res : Value} {Rz : Result → Shared → Prop} (hh : A.handled = none) (hSR : S ≠ R) (hlS : l ≠ S) (hlR : l ≠ R) :
    ∀ (k : Nat) (s : Shared) (acc : List Value) (c : Nat), k ≤ items.size → s.heap.IsRevIter R l ((k : Int) - 1) → s.heap.IsList l items → s.heap.get? S = some { cls := .type "list", dict := none, data := .seq acc.toArray c, slots := #[] } → acc.length + k ≤ 100000 →
    (∀ h' c', (∀ b o, b ≠ R → b ≠ S → s.heap.get? b = some o → h'.get? b = some o) → h'.get? S = some { cls := .type "list", dict := none, data := .seq (acc ++ (items.toList.take k).reverse).toArray c', slots := #[] } → Rz (.ok (.ret res)) { s with heap := h' }) →
    codeAny (model prog w) A (.builtin "list.extend.loop" ⟨[.ref S, .ref R, res], []⟩) Rz s := by
  intro k
  induction k with
  | zero =>
    intro s acc c hk hit hl eS la hR
    refine codeAny_builtin F.entry_extend_loop ?_
    rw [Around.under_plainId F.plain_extend_loop _]
    show wpAny _ A.in1 (pyNext (.ref R) >>= _) _ _ s
    refine wpAny_bind (wpAny_pyNext_rev_end hh (by simpa using hit) fun h' hx => ?_)
    refine wpAny_pure (hR h' c (fun b o hb _ e => hx b o hb e) ?_)
    rw [List.take_zero, List.reverse_nil, List.append_nil]
    exact hx S _ hSR eS
  | succ k ih =>
    intro s acc c hk hit hl eS la hR
    refine codeAny_builtin F.entry_extend_loop ?_
    rw [Around.under_plainId F.plain_extend_loop _]
    show wpAny _ A.in1 (pyNext (.ref R) >>= _) _ _ s
    have hk2 : k < items.size := by omega
    have hit' : s.heap.IsRevIter R l (k : Int) := by
      have : ((k + 1 : Nat) : Int) - 1 = (k : Int) := by omega
      rw [this] at hit
      exact hit
    refine wpAny_bind (wpAny_pyNext_rev_item (i := k) (x := items[k]) hit' hl (Array.getElem?_eq_getElem hk2) fun h' it' sb => ?_)
    have eS' : h'.get? S = some { cls := .type "list", dict := none, data := .seq acc.toArray c, slots := #[] } := (sb.2 S hSR).trans eS
    have lz : acc.toArray.size ≤ sizeLine := by simp only [List.size_toArray]; rw [sizeLine_eq]; omega
    show wpAny _ A.in1 (updateSeq S (·.push items[k]) >>= _) _ _ _
    refine wpAny_bind ?_
    have up : ∀ b o, b ≠ S → h'.get? b = some o → (h'.update S (Obj.mapSeq fun x => x.push items[k])).get? b = some o := fun b o hb e => (Heap.get?_update_other _ _ (Ne.symm hb)).trans e
    have eS2 := Heap.get?_update_self (Obj.mapSeq fun x => x.push items[k]) eS' rfl
    obtain ⟨c2, eS3⟩ : ∃ c2, (h'.update S (Obj.mapSeq fun x => x.push items[k])).get? S = some { cls := .type "list", dict := none, data := .seq (acc ++ [items[k]]).toArray c2, slots := #[] } := by
      rw [eS2]
      unfold Obj.mapSeq
      simp only [List.push_toArray]
      exact ⟨_, rfl⟩
    have etk : acc ++ (items.toList.take (k + 1)).reverse = (acc ++ [items[k]]) ++ (items.toList.take k).reverse := by
      rw [List.take_add_one, List.getElem?_eq_getElem (by simpa using hk2)]
      simp
    refine wpAny_updateSeq (s := { s with heap := h' }) eS' rfl (wpAny_pure ⟨plainId_quiet F.plain_extend_loop _, ih _ (acc ++ [items[k]]) c2 (by omega) (it'.at fun o e => up _ _ hSR.symm e) (hl.at fun o e => up _ _ hlS ((sb.2 l hlR).trans e)) eS3 (by simp; omega) fun h'' c' hk'' eS'' => ?_⟩) lz (by show (Array.push _ _).size ≤ sizeLine + 1; rw [Array.size_push]; omega)
    refine hR h'' c' (fun b o hb hbS e => hk'' b o hb hbS (up b o hbS ((sb.2 b hb).trans e))) ?_
    rw [etk]
    exact eS''
theorem lri_sub : isSubtype (.type "list_reverseiterator") (.type "list_reverseiterator") = pure true := by kernel_rfl
theorem call_list_rev {E : Value → Shared → Prop} {s : Shared} {R l : Addr} {items : Array Value} {Q : Value → Shared → Prop} (hh : A.handled = none) (hit : s.heap.IsRevIter R l ((items.size : Int) - 1)) (hl : s.heap.IsList l items) (hlR : l ≠ R) (hn : items.size ≤ 100000)
    (hQ : ∀ h' c, (∀ b o, b ≠ R → s.heap.get? b = some o → h'.get? b = some o) → h'.get? s.heap.objs.size = some { cls := .type "list", dict := none, data := .seq items.toList.reverse.toArray c, slots := #[] } → Q (.ref s.heap.objs.size) { s with heap := h' }) :
    wpAny (model prog w) A (call (.type "list") [.ref R]) Q E s := by
  have lR : R < s.heap.objs.size := by obtain ⟨_, o, _⟩ := hit; exact Heap.lt_size o
  have ll : l < s.heap.objs.size := by obtain ⟨_, o, _⟩ := hl; exact Heap.lt_size o
  refine callType_codes (Q₁ := fun obj s₁ => obj = .ref s.heap.objs.size ∧ s₁ = { s with heap := s.heap.push { cls := .type "list", data := .seq #[] } }) F.called_list (F.typeCall_list_1 _) F.entry_list_init
    (code_list_new _ ⟨rfl, rfl⟩) fun obj s₁ h₁ => ?_
  obtain ⟨rfl, rfl⟩ := h₁
  have hS : (s.heap.push { cls := .type "list", data := .seq #[] }).get? s.heap.objs.size = some { cls := .type "list", data := .seq #[] } := Heap.get?_push_size _ rfl
  refine ⟨⟨_, hS, rfl⟩, F.args_list_init_2 _ _, ?_⟩
  generalize hSS : s.heap.objs.size = S at *
  have up0 : ∀ b o, s.heap.get? b = some o → (s.heap.push { cls := .type "list", data := .seq #[] }).get? b = some o := fun b o e => Heap.get?_push_of_some _ e
  have old : ∀ b o, s.heap.get? b = some o → b ≠ S := fun b o e => by rw [← hSS]; exact Nat.ne_of_lt (Heap.lt_size e)
  generalize s.heap.push { cls := .type "list", data := .seq #[] } = h1 at *
  show wpAny _ A.in1.in1 (do let old ← Builtin.List.listItems (.ref S); Builtin.List.listUpdate (.ref S) (fun _ => #[]); letGo old.toList.reverse; Builtin.List.listExtendWith (.ref S) (.ref R) .none) _ _ _
  refine wpAny_bind ?_
  unfold Builtin.List.listItems
  refine wpAny_bind (wpAny_seqItems (s := { s with heap := h1 }) hS rfl (wpAny_pure ?_))
  show wpAny _ A.in1.in1 (updateSeq S (fun _ => #[]) >>= fun _ => letGo (#[] : Array Value).toList.reverse >>= fun _ => Builtin.List.listExtendWith (.ref S) (.ref R) .none) _ _ _
  refine wpAny_bind (wpAny_updateSeq (s := { s with heap := h1 }) hS rfl ?_)
  have hS2 := Heap.get?_update_self (Obj.mapSeq (fun _ => (#[] : Array Value))) hS rfl
  have up2 : ∀ b o, b ≠ S → h1.get? b = some o → (h1.update S (Obj.mapSeq (fun _ => (#[] : Array Value)))).get? b = some o := fun b o hb e => (Heap.get?_update_other _ _ (Ne.symm hb)).trans e
  refine wpAny_bind (wpAny_letGo ?_)
  have up3 : ∀ b o, s.heap.get? b = some o → (h1.update S (Obj.mapSeq (fun _ => (#[] : Array Value)))).get? b = some o := fun b o e => up2 b o (old b o e) (up0 b o e)
  generalize hh2 : h1.update S (Obj.mapSeq (fun _ => (#[] : Array Value))) = h2 at *
  have it2 : h2.IsRevIter R l ((items.size : Int) - 1) := hit.at fun o e => up3 _ _ e
  have hl2 : h2.IsList l items := hl.at fun o e => up3 _ _ e
  have hT : Shared.TypeIs { s with heap := h2 } (.ref R) "list_reverseiterator" := by
    obtain ⟨o, e, c, _⟩ := it2
    exact ⟨o, e, c⟩
  have hSR : S ≠ R := Nat.ne_of_gt lR
  unfold Builtin.List.listExtendWith
  refine wpAny_bind (wpAny_typeOf hT ?_)
  have b1 : Builtin.List.listSameRef (.ref S) (.ref R) = false := by simp [Builtin.List.listSameRef, hSR]
  have b2 : (Value.type "list_reverseiterator" == Value.type "list") = false := by decide
  have b3 : (Value.type "list_reverseiterator" == Value.type "tuple") = false := by decide
  simp only [b1, b2, b3, Bool.or_false, Bool.false_eq_true, if_false]
  refine wpAny_bind (wpAny_pyIter_revIter (s := { s with heap := h2 }) it2 ?_)
  refine wpAny_bind (wpAny_holding ?_)
  unfold Builtin.List.listLengthHint
  refine wpAny_bind (wpAny_specialOf hT lri_no_len ?_)
  show wpAny _ A.in1.in1 (specialOf (Value.ref R) (Str.ofString "__length_hint__") >>= _) _ _ _
  refine wpAny_bind (wpAny_specialOf hT lri_hint ?_)
  show wpAny _ A.in1.in1 (isInstance (Value.ref R) (.type "list_reverseiterator") >>= _) _ _ _
  refine wpAny_bind (wpAny_isInstance hT lri_sub ?_)
  rw [if_neg (by decide)]
  show wpAny _ A.in1.in1 (pure false) _ _ _
  refine wpAny_pure ?_
  rw [if_neg (by decide)]
  have hlS : l ≠ S := Nat.ne_of_lt ll
  refine wpAny_pure ⟨plainId_quiet F.plain_extend_loop _, extend_rev (A := A.in1) (items := items) hh hSR hlS hlR items.size _ [] _ (Nat.le_refl _) it2 hl2 hS2 (by simp; omega) fun h' c hk' eS' => ⟨rfl, hQ h' c (fun b o hb e => hk' b o hb (old b o e) (up3 b o e)) ?_⟩⟩
  rw [List.nil_append, List.take_of_length_le (by simp)] at eS'
  exact eS'
end
def tListRev (K : PySem.W.Frag) (ta : TA) : TE := fun σ H Q => ta σ H fun vs H1 => ∃ (a : Addr) (xs : List V), vs = [.ref a] ∧ SqL K H1 a xs ∧ xs.length ≤ 100000 ∧ ∀ l, H1 l = none → Q (.ref l) (upd H1 l (.lst xs.reverse))
theorem pe_listRev (K : PySem.W.Frag) {X : Cx} {e : Expr} {ta : TA} {p p2 pos pos2 : Pos} (hc : X.calm = true) (hgl : Gl X "list") (hml : X.mg "list" = none) (hgz : Gl X "reversed") (hmz : X.mg "reversed" = none) (ha : PA X [e] ta)
    (hs : starEach [e] X.env = [(false, eval e X.env)] := by rfl)
    (na : starEach [.Call (.Name "reversed" p2) [e] [] pos2] X.env = (false, eval (.Call (.Name "reversed" p2) [e] [] pos2) X.env) :: starEach [] X.env := by rfl) (hK : X.K = K := by rfl) :
    PE X (.Call (.Name "list" p) [.Call (.Name "reversed" p2) [e] [] pos2] [] pos) (tListRev K ta) := by
  subst hK
  refine ⟨fun pins s σ H Q I h => ?_⟩
  refine Call_ (ld_blt I hgl hml PyProof.Rows.boot_list (PyProof.Rows.callWith_type1 (args_cons (Call_ (ld_blt I hgz hmz PyProof.Rows.boot_reversed (PyProof.Rows.callWith_type1 (thn (ha.run pos2 pins s σ H _ I h) fun us s1 ⟨vs, H1, I1, r1, a, xs, ev, qx, lx, q⟩ => ?_) hs))) na) na))
  subst ev
  obtain ⟨u, rfl, ru⟩ := vals1 r1
  obtain rfl : u = Value.ref a := ru
  obtain ⟨js, rv, pl, hz⟩ := I1.list qx
  refine call_reversed_list pl.isList (args_nil ?_)
  have lj := rv.length
  have la : a < s1.heap.objs.size := by obtain ⟨_, o, _⟩ := pl.isList; exact Heap.lt_size o
  have up : ∀ b o, s1.heap.get? b = some o → (s1.heap.push (revObj a ((js.toArray.size : Int) - 1))).get? b = some o := fun b o e => Heap.get?_push_of_some _ e
  have hR : (s1.heap.push (revObj a ((js.toArray.size : Int) - 1))).get? s1.heap.objs.size = some (revObj a ((js.toArray.size : Int) - 1)) := Heap.get?_push_size _ rfl
  refine call_list_rev (s := { s1 with heap := s1.heap.push (revObj a ((js.toArray.size : Int) - 1)) }) (R := s1.heap.objs.size) (l := a) (items := js.toArray) (I1.ok.hd hc) ⟨_, hR, rfl, rfl⟩ (pl.isList.at fun o e => up _ _ e) (Nat.ne_of_lt la) (by simp; omega) fun h' c hk eS => ?_
  have hsz : s1.heap.objs.size ≤ (s1.heap.push (revObj a ((js.toArray.size : Int) - 1))).objs.size := Nat.le_of_lt (Heap.lt_size hR)
  refine ⟨.ref _, upd H1 _ (.lst xs.reverse), I1.laid (t' := s1.toks) (fun b o e => hk b o (Nat.ne_of_lt (Heap.lt_size e)) (up b o e)) hsz ⟨?_, js.reverse, c, rv.reverse, ?_⟩, rfl, q _ (I1.hok.fresh hsz)⟩
  · rw [List.length_reverse, sizeLine_eq]
    omega
  · simpa using eS
end Z

set_option Elab.async false
set_option linter.all false
set_option maxRecDepth 100000
namespace Z
open PySem PySem.Spec PyProof.Rows L2 L2.DX
def topS (i : Nat) : Stmt := PySem.Challenge.pw_fewcolours_k32_told_by_more_and_again.main.body.getD i (.Pass ⟨0, 0, 0, 0⟩)
abbrev s_apart : Stmt := topS 1
abbrev N_apart : List Str := ["one", "other", "a", "b"]
theorem sc_apart : FnScope N_apart ["one", "other"] (defScope s_apart) := ⟨rfl, rfl, rfl, by decide +kernel, rfl, by decide +kernel, by decide +kernel⟩
abbrev s_nearest : Stmt := topS 3
abbrev N_nearest : List Str := ["palette", "colour", "squares", "one"]
theorem sc_nearest : FnScope N_nearest ["palette", "colour"] (defScope s_nearest) := ⟨rfl, rfl, rfl, by decide +kernel, rfl, by decide +kernel, by decide +kernel⟩
abbrev s_counts_in : Stmt := topS 5
abbrev N_counts_in : List Str := ["picture", "counts", "row", "colour"]
theorem sc_counts_in : FnScope N_counts_in ["picture"] (defScope s_counts_in) := ⟨rfl, rfl, rfl, by decide +kernel, rfl, by decide +kernel, by decide +kernel⟩
abbrev s_numbers_by : Stmt := topS 6
abbrev N_numbers_by : List Str := ["picture", "palette", "row", "colour"]
theorem sc_numbers_by : FnScope N_numbers_by ["picture", "palette"] (defScope s_numbers_by) := ⟨rfl, rfl, rfl, by decide +kernel, rfl, by decide +kernel, by decide +kernel⟩
abbrev s_painted : Stmt := topS 7
abbrev N_painted : List Str := ["numbers", "palette", "row", "number"]
theorem sc_painted : FnScope N_painted ["numbers", "palette"] (defScope s_painted) := ⟨rfl, rfl, rfl, by decide +kernel, rfl, by decide +kernel, by decide +kernel⟩
abbrev s_lost_in : Stmt := topS 8
abbrev N_lost_in : List Str := ["picture", "other", "row", "beside", "a", "b"]
theorem sc_lost_in : FnScope N_lost_in ["picture", "other"] (defScope s_lost_in) := ⟨rfl, rfl, rfl, by decide +kernel, rfl, by decide +kernel, by decide +kernel⟩
abbrev s_l_mix : Stmt := topS 10
abbrev N_l_mix : List Str := ["_law_cell", "_law_k", "_law_m"]
theorem sc_l_mix : FnScope N_l_mix ["_law_cell", "_law_k"] (defScope s_l_mix) := ⟨rfl, rfl, rfl, by decide +kernel, rfl, by decide +kernel, by decide +kernel⟩
abbrev s_l_left : Stmt := topS 11
abbrev N_l_left : List Str := ["_law_script", "_law_k", "_law_cell"]
theorem sc_l_left : FnScope N_l_left ["_law_script", "_law_k"] (defScope s_l_left) := ⟨rfl, rfl, rfl, by decide +kernel, rfl, by decide +kernel, by decide +kernel⟩
abbrev s_l_pick : Stmt := topS 12
abbrev N_l_pick : List Str := ["_law_left_here", "_law_many", "_law_digit"]
theorem sc_l_pick : FnScope N_l_pick ["_law_left_here", "_law_many"] (defScope s_l_pick) := ⟨rfl, rfl, rfl, by decide +kernel, rfl, by decide +kernel, by decide +kernel⟩
abbrev s_l_kind : Stmt := topS 13
abbrev N_l_kind : List Str := ["_law_left_here"]
theorem sc_l_kind : FnScope N_l_kind ["_law_left_here"] (defScope s_l_kind) := ⟨rfl, rfl, rfl, by decide +kernel, rfl, by decide +kernel, by decide +kernel⟩
abbrev s_l_colour : Stmt := topS 14
abbrev N_l_colour : List Str := ["_law_left_here", "_law_kind_here", "_law_wide", "_law_span", "_law_place"]
theorem sc_l_colour : FnScope N_l_colour ["_law_left_here", "_law_kind_here"] (defScope s_l_colour) := ⟨rfl, rfl, rfl, by decide +kernel, rfl, by decide +kernel, by decide +kernel⟩
abbrev s_l_palette : Stmt := topS 15
abbrev N_l_palette : List Str := ["_law_left_here", "_law_kind_here", "_law_many", "_law_found", "_law_k", "_law_colour_here"]
theorem sc_l_palette : FnScope N_l_palette ["_law_left_here", "_law_kind_here"] (defScope s_l_palette) := ⟨rfl, rfl, rfl, by decide +kernel, rfl, by decide +kernel, by decide +kernel⟩
abbrev s_l_picture : Stmt := topS 16
abbrev N_l_picture : List Str := ["_law_left_here", "_law_kind_here", "_law_high", "_law_wide", "_law_some", "_law_found", "_law_row", "_law_spots", "_law_column", "_law_colour_here", "_law_side", "_law_k"]
theorem sc_l_picture : FnScope N_l_picture ["_law_left_here", "_law_kind_here"] (defScope s_l_picture) := ⟨rfl, rfl, rfl, by decide +kernel, rfl, by decide +kernel, by decide +kernel⟩
abbrev s_l_apart : Stmt := topS 17
abbrev N_l_apart : List Str := ["_law_one", "_law_other", "_law_a", "_law_b"]
theorem sc_l_apart : FnScope N_l_apart ["_law_one", "_law_other"] (defScope s_l_apart) := ⟨rfl, rfl, rfl, by decide +kernel, rfl, by decide +kernel, by decide +kernel⟩
abbrev s_l_squares : Stmt := topS 18
abbrev N_l_squares : List Str := ["_law_picture_here", "_law_other", "_law_row", "_law_beside", "_law_a", "_law_b"]
theorem sc_l_squares : FnScope N_l_squares ["_law_picture_here", "_law_other"] (defScope s_l_squares) := ⟨rfl, rfl, rfl, by decide +kernel, rfl, by decide +kernel, by decide +kernel⟩
abbrev s_l_more_right : Stmt := topS 19
abbrev N_l_more_right : List Str := ["_law_picture_here", "_law_palette_here", "_law_numbers", "_law_colour_here", "_law_told", "_law_row", "_law_old", "_law_new", "_law_spot", "_law_number", "_law_further", "_law_nearer"]
theorem sc_l_more_right : FnScope N_l_more_right ["_law_picture_here", "_law_palette_here", "_law_numbers", "_law_colour_here"] (defScope s_l_more_right) := ⟨rfl, rfl, rfl, by decide +kernel, rfl, by decide +kernel, by decide +kernel⟩
abbrev s_law : Stmt := topS 20
abbrev N_law : List Str := ["_law_script", "_law_k", "_law_left_here", "_law_kind_here", "_law_picture_here", "_law_palette_here", "_law_numbers", "_law_told", "_law_more", "_law_turned", "_law_other", "_law_own", "_law_same", "_law_colour_here", "_law_count"]
theorem sc_law : FnScope N_law ["_law_script"] (defScope s_law) := ⟨rfl, rfl, rfl, by decide +kernel, rfl, by decide +kernel, by decide +kernel⟩
structure Tx (K : PySem.W.Frag) (mg : Str → Option Value) where
  f_apart : Addr
  d_apart : FuncData
  F_apart : Fun K "apart" "apart" s_apart f_apart d_apart
  b_apart : Binds K d_apart ["one", "other"] []
  g_apart : mg "apart" = some (.ref f_apart)
  f_nearest : Addr
  d_nearest : FuncData
  F_nearest : Fun K "nearest" "nearest" s_nearest f_nearest d_nearest
  b_nearest : Binds K d_nearest ["palette", "colour"] []
  g_nearest : mg "nearest" = some (.ref f_nearest)
  f_counts_in : Addr
  d_counts_in : FuncData
  F_counts_in : Fun K "counts_in" "counts_in" s_counts_in f_counts_in d_counts_in
  b_counts_in : Binds K d_counts_in ["picture"] []
  g_counts_in : mg "counts_in" = some (.ref f_counts_in)
  f_numbers_by : Addr
  d_numbers_by : FuncData
  F_numbers_by : Fun K "numbers_by" "numbers_by" s_numbers_by f_numbers_by d_numbers_by
  b_numbers_by : Binds K d_numbers_by ["picture", "palette"] []
  g_numbers_by : mg "numbers_by" = some (.ref f_numbers_by)
  f_painted : Addr
  d_painted : FuncData
  F_painted : Fun K "painted" "painted" s_painted f_painted d_painted
  b_painted : Binds K d_painted ["numbers", "palette"] []
  g_painted : mg "painted" = some (.ref f_painted)
  f_lost_in : Addr
  d_lost_in : FuncData
  F_lost_in : Fun K "lost_in" "lost_in" s_lost_in f_lost_in d_lost_in
  b_lost_in : Binds K d_lost_in ["picture", "other"] []
  g_lost_in : mg "lost_in" = some (.ref f_lost_in)
  f_l_mix : Addr
  d_l_mix : FuncData
  F_l_mix : Fun K "_law_mix" "_law_mix" s_l_mix f_l_mix d_l_mix
  b_l_mix : Binds K d_l_mix ["_law_cell", "_law_k"] []
  g_l_mix : mg "_law_mix" = some (.ref f_l_mix)
  f_l_left : Addr
  d_l_left : FuncData
  F_l_left : Fun K "_law_left" "_law_left" s_l_left f_l_left d_l_left
  b_l_left : Binds K d_l_left ["_law_script", "_law_k"] []
  g_l_left : mg "_law_left" = some (.ref f_l_left)
  f_l_pick : Addr
  d_l_pick : FuncData
  F_l_pick : Fun K "_law_pick" "_law_pick" s_l_pick f_l_pick d_l_pick
  b_l_pick : Binds K d_l_pick ["_law_left_here", "_law_many"] []
  g_l_pick : mg "_law_pick" = some (.ref f_l_pick)
  f_l_kind : Addr
  d_l_kind : FuncData
  F_l_kind : Fun K "_law_kind" "_law_kind" s_l_kind f_l_kind d_l_kind
  b_l_kind : Binds K d_l_kind ["_law_left_here"] []
  g_l_kind : mg "_law_kind" = some (.ref f_l_kind)
  f_l_colour : Addr
  d_l_colour : FuncData
  F_l_colour : Fun K "_law_colour" "_law_colour" s_l_colour f_l_colour d_l_colour
  b_l_colour : Binds K d_l_colour ["_law_left_here", "_law_kind_here"] []
  g_l_colour : mg "_law_colour" = some (.ref f_l_colour)
  f_l_palette : Addr
  d_l_palette : FuncData
  F_l_palette : Fun K "_law_palette" "_law_palette" s_l_palette f_l_palette d_l_palette
  b_l_palette : Binds K d_l_palette ["_law_left_here", "_law_kind_here"] []
  g_l_palette : mg "_law_palette" = some (.ref f_l_palette)
  f_l_picture : Addr
  d_l_picture : FuncData
  F_l_picture : Fun K "_law_picture" "_law_picture" s_l_picture f_l_picture d_l_picture
  b_l_picture : Binds K d_l_picture ["_law_left_here", "_law_kind_here"] []
  g_l_picture : mg "_law_picture" = some (.ref f_l_picture)
  f_l_apart : Addr
  d_l_apart : FuncData
  F_l_apart : Fun K "_law_apart" "_law_apart" s_l_apart f_l_apart d_l_apart
  b_l_apart : Binds K d_l_apart ["_law_one", "_law_other"] []
  g_l_apart : mg "_law_apart" = some (.ref f_l_apart)
  f_l_squares : Addr
  d_l_squares : FuncData
  F_l_squares : Fun K "_law_squares" "_law_squares" s_l_squares f_l_squares d_l_squares
  b_l_squares : Binds K d_l_squares ["_law_picture_here", "_law_other"] []
  g_l_squares : mg "_law_squares" = some (.ref f_l_squares)
  f_l_more_right : Addr
  d_l_more_right : FuncData
  F_l_more_right : Fun K "_law_more_right" "_law_more_right" s_l_more_right f_l_more_right d_l_more_right
  b_l_more_right : Binds K d_l_more_right ["_law_picture_here", "_law_palette_here", "_law_numbers", "_law_colour_here"] []
  g_l_more_right : mg "_law_more_right" = some (.ref f_l_more_right)
  z_abs : mg "abs" = none
  z_int : mg "int" = none
  z_len : mg "len" = none
  z_list : mg "list" = none
  z_min : mg "min" = none
  z_range : mg "range" = none
  z_reversed : mg "reversed" = none
  z_sorted : mg "sorted" = none
  z_sum : mg "sum" = none
  z_tuple : mg "tuple" = none
  z_zip : mg "zip" = none
section
variable {P : Program} {w : World} {K : PySem.W.Frag} {mg : Str → Option Value} {base : Heap}
/-! ### mix -/
def spMix : Sp := fun vs H Q _ => ∃ c n : Int, vs = [.int c, .int n] ∧ 0 ≤ n ∧ n < 2000000000 ∧ ∀ r : Int, 0 ≤ r → r < 1999999973 → Q (.int r) H
theorem ok_l_mix (T : Tx K mg) {k : Nat} : FnOk P w K mg base CX0 (k + 1) T.f_l_mix T.d_l_mix ["_law_cell", "_law_k"] spMix := by
  refine T.F_l_mix.ok sc_l_mix (fun vs H Q E h => ?_) (fun cdv A outer s H vs Q E hr h => ?_)
  · obtain ⟨c, n, rfl, _⟩ := h
    rfl
  · obtain ⟨c, n, rfl, h1, h2, q⟩ := h
    refine ⟨_, (pss_cons (ps_set (i := 2) sc_l_mix.nd rfl (.inl rfl) (pe_op op_mod (pe_op op_mul (pe_op op_add (pe_op op_add (pe_op op_mod (pv 0) pe_int) (pe_op op_mul (pe_op op_mul (pv 1) (pv 1)) pe_int)) pe_int) pe_int) pe_int))
      (pss_one (ps_ret (pe_op op_mod (pe_op op_mul (pv 2) (pv 2)) pe_int)))), ?_⟩
    refine ⟨.int c, rfl, _, _, rfl, rfl, md (by decide), .int n, rfl, .int n, rfl, _, _, rfl, rfl, .inl ⟨by omega, by omega⟩, _, _, rfl, rfl, .inr ⟨by decide, by decide⟩, _, _, rfl, rfl, _, _, rfl, rfl, _, _, rfl, rfl, .inr ⟨by decide, by decide⟩, _, _, rfl, rfl, md (by decide), ?_⟩
    refine ⟨_, rfl, _, rfl, _, _, rfl, rfl, .inl ⟨?_, ?_⟩, _, _, rfl, rfl, md (by decide), ?_⟩
    · omega
    · omega
    · exact q _ (Int.emod_nonneg _ (by decide)) (Int.emod_lt_of_pos _ (by decide))
/-! ### left -/
def spLeft (K : PySem.W.Frag) : Sp := fun vs H Q _ => ∃ (a : Addr) (ns : List Int) (n : Int), vs = [.ref a, .int n] ∧ SqL K H a (ns.map V.int) ∧ 0 ≤ n ∧ ∀ (p : Addr) (x y : Int), H p = none → 0 ≤ x → Q (.ref p) (upd H p (.lst [.int x, .int y, .int 0]))
theorem left_end {c n : Int} {H : Hp} {Q : VK} (q : ∀ (p : Addr) (x y : Int), H p = none → 0 ≤ x → Q (.ref p) (upd H p (.lst [.int x, .int y, .int 0]))) (p : Addr) (hp : H p = none) (b : Bool) :
    Q (.ref p) (upd H p (.lst [.int ((if c < 0 then -c else c) * (if b = true then 1 else 0)), .int (c + 1000003 * n), .int 0])) := by
  refine q p _ _ hp ?_
  cases b <;> simp <;> split <;> omega
theorem ok_l_left (T : Tx K mg) {k : Nat} : FnOk P w K mg base CX0 (k + 1) T.f_l_left T.d_l_left ["_law_script", "_law_k"] (spLeft K) := by
  refine T.F_l_left.ok sc_l_left (fun vs H Q E h => ?_) (fun cdv A outer s H vs Q E hr h => ?_)
  · obtain ⟨a, ns, n, rfl, _⟩ := h
    rfl
  · obtain ⟨a, ns, n, rfl, hS, h1, q⟩ := h
    refine ⟨_, (pss_cons (ps_set (i := 2) sc_l_left.nd rfl (.inl rfl) (pe_ifExp (pt_cmpR op_lt (pv 1) (pe_callB (len_K K) (by rfl) T.z_len PySem.boot_len (pa_cons (pv 0) pa_nil)) (nomark _)) (pe_ix (ix_listK K) (pv 0) (pv 1) (fun _ _ => rfl)) pe_int))
      (pss_one (ps_ret (pe_lst (pa_cons (pe_op op_mul (pe_callB call_abs (by rfl) T.z_abs (by decide +kernel) (pa_cons (pv 2) pa_nil)) (pe_callTy call_int1 (by rfl) T.z_int (by decide +kernel) (pa_cons (pe_cmpR op_ge (pe_callB call_abs (by rfl) T.z_abs (by decide +kernel) (pa_cons (pv 2) pa_nil)) (pe_op op_pow pe_int pe_int) (nomark _)) pa_nil))) (pa_cons (pe_op op_add (pv 2) (pe_op op_mul pe_int (pv 1))) (pa_cons pe_int pa_nil))))))), ?_⟩
    refine ⟨_, rfl, _, rfl, a, _, rfl, .inl hS, _, _, rfl, rfl, _, rfl, ite2 (fun e => ?_) (fun e => ?_)⟩
    · have e1 : n < (ns.map V.int).length := of_decide_eq_true e
      rw [List.length_map] at e1
      have g : atI (ns.map V.int) n = some (.int (ns[n.toNat]'(by omega))) := at0 h1 (by rw [List.getElem?_map, List.getElem?_eq_getElem]; rfl)
      refine ⟨_, rfl, _, rfl, a, _, _, _, rfl, rfl, hS, g, ?_⟩
      exact ⟨_, rfl, _, rfl, _, rfl, _, rfl, _, _, rfl, rfl, ⟨by decide, by decide, by decide⟩, _, _, rfl, rfl, .inr ⟨_, rfl, _, _, rfl, rfl, .inr (bit_ok _), _, rfl, _, rfl, _, _, rfl, rfl, .inl ⟨by decide, by decide⟩, _, _, rfl, rfl, (by show 3 ≤ sizeLine; decide), fun p hp => left_end q p hp _⟩⟩
    · exact ⟨_, rfl, _, rfl, _, rfl, _, rfl, _, _, rfl, rfl, ⟨by decide, by decide, by decide⟩, _, _, rfl, rfl, .inr ⟨_, rfl, _, _, rfl, rfl, .inr (bit_ok _), _, rfl, _, rfl, _, _, rfl, rfl, .inl ⟨by decide, by decide⟩, _, _, rfl, rfl, (by show 3 ≤ sizeLine; decide), fun p hp => left_end q p hp _⟩⟩
/-! ### pick -/
def spPick : Sp := fun vs H Q _ => ∃ (L : Addr) (m : Int) (n : Nat), vs = [.ref L, .int m] ∧ Lf L H n ∧ n < 1000000000 ∧ 0 < m ∧ m < 1073741824 ∧ ∀ (r : Int) (H' : Hp), Go [L] H H' → Lf L H' (n + 1) → 0 ≤ r → r < m → Q (.int r) H'
theorem ok_l_pick (T : Tx K mg) {k : Nat} : FnOk P w K mg base CX0 (k + 2) T.f_l_pick T.d_l_pick ["_law_left_here", "_law_many"] spPick := by
  refine T.F_l_pick.ok sc_l_pick (fun vs H Q E h => ?_) (fun cdv A outer s H vs Q E hr h => ?_)
  · obtain ⟨L, m, n, rfl, _⟩ := h
    rfl
  · obtain ⟨L, m, n, rfl, ⟨a, b, c, hL, a0, c0, cn⟩, hn, m0, m1, q⟩ := h
    refine ⟨_, (pss_cons (ps_asg (pe_op op_add (pe_ix (ix_listK K) (pv 0) pe_int (fun _ _ => rfl)) pe_int) (pg_sub (pv 0) pe_int set_list))
      (pss_cons (ps_if (pt_cmpR op_gt (pe_ix (ix_listK K) (pv 0) pe_int (fun _ _ => rfl)) pe_int (nomark _)) (pss_cons (ps_set (i := 2) sc_l_pick.nd rfl (.inl rfl) (pe_op op_mod (pe_ix (ix_listK K) (pv 0) pe_int (fun _ _ => rfl)) (pv 1)))
      (pss_cons (ps_asg (pe_op op_fdiv (pe_ix (ix_listK K) (pv 0) pe_int (fun _ _ => rfl)) (pv 1)) (pg_sub (pv 0) pe_int set_list))
      (pss_one (ps_ret (pv 2))))) pss_nil)
      (pss_one (ps_ret (pe_op op_mod (pe_op op_fdiv (pe_call (ok_l_mix T (k := k)) hr (by rfl) T.g_l_mix T.F_l_mix.kp T.b_l_mix .nil pass0 (pa_cons (pe_call (ok_l_mix T (k := k)) hr (by rfl) T.g_l_mix T.F_l_mix.kp T.b_l_mix .nil pass0 (pa_cons (pe_ix (ix_listK K) (pv 0) pe_int (fun _ _ => rfl)) (pa_cons (pe_ix (ix_listK K) (pv 0) pe_int (fun _ _ => rfl)) pa_nil))) (pa_cons (pe_op op_add (pe_ix (ix_listK K) (pv 0) pe_int (fun _ _ => rfl)) pe_int) pa_nil))) pe_int) (pv 1)))))), ?_⟩
    refine ⟨_, rfl, L, _, 2, .int c, rfl, rfl, SqL.of hL, rfl, _, _, rfl, rfl, _, rfl, L, _, _, 2, rfl, rfl, hL, rfl, ?_⟩
    generalize hH : upd H L (.lst (List.set [V.int a, V.int b, V.int c] 2 (V.int (c + 1)))) = H1
    have hL1 : H1 L = some (.lst [.int a, .int b, .int (c + 1)]) := by rw [← hH]; exact upd_same
    have g1 : Go [L] H H1 := by rw [← hH]; exact Go.refl.at (List.mem_singleton.mpr rfl)
    refine ⟨_, rfl, L, _, 0, .int a, rfl, rfl, SqL.of hL1, rfl, _, _, rfl, rfl, _, rfl, ite2 (fun e => ?_) (fun e => ?_)⟩
    · have e1 : 0 < a := of_decide_eq_true e
      refine ⟨_, rfl, L, _, 0, .int a, rfl, rfl, SqL.of hL1, rfl, _, rfl, _, _, rfl, rfl, md m0, ?_⟩
      refine ⟨_, rfl, L, _, 0, .int a, rfl, rfl, SqL.of hL1, rfl, _, rfl, _, _, rfl, rfl, ⟨m0, m1⟩, _, rfl, L, _, _, 0, rfl, rfl, hL1, rfl, ?_⟩
      refine ⟨_, rfl, ?_⟩
      exact q _ _ (g1.at (List.mem_singleton.mpr rfl)) ⟨a / m, b, c + 1, upd_same, Int.ediv_nonneg a0 (by omega), by omega, by omega⟩ (Int.emod_nonneg _ (by omega)) (Int.emod_lt_of_pos _ m0)
    · refine ⟨_, rfl, L, _, 1, .int b, rfl, rfl, SqL.of hL1, rfl, _, rfl, L, _, 2, .int (c + 1), rfl, rfl, SqL.of hL1, rfl, _, _, rfl, by omega, by omega, fun r1 _ _ => ?_⟩
      refine ⟨_, rfl, L, _, 2, .int (c + 1), rfl, rfl, SqL.of hL1, rfl, _, _, rfl, rfl, _, _, rfl, by omega, by omega, fun r2 _ _ => ?_⟩
      refine ⟨_, _, rfl, rfl, ⟨by decide, by decide⟩, _, rfl, _, _, rfl, rfl, md m0, ?_⟩
      exact q _ _ g1 ⟨a, b, c + 1, hL1, a0, by omega, by omega⟩ (Int.emod_nonneg _ (by omega)) (Int.emod_lt_of_pos _ m0)
/-! ### kind -/
def spKind : Sp := fun vs H Q _ => ∃ (L : Addr) (n : Nat), vs = [.ref L] ∧ Lf L H n ∧ n < 100000000 ∧ ∀ (v : V) (H' : Hp) (wd sp : Int), Go [L] H H' → Lf L H' (n + 2) → 1 ≤ wd → wd ≤ 5 → 3 ≤ sp → sp ≤ 1000 → Dt [L] H' v (eC [wd, sp]) → Q v H'
theorem ok_l_kind (T : Tx K mg) {k : Nat} : FnOk P w K mg base CX0 (k + 3) T.f_l_kind T.d_l_kind ["_law_left_here"] spKind := by
  refine T.F_l_kind.ok sc_l_kind (fun vs H Q E h => ?_) (fun cdv A outer s H vs Q E hr h => ?_)
  · obtain ⟨L, n, rfl, _⟩ := h
    rfl
  · obtain ⟨L, n, rfl, hL, hn, q⟩ := h
    refine ⟨_, (pss_one (ps_ret (pe_tup (pa_cons (pe_ix (ix_listK K) (pe_lst (pa_cons pe_int (pa_cons pe_int (pa_cons pe_int (pa_cons pe_int (pa_cons pe_int (pa_cons pe_int (pa_cons pe_int (pa_cons pe_int pa_nil))))))))) (pe_call (ok_l_pick T (k := k)) hr (by rfl) T.g_l_pick T.F_l_pick.kp T.b_l_pick .nil pass0 (pa_cons (pv 0) (pa_cons pe_int pa_nil))) (fun _ _ => rfl)) (pa_cons (pe_ix (ix_listK K) (pe_lst (pa_cons pe_int (pa_cons pe_int (pa_cons pe_int (pa_cons pe_int (pa_cons pe_int (pa_cons pe_int pa_nil))))))) (pe_call (ok_l_pick T (k := k)) hr (by rfl) T.g_l_pick T.F_l_pick.kp T.b_l_pick .nil pass0 (pa_cons (pv 0) (pa_cons pe_int pa_nil))) (fun _ _ => rfl)) pa_nil))))), ?_⟩
    refine ⟨(by show 8 ≤ sizeLine; decide), fun p hp => ?_⟩
    refine ⟨_, rfl, L, 8, n, rfl, hL.new hp, by omega, by decide, by decide, fun r1 H1 g1 l1 a1 b1 => ?_⟩
    have e1 : H1 p = some (.lst ([1, 2, 3, 3, 3, 4, 5, 2].map V.int)) := g1.k p _ (hL.bk.ne hp) upd_same
    obtain ⟨wd, mw, ew⟩ := at_int (ns := [1, 2, 3, 3, 3, 4, 5, 2]) a1 b1
    refine ⟨p, _, r1, .int wd, rfl, rfl, SqL.of e1, ew, (by show 6 ≤ sizeLine; decide), fun p2 hp2 => ?_⟩
    refine ⟨_, rfl, L, 6, n + 1, rfl, l1.new hp2, by omega, by decide, by decide, fun r2 H2 g2 l2 a2 b2 => ?_⟩
    have e2 : H2 p2 = some (.lst ([3, 6, 20, 256, 1000, 10].map V.int)) := g2.k p2 _ (l1.bk.ne hp2) upd_same
    obtain ⟨sp, ms, es⟩ := at_int (ns := [3, 6, 20, 256, 1000, 10]) a2 b2
    refine ⟨p2, _, r2, .int sp, rfl, rfl, SqL.of e2, es, (by show 2 ≤ sizeLine; decide), fun p3 hp3 => ?_⟩
    simp at mw ms
    refine q _ _ wd sp (((((Go.new hp).trans g1).trans (Go.new hp2)).trans g2).trans (Go.new hp3)) (l2.new hp3) (by omega) (by omega) (by omega) (by omega) (Dt.ofCol (l2.bk.ne hp3) upd_same)
/-! ### colour -/
def spColour : Sp := fun vs H Q _ => ∃ (L : Addr) (B : List Addr) (n : Nat) (kv : V) (wd sp : Int), vs = [.ref L, kv] ∧ Lf L H n ∧ L ∈ B ∧ Bk B H ∧ n < 100000000 ∧ Dt [L] H kv (eC [wd, sp]) ∧ 0 ≤ wd ∧ wd ≤ 5 ∧ 1 ≤ sp ∧ sp ≤ 1000 ∧
  ∀ (v : V) (H' : Hp) (ns : List Int), Go [L] H H' → Lf L H' (n + 10) → Dt B H' v (eC ns) → (ns.length : Int) = wd → cIn 0 999 ns → Q v H'
theorem ok_l_colour (T : Tx K mg) {k : Nat} : FnOk P w K mg base CX0 (k + 3) T.f_l_colour T.d_l_colour ["_law_left_here", "_law_kind_here"] spColour := by
  refine T.F_l_colour.ok sc_l_colour (fun vs H Q E h => ?_) (fun cdv A outer s H vs Q E hr h => ?_)
  · obtain ⟨L, B, n, kv, wd, sp, rfl, _⟩ := h
    rfl
  · obtain ⟨L, B, n, kv, wd, sp, rfl, hL, LB, hB, hn, hk, w0, w1, s0, s1, q⟩ := h
    obtain ⟨ka, rfl, nk, hkT⟩ := hk.col
    refine ⟨_, (pss_cons (ps_asg (pv 1) (pg_tupK K (n := 2) rfl (pgs_cons (pg_name (i := 2) sc_l_colour.nd rfl (.inl rfl)) (pgs_cons (pg_name (i := 3) sc_l_colour.nd rfl (.inr rfl)) pgs_nil))))
      (pss_one (ps_ret (pe_callTy (tuple_K K) (by rfl) T.z_tuple (by decide +kernel) (pa_cons (pe_lc (own := [("_law_place", 4)]) (by rfl) sc_l_colour.nd (pi_range1 (by rfl) T.z_range (pa_cons (pv 2) pa_nil)) (blkOk_by (own := [("_law_place", 4)]) (N := N_l_colour) (sc := defScope s_l_colour) (by decide +kernel)) (fun _ _ _ _ _ => (pg_name (i := 4) sc_l_colour.nd rfl (.inl rfl))) (fun _ _ _ _ _ => pts_nil) (fun _ _ _ _ _ => (pe_ix (ix_listK K) (pe_lst (pa_cons (pe_call (ok_l_pick T (k := k)) hr (by rfl) T.g_l_pick T.F_l_pick.kp T.b_l_pick .nil pass0 (pa_cons (pv 0) (pa_cons (pv 3) pa_nil))) (pa_cons pe_int pa_nil))) (pe_callTy call_int1 (by rfl) T.z_int (by decide +kernel) (pa_cons (pe_cmpR op_eq (pe_call (ok_l_pick T (k := k)) hr (by rfl) T.g_l_pick T.F_l_pick.kp T.b_l_pick .nil pass0 (pa_cons (pv 0) (pa_cons pe_int pa_nil))) pe_int (nomark _)) pa_nil)) (fun _ _ => rfl)))) pa_nil))))), ?_⟩
    refine ⟨_, rfl, ka, [.int wd, .int sp], rfl, SqT.of hkT, rfl, .int wd, _, rfl, .int sp, _, rfl, rfl, ?_⟩
    refine ⟨_, rfl, wd, rfl, by omega, by omega, fun D hD => ?_⟩
    refine lc_range (lo := 0) (n := wd.toNat) (fun i H' => ∃ ns : List Int, ns.length = i ∧ cIn 0 999 ns ∧ Go [L] H H' ∧ Lf L H' (n + 2 * i) ∧ H' D = some (.lst (ns.map V.int)))
      ⟨[], rfl, cIn.nil, Go.new hD, hL.new hD, upd_same⟩ (fun i H1 hi h1 => ?_) (fun H1 h1 => ?_)
    · obtain ⟨ns, en, cn, g, l, eD⟩ := h1
      have nD : D ∉ [L] := hL.bk.ne hD
      refine ⟨rfl, lc_yes ?_⟩
      refine ⟨_, rfl, _, rfl, L, sp, n + 2 * i, rfl, l, by omega, by omega, by omega, fun r1 H2 g2 l2 a1 b1 => ?_⟩
      refine ⟨(by show 2 ≤ sizeLine; decide), fun p hp => ?_⟩
      refine ⟨_, rfl, L, 8, n + 2 * i + 1, rfl, l2.new hp, by omega, by decide, by decide, fun r2 H3 g3 l3 a2 b2 => ?_⟩
      have e3 : H3 p = some (.lst [.int r1, .int 999]) := g3.k p _ (l2.bk.ne hp) upd_same
      refine ⟨rfl, .inr ⟨_, rfl, p, _, _, _, rfl, rfl, SqL.of e3, at2 _ _ _, ns.map V.int, ?_⟩⟩
      have gg : Go [L] H1 H3 := (g2.trans (Go.new hp)).trans g3
      obtain ⟨x, ex, x0, x1⟩ : ∃ x : Int, (if decide (V.int r2 = V.int 0) = true then V.int 999 else V.int r1) = .int x ∧ 0 ≤ x ∧ x ≤ 999 := by
        by_cases hb : decide (V.int r2 = V.int 0) = true
        · rw [if_pos hb]
          exact ⟨999, rfl, by decide, by decide⟩
        · rw [if_neg hb]
          exact ⟨r1, rfl, by omega, by omega⟩
      refine ⟨gg.k D _ nD eD, sz (by rw [List.length_map]; omega), ns ++ [x], ?_, cn.app x0 x1, (g.trans gg).mut hD, (l3.up (hL.ne hD)).mono (by omega), ?_⟩
      · rw [List.length_append]
        simp
        omega
      · rw [upd_same, List.map_append, ex]
        rfl
    · obtain ⟨ns, en, cn, g, l, eD⟩ := h1
      refine ⟨D, _, rfl, .inl ⟨SqL.of eD, fun t ht => ?_⟩⟩
      exact q _ _ ns (g.trans (Go.new ht)) ((l.new ht).mono (by omega)) (Dt.ofCol ((hB.go g).ne ht) upd_same) (by omega) cn
/-! ### palette -/
def cOk (wd : Int) (c : List Int) : Prop := (c.length : Int) = wd ∧ cIn 0 999 c
def spPalette : Sp := fun vs H Q _ => ∃ (L : Addr) (n : Nat) (kv : V) (wd sp : Int), vs = [.ref L, kv] ∧ Lf L H n ∧ n < 10000000 ∧ Dt [L] H kv (eC [wd, sp]) ∧ 0 ≤ wd ∧ wd ≤ 5 ∧ 1 ≤ sp ∧ sp ≤ 1000 ∧
  ∀ (v : V) (H' : Hp) (cs : List (List Int)), Go [L] H H' → Lf L H' (n + 1000) → Dt [L] H' v (eP cs) → 0 < cs.length → cs.length ≤ 40 → (∀ c ∈ cs, cOk wd c) → Q v H'
theorem ok_l_palette (T : Tx K mg) {k : Nat} : FnOk P w K mg base CX0 (k + 4) T.f_l_palette T.d_l_palette ["_law_left_here", "_law_kind_here"] spPalette := by
  refine T.F_l_palette.ok sc_l_palette (fun vs H Q E h => ?_) (fun cdv A outer s H vs Q E hr h => ?_)
  · obtain ⟨L, n, kv, wd, sp, rfl, _⟩ := h
    rfl
  · obtain ⟨L, n, kv, wd, sp, rfl, hL, hn, hk, w0, w1, s0, s1, q⟩ := h
    refine ⟨_, (pss_cons (ps_set (i := 2) sc_l_palette.nd rfl (.inl rfl) (pe_ix (ix_listK K) (pe_lst (pa_cons pe_int (pa_cons pe_int (pa_cons pe_int (pa_cons pe_int (pa_cons pe_int (pa_cons pe_int (pa_cons pe_int (pa_cons (pe_op op_add pe_int (pe_call (ok_l_pick T (k := k + 1)) hr (by rfl) T.g_l_pick T.F_l_pick.kp T.b_l_pick .nil pass0 (pa_cons (pv 0) (pa_cons pe_int pa_nil)))) pa_nil))))))))) (pe_call (ok_l_pick T (k := k + 1)) hr (by rfl) T.g_l_pick T.F_l_pick.kp T.b_l_pick .nil pass0 (pa_cons (pv 0) (pa_cons pe_int pa_nil))) (fun _ _ => rfl)))
      (pss_cons (ps_set (i := 3) sc_l_palette.nd rfl (.inl rfl) (pe_lst pa_nil))
      (pss_cons (ps_for PassesOwn.never rfl (pi_range1 (by rfl) T.z_range (pa_cons (pv 2) pa_nil)) (pg_name (i := 4) sc_l_palette.nd rfl (.inl rfl)) (pss_cons (ps_set (i := 5) sc_l_palette.nd rfl (.inl rfl) (pe_call (ok_l_colour T (k := k)) hr (by rfl) T.g_l_colour T.F_l_colour.kp T.b_l_colour .nil pass0 (pa_cons (pv 0) (pa_cons (pv 1) pa_nil))))
      (Evl.pss_cut (ps_if (PW.pt (pw_and (pt_cmpR (op_neDK K hr.units) (pv 3) (pe_lst pa_nil) (nomark _)) (pw_and1 (pt_cmpR op_eq (pe_call (ok_l_pick T (k := k + 1)) hr (by rfl) T.g_l_pick T.F_l_pick.kp T.b_l_pick .nil pass0 (pa_cons (pv 0) (pa_cons pe_int pa_nil))) pe_int (nomark _))))) (pss_one (ps_set (i := 5) sc_l_palette.nd rfl (.inl rfl) (pe_ix (ix_listK K) (pv 3) (pe_call (ok_l_pick T (k := k + 1)) hr (by rfl) T.g_l_pick T.F_l_pick.kp T.b_l_pick .nil pass0 (pa_cons (pv 0) (pa_cons (pe_callB (len_K K) (by rfl) T.z_len PySem.boot_len (pa_cons (pv 3) pa_nil)) pa_nil))) (fun _ _ => rfl)))) pss_nil)
      (pss_one (ps_expr (pe_bm PySem.F.plainAttrs_list PySem.F.slot_list_append PySem.F.type_list_append mt_append (pv 3) (pa_cons (pv 5) pa_nil)))))))
      (pss_one (ps_ret (pv 3)))))), ?_⟩
    refine ⟨_, rfl, L, 31, n, rfl, hL, by omega, by decide, by decide, fun r1 H1 g1 l1 a1 b1 => ?_⟩
    refine ⟨_, _, rfl, rfl, (by show 8 ≤ sizeLine; decide), fun p hp => ?_⟩
    refine ⟨_, rfl, L, 8, n + 1, rfl, l1.new hp, by omega, by decide, by decide, fun r2 H2 g2 l2 a2 b2 => ?_⟩
    have e2 : H2 p = some (.lst ([1, 2, 3, 4, 5, 7, 9, 10 + r1].map V.int)) := g2.k p _ (l1.bk.ne hp) upd_same
    obtain ⟨m, mm, em⟩ := at_int (ns := [1, 2, 3, 4, 5, 7, 9, 10 + r1]) a2 b2
    refine ⟨p, _, r2, .int m, rfl, rfl, SqL.of e2, em, ?_⟩
    have hm : 1 ≤ m ∧ m ≤ 40 := by
      simp at mm
      omega
    have gH : Go [L] H H2 := (g1.trans (Go.new hp)).trans g2
    refine ⟨Nat.zero_le _, fun D hD => ?_⟩
    have hD0 : H D = none := gH.free hD
    refine ⟨_, rfl, m, rfl, by omega, by omega, for_range (lo := 0) (n := m.toNat) (fun i σ H' => ∃ y4 y5 vs cs, σ = [some (.ref L), some kv, some (.int m), some (.ref D), y4, y5] ∧ Go [L] H H' ∧ Lf L H' (n + 2 + 12 * i) ∧ H' D = some (.lst vs) ∧ DtA [D, L] H' vs (cs.map eC) ∧ cs.length = i ∧ ∀ c ∈ cs, cOk wd c)
      ⟨none, none, [], [], rfl, gH.mut hD0, (l2.new hD).mono (by omega), upd_same, .nil, rfl, fun _ h => nomatch h⟩ (fun i σ H3 hi h3 => ?_) (fun σ H3 h3 => ?_)⟩
    · obtain ⟨y4, y5, vs, cs, rfl, g3, l3, eD, hA, hl, hc⟩ := h3
      have nD : D ∉ [L] := hL.bk.ne hD0
      have bk3 : Bk [D, L] H3 := l3.bk.cons eD
      refine ⟨_, rfl, _, rfl, L, [D, L], n + 2 + 12 * i, kv, wd, sp, rfl, l3, by simp, bk3, by omega, hk.g g3, w0, w1, s0, s1, fun v H4 ns g4 l4 d4 n4 c4 => ?_⟩
      have eD4 := g4.k D _ nD eD
      refine ⟨fun σ' H' => ∃ y4 v c, σ' = [some (.ref L), some kv, some (.int m), some (.ref D), y4, some v] ∧ Go [L] H3 H' ∧ Lf L H' (n + 2 + 12 * i + 12) ∧ Dt [D, L] H' v (eC c) ∧ cOk wd c, ?_, fun σ' H' hM => ?_⟩
      · refine ⟨_, rfl, Nat.zero_le _, fun z hz => ⟨eP cs, .list [], ?_, .lst (SqL.of upd_same) .nil, ?_, rfl, _, rfl, ite2 (fun e => ?_) (fun e => ?_)⟩⟩
        · exact Dt.dP (B := [L]) (.lst nD ((Go.new (B := [L]) hz).k D _ nD eD4) (((hA.g (g4.w1 (by simp))).un).g (Go.new hz)))
        · exact (sh_eP (by omega) fun c h => by have := (hc c h).1; omega).sh (by omega)
        · have hcs : cs ≠ [] := fun z => by
            subst z
            exact absurd e (by decide)
          have hlen : 0 < cs.length := List.length_pos_iff.mpr hcs
          refine ⟨_, rfl, L, 6, n + 2 + 12 * i + 10, rfl, l4.new hz, by omega, by decide, by decide, fun r5 H5 g5 l5 a5 b5 => ?_⟩
          have g45 : Go [L] H4 H5 := (Go.new hz).trans g5
          refine ⟨rfl, _, rfl, ite2 (fun e => ?_) (fun e => ?_)⟩
          · have eD5 := g45.k D _ nD eD4
            have hA5 := hA.g ((g4.trans g45).w1 (B := [D, L]) (by simp))
            have lv := hA5.len
            rw [List.length_map] at lv
            refine ⟨_, rfl, _, rfl, _, rfl, D, _, rfl, .inl (SqL.of eD5), L, _, n + 2 + 12 * i + 11, rfl, l5, by omega, by omega, by omega, fun r6 H6 g6 l6 a6 b6 => ?_⟩
            have eD6 := g6.k D _ nD eD5
            have hr6 : r6.toNat < cs.length := by omega
            obtain ⟨v6, f6, d6⟩ := (hA5.g (g6.w1 (B := [D, L]) (by simp))).get (i := r6.toNat) (d := eC cs[r6.toNat]) (by rw [List.getElem?_map, List.getElem?_eq_getElem hr6]; rfl)
            refine ⟨D, _, _, _, rfl, rfl, SqL.of eD6, at0 a6 f6, ?_⟩
            exact ⟨_, v6, _, rfl, (g4.trans g45).trans g6, l6.mono (by omega), d6, hc _ (List.getElem_mem hr6)⟩
          · exact ⟨_, v, ns, rfl, g4.trans g45, l5.mono (by omega), d4.g (g45.w1 (by simp)), n4, c4⟩
        · exact iteF ⟨_, v, ns, rfl, g4.trans (Go.new hz), (l4.new hz).mono (by omega), d4.g (Go.new hz), n4, c4⟩
      · obtain ⟨z4, v7, c7, rfl, g7, l7, d7, o7⟩ := hM
        have eD7 := g7.k D _ nD eD
        have hA7 := hA.g (g7.w1 (B := [D, L]) (by simp))
        have lv := hA7.len
        rw [List.length_map] at lv
        have gm : Go [D, L] H' (upd H' D (.lst (vs ++ [v7]))) := Go.refl.at (by simp)
        refine ⟨_, rfl, .inl ⟨rfl, _, SqL.of eD7⟩, _, rfl, D, _, _, rfl, rfl, eD7, sz (by omega), ?_⟩
        refine ⟨z4, some v7, vs ++ [v7], cs ++ [c7], rfl, (g3.trans g7).mut hD0, (l7.up (hL.ne hD0)).mono (by omega), upd_same, ?_, by simp; omega, fun c h => ?_⟩
        · rw [List.map_append]
          exact (hA7.g gm).app (.one (d7.g gm))
        · rcases List.mem_append.mp h with h | h
          · exact hc c h
          · rw [List.mem_singleton.mp h]
            exact o7
    · obtain ⟨y4, y5, vs, cs, rfl, g3, l3, eD, hA, hl, hc⟩ := h3
      exact ⟨_, rfl, q _ _ cs g3 (l3.mono (by omega)) (.lst (hL.bk.ne hD0) eD hA.un) (by omega) (by omega) hc⟩
/-! ### apart, both ways -/
def ap (a b : List Int) : Int := ((a.zip b).map fun p => (p.1 - p.2) ^ 2).sum
theorem ap_len (a b : List Int) : ((a.zip b).map fun p => (p.1 - p.2) ^ 2).length = min a.length b.length := by simp
theorem sq_ok {x y : Int} (h1 : -100000000 ≤ x) (h2 : x ≤ 100000000) (h3 : -100000000 ≤ y) (h4 : y ≤ 100000000) : CPow (x - y) 2 := ⟨by decide, by decide, by omega⟩
theorem zat {a b : List Int} {i : Nat} {f : Int × Int → PyData} (h1 : i < a.length) (h2 : i < b.length) : ((a.zip b).map f)[i]? = some (f (a[i], b[i])) := by
  rw [List.getElem?_map, List.getElem?_eq_getElem (by simp; omega)]
  simp
def spApart : Sp := fun vs H Q _ => ∃ (B : List Addr) (x y : V) (a b : List Int), vs = [x, y] ∧ Dt B H x (eC a) ∧ Dt B H y (eC b) ∧ a.length = b.length ∧ b.length ≤ 100 ∧ cIn (-100000000) 100000000 a ∧ cIn (-100000000) 100000000 b ∧ ∀ H', Same H H' → Q (.int (ap a b)) H'
theorem ok_apart (T : Tx K mg) {k : Nat} : FnOk P w K mg base CX0 (k + 1) T.f_apart T.d_apart ["one", "other"] spApart := by
  refine T.F_apart.ok sc_apart (fun vs H Q E h => ?_) (fun cdv A outer s H vs Q E hr h => ?_)
  · obtain ⟨B, x, y, a, b, rfl, _⟩ := h
    rfl
  · obtain ⟨B, x, y, a, b, rfl, ha, hb, hl, hz, ca, cb, q⟩ := h
    obtain ⟨pa, rfl, na, ta⟩ := ha.col
    obtain ⟨pb, rfl, nb, tb⟩ := hb.col
    refine ⟨_, (pss_one (ps_ret (pe_callB (cr_sumK K rfl) (by rfl) T.z_sum (by decide +kernel) (pa_cons (pe_lc (own := [("a", 2), ("b", 3)]) (by rfl) sc_apart.nd (RZ.pi_zipA (by rfl) T.z_zip (pa_cons (pv 0) (pa_cons (pv 1) pa_nil))) (blkOk_by (own := [("a", 2), ("b", 3)]) (N := N_apart) (sc := defScope s_apart) (by decide +kernel)) (fun _ _ _ _ _ => (pg_tupK K (n := 2) rfl (pgs_cons (pg_name (i := 2) sc_apart.nd rfl (.inl rfl)) (pgs_cons (pg_name (i := 3) sc_apart.nd rfl (.inl rfl)) pgs_nil)))) (fun _ _ _ _ _ => pts_nil) (fun _ _ _ _ _ => (pe_op op_pow (pe_op op_sub (pv 2) (pv 3)) pe_int))) pa_nil)))), ?_⟩
    refine ⟨_, rfl, _, rfl, pa, pb, _, _, rfl, .inr ⟨SqT.of ta, SqT.of tb, fun D hD => ?_⟩⟩
    refine lc_pure (B := []) (walk_zipT (n := a.length) (xs := a.map V.int) (ys := b.map V.int) (by simp; omega)) hD (fun _ h => nomatch h) (fun H' s' => ⟨SqT.of (s' _ _ ta), SqT.of (s' _ _ tb)⟩) (by omega)
      (fun i => ((a.zip b).map fun p => PyData.int ((p.1 - p.2) ^ 2))[i]?) (fun i x H' H'' Ny Nn hi s1 bk y ky kn => ?_) (fun H' ws s1 eD hA => ?_)
    · obtain ⟨t, x, y, rfl, ht, rfl, e1, e2⟩ := y
      have i2 : i < b.length := by omega
      have x1 := mat hi e1
      have x2 := mat i2 e2
      have c1 := ca _ (List.getElem_mem hi)
      have c2 := cb _ (List.getElem_mem i2)
      refine ⟨t, [x, y], rfl, SqT.of upd_same, rfl, x, _, rfl, y, _, rfl, rfl, rfl, lc_yes ?_⟩
      refine ⟨_, rfl, _, rfl, _, _, x1, x2, _, _, rfl, rfl, sq_ok c1.1 c1.2 c2.1 c2.2, ?_⟩
      exact ky _ _ _ (zat hi i2) (sm_new ht) (.int _)
    · rw [fm_all (by simp; omega)] at hA
      have hA2 : DtA (D :: []) H' ws (((a.zip b).map fun p => (p.1 - p.2) ^ 2).map PyData.int) := by rw [List.map_map]; exact hA
      refine ⟨D, _, rfl, SqL.of (by rw [eD, hA2.intsV]), ?_⟩
      exact q _ s1
/-! ### the law's own apart -/
theorem ok_l_apart (T : Tx K mg) {k : Nat} : FnOk P w K mg base CX0 (k + 1) T.f_l_apart T.d_l_apart ["_law_one", "_law_other"] spApart := by
  refine T.F_l_apart.ok sc_l_apart (fun vs H Q E h => ?_) (fun cdv A outer s H vs Q E hr h => ?_)
  · obtain ⟨B, x, y, a, b, rfl, _⟩ := h
    rfl
  · obtain ⟨B, x, y, a, b, rfl, ha, hb, hl, hz, ca, cb, q⟩ := h
    obtain ⟨pa, rfl, na, ta⟩ := ha.col
    obtain ⟨pb, rfl, nb, tb⟩ := hb.col
    refine ⟨_, (pss_one (ps_ret (pe_callB (cr_sumK K rfl) (by rfl) T.z_sum (by decide +kernel) (pa_cons (pe_lc (own := [("_law_a", 2), ("_law_b", 3)]) (by rfl) sc_l_apart.nd (RZ.pi_zipA (by rfl) T.z_zip (pa_cons (pv 0) (pa_cons (pv 1) pa_nil))) (blkOk_by (own := [("_law_a", 2), ("_law_b", 3)]) (N := N_l_apart) (sc := defScope s_l_apart) (by decide +kernel)) (fun _ _ _ _ _ => (pg_tupK K (n := 2) rfl (pgs_cons (pg_name (i := 2) sc_l_apart.nd rfl (.inl rfl)) (pgs_cons (pg_name (i := 3) sc_l_apart.nd rfl (.inl rfl)) pgs_nil)))) (fun _ _ _ _ _ => pts_nil) (fun _ _ _ _ _ => (pe_op op_mul (pe_op op_sub (pv 2) (pv 3)) (pe_op op_sub (pv 2) (pv 3))))) pa_nil)))), ?_⟩
    refine ⟨_, rfl, _, rfl, pa, pb, _, _, rfl, .inr ⟨SqT.of ta, SqT.of tb, fun D hD => ?_⟩⟩
    refine lc_pure (B := []) (walk_zipT (n := a.length) (xs := a.map V.int) (ys := b.map V.int) (by simp; omega)) hD (fun _ h => nomatch h) (fun H' s' => ⟨SqT.of (s' _ _ ta), SqT.of (s' _ _ tb)⟩) (by omega)
      (fun i => ((a.zip b).map fun p => PyData.int ((p.1 - p.2) ^ 2))[i]?) (fun i x H' H'' Ny Nn hi s1 bk y ky kn => ?_) (fun H' ws s1 eD hA => ?_)
    · obtain ⟨t, x, y, rfl, ht, rfl, e1, e2⟩ := y
      have i2 : i < b.length := by omega
      have x1 := mat hi e1
      have x2 := mat i2 e2
      have c1 := ca _ (List.getElem_mem hi)
      have c2 := cb _ (List.getElem_mem i2)
      refine ⟨t, [x, y], rfl, SqT.of upd_same, rfl, x, _, rfl, y, _, rfl, rfl, rfl, lc_yes ?_⟩
      refine ⟨_, rfl, _, rfl, _, _, x1, x2, _, rfl, _, rfl, _, _, x1, x2, _, _, rfl, rfl, .inl ⟨by omega, by omega⟩, ?_⟩
      exact ky _ _ _ (zat hi i2) (sm_new ht) (by rw [Int.pow_succ, Int.pow_succ, Int.pow_zero, Int.one_mul]; exact .int _)
    · rw [fm_all (by simp; omega)] at hA
      have hA2 : DtA (D :: []) H' ws (((a.zip b).map fun p => (p.1 - p.2) ^ 2).map PyData.int) := by rw [List.map_map]; exact hA
      refine ⟨D, _, rfl, SqL.of (by rw [eD, hA2.intsV]), ?_⟩
      exact q _ s1
/-! ### the nearest -/
def near (cs : List (List Int)) (c : List Int) (i : Nat) : Prop := ∃ h : i < cs.length, ∀ (j : Nat) (hj : j < cs.length), ap cs[i] c < ap cs[j] c ∨ (ap cs[i] c = ap cs[j] c ∧ i ≤ j)
theorem near_one {cs : List (List Int)} {c : List Int} {i j : Nat} (h1 : near cs c i) (h2 : near cs c j) : i = j := by
  obtain ⟨a, f⟩ := h1
  obtain ⟨b, g⟩ := h2
  have x := f j b
  have y := g i a
  omega
def pOk (cs : List (List Int)) (c : List Int) : Prop := cs.length ≤ 1000 ∧ c.length ≤ 100 ∧ cIn (-100000000) 100000000 c ∧ ∀ x ∈ cs, x.length = c.length ∧ cIn (-100000000) 100000000 x
def spNear : Sp := fun vs H Q _ => ∃ (B : List Addr) (pl cv : V) (cs : List (List Int)) (c : List Int), vs = [pl, cv] ∧ Dt B H pl (eP cs) ∧ Dt B H cv (eC c) ∧ pOk cs c ∧ 0 < cs.length ∧
  ∀ H' (i : Nat), Same H H' → near cs c i → Q (.int i) H'
theorem first_at {ns : List Int} {m : Int} (h : m ∈ ns) : ∃ j : Nat, ns[j]? = some m ∧ ∀ i x, i < j → ns[i]? = some x → x ≠ m := by
  induction ns with
  | nil => cases h
  | cons n ns ih =>
    by_cases e : n = m
    · exact ⟨0, by rw [e]; rfl, fun i x hi => by omega⟩
    · have hm : m ∈ ns := by
        rcases List.mem_cons.mp h with z | z
        · exact absurd z.symm e
        · exact z
      obtain ⟨j, h1, h2⟩ := ih hm
      refine ⟨j + 1, h1, fun i x hi hx => ?_⟩
      cases i with
      | zero =>
        have : n = x := Option.some.inj hx
        rw [← this]; exact e
      | succ i => exact h2 i x (by omega) hx
theorem near_of {cs : List (List Int)} {c : List Int} {j : Nat} {m : Int} (hle : ∀ y ∈ cs.map (fun x => ap x c), m ≤ y) (h1 : (cs.map fun x => ap x c)[j]? = some m) (h2 : ∀ i x, i < j → (cs.map fun x => ap x c)[i]? = some x → x ≠ m) : near cs c j := by
  have hj : j < cs.length := by
    have := (List.getElem?_eq_some_iff.mp h1).1
    rwa [List.length_map] at this
  rw [List.getElem?_map, List.getElem?_eq_getElem hj] at h1
  have e : ap cs[j] c = m := Option.some.inj h1
  refine ⟨hj, fun i hi => ?_⟩
  have l := hle (ap cs[i] c) (List.mem_map.mpr ⟨_, List.getElem_mem hi, rfl⟩)
  by_cases hij : i < j
  · have := h2 i (ap cs[i] c) hij (by rw [List.getElem?_map, List.getElem?_eq_getElem hi]; rfl)
    omega
  · omega
theorem flat_ints (ns : List Int) : (ns.map V.int).all flatV = true := by
  induction ns with
  | nil => rfl
  | cons n ns ih => rw [List.map_cons, List.all_cons, ih]; rfl
theorem ok_nearest (T : Tx K mg) {k : Nat} : FnOk P w K mg base CX0 (k + 2) T.f_nearest T.d_nearest ["palette", "colour"] spNear := by
  refine T.F_nearest.ok sc_nearest (fun vs H Q E h => ?_) (fun cdv A outer s H vs Q E hr h => ?_)
  · obtain ⟨B, pl, cv, cs, c, rfl, _⟩ := h
    rfl
  · obtain ⟨B, pl, cv, cs, c, rfl, hp, hc, ⟨o1, o2, o3, o4⟩, c0, q⟩ := h
    obtain ⟨pa, vs, rfl, np, ep, hA⟩ := hp.pal
    have lv := hA.len
    rw [List.length_map] at lv
    refine ⟨_, (pss_cons (ps_setLc (i := 2) (own := [("one", 3)]) (by rfl) sc_nearest.nd rfl rfl (sw_true rfl rfl rfl (by decide +kernel)) (pi_listK K (pv 0)) (blkOk_by (own := [("one", 3)]) (N := N_nearest) (sc := defScope s_nearest) (by decide +kernel)) (fun _ _ _ _ _ => (pg_name (i := 3) sc_nearest.nd rfl (.inl rfl))) (fun _ _ _ _ _ => pts_nil) (fun _ _ _ _ _ => (pe_call (ok_apart T (k := k)) hr (by rfl) T.g_apart T.F_apart.kp T.b_apart .nil pass0 (pa_cons (pv 3) (pa_cons (pv 1) pa_nil)))))
      (pss_one (ps_ret (pe_bm PySem.F.plainAttrs_list PySem.F.slot_list_index PySem.F.type_list_index (mt_indexK K) (pv 2) (pa_cons (pe_callB (cr_minK K rfl) (by rfl) T.z_min (by decide +kernel) (pa_cons (pv 2) pa_nil)) pa_nil))))), ?_⟩
    refine ⟨_, rfl, pa, rfl, ⟨_, SqL.of ep⟩, fun D hD => ?_⟩
    refine lc_pure (B := []) (walk_list (xs := vs)) hD (fun _ h => nomatch h) (fun H' s' => SqL.of (s' _ _ ep)) (by omega)
      (fun i => (cs.map fun x => PyData.int (ap x c))[i]?) (fun i x H' H'' Ny Nn hi t1 bk y ky kn => ?_) (fun H8 ws s8 eS hW => ?_)
    · obtain ⟨rfl, y⟩ := y
      obtain ⟨d1, f1, h1⟩ := hA.getV y
      have hi2 : i < cs.length := by omega
      rw [List.getElem?_map, List.getElem?_eq_getElem hi2] at f1
      have ed : d1 = eC cs[i] := (Option.some.inj f1).symm
      subst ed
      have oc := o4 _ (List.getElem_mem hi2)
      refine ⟨rfl, lc_yes ⟨_, rfl, _, rfl, B, x, cv, cs[i], c, rfl, h1.s t1, hc.s t1, oc.1, o2, oc.2, o3, fun H3 s3 => ?_⟩⟩
      exact ky _ _ _ (by rw [List.getElem?_map, List.getElem?_eq_getElem hi2]; rfl) s3 (.int _)
    · rw [fm_all (by simp; omega)] at hW
      have hW2 : DtA [D] H8 ws ((cs.map fun x => ap x c).map PyData.int) := by rw [List.map_map]; exact hW
      have ews := hW2.intsV
      subst ews
      refine ⟨_, rfl, .inl ⟨rfl, _, SqL.of eS⟩, _, rfl, D, _, rfl, SqL.of eS, (by rw [List.length_map]; omega), fun m hm hle => ?_⟩
      obtain ⟨j, h1, h2⟩ := first_at hm
      refine ⟨D, _, _, j, .int m, rfl, rfl, SqL.of eS, rfl, flat_ints _, (by rw [List.getElem?_map, h1]; rfl), (by unfold eqV; simp), fun i z hi hz => ?_, ?_⟩
      · rw [List.getElem?_map] at hz
        cases hx : (cs.map fun x => ap x c)[i]? with
        | none => rw [hx] at hz; cases hz
        | some x =>
          rw [hx] at hz
          have ez : V.int x = z := Option.some.inj hz
          rw [← ez]
          have := h2 i x hi hx
          unfold eqV
          simp [this]
      · exact q _ j s8 (near_of hle h1 h2)
/-! ### pictures that are drawn -/
def picOk (wd : Int) (ps : List (List (List Int))) : Prop := 0 < ps.length ∧ ps.length ≤ 16 ∧ ∃ wz : Nat, 1 ≤ wz ∧ wz ≤ 16 ∧ ∀ p ∈ ps, p.length = wz ∧ ∀ c ∈ p, cOk wd c
def spPicture : Sp := fun vs H Q _ => ∃ (L : Addr) (n : Nat) (kv : V) (wd sp : Int), vs = [.ref L, kv] ∧ Lf L H n ∧ n < 1000000 ∧ Dt [L] H kv (eC [wd, sp]) ∧ 0 ≤ wd ∧ wd ≤ 5 ∧ 1 ≤ sp ∧ sp ≤ 1000 ∧
  ∀ (a : Addr) (vs : List V) (H' : Hp) (ps : List (List (List Int))), Go [L] H H' → Lf L H' (n + 4000) → H a = none → H' a = some (.lst vs) → DtA [a, L] H' vs (ps.map eP) → picOk wd ps → Q (.ref a) H'
set_option maxHeartbeats 1000000 in
theorem ok_l_picture (T : Tx K mg) {k : Nat} : FnOk P w K mg base CX0 (k + 4) T.f_l_picture T.d_l_picture ["_law_left_here", "_law_kind_here"] spPicture := by
  refine T.F_l_picture.ok sc_l_picture (fun vs H Q E h => ?_) (fun cdv A outer s H vs Q E hr h => ?_)
  · obtain ⟨L, n, kv, wd, sp, rfl, _⟩ := h
    rfl
  · obtain ⟨L, n, kv, wd, sp, rfl, hL, hn, hk, w0, w1, s0, s1, q⟩ := h
    refine ⟨_, (pss_cons (ps_asg (pe_lc (own := [("_law_side", 10)]) (by rfl) sc_l_picture.nd (pi_range1 (by rfl) T.z_range (pa_cons pe_int pa_nil)) (blkOk_by (own := [("_law_side", 10)]) (N := N_l_picture) (sc := defScope s_l_picture) (by decide +kernel)) (fun _ _ _ _ _ => (pg_name (i := 10) sc_l_picture.nd rfl (.inl rfl))) (fun _ _ _ _ _ => pts_nil) (fun _ _ _ _ _ => (pe_ix (ix_listK K) (pe_lst (pa_cons (pe_op op_add pe_int (pe_call (ok_l_pick T (k := k + 1)) hr (by rfl) T.g_l_pick T.F_l_pick.kp T.b_l_pick .nil pass0 (pa_cons (pv 0) (pa_cons pe_int pa_nil)))) (pa_cons (pe_op op_add pe_int (pe_call (ok_l_pick T (k := k + 1)) hr (by rfl) T.g_l_pick T.F_l_pick.kp T.b_l_pick .nil pass0 (pa_cons (pv 0) (pa_cons pe_int pa_nil)))) pa_nil))) (pe_callTy call_int1 (by rfl) T.z_int (by decide +kernel) (pa_cons (pe_cmpR op_eq (pe_call (ok_l_pick T (k := k + 1)) hr (by rfl) T.g_l_pick T.F_l_pick.kp T.b_l_pick .nil pass0 (pa_cons (pv 0) (pa_cons pe_int pa_nil))) pe_int (nomark _)) pa_nil)) (fun _ _ => rfl)))) (pg_lstK K (n := 2) rfl (pgs_cons (pg_name (i := 2) sc_l_picture.nd rfl (.inl rfl)) (pgs_cons (pg_name (i := 3) sc_l_picture.nd rfl (.inl rfl)) pgs_nil))))
      (pss_cons (ps_setLc (i := 4) (own := [("_law_k", 11)]) (by rfl) sc_l_picture.nd rfl rfl (sw_true rfl rfl rfl (by decide +kernel)) (pi_range1 (by rfl) T.z_range (pa_cons (pe_op op_add pe_int (pe_call (ok_l_pick T (k := k + 1)) hr (by rfl) T.g_l_pick T.F_l_pick.kp T.b_l_pick .nil pass0 (pa_cons (pv 0) (pa_cons pe_int pa_nil)))) pa_nil)) (blkOk_by (own := [("_law_k", 11)]) (N := N_l_picture) (sc := defScope s_l_picture) (by decide +kernel)) (fun _ _ _ _ _ => (pg_name (i := 11) sc_l_picture.nd rfl (.inl rfl))) (fun _ _ _ _ _ => pts_nil) (fun _ _ _ _ _ => (pe_call (ok_l_colour T (k := k)) hr (by rfl) T.g_l_colour T.F_l_colour.kp T.b_l_colour .nil pass0 (pa_cons (pv 0) (pa_cons (pv 1) pa_nil)))))
      (pss_cons (ps_set (i := 5) sc_l_picture.nd rfl (.inl rfl) (pe_lst pa_nil))
      (pss_cons (ps_for PassesOwn.never rfl (pi_range1 (by rfl) T.z_range (pa_cons (pv 2) pa_nil)) (pg_name (i := 6) sc_l_picture.nd rfl (.inl rfl)) (pss_cons (ps_set (i := 7) sc_l_picture.nd rfl (.inl rfl) (pe_lst pa_nil))
      (pss_cons (ps_for PassesOwn.never rfl (pi_range1 (by rfl) T.z_range (pa_cons (pv 3) pa_nil)) (pg_name (i := 8) sc_l_picture.nd rfl (.inl rfl)) (pss_cons (ps_set (i := 9) sc_l_picture.nd rfl (.inl rfl) (pe_ix (ix_listK K) (pv 4) (pe_call (ok_l_pick T (k := k + 1)) hr (by rfl) T.g_l_pick T.F_l_pick.kp T.b_l_pick .nil pass0 (pa_cons (pv 0) (pa_cons (pe_callB (len_K K) (by rfl) T.z_len PySem.boot_len (pa_cons (pv 4) pa_nil)) pa_nil))) (fun _ _ => rfl)))
      (Evl.pss_cut (ps_if (pt_cmpR op_eq (pe_call (ok_l_pick T (k := k + 1)) hr (by rfl) T.g_l_pick T.F_l_pick.kp T.b_l_pick .nil pass0 (pa_cons (pv 0) (pa_cons pe_int pa_nil))) pe_int (nomark _)) (pss_one (ps_set (i := 9) sc_l_picture.nd rfl (.inl rfl) (pe_call (ok_l_colour T (k := k)) hr (by rfl) T.g_l_colour T.F_l_colour.kp T.b_l_colour .nil pass0 (pa_cons (pv 0) (pa_cons (pv 1) pa_nil))))) pss_nil)
      (pss_one (ps_expr (pe_bm PySem.F.plainAttrs_list PySem.F.slot_list_append PySem.F.type_list_append mt_append (pv 7) (pa_cons (pv 9) pa_nil)))))))
      (pss_one (ps_expr (pe_bm PySem.F.plainAttrs_list PySem.F.slot_list_append PySem.F.type_list_append mt_append (pv 5) (pa_cons (pv 7) pa_nil)))))))
      (pss_one (ps_ret (pv 5))))))), ?_⟩
    refine ⟨2, rfl, by decide, by decide, fun D hD => ?_⟩
    refine lc_ints (walk_range (lo := 0) (n := 2)) n 3 1 16 hD hL (fun _ _ => True.intro) (by omega) (fun i x H' H'' Ny Nn hi g' l' y ky => ?_) (fun H1 xs g1 l1 eD ln cn => ?_)
    · obtain ⟨rfl, rfl⟩ := y
      refine ⟨rfl, lc_yes ⟨_, rfl, L, 6, _, rfl, l', by omega, by decide, by decide, fun r1 H1 g1 l1 a1 b1 => ?_⟩⟩
      refine ⟨_, _, rfl, rfl, _, rfl, L, 16, _, rfl, l1, by omega, by decide, by decide, fun r2 H2 g2 l2 a2 b2 => ?_⟩
      refine ⟨_, _, rfl, rfl, (by show 2 ≤ sizeLine; decide), fun p hp => ?_⟩
      refine ⟨_, rfl, L, 8, _, rfl, l2.new hp, by omega, by decide, by decide, fun r3 H3 g3 l3 a3 b3 => ?_⟩
      have e3 : H3 p = some (.lst [.int (1 + r1), .int (1 + r2)]) := g3.k p _ (l2.bk.ne hp) upd_same
      obtain ⟨z3, f3, hz3⟩ := at2i (1 + r1) (1 + r2) (decide (V.int r3 = V.int 0))
      refine ⟨rfl, .inr ⟨_, rfl, p, _, _, _, rfl, rfl, SqL.of e3, f3, ?_⟩⟩
      exact ky z3 _ (((g1.trans g2).trans (Go.new hp)).trans g3) (l3.mono (by omega)) (by omega) (by omega)
    obtain ⟨hi, wz, rfl⟩ : ∃ hi wz, xs = [hi, wz] := by
      match xs, ln with
      | [a, b], _ => exact ⟨a, b, rfl⟩
    have chi := cn hi (by simp)
    have cwz := cn wz (by simp)
    refine ⟨D, [.int hi, .int wz], rfl, SqL.of eD, rfl, _, _, rfl, _, _, rfl, rfl, ?_⟩
    refine ⟨_, rfl, L, 8, _, rfl, l1, by omega, by decide, by decide, fun r2 H2 g2 l2 a2 b2 => ?_⟩
    have hk2 := hk.g (g1.trans g2)
    refine ⟨_, _, rfl, rfl, 1 + r2, rfl, by omega, by omega, fun D2 hD2 => ?_⟩
    refine lc_dtsB (walk_range (lo := 0) (n := (1 + r2).toNat)) (B := [L]) (n + 7) 10 (fun d => ∃ c, d = eC c ∧ cOk wd c) hD2 (l2.mono (by omega)) (by simp) l2.bk (fun _ _ => True.intro) (by omega) (fun j x H4 H5 Ny Nn hj g4 l4 bk4 y ky => ?_) (fun H4 ws ds g4 l4 eD4 hW hn4 hp4 => ?_)
    · obtain ⟨rfl, rfl⟩ := y
      refine ⟨rfl, lc_yes ⟨_, rfl, _, rfl, L, [D2, L], n + 7 + 10 * j, kv, wd, sp, rfl, l4, by simp, bk4, by omega, hk2.g g4, w0, w1, s0, s1, fun v H5 c g5 l5 d5 n5 c5 => ?_⟩⟩
      exact ky _ _ _ g5 l5 d5 ⟨c, rfl, n5, c5⟩
    obtain ⟨cs, rfl, hcs⟩ := colsOf hp4
    rw [List.length_map] at hn4
    have lw := hW.len
    rw [List.length_map] at lw
    have hk4 := hk2.g g4
    have gH4 := (g1.trans g2).trans g4
    have nD2 : D2 ∉ [L] := l2.bk.ne hD2
    have hW1 := hW.un
    refine ⟨Nat.zero_le _, fun F hF => ?_⟩
    have hFH : H F = none := gH4.free hF
    have nF : F ∉ [L] := l4.bk.ne hF
    have sF := sm_new (o := .lst []) hF
    have g5 := gH4.trans (Go.new (o := .lst []) hF)
    have l5 := l4.new (o := .lst []) hF
    have eF5 : (upd H4 F (.lst [])) F = some (.lst []) := upd_same
    have eD5 := sF _ _ eD4
    have hW5 := (hW1.fr hF).s sF
    have hk5 := (hk4.fr hF).s sF
    have nDF : D2 ∉ [F, L] := fun z => by
      rcases List.mem_cons.mp z with e | e
      · rw [← e, eD4] at hF
        cases hF
      · exact nD2 e
    generalize upd H4 F (.lst []) = H5 at *
    refine ⟨_, rfl, hi, rfl, by omega, by omega, for_range (lo := 0) (n := hi.toNat) (fun i σ H' => ∃ y6 y7 y8 y9 y10 y11 vs ps, σ = [some (.ref L), some kv, some (.int hi), some (.int wz), some (.ref D2), some (.ref F), y6, y7, y8, y9, y10, y11] ∧ Go [L] H H' ∧ Lf L H' (n + 100 + 200 * i) ∧ H' D2 = some (.lst ws) ∧ DtA [F, L] H' ws (cs.map eC) ∧ Dt [F, L] H' kv (eC [wd, sp]) ∧ H' F = some (.lst vs) ∧ DtA [F, L] H' vs (ps.map eP) ∧ ps.length = i ∧ ∀ p ∈ ps, p.length = wz.toNat ∧ ∀ c ∈ p, cOk wd c)
      ⟨_, _, _, _, _, _, [], [], rfl, g5, l5.mono (by omega), eD5, hW5, hk5, eF5, .nil, rfl, fun _ h => nomatch h⟩ (fun i σ H6 hi6 h6 => ?_) (fun σ H6 h6 => ?_)⟩
    · obtain ⟨y6, y7, y8, y9, y10, y11, vs, ps, rfl, g6, l6, eD6, hW6, hk6, eF6, hA6, lp6, hp6⟩ := h6
      have bk6 : Bk [F, L] H6 := l6.bk.cons eF6
      have lv6 := hA6.len
      rw [List.length_map] at lv6
      refine ⟨Nat.zero_le _, fun S hS => ?_⟩
      have hSH : H S = none := g6.free hS
      have nS : S ∉ [F, L] := bk6.ne hS
      have nSF : F ≠ S := fun z => nS (by rw [z]; exact List.mem_cons_self ..)
      have nSL : S ∉ [L] := fun z => nS (List.mem_cons_of_mem _ z)
      have nDS : D2 ∉ [S, F, L] := fun z => by
        rcases List.mem_cons.mp z with e | e
        · rw [← e, eD6] at hS
          cases hS
        · exact nDF e
      have s7 := sm_new (o := .lst []) hS
      have eS7 : (upd H6 S (.lst [])) S = some (.lst []) := upd_same
      have g7 := g6.trans (Go.of s7)
      have l7 := l6.same s7
      have eD7 := s7 _ _ eD6
      have hW7 := (hW6.fr hS).s s7
      have hk7 := (hk6.fr hS).s s7
      have eF7 := s7 _ _ eF6
      have hA7 := (hA6.fr hS).s s7
      generalize upd H6 S (.lst []) = H7 at *
      refine ⟨_, rfl, wz, rfl, by omega, by omega, for_range (lo := 0) (n := wz.toNat) (fun j σ H' => ∃ y6 y8 y9 y10 y11 us qs, σ = [some (.ref L), some kv, some (.int hi), some (.int wz), some (.ref D2), some (.ref F), y6, some (.ref S), y8, y9, y10, y11] ∧ Go [S, L] H7 H' ∧ Lf L H' (n + 100 + 200 * i + 12 * j) ∧ H' S = some (.lst us) ∧ DtA [S, F, L] H' us (qs.map eC) ∧ qs.length = j ∧ ∀ c ∈ qs, cOk wd c)
        ⟨_, _, _, _, _, [], [], rfl, Go.refl, l7.mono (by omega), eS7, .nil, rfl, fun _ h => nomatch h⟩ (fun j σ H8 hj h8 => ?_) (fun σ H8 h8 => ?_)⟩
      · obtain ⟨y6, y8, y9, y10, y11, us, qs, rfl, g8, l8, eS8, hU, lq, hq⟩ := h8
        have g8' : Go [S, F, L] H7 H8 := g8.w (by simp)
        have eD8 := g8'.k D2 _ nDS eD7
        have hW8 := hW7.g g8'
        have hk8 := hk7.g g8'
        have bk8 : Bk [S, F, L] H8 := ((bk6.go (Go.of (B := []) s7)).go g8).cons eS8
        have lu := hU.len
        rw [List.length_map] at lu
        refine ⟨_, rfl, _, rfl, _, rfl, D2, _, rfl, .inl (SqL.of eD8), L, _, _, rfl, l8, by omega, by omega, by omega, fun r9 H9 g9 l9 a9 b9 => ?_⟩
        have g9' : Go [S, F, L] H8 H9 := g9.w1 (by simp)
        have eD9 := g9'.k D2 _ nDS eD8
        have hr9 : r9.toNat < cs.length := by omega
        obtain ⟨v9, f9, d9⟩ := (hW8.g g9').get (i := r9.toNat) (d := eC cs[r9.toNat]) (by rw [List.getElem?_map, List.getElem?_eq_getElem hr9]; rfl)
        have o9 := hcs _ (List.getElem_mem hr9)
        refine ⟨D2, _, _, _, rfl, rfl, SqL.of eD9, at0 a9 f9, ?_⟩
        refine ⟨fun σ' H' => ∃ y6 y8 y10 y11 v c, σ' = [some (.ref L), some kv, some (.int hi), some (.int wz), some (.ref D2), some (.ref F), y6, some (.ref S), y8, some v, y10, y11] ∧ Go [L] H8 H' ∧ Lf L H' (n + 100 + 200 * i + 12 * j + 12) ∧ Dt [S, F, L] H' v (eC c) ∧ cOk wd c, ?_, fun σ' H' hM => ?_⟩
        · refine ⟨_, rfl, L, 4, _, rfl, l9, by omega, by decide, by decide, fun r10 H10 g10 l10 a10 b10 => ?_⟩
          have g10' : Go [S, F, L] H9 H10 := g10.w1 (by simp)
          refine ⟨rfl, _, rfl, ite2 (fun e => ?_) (fun e => ?_)⟩
          · refine ⟨_, rfl, _, rfl, L, [S, F, L], _, kv, wd, sp, rfl, l10, by simp, (bk8.go g9).go g10, by omega, ((hk8.g g9').g g10').sub (by simp), w0, w1, s0, s1, fun v H11 c g11 l11 d11 n11 c11 => ?_⟩
            exact ⟨_, _, _, _, v, c, rfl, (g9.trans g10).trans g11, l11.mono (by omega), d11, n11, c11⟩
          · exact ⟨_, _, _, _, v9, _, rfl, g9.trans g10, l10.mono (by omega), d9.g g10', o9⟩
        · obtain ⟨y6, y8, y10, y11, v, c, rfl, gM, lM, dM, oM⟩ := hM
          have eSM := gM.k S _ nSL eS8
          have gm : Go [S, F, L] H' (upd H' S (.lst (us ++ [v]))) := Go.refl.at (by simp)
          refine ⟨_, rfl, .inl ⟨rfl, _, SqL.of eSM⟩, _, rfl, S, _, _, rfl, rfl, eSM, sz (by omega), ?_⟩
          refine ⟨_, _, _, _, _, us ++ [v], qs ++ [c], rfl, (g8.trans (gM.w1 (by simp))).at (by simp), (lM.up (show S ≠ L by simpa using nSL)).mono (by omega), upd_same, ?_, by simp; omega, fun c' h => ?_⟩
          · rw [List.map_append]
            exact ((hU.g (gM.w1 (by simp))).g gm).app (.one (dM.g gm))
          · rcases List.mem_append.mp h with h | h
            · exact hq c' h
            · rw [List.mem_singleton.mp h]
              exact oM
      · obtain ⟨y6, y8, y9, y10, y11, us, qs, rfl, g8, l8, eS8, hU, lq, hq⟩ := h8
        have g8' : Go [S, F, L] H7 H8 := g8.w (by simp)
        have nFS : F ∉ [S, L] := fun z => by
          rcases List.mem_cons.mp z with e | e
          · exact nSF e
          · exact nF e
        have eF8 := g8.k F _ nFS eF7
        have gm : Go [F, L] H8 (upd H8 F (.lst (vs ++ [.ref S]))) := Go.refl.at (by simp)
        refine ⟨_, rfl, .inl ⟨rfl, _, SqL.of eF8⟩, _, rfl, F, _, _, rfl, rfl, eF8, sz (by omega), ?_⟩
        refine ⟨_, _, _, _, _, _, vs ++ [.ref S], ps ++ [qs], rfl, ((g8.cons g7 hSH).mut hFH), (l8.up (show F ≠ L by simpa using nF)).mono (by omega), gm.k D2 _ nDF (g8'.k D2 _ nDS eD7), ((hW7.g g8').un).g gm, ((hk7.g g8').un).g gm, upd_same, ?_, by simp; omega, fun p h => ?_⟩
        · rw [List.map_append]
          exact (((hA7.g g8').un).g gm).app (.one (Dt.g (.lst nS eS8 hU.un) gm))
        · rcases List.mem_append.mp h with h | h
          · exact hp6 p h
          · rw [List.mem_singleton.mp h]
            exact ⟨by omega, hq⟩
    · obtain ⟨y6, y7, y8, y9, y10, y11, vs, ps, rfl, g6, l6, eD6, hW6, hk6, eF6, hA6, lp6, hp6⟩ := h6
      exact ⟨_, rfl, q F vs H6 ps g6 (l6.mono (by omega)) hFH eF6 hA6 ⟨by omega, by omega, wz.toNat, by omega, by omega, hp6⟩⟩
/-! ### what is lost -/
def rowL (p q : List (List Int)) : Int := (List.zipWith ap p q).sum
def lostL (ps qs : List (List (List Int))) : Int := (List.zipWith rowL ps qs).sum
def gOk (wd : Nat) (ps : List (List (List Int))) : Prop := wd ≤ 100 ∧ ps.length ≤ 100 ∧ ∀ p ∈ ps, p.length ≤ 100 ∧ ∀ c ∈ p, c.length = wd ∧ cIn (-100000000) 100000000 c
theorem take_one {α β γ : Type} {f : α → β → γ} {ps : List α} {qs : List β} {i : Nat} (h1 : i < ps.length) (h2 : i < qs.length) : (List.zipWith f ps qs).take (i + 1) = (List.zipWith f ps qs).take i ++ [f ps[i] qs[i]] := by
  rw [List.take_add_one, List.getElem?_eq_getElem (by rw [List.length_zipWith]; omega), List.getElem_zipWith]
  rfl
theorem take_sum {α β : Type} {f : α → β → Int} {ps : List α} {qs : List β} {i : Nat} (h1 : i < ps.length) (h2 : i < qs.length) : ((List.zipWith f ps qs).take (i + 1)).sum = ((List.zipWith f ps qs).take i).sum + f ps[i] qs[i] := by
  rw [take_one h1 h2, List.sum_append]
  simp
theorem take_full {α β : Type} {f : α → β → Int} {ps : List α} {qs : List β} {n : Nat} (h : n = min ps.length qs.length) : (List.zipWith f ps qs).take n = List.zipWith f ps qs := List.take_of_length_le (by rw [List.length_zipWith]; omega)
theorem palAt {B : List Addr} {H : Hp} {vs : List V} {ps : List (List (List Int))} (h : DtA B H vs (ps.map eP)) {i : Nat} {v : V} (hv : vs[i]? = some v) : ∃ (hi : i < ps.length) (a : Addr) (us : List V), v = .ref a ∧ a ∉ B ∧ H a = some (.lst us) ∧ DtA B H us (ps[i].map eC) := by
  obtain ⟨d, f, g⟩ := h.getV hv
  rw [List.getElem?_map] at f
  by_cases hi : i < ps.length
  · rw [List.getElem?_eq_getElem hi] at f
    have ed : d = eP ps[i] := (Option.some.inj f).symm
    subst ed
    obtain ⟨a, us, h1, h2, h3, h4⟩ := g.lst2
    exact ⟨hi, a, us, h1, h2, h3, h4⟩
  · rw [List.getElem?_eq_none (by omega)] at f
    cases f
theorem colAt {B : List Addr} {H : Hp} {vs : List V} {cs : List (List Int)} (h : DtA B H vs (cs.map eC)) {i : Nat} {v : V} (hv : vs[i]? = some v) : ∃ (hi : i < cs.length), Dt B H v (eC cs[i]) := by
  obtain ⟨d, f, g⟩ := h.getV hv
  rw [List.getElem?_map] at f
  by_cases hi : i < cs.length
  · rw [List.getElem?_eq_getElem hi] at f
    have ed : d = eC cs[i] := (Option.some.inj f).symm
    subst ed
    exact ⟨hi, g⟩
  · rw [List.getElem?_eq_none (by omega)] at f
    cases f
def spLost : Sp := fun vs H Q _ => ∃ (a b : Addr) (us vs' : List V) (ps qs : List (List (List Int))) (wd : Nat), vs = [.ref a, .ref b] ∧ H a = some (.lst us) ∧ DtA [] H us (ps.map eP) ∧ H b = some (.lst vs') ∧ DtA [] H vs' (qs.map eP) ∧ gOk wd ps ∧ gOk wd qs ∧ ps.length = qs.length ∧ (∀ i (h1 : i < ps.length) (h2 : i < qs.length), ps[i].length = qs[i].length) ∧ ∀ H', Same H H' → Q (.int (lostL ps qs)) H'
set_option maxHeartbeats 1000000 in
theorem ok_lost_in (T : Tx K mg) {k : Nat} : FnOk P w K mg base CX0 (k + 2) T.f_lost_in T.d_lost_in ["picture", "other"] spLost := by
  refine T.F_lost_in.ok sc_lost_in (fun vs H Q E h => ?_) (fun cdv A outer s H vs Q E hr h => ?_)
  · obtain ⟨a, b, us, vs', ps, qs, wd, rfl, _⟩ := h
    rfl
  · obtain ⟨a, b, us, vs', ps, qs, wd, rfl, ea, hU, eb, hV, op, oq, le, lr, q⟩ := h
    have lu := hU.len
    have lv := hV.len
    rw [List.length_map] at lu lv
    have lp := op.2.1
    refine ⟨_, (pss_one (ps_ret (pe_callB (cr_sumK K rfl) (by rfl) T.z_sum (by decide +kernel) (pa_cons (pe_lc2 (own := [("row", 2), ("beside", 3), ("a", 4), ("b", 5)]) (vs1 := [4, 5]) (by rfl) sc_lost_in.nd (RZ.pi_zipA (by rfl) T.z_zip (pa_cons (pv 0) (pa_cons (pv 1) pa_nil))) (blkOk_by (own := [("row", 2), ("beside", 3), ("a", 4), ("b", 5)]) (N := N_lost_in) (sc := defScope s_lost_in) (by decide +kernel)) (by decide) (fun _ _ _ _ _ => (pg_tupK K (n := 2) rfl (pgs_cons (pg_name (i := 2) sc_lost_in.nd rfl (.inl rfl)) (pgs_cons (pg_name (i := 3) sc_lost_in.nd rfl (.inl rfl)) pgs_nil)))) (fun _ _ _ _ _ => pts_nil) (fun _ _ _ _ _ => (pi_zipAK K (by rfl) T.z_zip (pa_cons (pv 2) (pa_cons (pv 3) pa_nil)))) (fun _ _ _ _ _ => (pg_tupK K (n := 2) rfl (pgs_cons (pg_name (i := 4) sc_lost_in.nd rfl (.inl rfl)) (pgs_cons (pg_name (i := 5) sc_lost_in.nd rfl (.inl rfl)) pgs_nil)))) (fun _ _ _ _ _ => pts_nil) (fun _ _ _ _ _ => (pe_call (ok_apart T (k := k)) hr (by rfl) T.g_apart T.F_apart.kp T.b_apart .nil pass0 (pa_cons (pv 4) (pa_cons (pv 5) pa_nil))))) pa_nil)))), ?_⟩
    refine ⟨_, rfl, _, rfl, a, b, _, _, rfl, .inl ⟨SqL.of ea, SqL.of eb, fun D hD => ?_⟩⟩
    refine walk_W (walk_zip (n := ps.length) (xs := us) (ys := vs') (by omega)) (fun i H' => Same H H' ∧ ∃ acc : List Int, H' D = some (.lst (acc.map V.int)) ∧ acc.sum = ((List.zipWith rowL ps qs).take i).sum ∧ acc.length ≤ 100 * i) ⟨sm_new hD, [], upd_same, by simp, by simp⟩ (fun i H' _ h => ⟨SqL.of (h.1 _ _ ea), SqL.of (h.1 _ _ eb)⟩) (fun i x H1 H2 hi h y => ?_) (fun H1 h => ?_)
    · obtain ⟨s1, acc, eD, es, el⟩ := h
      obtain ⟨t, x, y, rfl, ht, rfl, e1, e2⟩ := y
      obtain ⟨hi1, a1, us1, rfl, _, ea1, hU1⟩ := palAt hU e1
      obtain ⟨hi2, b1, vs1, rfl, _, eb1, hV1⟩ := palAt hV e2
      have lu1 := hU1.len
      have lv1 := hV1.len
      rw [List.length_map] at lu1 lv1
      have l12 := lr i hi1 hi2
      have o1 := op.2.2 _ (List.getElem_mem hi1)
      have o2 := oq.2.2 _ (List.getElem_mem hi2)
      have s2 := s1.trans (sm_new (o := .tup [.ref a1, .ref b1]) ht)
      have eD2 := (sm_new (o := .tup [.ref a1, .ref b1]) ht) _ _ eD
      refine ⟨t, _, rfl, SqT.of upd_same, rfl, _, _, rfl, _, _, rfl, rfl, rfl, ?_⟩
      generalize upd H1 t (.tup [.ref a1, .ref b1]) = H2 at *
      refine yesT ⟨_, rfl, _, rfl, a1, b1, _, _, rfl, .inl ⟨SqL.of (s2 _ _ ea1), SqL.of (s2 _ _ eb1), ?_⟩⟩
      refine walk_W (walk_zip (n := ps[i].length) (xs := us1) (ys := vs1) (by omega)) (fun j H' => Same H H' ∧ ∃ acc : List Int, H' D = some (.lst (acc.map V.int)) ∧ acc.sum = ((List.zipWith rowL ps qs).take i).sum + ((List.zipWith ap ps[i] qs[i]).take j).sum ∧ acc.length ≤ 100 * i + j) ⟨s2, acc, eD2, by simp [es], by omega⟩ (fun j H' _ h => ⟨SqL.of (h.1 _ _ ea1), SqL.of (h.1 _ _ eb1)⟩) (fun j x H3 H4 hj h y => ?_) (fun H3 h => ?_)
      · obtain ⟨s3, acc3, eD3, es3, el3⟩ := h
        obtain ⟨t3, x, y, rfl, ht3, rfl, e1, e2⟩ := y
        obtain ⟨hj1, d1⟩ := colAt hU1 e1
        obtain ⟨hj2, d2⟩ := colAt hV1 e2
        have c1 := o1.2 _ (List.getElem_mem hj1)
        have c2 := o2.2 _ (List.getElem_mem hj2)
        have s4 := sm_new (o := .tup [x, y]) ht3
        refine ⟨t3, _, rfl, SqT.of upd_same, rfl, _, _, rfl, _, _, rfl, rfl, rfl, ?_⟩
        generalize upd H3 t3 (.tup [x, y]) = H4 at *
        refine yesT ⟨_, rfl, _, rfl, [], x, y, _, _, rfl, d1.s (s3.trans s4), d2.s (s3.trans s4), c1.1.trans c2.1.symm, by rw [c2.1]; exact op.1, c1.2, c2.2, fun H5 s5 => ?_⟩
        refine ⟨_, s5 _ _ (s4 _ _ eD3), sz (by rw [List.length_map]; omega), sm_mut ((s3.trans s4).trans s5) hD, acc3 ++ [ap ps[i][j] qs[i][j]], by rw [upd_same, List.map_append]; rfl, ?_, by rw [List.length_append]; simp; omega⟩
        rw [List.sum_append, es3, take_sum hj1 hj2]
        simp
        omega
      · obtain ⟨s3, acc3, eD3, es3, el3⟩ := h
        refine ⟨s3, acc3, eD3, ?_, by omega⟩
        rw [es3, take_sum hi1 hi2, take_full (f := ap) (ps := ps[i]) (qs := qs[i]) (by omega)]
        rfl
    · obtain ⟨s1, acc, eD, es, el⟩ := h
      refine ⟨D, _, rfl, SqL.of eD, ?_⟩
      rw [es, take_full (by omega)]
      exact q H1 s1
/-! ### numbers of the nearest -/
open Classical in
noncomputable def nrI (cs : List (List Int)) (c : List Int) : Nat := if h : ∃ i, near cs c i then h.choose else 0
theorem nr_of {cs : List (List Int)} {c : List Int} {i : Nat} (h : near cs c i) : nrI cs c = i := by
  unfold nrI
  rw [dif_pos ⟨i, h⟩]
  exact near_one (Exists.choose_spec (⟨i, h⟩ : ∃ i, near cs c i)) h
noncomputable def nums (cs : List (List Int)) (ps : List (List (List Int))) : List (List PyData) := ps.map fun p => p.map fun c => PyData.int (nrI cs c)
def spNumby : Sp := fun vs H Q _ => ∃ (pa ca : Addr) (pvs cvs : List V) (ps : List (List (List Int))) (cs : List (List Int)), vs = [.ref pa, .ref ca] ∧ H pa = some (.lst pvs) ∧ DtA [] H pvs (ps.map eP) ∧ H ca = some (.lst cvs) ∧ DtA [] H cvs (cs.map eC) ∧ 0 < cs.length ∧ ps.length ≤ 1000 ∧ (∀ p ∈ ps, p.length ≤ 1000 ∧ ∀ c ∈ p, pOk cs c) ∧
  ∀ (D : Addr) (rs : List Addr) (H' : Hp), Same H H' → H D = none → H' D = some (.lst (rs.map V.ref)) → Rws [] H H' D rs (nums cs ps) → Q (.ref D) H'
theorem palAt' {B : List Addr} {H : Hp} {vs : List V} {ps : List (List (List Int))} (h : DtA B H vs (ps.map eP)) {i : Nat} {v : V} (hv : vs[i]? = some v) : ∃ (hi : i < ps.length) (a : Addr) (us : List V), v = .ref a ∧ a ∉ B ∧ H a = some (.lst us) ∧ DtA B H us (ps[i].map eC) := by
  obtain ⟨d, f, g⟩ := h.getV hv
  rw [List.getElem?_map] at f
  by_cases hi : i < ps.length
  · rw [List.getElem?_eq_getElem hi] at f
    have ed : d = eP ps[i] := (Option.some.inj f).symm
    subst ed
    obtain ⟨a, us, h1, h2, h3, h4⟩ := g.lst2
    exact ⟨hi, a, us, h1, h2, h3, h4⟩
  · rw [List.getElem?_eq_none (by omega)] at f
    cases f
theorem colAt' {B : List Addr} {H : Hp} {vs : List V} {cs : List (List Int)} (h : DtA B H vs (cs.map eC)) {i : Nat} {v : V} (hv : vs[i]? = some v) : ∃ (hi : i < cs.length), Dt B H v (eC cs[i]) := by
  obtain ⟨d, f, g⟩ := h.getV hv
  rw [List.getElem?_map] at f
  by_cases hi : i < cs.length
  · rw [List.getElem?_eq_getElem hi] at f
    have ed : d = eC cs[i] := (Option.some.inj f).symm
    subst ed
    exact ⟨hi, g⟩
  · rw [List.getElem?_eq_none (by omega)] at f
    cases f
theorem mp_range {α β : Type} (f : α → β) (d : α) (xs : List α) : (List.range xs.length).map (fun i => f (xs.getD i d)) = xs.map f := by
  refine List.ext_getElem (by simp) fun i h1 h2 => ?_
  have hi : i < xs.length := by simpa using h1
  simp [List.getD_eq_getElem?_getD, List.getElem?_eq_getElem hi]
theorem ok_numbers_by (T : Tx K mg) {k : Nat} : FnOk P w K mg base CX0 (k + 3) T.f_numbers_by T.d_numbers_by ["picture", "palette"] spNumby := by
  refine T.F_numbers_by.ok sc_numbers_by (fun vs H Q E h => ?_) (fun cdv A outer s H vs Q E hr h => ?_)
  · obtain ⟨pa, ca, pvs, cvs, ps, cs, rfl, _⟩ := h
    rfl
  · obtain ⟨pa, ca, pvs, cvs, ps, cs, rfl, epa, hP, eca, hC, c0, lp, ok, q⟩ := h
    have lpv := hP.len
    rw [List.length_map] at lpv
    refine ⟨_, (pss_one (ps_ret (pe_lc (own := [("row", 2)]) (by rfl) sc_numbers_by.nd (pi_listK K (pv 0)) (blkOk_by (own := [("row", 2)]) (N := N_numbers_by) (sc := defScope s_numbers_by) (by decide +kernel)) (fun _ _ _ _ _ => (pg_name (i := 2) sc_numbers_by.nd rfl (.inl rfl))) (fun _ _ _ _ _ => pts_nil) (fun _ _ _ _ _ => (pe_lc (own := [("colour", 3)]) (by rfl) sc_numbers_by.nd (pi_listK K (pv 2)) (blkOk_in (own := [("colour", 3)]) (N := N_numbers_by) ["palette"] (by decide +kernel) (by decide +kernel) ⟨.inl rfl, trivial⟩) (fun _ _ _ _ _ => (pg_name (i := 3) sc_numbers_by.nd rfl (.inl rfl))) (fun _ _ _ _ _ => pts_nil) (fun _ _ _ _ _ => (pe_call (ok_nearest T (k := k)) hr (by rfl) T.g_nearest T.F_nearest.kp T.b_nearest .nil pass0 (pa_cons (pv 1) (pa_cons (pv 3) pa_nil))))))))), ?_⟩
    refine ⟨_, rfl, pa, rfl, ⟨_, SqL.of epa⟩, fun D hD => ?_⟩
    refine lc_rows (walk_list (xs := pvs)) [] hD (fun H' s' => SqL.of (s' _ _ epa)) (by omega) (fun i => (ps.getD i []).map fun c => PyData.int (nrI cs c)) (fun i x H' H'' Ny Nn hi t1 y ky => ?_) (fun H8 rs s8 eS R => ?_)
    · obtain ⟨rfl, y⟩ := y
      obtain ⟨hi1, ra, us, rfl, _, er, hU⟩ := palAt' hP y
      have gd : ps.getD i [] = ps[i] := by rw [List.getD_eq_getElem?_getD, List.getElem?_eq_getElem hi1]; rfl
      rw [gd] at ky
      have ok1 := ok _ (List.getElem_mem hi1)
      have lu := hU.len
      rw [List.length_map] at lu
      refine ⟨rfl, lc_yes ⟨_, rfl, ra, rfl, ⟨_, SqL.of (t1 _ _ er)⟩, fun E hE => ?_⟩⟩
      refine lc_vals (walk_list (xs := us)) hE (fun H' s' => SqL.of (s' _ _ (t1 _ _ er))) (by omega) (fun j => V.int (nrI cs (ps[i].getD j []))) (fun j x H2 H3 Ny2 Nn2 hj t2 y2 ky2 => ?_) (fun H7 s7 eE => ?_)
      · obtain ⟨rfl, y2⟩ := y2
        obtain ⟨hj1, dj⟩ := colAt' hU y2
        have gj : ps[i].getD j [] = ps[i][j] := by rw [List.getD_eq_getElem?_getD, List.getElem?_eq_getElem hj1]; rfl
        rw [gj] at ky2
        have t12 := t1.trans t2
        refine ⟨rfl, lc_yes ⟨_, rfl, _, rfl, [], .ref ca, x, cs, ps[i][j], rfl, .lst (fun h => nomatch h) (t12 _ _ eca) (hC.s t12), dj.s t12, ok1.2 _ (List.getElem_mem hj1), c0, fun H4 m s4 nm => ?_⟩⟩
        rw [← nr_of nm]
        exact ky2 _ s4
      · rw [lu, mp_range (fun c => V.int (nrI cs c))] at eE
        refine ky E _ H7 s7 hE eE ?_
        have := DtA.ints (B := []) (H := H) (ps[i].map fun c => (nrI cs c : Int))
        rw [List.map_map, List.map_map] at this
        exact this
    · rw [lpv, mp_range (fun p : List (List Int) => p.map fun c => PyData.int (nrI cs c))] at R
      exact q D rs H8 s8 hD eS R
/-! ### painted -/
def pnt (cs : List (List Int)) (ns : List (List Int)) : List (List PyData) := ns.map fun r => r.map fun x => eC (cs.getD x.toNat [])
theorem row_vals {B : List Addr} {H : Hp} {pvs : List V} {cs : List (List Int)} (hA : DtA B H pvs (cs.map eC)) {r : List Int} (hr : ∀ x ∈ r, 0 ≤ x ∧ x < (cs.length : Int)) : DtA B H ((List.range r.length).map fun j => pvs.getD (r.getD j 0).toNat .non) (r.map fun x => eC (cs.getD x.toNat [])) := by
  have lv := hA.len
  rw [List.length_map] at lv
  refine DtA.mk (by simp) fun i v d h1 h2 => ?_
  have hi : i < r.length := by
    have := (List.getElem?_eq_some_iff.mp h2).1
    rwa [List.length_map] at this
  rw [List.getElem?_map, List.getElem?_range hi] at h1
  rw [List.getElem?_map, List.getElem?_eq_getElem hi] at h2
  cases h1
  cases h2
  have b := hr _ (List.getElem_mem hi)
  have hx : (r[i]).toNat < cs.length := by omega
  have g : r.getD i 0 = r[i] := by rw [List.getD_eq_getElem?_getD, List.getElem?_eq_getElem hi]; rfl
  show Dt B H (pvs.getD (r.getD i 0).toNat V.non) (eC (cs.getD (r[i]).toNat []))
  rw [g]
  refine hA.two (i := (r[i]).toNat) ?_ ?_
  · rw [List.getD_eq_getElem?_getD, List.getElem?_eq_getElem (by omega)]; rfl
  · rw [List.getElem?_map, List.getElem?_eq_getElem hx, List.getD_eq_getElem?_getD, List.getElem?_eq_getElem hx]; rfl
def spPainted : Sp := fun vs H Q _ => ∃ (B : List Addr) (na pa : Addr) (rvs pvs : List V) (ns cs : List (List Int)), vs = [.ref na, .ref pa] ∧ H na = some (.lst rvs) ∧ DtA [] H rvs (ns.map eI) ∧ H pa = some (.lst pvs) ∧ DtA B H pvs (cs.map eC) ∧ ns.length ≤ 1000 ∧ (∀ r ∈ ns, r.length ≤ 1000 ∧ ∀ x ∈ r, 0 ≤ x ∧ x < (cs.length : Int)) ∧
  ∀ (D : Addr) (rs : List Addr) (H' : Hp), Same H H' → H D = none → H' D = some (.lst (rs.map V.ref)) → Rws B H H' D rs (pnt cs ns) → Q (.ref D) H'
theorem ok_painted (T : Tx K mg) {k : Nat} : FnOk P w K mg base CX0 (k + 1) T.f_painted T.d_painted ["numbers", "palette"] spPainted := by
  refine T.F_painted.ok sc_painted (fun vs H Q E h => ?_) (fun cdv A outer s H vs Q E hr h => ?_)
  · obtain ⟨B, na, pa, rvs, pvs, ns, cs, rfl, _⟩ := h
    rfl
  · obtain ⟨B, na, pa, rvs, pvs, ns, cs, rfl, en, hN, ep, hA, ln, hb, q⟩ := h
    have lv := hA.len
    rw [List.length_map] at lv
    have lr := hN.len
    rw [List.length_map] at lr
    refine ⟨_, (pss_one (ps_ret (pe_lc (own := [("row", 2)]) (by rfl) sc_painted.nd (pi_listK K (pv 0)) (blkOk_by (own := [("row", 2)]) (N := N_painted) (sc := defScope s_painted) (by decide +kernel)) (fun _ _ _ _ _ => (pg_name (i := 2) sc_painted.nd rfl (.inl rfl))) (fun _ _ _ _ _ => pts_nil) (fun _ _ _ _ _ => (pe_lc (own := [("number", 3)]) (by rfl) sc_painted.nd (pi_listK K (pv 2)) (blkOk_in (own := [("number", 3)]) (N := N_painted) ["palette"] (by decide +kernel) (by decide +kernel) ⟨.inl rfl, trivial⟩) (fun _ _ _ _ _ => (pg_name (i := 3) sc_painted.nd rfl (.inl rfl))) (fun _ _ _ _ _ => pts_nil) (fun _ _ _ _ _ => (pe_ix (ix_listK K) (pv 1) (pv 3) (fun _ _ => rfl)))))))), ?_⟩
    refine ⟨_, rfl, na, rfl, ⟨_, SqL.of en⟩, fun D hD => ?_⟩
    refine lc_rows (walk_list (xs := rvs)) B hD (fun H' s' => SqL.of (s' _ _ en)) (by omega) (fun i => (ns.getD i []).map fun x => eC (cs.getD x.toNat [])) (fun i x H' H'' Ny Nn hi t1 y ky => ?_) (fun H8 rs s8 eS R => ?_)
    · obtain ⟨rfl, y⟩ := y
      obtain ⟨d1, f1, h1⟩ := hN.getV y
      have hi2 : i < ns.length := by omega
      rw [List.getElem?_map, List.getElem?_eq_getElem hi2] at f1
      have ed : d1 = eI ns[i] := (Option.some.inj f1).symm
      subst ed
      obtain ⟨ra, rfl, _, er⟩ := h1.ints
      have hb1 := hb _ (List.getElem_mem hi2)
      have gd : ns.getD i [] = ns[i] := by rw [List.getD_eq_getElem?_getD, List.getElem?_eq_getElem hi2]; rfl
      rw [gd] at ky
      refine ⟨rfl, lc_yes ⟨_, rfl, ra, rfl, ⟨_, SqL.of (t1 _ _ er)⟩, fun E hE => ?_⟩⟩
      refine lc_vals (walk_list (xs := ns[i].map V.int)) hE (fun H' s' => SqL.of (s' _ _ (t1 _ _ er))) (by rw [List.length_map]; omega) (fun j => pvs.getD (ns[i].getD j 0).toNat .non) (fun j x H2 H3 Ny2 Nn2 hj t2 y2 ky2 => ?_) (fun H7 s7 eE => ?_)
      · obtain ⟨rfl, y2⟩ := y2
        rw [List.length_map] at hj
        have ex := mat hj y2
        subst ex
        have b := hb1.2 _ (List.getElem_mem hj)
        have gj : ns[i].getD j 0 = ns[i][j] := by rw [List.getD_eq_getElem?_getD, List.getElem?_eq_getElem hj]; rfl
        rw [gj] at ky2
        refine ⟨rfl, lc_yes ⟨_, rfl, _, rfl, pa, _, _, _, rfl, rfl, SqL.of (t2 _ _ (t1 _ _ ep)), at0 b.1 ?_, ky2 _ (Same.refl _)⟩⟩
        rw [List.getD_eq_getElem?_getD, List.getElem?_eq_getElem (by omega)]; rfl
      · rw [List.length_map] at eE
        exact ky E _ H7 s7 hE eE (row_vals hA hb1.2)
    · rw [lr] at R
      refine q D rs H8 s8 hD eS ?_
      have e : (List.range ns.length).map (fun i => (ns.getD i []).map fun x => eC (cs.getD x.toNat [])) = pnt cs ns := by
        unfold pnt
        refine List.ext_getElem (by simp) fun i h1 h2 => ?_
        have hi : i < ns.length := by simpa using h1
        simp [List.getD_eq_getElem?_getD, List.getElem?_eq_getElem hi]
      rw [e] at R
      exact R
/-! ### counts -/
def spCounts : Sp := fun vs H Q _ => ∃ (pa : Addr) (pvs : List V) (ps : List (List (List Int))), vs = [.ref pa] ∧ H pa = some (.lst pvs) ∧ DtA [] H pvs (ps.map eP) ∧ ps.length ≤ 100 ∧ (∀ p ∈ ps, p.length ≤ 100) ∧
  ∀ (D : Addr) (ys : List V) (rs : List (List Int × Int)) (H' : Hp), Same H H' → H D = none → H' D = some (.lst ys) → DtA [] H' ys (rs.map eRow) → rs.length ≤ 10000 → (∀ r ∈ rs, ∃ p ∈ ps, r.1 ∈ p) → (∀ p ∈ ps, ∀ c ∈ p, ∃ r ∈ rs, r.1 = c) → Q (.ref D) H'
set_option maxHeartbeats 1000000 in
theorem ok_counts_in (T : Tx K mg) {k : Nat} : FnOk P w K mg base CX0 (k + 1) T.f_counts_in T.d_counts_in ["picture"] spCounts := by
  refine T.F_counts_in.ok sc_counts_in (fun vs H Q E h => ?_) (fun cdv A outer s H vs Q E hr h => ?_)
  · obtain ⟨pa, pvs, ps, rfl, _⟩ := h
    rfl
  · obtain ⟨pa, pvs, ps, rfl, epa, hP, lp, lpp, q⟩ := h
    have lpv := hP.len
    rw [List.length_map] at lpv
    refine ⟨_, (pss_cons (ps_set (i := 1) sc_counts_in.nd rfl (.inr rfl) pe_dnewT)
      (pss_cons (ps_for PassesOwn.never rfl (pi_listK K (pv 0)) (pg_name (i := 2) sc_counts_in.nd rfl (.inl rfl)) (pss_one (ps_for PassesOwn.never rfl (pi_listK K (pv 2)) (pg_name (i := 3) sc_counts_in.nd rfl (.inl rfl)) (pss_one (ps_asg (pe_op op_add (pe_dget2 (hu_of hr) (pv 1) (pv 3) pe_int ⟨rfl, rfl, rfl, rfl⟩) pe_int) (pg_sub (pv 1) (pv 3) (set_dictU hr.units)))))))
      (pss_one (ps_ret (pe_callB (cr_sortedD K hr.units) (by rfl) T.z_sorted (by decide +kernel) (pa_cons (pe_lock (pe_lc (own := [("colour", 3)]) (by rfl) sc_counts_in.nd (pi_keys (pv 1)) (blkOk_by (own := [("colour", 3)]) (N := N_counts_in) (sc := defScope s_counts_in) (by decide +kernel)) (fun _ _ _ _ _ => (pg_name (i := 3) sc_counts_in.nd rfl (.inl rfl))) (fun _ _ _ _ _ => pts_nil) (fun _ _ _ _ _ => (pe_tup (pa_cons (pv 3) (pa_cons (pe_dget (hu_of hr) (pv 1) (pv 3) (fun _ _ => rfl)) pa_nil)))))) pa_nil)))))), ?_⟩
    refine fun D hD => ?_
    have s0 := sm_new (o := .dT []) hD
    refine ⟨_, rfl, pa, rfl, ⟨_, SqL.of (s0 _ _ epa)⟩, for_list (xs := pvs) (fun i σ H' => ∃ y2 y3, ∃ ks : List (List Int × Int), σ = [some (.ref pa), some (.ref D), y2, y3] ∧ Same H H' ∧ H' D = some (.dT (ks.map entI)) ∧ (∀ e ∈ ks, ∃ p ∈ ps, e.1 ∈ p) ∧ (∀ (j : Nat) (hj : j < ps.length), j < i → ∀ c ∈ ps[j], ∃ e ∈ ks, e.1 = c) ∧ ks.length ≤ 100 * i)
      ⟨_, _, [], rfl, s0, upd_same, (fun _ h => nomatch h), (fun j hj h => absurd h (by omega)), by simp⟩ (fun i σ H' _ h => ?_) (fun i x σ H1 hx h => ?_) (fun σ H1 h => ?_)⟩
    · obtain ⟨y2, y3, ks, rfl, s1, _⟩ := h
      exact SqL.of (s1 _ _ epa)
    · obtain ⟨y2, y3, ks, rfl, s1, eD, hk, hin, lk⟩ := h
      obtain ⟨hi, ra, us, rfl, _, era, hU⟩ := palAt' hP hx
      have lpi := lpp _ (List.getElem_mem hi)
      have lu := hU.len
      rw [List.length_map] at lu
      refine ⟨_, rfl, ra, rfl, ⟨_, SqL.of (s1 _ _ era)⟩, for_list (xs := us) (fun m σ H' => ∃ y3, ∃ ks : List (List Int × Int), σ = [some (.ref pa), some (.ref D), some (.ref ra), y3] ∧ Same H H' ∧ H' D = some (.dT (ks.map entI)) ∧ (∀ e ∈ ks, ∃ p ∈ ps, e.1 ∈ p) ∧ (∀ (j : Nat) (hj : j < ps.length), j < i → ∀ c ∈ ps[j], ∃ e ∈ ks, e.1 = c) ∧ (∀ (j : Nat) (hj : j < ps[i].length), j < m → ∃ e ∈ ks, e.1 = ps[i][j]) ∧ ks.length ≤ 100 * i + m)
        ⟨_, ks, rfl, s1, eD, hk, hin, (fun j hj h => absurd h (by omega)), by omega⟩ (fun m σ H' _ h => ?_) (fun m x σ H2 hx h => ?_) (fun σ H2 h => ?_)⟩
      · obtain ⟨y3, ks, rfl, s2, _⟩ := h
        exact SqL.of (s2 _ _ era)
      · obtain ⟨y3, ks, rfl, s2, eD, hk, hin, hm, lk⟩ := h
        obtain ⟨hm1, dx⟩ := colAt' hU hx
        obtain ⟨ca, rfl, _, eca⟩ := (dx.s s2).col
        have lm : m < us.length := (List.getElem?_eq_some_iff.mp hx).1
        have eca' : H2 ca = some (.tup ((ps[i][m].map Sum.inl).map kV)) := by rw [kV_ints]; exact eca
        obtain ⟨z, ez⟩ : ∃ z : Int, (valV (ks.map entI) (ps[i][m].map Sum.inl)).getD (.int 0) = .int z := by
          rcases val_int ks (ps[i][m].map Sum.inl) with h | ⟨n, h⟩
          · rw [h]; exact ⟨0, rfl⟩
          · rw [h]; exact ⟨n, rfl⟩
        obtain ⟨ks', e', h1, h2, h3, h4⟩ := put_keys ks ps[i][m] (z + 1)
        refine ⟨_, rfl, D, rfl, .inr ⟨_, .inl eD⟩, _, rfl, _, DGet.t eD eca', z, _, ez, rfl, _, rfl, _, rfl, D, _, rfl, DPut.t eD eca' (sz (by rw [List.length_map]; omega)), ?_⟩
        refine ⟨_, ks', rfl, sm_mut s2 hD, by rw [upd_same, ← e'], fun e he => ?_, fun j hj hji c hc => ?_, fun j hj hjm => ?_, by omega⟩
        · rcases h1 e he with z | ⟨f, hf, z⟩
          · exact ⟨_, List.getElem_mem hi, by rw [z]; exact List.getElem_mem hm1⟩
          · rw [← z]
            exact hk f hf
        · obtain ⟨f, hf, z⟩ := hin j hj hji c hc
          obtain ⟨e, he, z2⟩ := h2 f hf
          exact ⟨e, he, z2.trans z⟩
        · by_cases c : j = m
          · subst c
            exact h3
          · obtain ⟨f, hf, z⟩ := hm j hj (by omega)
            obtain ⟨e, he, z2⟩ := h2 f hf
            exact ⟨e, he, z2.trans z⟩
      · obtain ⟨y3, ks, rfl, s2, eD, hk, hin, hm, lk⟩ := h
        refine ⟨_, _, ks, rfl, s2, eD, hk, fun j hj hji c hc => ?_, by omega⟩
        by_cases z : j = i
        · subst z
          obtain ⟨n, hn, rfl⟩ := List.getElem_of_mem hc
          exact hm n hn (by omega)
        · exact hin j hj (by omega) c hc
    · obtain ⟨y2, y3, ks, rfl, s1, eD, hk, hin, lk⟩ := h
      refine ⟨D, _, eD, trivial, fun od => ?_⟩
      have eF : (upd H1 D (.frz od (.dT (ks.map entI)))) D = some (.frz od (.dT (ks.map entI))) := upd_same
      have sF : Same H (upd H1 D (.frz od (.dT (ks.map entI)))) := sm_mut s1 hD
      generalize upd H1 D (.frz od (.dT (ks.map entI))) = HF at *
      refine ⟨_, rfl, D, od, rfl, .inr ⟨_, eF, fun R hR => ?_⟩⟩
      have nRD : R ≠ D := fun z => by rw [z, eF] at hR; cases hR
      let vn : List Int × Int → List Int × Int := fun e => (e.1, match valV (ks.map entI) (e.1.map Sum.inl) with | some (.int n) => n | _ => 0)
      refine lc_it walk_keysT (fun i H' => Same HF H' ∧ ∃ ws, H' R = some (.lst ws) ∧ DtA [R, D] H' ws (((ks.take i).map vn).map eRow)) ⟨sm_new hR, [], upd_same, .nil⟩ (fun i H' _ h => h.1 _ _ eF) (fun i x H3 H2 hi h y => ?_) (fun H2 h => ?_)
      · obtain ⟨s2, ws, eR, hW⟩ := h
        obtain ⟨eH, kk, vv, qa, ek, rfl, eq⟩ := y
        subst eH
        rw [List.length_map] at hi
        rw [List.getElem?_map, List.getElem?_eq_getElem hi] at ek
        have e1 : entI ks[i] = (kk, vv) := Option.some.inj ek
        have e2 : kk = ks[i].1.map Sum.inl := congrArg Prod.fst e1.symm
        subst e2
        obtain ⟨n, en⟩ := val_at (List.getElem_mem hi)
        have evn : vn ks[i] = (ks[i].1, n) := by
          show (ks[i].1, match valV (ks.map entI) (ks[i].1.map Sum.inl) with | some (.int n) => n | _ => 0) = _
          rw [en]
        have eq' : H2 qa = some (.tup (ks[i].1.map V.int)) := by rw [eq, kV_ints]
        have eD2 := s2 _ _ eF
        have nqR : qa ≠ R := fun z => by rw [z, eR] at eq'; cases eq'
        have nqD : qa ≠ D := fun z => by rw [z, eD2] at eq'; cases eq'
        refine ⟨rfl, yesT ⟨_, rfl, _, rfl, _, rfl, D, .int n, rfl, .inr ⟨_, _, _, .inr ⟨_, eD2⟩, rfl, eq, en.symm⟩, (by show 2 ≤ sizeLine; decide), fun t ht => ?_⟩⟩
        have nt : t ∉ [R, D] := fun z => by
          simp only [List.mem_cons, List.not_mem_nil, or_false] at z
          rcases z with z | z
          · rw [z, eR] at ht; cases ht
          · rw [z, eD2] at ht; cases ht
        have s3 := sm_new (o := .tup [.ref qa, .int n]) ht
        have gm : Go [R, D] (upd H2 t (.tup [.ref qa, .int n])) (upd (upd H2 t (.tup [.ref qa, .int n])) R (.lst (ws ++ [.ref t]))) := Go.refl.at (by simp)
        have lw := hW.len
        refine ⟨ws, s3 _ _ eR, sz (by rw [lw]; simp; omega), sm_mut (s2.trans s3) hR, ws ++ [.ref t], upd_same, ?_⟩
        rw [List.take_add_one, List.getElem?_eq_getElem hi, List.map_append, List.map_append]
        refine ((hW.s s3).g gm).app (.one ?_)
        show Dt [R, D] _ (.ref t) (eRow (vn ks[i]))
        rw [evn]
        exact Dt.g (.tup nt upd_same (.cons (Dt.ofCol (by simp [nqR, nqD]) (s3 _ _ eq')) (.one (.int n)))) gm
      · obtain ⟨s2, ws, eR, hW⟩ := h
        have eD2 := s2 _ _ eF
        rw [List.length_map, List.take_length] at hW
        refine ⟨eD2, ?_⟩
        have gD : Go [D] H2 (upd H2 D (.dT (ks.map entI))) := Go.refl.at (by simp)
        have eR3 : (upd H2 D (.dT (ks.map entI))) R = some (.lst ws) := by rw [upd_ne nRD]; exact eR
        have hW3 := (hW.sub (C := [D]) (by simp)).g gD
        have s3 : Same H (upd H2 D (.dT (ks.map entI))) := sm_mut (sF.trans s2) hD
        generalize upd H2 D (.dT (ks.map entI)) = H3 at *
        have hW4 : DtA [] H3 ws ((ks.map vn).map eRow) := hW3.sub (fun _ h => nomatch h)
        refine ⟨R, ws, _, eRow, ks.map vn, rfl, SqL.of eR3, DtA.dp _ _ hW4, ?_, PySem.W.Sortable.tuples fun b => ⟨_, _, rfl⟩, by rw [List.length_map]; omega, fun b _ => ?_, fun ys p ey hp => ?_⟩
        · refine PySem.W.AllAlike.of fun b b' => ?_
          unfold eRow eC
          simp [PySem.W.alike, PySem.W.alikeAll, PySem.W.alike_ints]
        · have : (eRow b).depth = 2 := by
            unfold eRow eC
            simp [PyData.depth, PyData.depthAll, PySem.W.depth_ints]
          omega
        · have hY := each_mem ey hW4
          have pm := List.mergeSort_perm (ks.map vn) (PySem.W.dataLe false eRow)
          refine q p ys _ _ (s3.trans (sm_new hp)) (s3.free hp) upd_same (hY.s (sm_new hp)) (by rw [pm.length_eq, List.length_map]; omega) (fun r hr => ?_) (fun p hp c hc => ?_)
          · obtain ⟨e, he, rfl⟩ := List.mem_map.mp (pm.mem_iff.mp hr)
            exact hk e he
          · obtain ⟨j, hj, rfl⟩ := List.getElem_of_mem hp
            obtain ⟨e, he, z⟩ := hin j hj (by omega) c hc
            exact ⟨vn e, pm.mem_iff.mpr (List.mem_map.mpr ⟨e, he, rfl⟩), z⟩
theorem eqv_sh {d : PyData} {k : Nat} (h : Sh d k) : PyData.eqv d d = true := SeqAt.eqv_refl d h.1
theorem eqvAll_map {α : Type} [DecidableEq α] {f : α → PyData} (h : ∀ a b, PyData.eqv (f a) (f b) = decide (a = b)) : ∀ xs ys : List α, PyData.eqvAll (xs.map f) (ys.map f) = decide (xs = ys)
  | [], [] => by simp [PyData.eqvAll]
  | [], _ :: _ => by simp [PyData.eqvAll]
  | _ :: _, [] => by simp [PyData.eqvAll]
  | x :: xs, y :: ys => by
    rw [List.map_cons, List.map_cons, PyData.eqvAll, h, eqvAll_map h xs ys]
    simp [List.cons.injEq, Bool.decide_and]
theorem eqv_eC (a b : List Int) : PyData.eqv (eC a) (eC b) = decide (a = b) := by
  unfold eC
  rw [PyData.eqv]
  exact eqvAll_map (f := PyData.int) (fun x y => by rw [PyData.eqv]; by_cases h : x = y <;> simp [h]) a b
/-! ### how far apart: sums of squares -/
theorem sq_comm (x y : Int) : (x - y) ^ 2 = (y - x) ^ 2 := by
  rw [Int.pow_succ, Int.pow_succ, Int.pow_zero, Int.pow_succ, Int.pow_succ, Int.pow_zero]
  have : y - x = -(x - y) := by omega
  rw [this, Int.one_mul, Int.one_mul, Int.neg_mul_neg]
theorem sq_nn (x : Int) : 0 ≤ x ^ 2 := by
  rw [Int.pow_succ, Int.pow_succ, Int.pow_zero, Int.one_mul]
  rcases Int.le_total 0 x with h | h
  · exact Int.mul_nonneg h h
  · exact Int.mul_nonneg_of_nonpos_of_nonpos h h
theorem sq_zero {x : Int} (h : x ^ 2 = 0) : x = 0 := by
  rw [Int.pow_succ, Int.pow_succ, Int.pow_zero, Int.one_mul] at h
  rcases Int.mul_eq_zero.mp h with z | z <;> exact z
theorem ap_cons (x y : Int) (a b : List Int) : ap (x :: a) (y :: b) = (x - y) ^ 2 + ap a b := by
  unfold ap
  simp
theorem ap_nil (b : List Int) : ap [] b = 0 := by
  unfold ap
  simp
theorem ap_comm : ∀ a b : List Int, ap a b = ap b a
  | [], b => by unfold ap; simp
  | x :: a, [] => by unfold ap; simp
  | x :: a, y :: b => by rw [ap_cons, ap_cons, ap_comm a b, sq_comm]
theorem ap_nn : ∀ a b : List Int, 0 ≤ ap a b
  | [], b => by rw [ap_nil]; exact Int.le_refl _
  | x :: a, [] => by rw [ap_comm, ap_nil]; exact Int.le_refl _
  | x :: a, y :: b => by
    rw [ap_cons]
    have := ap_nn a b
    have := sq_nn (x - y)
    omega
theorem ap_zero : ∀ {a b : List Int}, a.length = b.length → (ap a b = 0 ↔ a = b)
  | [], [], _ => by simp [ap_nil]
  | x :: a, y :: b, h => by
    rw [ap_cons]
    have h1 := ap_nn a b
    have h2 := sq_nn (x - y)
    have ih := ap_zero (a := a) (b := b) (by simpa using h)
    constructor
    · intro e
      have e1 : (x - y) ^ 2 = 0 := by omega
      have e2 : ap a b = 0 := by omega
      have e3 := sq_zero e1
      rw [ih.mp e2, show x = y by omega]
    · intro e
      obtain ⟨e1, e2⟩ := List.cons.inj e
      rw [ih.mpr e2, e1]
      simp
theorem zw_comm {α : Type} {f : α → α → Int} (h : ∀ a b, f a b = f b a) : ∀ xs ys : List α, (List.zipWith f xs ys).sum = (List.zipWith f ys xs).sum
  | [], ys => by cases ys <;> simp
  | x :: xs, [] => by simp
  | x :: xs, y :: ys => by
    rw [List.zipWith_cons_cons, List.zipWith_cons_cons, List.sum_cons, List.sum_cons, zw_comm h xs ys, h]
theorem zw_nn {α β : Type} {f : α → β → Int} (h : ∀ a b, 0 ≤ f a b) : ∀ (xs : List α) (ys : List β), 0 ≤ (List.zipWith f xs ys).sum
  | [], _ => by simp
  | _ :: _, [] => by simp
  | x :: xs, y :: ys => by
    rw [List.zipWith_cons_cons, List.sum_cons]
    have := zw_nn h xs ys
    have := h x y
    omega
theorem zw_zero {α : Type} {f : α → α → Int} (h : ∀ a b, 0 ≤ f a b) : ∀ {xs ys : List α}, xs.length = ys.length → (∀ i (h1 : i < xs.length) (h2 : i < ys.length), f xs[i] ys[i] = 0 ↔ xs[i] = ys[i]) → ((List.zipWith f xs ys).sum = 0 ↔ xs = ys)
  | [], [], _, _ => by simp
  | x :: xs, y :: ys, hl, hz => by
    rw [List.zipWith_cons_cons, List.sum_cons]
    have h1 := zw_nn h xs ys
    have h2 := h x y
    have ih := zw_zero h (xs := xs) (ys := ys) (by simpa using hl) (fun i a b => hz (i + 1) (by simp; omega) (by simp; omega))
    have z0 : f x y = 0 ↔ x = y := hz 0 (by simp) (by simp)
    constructor
    · intro e
      rw [z0.mp (by omega), ih.mp (by omega)]
    · intro e
      obtain ⟨e1, e2⟩ := List.cons.inj e
      rw [z0.mpr e1, ih.mpr e2]
      rfl
theorem rowL_nn (a b : List (List Int)) : 0 ≤ rowL a b := zw_nn ap_nn a b
theorem lost_comm (ps qs : List (List (List Int))) : lostL ps qs = lostL qs ps := zw_comm (fun a b => zw_comm ap_comm a b) ps qs
theorem lost_zero {wd : Nat} {ps qs : List (List (List Int))} (op : gOk wd ps) (oq : gOk wd qs) (le : ps.length = qs.length) (lr : ∀ i (h1 : i < ps.length) (h2 : i < qs.length), ps[i].length = qs[i].length) : lostL ps qs = 0 ↔ ps = qs := by
  refine zw_zero rowL_nn le fun i h1 h2 => ?_
  refine zw_zero ap_nn (lr i h1 h2) fun j j1 j2 => ?_
  refine ap_zero ?_
  rw [((op.2.2 _ (List.getElem_mem h1)).2 _ (List.getElem_mem j1)).1, ((oq.2.2 _ (List.getElem_mem h2)).2 _ (List.getElem_mem j2)).1]
theorem lost_cut (ps qs : List (List (List Int))) (n : Nat) : lostL (ps.take n) (qs.take n) + lostL (ps.drop n) (qs.drop n) = lostL ps qs := by
  unfold lostL
  rw [← List.take_zipWith, ← List.drop_zipWith, ← List.sum_append, List.take_append_drop]
/-! ### what is told -/
theorem least_ex : ∀ {ns : List Int}, ns ≠ [] → ∃ m ∈ ns, ∀ y ∈ ns, m ≤ y
  | [], h => absurd rfl h
  | [a], _ => ⟨a, by simp, fun y hy => by rw [List.mem_singleton.mp hy]; exact Int.le_refl _⟩
  | a :: b :: ns, _ => by
    obtain ⟨m, h1, h2⟩ := least_ex (ns := b :: ns) (by simp)
    by_cases c : a ≤ m
    · exact ⟨a, by simp, fun y hy => by
        rcases List.mem_cons.mp hy with z | z
        · rw [z]; exact Int.le_refl _
        · exact Int.le_trans c (h2 y z)⟩
    · exact ⟨m, List.mem_cons_of_mem _ h1, fun y hy => by
        rcases List.mem_cons.mp hy with z | z
        · rw [z]; omega
        · exact h2 y z⟩
theorem near_ex {cs : List (List Int)} (c : List Int) (h : 0 < cs.length) : near cs c (nrI cs c) := by
  obtain ⟨m, h1, h2⟩ := least_ex (ns := cs.map fun x => ap x c) (fun z => by
    have := congrArg List.length z
    simp at this
    rw [this] at h
    exact absurd h (by simp))
  obtain ⟨j, e1, e2⟩ := first_at h1
  have n := near_of h2 e1 e2
  rw [nr_of n]
  exact n
def c5 (wd : Nat) (c : List Int) : Prop := c.length = wd ∧ cIn 0 999 c
noncomputable def phi (cs : List (List Int)) (c : List Int) : Int := ap c (cs.getD (nrI cs c) [])
theorem c5_ok {wd : Nat} {c : List Int} (h : c5 wd c) : c.length = wd ∧ cIn (-100000000) 100000000 c := ⟨h.1, h.2.mono (by decide) (by decide)⟩
theorem c5_pok {wd : Nat} {cs : List (List Int)} {c : List Int} (hw : wd ≤ 5) (h1 : c5 wd c) (h2 : ∀ x ∈ cs, c5 wd x) (l : cs.length ≤ 1000) : pOk cs c := ⟨l, by have := h1.1; omega, (c5_ok h1).2, fun x hx => ⟨by rw [(h2 x hx).1, h1.1], (c5_ok (h2 x hx)).2⟩⟩
theorem nr_lt {cs : List (List Int)} (c : List Int) (h : 0 < cs.length) : nrI cs c < cs.length := (near_ex c h).1
theorem nums_eI (cs : List (List Int)) (ps : List (List (List Int))) : (nums cs ps).map PyData.list = (ps.map fun p => p.map fun c => (nrI cs c : Int)).map eI := by
  unfold nums eI
  rw [List.map_map, List.map_map]
  refine List.map_congr_left fun p _ => ?_
  simp [Function.comp_def]
theorem pnt_eP (cs : List (List Int)) (ps : List (List (List Int))) : (pnt cs (ps.map fun p => p.map fun c => (nrI cs c : Int))).map PyData.list = (ps.map fun p => p.map fun c => cs.getD (nrI cs c) []).map eP := by
  unfold pnt eP
  rw [List.map_map, List.map_map, List.map_map]
  refine List.map_congr_left fun p _ => ?_
  simp [Function.comp_def]
noncomputable def toldP (cs : List (List Int)) (ps : List (List (List Int))) : List (List (List Int)) := ps.map fun p => p.map fun c => cs.getD (nrI cs c) []
theorem gd_mem {cs : List (List Int)} (c : List Int) (h : 0 < cs.length) : cs.getD (nrI cs c) [] ∈ cs := by
  have := nr_lt c h
  rw [List.getD_eq_getElem?_getD, List.getElem?_eq_getElem this]
  exact List.getElem_mem _
theorem near_self {wd : Nat} {cs : List (List Int)} {c : List Int} (hc : c ∈ cs) (h2 : ∀ x ∈ cs, c5 wd x) : cs.getD (nrI cs c) [] = c := by
  obtain ⟨j, hj, ej⟩ := List.getElem_of_mem hc
  have h0 : 0 < cs.length := by omega
  obtain ⟨hn, hle⟩ := near_ex c h0
  have := hle j hj
  have z : ap cs[j] c = 0 := (ap_zero (by rw [ej])).mpr ej
  have nn := ap_nn cs[nrI cs c] c
  have e0 : ap cs[nrI cs c] c = 0 := by omega
  rw [List.getD_eq_getElem?_getD, List.getElem?_eq_getElem hn]
  show cs[nrI cs c] = c
  exact (ap_zero (by rw [(h2 _ (List.getElem_mem hn)).1, (h2 _ hc).1])).mp e0
theorem lost_told (cs : List (List Int)) (ps : List (List (List Int))) : lostL ps (toldP cs ps) = (ps.map fun p => (p.map (phi cs)).sum).sum := by
  unfold lostL toldP
  rw [List.zipWith_map_right, List.zipWith_self]
  congr 1
  refine List.map_congr_left fun p _ => ?_
  unfold rowL phi
  rw [List.zipWith_map_right, List.zipWith_self]
theorem zw_map {α β : Type} {f : α → β → Int} {ps : List α} {qs : List β} {n : Nat} (h : n = min ps.length qs.length) (d : α) (e : β) : (List.range n).map (fun j => V.int (f (ps.getD j d) (qs.getD j e))) = (List.zipWith f ps qs).map V.int := by
  subst h
  refine List.ext_getElem (by simp) fun i h1 h2 => ?_
  have hi : i < min ps.length qs.length := by simpa using h1
  have hp : i < ps.length := by omega
  have hq : i < qs.length := by omega
  simp [List.getD_eq_getElem?_getD, List.getElem?_eq_getElem hp, List.getElem?_eq_getElem hq]
theorem row47 {B : List Addr} {H : Hp} {v : V} {r : List Int × Int} (h : Dt B H v (eRow r)) : ∃ a q, v = .ref a ∧ a ∉ B ∧ H a = some (.tup [.ref q, .int r.2]) ∧ q ∉ B ∧ H q = some (.tup (r.1.map V.int)) := by
  obtain ⟨a, vs, rfl, na, ea, hA⟩ := h.tupI
  cases hA with
  | cons h1 h2 =>
    cases h2 with
    | cons h3 h4 =>
      cases h4
      obtain ⟨q, rfl, nq, eq⟩ := h1.col
      cases h3
      exact ⟨a, q, rfl, na, ea, nq, eq⟩
theorem phi_le {cs : List (List Int)} (c : List Int) {x : List Int} (h : x ∈ cs) : phi cs c ≤ ap c x := by
  obtain ⟨j, hj, rfl⟩ := List.getElem_of_mem h
  obtain ⟨hn, hle⟩ := near_ex c (show 0 < cs.length by omega)
  unfold phi
  rw [List.getD_eq_getElem?_getD, List.getElem?_eq_getElem hn]
  show ap c cs[nrI cs c] ≤ _
  rw [ap_comm c cs[nrI cs c], ap_comm c cs[j]]
  have := hle j hj
  omega
theorem phi_same {a b : List (List Int)} (h0 : 0 < a.length) (h1 : 0 < b.length) (h : ∀ x, x ∈ a ↔ x ∈ b) (c : List Int) : phi a c = phi b c := by
  have x1 := phi_le c ((h _).mpr (gd_mem c h1))
  have x2 := phi_le c ((h _).mp (gd_mem c h0))
  unfold phi at *
  omega
theorem told_same {wd : Nat} {cs : List (List Int)} {ps : List (List (List Int))} (h2 : ∀ x ∈ cs, c5 wd x) (h : ∀ p ∈ ps, ∀ c ∈ p, c ∈ cs) : toldP cs ps = ps := by
  unfold toldP
  refine (List.map_congr_left fun p hp => ?_).trans (List.map_id _)
  refine (List.map_congr_left fun c hc => ?_).trans (List.map_id _)
  exact near_self (h p hp c hc) h2
theorem Rws.dtI {B : List Addr} {H H' : Hp} {D : Addr} {rs : List Addr} {ns : List (List Int)} (h : Rws [] H H' D rs (ns.map fun r => r.map PyData.int)) (hb : Bk B H) : DtA B H' (rs.map V.ref) (ns.map eI) := by
  refine DtA.mk (by rw [List.length_map, List.length_map, h.len, List.length_map]) fun i v d h1 h2 => ?_
  rw [List.getElem?_map] at h1 h2
  cases e1 : rs[i]? with
  | none => rw [e1] at h1; cases h1
  | some r =>
    cases e2 : ns[i]? with
    | none => rw [e2] at h2; cases h2
    | some n =>
      rw [e1] at h1
      rw [e2] at h2
      cases h1
      cases h2
      obtain ⟨ws, e, a⟩ := h.row i r (n.map PyData.int) e1 (by rw [List.getElem?_map, e2]; rfl)
      rw [a.intsV] at e
      exact Dt.ofInts (hb.ne (h.fr r (List.mem_of_getElem? e1))) e
theorem nums_int (cs : List (List Int)) (ps : List (List (List Int))) : nums cs ps = (ps.map fun p => p.map fun c => (nrI cs c : Int)).map fun r => r.map PyData.int := by
  unfold nums
  rw [List.map_map]
  refine List.map_congr_left fun p _ => ?_
  simp [Function.comp_def]
/-! ### squares, spot by spot -/
def sqs (ps qs : List (List (List Int))) : List (List Int) := List.zipWith (fun p q => List.zipWith ap p q) ps qs
def spSquares : Sp := fun vs H Q _ => ∃ (a b : Addr) (us vs' : List V) (ps qs : List (List (List Int))) (wd : Nat), vs = [.ref a, .ref b] ∧ H a = some (.lst us) ∧ DtA [] H us (ps.map eP) ∧ H b = some (.lst vs') ∧ DtA [] H vs' (qs.map eP) ∧ gOk wd ps ∧ gOk wd qs ∧ ps.length = qs.length ∧ (∀ i (h1 : i < ps.length) (h2 : i < qs.length), ps[i].length = qs[i].length) ∧ ∀ (D : Addr) (rs : List Addr) (H' : Hp), Same H H' → H D = none → H' D = some (.lst (rs.map V.ref)) → DtA [] H' (rs.map V.ref) ((sqs ps qs).map eI) → Q (.ref D) H'
set_option maxHeartbeats 1000000 in
theorem ok_l_squares (T : Tx K mg) {k : Nat} : FnOk P w K mg base CX0 (k + 2) T.f_l_squares T.d_l_squares ["_law_picture_here", "_law_other"] spSquares := by
  refine T.F_l_squares.ok sc_l_squares (fun vs H Q E h => ?_) (fun cdv A outer s H vs Q E hr h => ?_)
  · obtain ⟨a, b, us, vs', ps, qs, wd, rfl, _⟩ := h
    rfl
  · obtain ⟨a, b, us, vs', ps, qs, wd, rfl, ea, hU, eb, hV, op, oq, le, lr, q⟩ := h
    have lu := hU.len
    have lv := hV.len
    rw [List.length_map] at lu lv
    have lp := op.2.1
    refine ⟨_, (pss_one (ps_ret (pe_lc (own := [("_law_row", 2), ("_law_beside", 3)]) (by rfl) sc_l_squares.nd (RZ.pi_zipA (by rfl) T.z_zip (pa_cons (pv 0) (pa_cons (pv 1) pa_nil))) (blkOk_by (own := [("_law_row", 2), ("_law_beside", 3)]) (N := N_l_squares) (sc := defScope s_l_squares) (by decide +kernel)) (fun _ _ _ _ _ => (pg_tupK K (n := 2) rfl (pgs_cons (pg_name (i := 2) sc_l_squares.nd rfl (.inl rfl)) (pgs_cons (pg_name (i := 3) sc_l_squares.nd rfl (.inl rfl)) pgs_nil)))) (fun _ _ _ _ _ => pts_nil) (fun _ _ _ _ _ => (pe_lc (own := [("_law_a", 4), ("_law_b", 5)]) (by rfl) sc_l_squares.nd (pi_zipAK K (by rfl) T.z_zip (pa_cons (pv 2) (pa_cons (pv 3) pa_nil))) (blkOk_in (own := [("_law_a", 4), ("_law_b", 5)]) (N := N_l_squares) [] (by decide +kernel) (by decide +kernel) trivial) (fun _ _ _ _ _ => (pg_tupK K (n := 2) rfl (pgs_cons (pg_name (i := 4) sc_l_squares.nd rfl (.inl rfl)) (pgs_cons (pg_name (i := 5) sc_l_squares.nd rfl (.inl rfl)) pgs_nil)))) (fun _ _ _ _ _ => pts_nil) (fun _ _ _ _ _ => (pe_call (ok_l_apart T (k := k)) hr (by rfl) T.g_l_apart T.F_l_apart.kp T.b_l_apart .nil pass0 (pa_cons (pv 4) (pa_cons (pv 5) pa_nil))))))))), ?_⟩
    refine ⟨_, rfl, _, rfl, a, b, _, _, rfl, .inl ⟨SqL.of ea, SqL.of eb, fun D hD => ?_⟩⟩
    refine lc_rows (walk_zip (n := ps.length) (xs := us) (ys := vs') (by omega)) [] hD (fun H' h => ⟨SqL.of (h _ _ ea), SqL.of (h _ _ eb)⟩) (by omega) (fun i => (List.zipWith ap (ps.getD i []) (qs.getD i [])).map PyData.int) (fun i x H1 H2 Ny Nn hi s1 y ky => ?_) (fun H1 rs s1 eD R => ?_)
    · obtain ⟨t, x, y, rfl, ht, rfl, e1, e2⟩ := y
      obtain ⟨hi1, a1, us1, rfl, _, ea1, hU1⟩ := palAt hU e1
      obtain ⟨hi2, b1, vs1, rfl, _, eb1, hV1⟩ := palAt hV e2
      have gp : ps.getD i [] = ps[i] := by rw [List.getD_eq_getElem?_getD, List.getElem?_eq_getElem hi1]; rfl
      have gq : qs.getD i [] = qs[i] := by rw [List.getD_eq_getElem?_getD, List.getElem?_eq_getElem hi2]; rfl
      rw [gp, gq] at ky
      have lu1 := hU1.len
      have lv1 := hV1.len
      rw [List.length_map] at lu1 lv1
      have l12 := lr i hi1 hi2
      have o1 := op.2.2 _ (List.getElem_mem hi1)
      have o2 := oq.2.2 _ (List.getElem_mem hi2)
      have s2 := sm_new (o := .tup [.ref a1, .ref b1]) ht
      refine ⟨t, _, rfl, SqT.of upd_same, rfl, _, _, rfl, _, _, rfl, rfl, rfl, lc_yes ?_⟩
      generalize upd H1 t (.tup [.ref a1, .ref b1]) = H2 at *
      have t2 := s1.trans s2
      refine ⟨_, rfl, _, rfl, a1, b1, _, _, rfl, .inl ⟨SqL.of (t2 _ _ ea1), SqL.of (t2 _ _ eb1), fun D2 hD2 => ?_⟩⟩
      refine lc_vals (walk_zip (n := ps[i].length) (xs := us1) (ys := vs1) (by omega)) hD2 (fun H' h => ⟨SqL.of (h _ _ (t2 _ _ ea1)), SqL.of (h _ _ (t2 _ _ eb1))⟩) (by omega) (fun j => V.int (ap (ps[i].getD j []) (qs[i].getD j []))) (fun j x H3 H4 Ny2 Nn2 hj s3 y ky2 => ?_) (fun H3 s3 eD2 => ?_)
      · obtain ⟨t3, x, y, rfl, ht3, rfl, e1, e2⟩ := y
        obtain ⟨hj1, d1⟩ := colAt hU1 e1
        obtain ⟨hj2, d2⟩ := colAt hV1 e2
        have g1 : ps[i].getD j [] = ps[i][j] := by rw [List.getD_eq_getElem?_getD, List.getElem?_eq_getElem hj1]; rfl
        have g2 : qs[i].getD j [] = qs[i][j] := by rw [List.getD_eq_getElem?_getD, List.getElem?_eq_getElem hj2]; rfl
        rw [g1, g2] at ky2
        have c1 := o1.2 _ (List.getElem_mem hj1)
        have c2 := o2.2 _ (List.getElem_mem hj2)
        have s4 := sm_new (o := .tup [x, y]) ht3
        refine ⟨t3, _, rfl, SqT.of upd_same, rfl, _, _, rfl, _, _, rfl, rfl, rfl, lc_yes ?_⟩
        generalize upd H3 t3 (.tup [x, y]) = H4 at *
        have t4 := (t2.trans s3).trans s4
        exact ⟨_, rfl, _, rfl, [], x, y, _, _, rfl, d1.s t4, d2.s t4, c1.1.trans c2.1.symm, by rw [c2.1]; exact op.1, c1.2, c2.2, fun H5 s5 => ky2 _ (s4.trans s5)⟩
      · rw [zw_map (by omega)] at eD2
        exact ky D2 _ H3 (s2.trans s3) (s2.free hD2) eD2 (DtA.ints _)
    · have e : (List.range ps.length).map (fun i => (List.zipWith ap (ps.getD i []) (qs.getD i [])).map PyData.int) = (sqs ps qs).map fun r => r.map PyData.int := by
        unfold sqs
        refine List.ext_getElem (by simp; omega) fun i h1 h2 => ?_
        have hp : i < ps.length := by simpa using h1
        have hq : i < qs.length := by omega
        simp [List.getD_eq_getElem?_getD, List.getElem?_eq_getElem hp, List.getElem?_eq_getElem hq]
      rw [e] at R
      exact q D rs H1 s1 hD eD (R.dtI (fun _ h => nomatch h))
/-! ### one colour more -/
theorem nr_more {cs : List (List Int)} {mc : List Int} (c : List Int) (h0 : 0 < cs.length) : nrI (cs ++ [mc]) c = if ap c mc < ap c (cs.getD (nrI cs c) []) then cs.length else nrI cs c := by
  obtain ⟨hn, hle⟩ := near_ex c h0
  have gd : cs.getD (nrI cs c) [] = cs[nrI cs c] := by rw [List.getD_eq_getElem?_getD, List.getElem?_eq_getElem hn]; rfl
  rw [gd, ap_comm c mc, ap_comm c cs[nrI cs c]]
  by_cases h : ap mc c < ap cs[nrI cs c] c
  · rw [if_pos h]
    refine nr_of ⟨by simp, fun j hj => ?_⟩
    rw [List.getElem_append_right (Nat.le_refl _)]
    simp only [Nat.sub_self, List.getElem_cons_zero]
    by_cases z : j < cs.length
    · rw [List.getElem_append_left z]
      have := hle j z
      omega
    · have : j = cs.length := by simp at hj; omega
      subst this
      rw [List.getElem_append_right (Nat.le_refl _)]
      simp
  · rw [if_neg h]
    refine nr_of ⟨by simp; omega, fun j hj => ?_⟩
    rw [List.getElem_append_left hn]
    by_cases z : j < cs.length
    · rw [List.getElem_append_left z]
      exact hle j z
    · have : j = cs.length := by simp at hj; omega
      subst this
      rw [List.getElem_append_right (Nat.le_refl _)]
      simp only [Nat.sub_self, List.getElem_cons_zero]
      omega
def spMore : Sp := fun vs H Q _ => ∃ (pa ca na : Addr) (cv : V) (pvs cvs nvs : List V) (ps : List (List (List Int))) (cs : List (List Int)) (mc : List Int) (wd : Nat), vs = [.ref pa, .ref ca, .ref na, cv] ∧ H pa = some (.lst pvs) ∧ DtA [] H pvs (ps.map eP) ∧ H ca = some (.lst cvs) ∧ DtA [] H cvs (cs.map eC) ∧ H na = some (.lst nvs) ∧ DtA [] H nvs ((ps.map fun p => p.map fun c => (nrI cs c : Int)).map eI) ∧ Dt [] H cv (eC mc) ∧ wd ≤ 5 ∧ 0 < cs.length ∧ cs.length ≤ 40 ∧ ps.length ≤ 16 ∧ (∀ p ∈ ps, p.length ≤ 16 ∧ ∀ c ∈ p, c5 wd c) ∧ (∀ c ∈ cs, c5 wd c) ∧ c5 wd mc ∧ ∀ H', Same H H' → Q (.bl true) H'
theorem numsAt {H : Hp} {B : List Addr} {vs : List V} {cs : List (List Int)} {ps : List (List (List Int))} (h : DtA B H vs ((ps.map fun p => p.map fun c => (nrI cs c : Int)).map eI)) {i : Nat} {v : V} (hv : vs[i]? = some v) (hi : i < ps.length) : ∃ a, v = .ref a ∧ H a = some (.lst ((ps[i].map fun c => (nrI cs c : Int)).map V.int)) := by
  obtain ⟨d, f, g⟩ := h.getV hv
  rw [List.getElem?_map, List.getElem?_map, List.getElem?_eq_getElem hi] at f
  have ed : d = eI (ps[i].map fun c => (nrI cs c : Int)) := (Option.some.inj f).symm
  subst ed
  obtain ⟨a, rfl, _, e⟩ := g.ints
  exact ⟨a, rfl, e⟩
set_option maxHeartbeats 1000000 in
theorem ok_l_more_right (T : Tx K mg) {k : Nat} : FnOk P w K mg base CX0 (k + 4) T.f_l_more_right T.d_l_more_right ["_law_picture_here", "_law_palette_here", "_law_numbers", "_law_colour_here"] spMore := by
  refine T.F_l_more_right.ok sc_l_more_right (fun vs H Q E h => ?_) (fun cdv A outer s H vs Q E hr h => ?_)
  · obtain ⟨pa, ca, na, cv, pvs, cvs, nvs, ps, cs, mc, wd, rfl, _⟩ := h
    rfl
  · obtain ⟨pa, ca, na, cv, pvs, cvs, nvs, ps, cs, mc, wd, rfl, epa, hP, eca, hC, ena, hN, dm, w5, c0, c40, lp, okp, okc, om, q⟩ := h
    have lpv := hP.len
    have lcv := hC.len
    have lnv := hN.len
    rw [List.length_map] at lpv lcv lnv
    rw [List.length_map] at lnv
    refine ⟨_, (pss_cons (ps_set (i := 4) sc_l_more_right.nd rfl (.inl rfl) (pe_call (ok_numbers_by T (k := k)) hr (by rfl) T.g_numbers_by T.F_numbers_by.kp T.b_numbers_by .nil pass0 (pa_cons (pv 0) (pa_cons (pe_op op_cat (pv 1) (pe_lst (pa_cons (pv 3) pa_nil))) pa_nil))))
      (pss_cons (ps_for PassesOwn.never rfl (pi_zip3L K (by rfl) T.z_zip (pa_cons (pv 0) (pa_cons (pv 2) (pa_cons (pv 4) pa_nil)))) (pg_tupK K (n := 3) rfl (pgs_cons (pg_name (i := 5) sc_l_more_right.nd rfl (.inl rfl)) (pgs_cons (pg_name (i := 6) sc_l_more_right.nd rfl (.inl rfl)) (pgs_cons (pg_name (i := 7) sc_l_more_right.nd rfl (.inl rfl)) pgs_nil)))) (pss_one (ps_for PassesOwn.never rfl (pi_zip3L K (by rfl) T.z_zip (pa_cons (pv 5) (pa_cons (pv 6) (pa_cons (pv 7) pa_nil)))) (pg_tupK K (n := 3) rfl (pgs_cons (pg_name (i := 8) sc_l_more_right.nd rfl (.inl rfl)) (pgs_cons (pg_name (i := 9) sc_l_more_right.nd rfl (.inl rfl)) (pgs_cons (pg_name (i := 10) sc_l_more_right.nd rfl (.inl rfl)) pgs_nil)))) (pss_cons (ps_set (i := 11) sc_l_more_right.nd rfl (.inl rfl) (pe_cmpR op_lt (pe_call (ok_l_apart T (k := k + 2)) hr (by rfl) T.g_l_apart T.F_l_apart.kp T.b_l_apart .nil pass0 (pa_cons (pv 8) (pa_cons (pv 3) pa_nil))) (pe_call (ok_l_apart T (k := k + 2)) hr (by rfl) T.g_l_apart T.F_l_apart.kp T.b_l_apart .nil pass0 (pa_cons (pv 8) (pa_cons (pe_ix (ix_listK K) (pv 1) (pv 9) (fun _ _ => rfl)) pa_nil))) (nomark _)))
      (pss_one (ps_if (pt_cmpR op_ne (pv 10) (pe_ix (ix_listK K) (pe_lst (pa_cons (pv 9) (pa_cons (pe_callB (len_K K) (by rfl) T.z_len PySem.boot_len (pa_cons (pv 1) pa_nil)) pa_nil))) (pe_callTy call_int1 (by rfl) T.z_int (by decide +kernel) (pa_cons (pv 11) pa_nil)) (fun _ _ => rfl)) (nomark _)) (pss_one (ps_ret pe_bl)) pss_nil))))))
      (pss_one (ps_ret pe_bl)))), ?_⟩
    refine ⟨_, rfl, _, rfl, _, rfl, (by show 1 ≤ sizeLine; decide), fun p1 hp1 => ?_⟩
    have u1 := sm_new (o := .lst [cv]) hp1
    refine ⟨ca, p1, _, _, rfl, rfl, u1 _ _ eca, upd_same, Nat.le_of_lt (sz (by simp; omega)), fun p2 hp2 => ?_⟩
    have u2 := u1.trans (sm_new (o := .lst (cvs ++ [cv])) hp2)
    have ep2 : (upd (upd H p1 (.lst [cv])) p2 (.lst (cvs ++ [cv]))) p2 = some (.lst (cvs ++ [cv])) := upd_same
    generalize upd (upd H p1 (.lst [cv])) p2 (.lst (cvs ++ [cv])) = H2 at *
    have hC2 : DtA [] H2 (cvs ++ [cv]) ((cs ++ [mc]).map eC) := by
      rw [List.map_append]
      exact (hC.s u2).app (.one (dm.s u2))
    have ok2 : ∀ x ∈ cs ++ [mc], c5 wd x := fun x hx => by
      rcases List.mem_append.mp hx with z | z
      · exact okc x z
      · rw [List.mem_singleton.mp z]; exact om
    refine ⟨pa, p2, pvs, _, ps, cs ++ [mc], rfl, u2 _ _ epa, hP.s u2, ep2, hC2, by simp, by omega, (fun p hp => ⟨by have := (okp p hp).1; omega, fun c hc => c5_pok w5 ((okp p hp).2 c hc) ok2 (by simp; omega)⟩), fun D r3 H3 s3 hD eD R => ?_⟩
    have t3 := u2.trans s3
    have hT : DtA [] H3 (r3.map V.ref) ((ps.map fun p => p.map fun c => (nrI (cs ++ [mc]) c : Int)).map eI) := by
      rw [nums_int] at R
      exact R.dtI (fun _ h => nomatch h)
    have lt := hT.len
    rw [List.length_map, List.length_map, List.length_map] at lt
    refine ⟨_, rfl, _, rfl, _, rfl, pa, na, D, _, _, _, rfl, SqL.of (t3 _ _ epa), SqL.of (t3 _ _ ena), SqL.of eD, ?_⟩
    refine for_it (walk_zip3L (xs := pvs) (ys := nvs) (ts := r3.map V.ref) (by omega) (by rw [List.length_map]; omega)) (fun i σ H' => Same H3 H' ∧ ∃ y5 y6 y7 y8 y9 y10 y11, σ = [some (.ref pa), some (.ref ca), some (.ref na), some cv, some (.ref D), y5, y6, y7, y8, y9, y10, y11])
      ⟨Same.refl _, _, _, _, _, _, _, _, rfl⟩ (fun i σ H' _ h => ⟨SqL.of (h.1 _ _ (t3 _ _ epa)), SqL.of (h.1 _ _ (t3 _ _ ena)), SqL.of (h.1 _ _ eD)⟩) (fun i x σ H4 H5 hi h y => ?_) (fun σ H4 h => ?_)
    · obtain ⟨s4, y5, y6, y7, y8, y9, y10, y11, rfl⟩ := h
      obtain ⟨tt, x, y, z, rfl, ht, rfl, e1, e2, e3⟩ := y
      obtain ⟨hi1, ra, us, rfl, _, era, hU⟩ := palAt' hP e1
      obtain ⟨oa, rfl, eoa⟩ := numsAt hN e2 hi1
      obtain ⟨wa, rfl, ewa⟩ := numsAt hT e3 hi1
      have t4 := t3.trans s4
      have n4 := sm_new (o := .tup [.ref ra, .ref oa, .ref wa]) ht
      have lu := hU.len
      rw [List.length_map] at lu
      have oki := okp _ (List.getElem_mem hi1)
      refine ⟨tt, _, rfl, SqT.of upd_same, rfl, _, _, rfl, _, _, rfl, _, _, rfl, rfl, ?_⟩
      generalize upd H4 tt (.tup [.ref ra, .ref oa, .ref wa]) = H5 at *
      have t5 := t4.trans n4
      have v5 := s4.trans n4
      refine ⟨_, rfl, _, rfl, _, rfl, ra, oa, wa, _, _, _, rfl, SqL.of (t5 _ _ era), SqL.of (t5 _ _ eoa), SqL.of (v5 _ _ ewa), ?_⟩
      refine for_it (walk_zip3L (xs := us) (ys := (ps[i].map fun c => (nrI cs c : Int)).map V.int) (ts := (ps[i].map fun c => (nrI (cs ++ [mc]) c : Int)).map V.int) (by simp; omega) (by simp; omega)) (fun j σ H' => Same H5 H' ∧ ∃ y8 y9 y10 y11, σ = [some (.ref pa), some (.ref ca), some (.ref na), some cv, some (.ref D), some (.ref ra), some (.ref oa), some (.ref wa), y8, y9, y10, y11])
        ⟨Same.refl _, _, _, _, _, rfl⟩ (fun j σ H' _ h => ⟨SqL.of (h.1 _ _ (t5 _ _ era)), SqL.of (h.1 _ _ (t5 _ _ eoa)), SqL.of (h.1 _ _ (v5 _ _ ewa))⟩) (fun j x σ H6 H7 hj h y => ?_) (fun σ H6 h => ?_)
      · obtain ⟨s6, y8, y9, y10, y11, rfl⟩ := h
        obtain ⟨tj, x, y, z, rfl, htj, rfl, f1, f2, f3⟩ := y
        obtain ⟨hj1, dx⟩ := colAt' hU f1
        rw [List.getElem?_map, List.getElem?_map, List.getElem?_eq_getElem hj1] at f2 f3
        have ey : V.int (nrI cs ps[i][j]) = y := Option.some.inj f2
        have ez : V.int (nrI (cs ++ [mc]) ps[i][j]) = z := Option.some.inj f3
        subst ey
        subst ez
        have oc := oki.2 _ (List.getElem_mem hj1)
        have n6 := sm_new (o := .tup [x, .int (nrI cs ps[i][j]), .int (nrI (cs ++ [mc]) ps[i][j])]) htj
        refine ⟨tj, _, rfl, SqT.of upd_same, rfl, _, _, rfl, _, _, rfl, _, _, rfl, rfl, ?_⟩
        generalize upd H6 tj (.tup [x, .int (nrI cs ps[i][j]), .int (nrI (cs ++ [mc]) ps[i][j])]) = H7 at *
        have t7 := (t5.trans s6).trans n6
        have more := nr_more (mc := mc) ps[i][j] c0
        have nlt := nr_lt ps[i][j] c0
        generalize ps[i][j] = c at *
        refine ⟨_, rfl, _, rfl, [], x, cv, c, mc, rfl, dx.s t7, dm.s t7, oc.1.trans om.1.symm, by rw [om.1]; omega, (c5_ok oc).2, (c5_ok om).2, fun H8 s8 => ?_⟩
        have t8 := t7.trans s8
        obtain ⟨v, fv, dv⟩ := hC.get (i := nrI cs c) (d := eC cs[nrI cs c]) (by rw [List.getElem?_map, List.getElem?_eq_getElem nlt]; rfl)
        have on := okc _ (List.getElem_mem nlt)
        have gd : cs.getD (nrI cs c) [] = cs[nrI cs c] := by rw [List.getD_eq_getElem?_getD, List.getElem?_eq_getElem nlt]; rfl
        rw [gd] at more
        refine ⟨_, rfl, _, rfl, _, rfl, ca, _, _, v, rfl, rfl, SqL.of (t8 _ _ eca), atI_nat fv, [], x, v, c, cs[nrI cs c], rfl, dx.s t8, dv.s t8, oc.1.trans on.1.symm, by rw [on.1]; omega, (c5_ok oc).2, (c5_ok on).2, fun H9 s9 => ?_⟩
        have t9 := t8.trans s9
        refine ⟨_, _, rfl, rfl, ?_⟩
        refine ⟨_, rfl, _, rfl, _, rfl, ca, _, rfl, .inl (SqL.of (t9 _ _ eca)), (by show 2 ≤ sizeLine; decide), fun pl hpl => ?_⟩
        have n9 := sm_new (o := .lst [.int (nrI cs c), .int (cvs.length : Int)]) hpl
        refine ⟨_, rfl, .inr ⟨_, rfl, pl, _, _, _, rfl, rfl, SqL.of upd_same, at2 _ _ _, ?_⟩⟩
        have eqq : (if decide (ap c mc < ap c cs[nrI cs c]) = true then V.int (cvs.length : Int) else V.int (nrI cs c)) = V.int (nrI (cs ++ [mc]) c) := by
          rw [more, lcv]
          by_cases hh : ap c mc < ap c cs[nrI cs c]
          · rw [if_pos (decide_eq_true hh), if_pos hh]
          · rw [if_neg (fun z => hh (of_decide_eq_true z)), if_neg hh]
        rw [eqq]
        refine ⟨rfl, _, rfl, iteN (by simp) ?_⟩
        exact ⟨(((s6.trans n6).trans s8).trans s9).trans n9, _, _, _, _, rfl⟩
      · obtain ⟨s6, y8, y9, y10, y11, rfl⟩ := h
        exact ⟨v5.trans s6, _, _, _, _, _, _, _, rfl⟩
    · obtain ⟨s4, y5, y6, y7, y8, y9, y10, y11, rfl⟩ := h
      exact q _ (t3.trans s4)
/-! ### what the law promises -/
def spLaw (K : PySem.W.Frag) : Sp := fun vs H Q _ => ∃ (a : Addr) (ns : List Int), vs = [.ref a] ∧ SqL K H a (ns.map V.int) ∧ ns.length ≤ 63 ∧ ∀ H', Q (.bl true) H'
/-! ### the law -/
def picL (wd : Nat) (ps : List (List (List Int))) : Prop := ps.length ≤ 16 ∧ ∀ p ∈ ps, p.length ≤ 16 ∧ ∀ c ∈ p, c5 wd c
noncomputable def nsI (cs : List (List Int)) (ps : List (List (List Int))) : List (List Int) := ps.map fun p => p.map fun c => (nrI cs c : Int)
theorem nsb {cs : List (List Int)} {ps : List (List (List Int))} {wd : Nat} (h0 : 0 < cs.length) (hp : picL wd ps) : ∀ r ∈ nsI cs ps, r.length ≤ 1000 ∧ ∀ x ∈ r, 0 ≤ x ∧ x < (cs.length : Int) := fun r hr => by
  obtain ⟨p, hq, rfl⟩ := List.mem_map.mp hr
  refine ⟨by have := (hp.2 p hq).1; rw [List.length_map]; omega, fun x hx => ?_⟩
  obtain ⟨c, _, rfl⟩ := List.mem_map.mp hx
  have := nr_lt c h0
  omega
theorem picL.pok {cs : List (List Int)} {ps : List (List (List Int))} {wd : Nat} (hp : picL wd ps) (w5 : wd ≤ 5) (hc : ∀ c ∈ cs, c5 wd c) (l : cs.length ≤ 1000) : ∀ p ∈ ps, p.length ≤ 1000 ∧ ∀ c ∈ p, pOk cs c := fun p h => ⟨by have := (hp.2 p h).1; omega, fun c h2 => c5_pok w5 ((hp.2 p h).2 c h2) hc l⟩
theorem picL.told {cs : List (List Int)} {ps : List (List (List Int))} {wd : Nat} (hp : picL wd ps) (h0 : 0 < cs.length) (hc : ∀ c ∈ cs, c5 wd c) : picL wd (toldP cs ps) := by
  refine ⟨by unfold toldP; rw [List.length_map]; exact hp.1, fun p h => ?_⟩
  obtain ⟨p, hq, rfl⟩ := List.mem_map.mp h
  refine ⟨by rw [List.length_map]; exact (hp.2 p hq).1, fun c h2 => ?_⟩
  obtain ⟨c, _, rfl⟩ := List.mem_map.mp h2
  exact hc _ (gd_mem c h0)
theorem picL.g {ps : List (List (List Int))} {wd : Nat} (hp : picL wd ps) (w5 : wd ≤ 5) : gOk wd ps := ⟨by omega, by have := hp.1; omega, fun p h => ⟨by have := (hp.2 p h).1; omega, fun c h2 => c5_ok ((hp.2 p h).2 c h2)⟩⟩
theorem told_len (cs : List (List Int)) (ps : List (List (List Int))) : ps.length = (toldP cs ps).length := by unfold toldP; rw [List.length_map]
theorem told_row (cs : List (List Int)) (ps : List (List (List Int))) : ∀ i (h1 : i < ps.length) (h2 : i < (toldP cs ps).length), ps[i].length = (toldP cs ps)[i].length := fun i h1 h2 => by simp [toldP]
theorem told_in {cs : List (List Int)} {ps : List (List (List Int))} (h0 : 0 < cs.length) : ∀ p ∈ toldP cs ps, ∀ c ∈ p, c ∈ cs := fun p h c h2 => by
  obtain ⟨p, hq, rfl⟩ := List.mem_map.mp h
  obtain ⟨c, _, rfl⟩ := List.mem_map.mp h2
  exact gd_mem c h0
theorem sqs_told (cs : List (List Int)) (ps : List (List (List Int))) : sqs ps (toldP cs ps) = ps.map fun p => p.map (phi cs) := by
  unfold sqs toldP
  rw [List.zipWith_map_right, List.zipWith_self]
  refine List.map_congr_left fun p _ => ?_
  rw [List.zipWith_map_right, List.zipWith_self]
  rfl
theorem numsD {B : List Addr} {H H' : Hp} {D : Addr} {rs : List Addr} {cs : List (List Int)} {ps : List (List (List Int))} (h : Rws [] H H' D rs (nums cs ps)) (hb : Bk B H) : DtA B H' (rs.map V.ref) ((nsI cs ps).map eI) := by
  rw [nums_int] at h
  exact h.dtI hb
theorem toldD {B : List Addr} {H H' : Hp} {D : Addr} {rs : List Addr} {cs : List (List Int)} {ps : List (List (List Int))} (h : Rws B H H' D rs (pnt cs (nsI cs ps))) (hb : Bk B H) (s : Same H H') : DtA B H' (rs.map V.ref) ((toldP cs ps).map eP) := by
  have := h.dt hb (Go.of s)
  unfold nsI at this
  rw [pnt_eP] at this
  exact this
theorem picL.sh {ps : List (List (List Int))} {wd : Nat} (hp : picL wd ps) (w5 : wd ≤ 5) : Sh (eG ps) 3 := sh_eG (by have := hp.1; omega) fun p h => ⟨by have := (hp.2 p h).1; omega, fun c h2 => by have := ((hp.2 p h).2 c h2).1; omega⟩
theorem dta_rev {B : List Addr} {H : Hp} : ∀ {vs : List V} {ds : List PyData}, DtA B H vs ds → DtA B H vs.reverse ds.reverse
  | [], _, h => by cases h; exact .nil
  | v :: vs, _, h => by
    cases h with
    | cons h1 h2 =>
      rw [List.reverse_cons, List.reverse_cons]
      exact (dta_rev h2).app (.one h1)
theorem and_more {c : Bool} {A : Prop} {C : Hp → Prop} {H : Hp} (hA : c = true → (∀ H', Same H H' → C H') → A) (hC : ∀ H', Same H H' → C H') : if c = true then A else C H := by
  cases c with
  | true => exact hA rfl hC
  | false => exact hC H (Same.refl H)
theorem own_ex {H : Hp} {ys : List V} {rs : List (List Int × Int)} (hR : DtA [] H ys (rs.map eRow)) : ∃ f : Nat → V, ∀ j (hj : j < rs.length), ∃ a n, ys[j]? = some (.ref a) ∧ H a = some (.tup [f j, n]) ∧ Dt [] H (f j) (eC rs[j].1) := by
  have ex : ∀ j, ∃ v : V, ∀ hj : j < rs.length, ∃ a n, ys[j]? = some (.ref a) ∧ H a = some (.tup [v, n]) ∧ Dt [] H v (eC rs[j].1) := fun j => by
    by_cases hj : j < rs.length
    · obtain ⟨v0, fv, d0⟩ := hR.get (i := j) (d := eRow rs[j]) (by rw [List.getElem?_map, List.getElem?_eq_getElem hj]; rfl)
      obtain ⟨a, q, rfl, na, ea, nq, eq⟩ := row47 d0
      exact ⟨.ref q, fun _ => ⟨a, _, fv, ea, .tup (fun h => nomatch h) eq (DtA.ints _)⟩⟩
    · exact ⟨.non, fun h => absurd h hj⟩
  exact Classical.axiomOfChoice ex
set_option maxHeartbeats 2000000 in
theorem ok_law (T : Tx K mg) {f : Addr} {fd : FuncData} (F : Fun K "law" "law" s_law f fd) {k : Nat} (hk : k ≤ 10) : FnOk P w K mg base CX0 (k + 5) f fd ["_law_script"] (spLaw K) := by
  refine F.ok sc_law (fun vs H Q E h => ?_) (fun cdv A outer s H vs Q E hr h => ?_)
  · obtain ⟨a, ns, rfl, _⟩ := h
    rfl
  · obtain ⟨a, ns0, rfl, hS, hlen, q⟩ := h
    refine ⟨_, (pss_cons (ps_for PassesOwn.never rfl (pi_range1 (by rfl) T.z_range (pa_cons (pe_op op_add (pe_callB (call_min2 rfl) (by rfl) T.z_min (by decide +kernel) (pa_cons pe_int (pa_cons (pe_callB (len_K K) (by rfl) T.z_len PySem.boot_len (pa_cons (pv 0) pa_nil)) pa_nil))) pe_int) pa_nil)) (pg_name (i := 1) sc_law.nd rfl (.inl rfl)) (pss_cons (ps_set (i := 2) sc_law.nd rfl (.inl rfl) (pe_call (ok_l_left T (k := k + 3)) hr (by rfl) T.g_l_left T.F_l_left.kp T.b_l_left .nil pass0 (pa_cons (pv 0) (pa_cons (pv 1) pa_nil))))
      (pss_cons (ps_asg (pe_op op_add (pe_ix (ix_listK K) (pv 2) pe_int (fun _ _ => rfl)) pe_int) (pg_sub (pv 2) pe_int set_list))
      (pss_cons (ps_set (i := 3) sc_law.nd rfl (.inl rfl) (pe_call (ok_l_kind T (k := k + 1)) hr (by rfl) T.g_l_kind T.F_l_kind.kp T.b_l_kind .nil pass0 (pa_cons (pv 2) pa_nil)))
      (pss_cons (ps_set (i := 4) sc_law.nd rfl (.inl rfl) (pe_call (ok_l_picture T (k := k)) hr (by rfl) T.g_l_picture T.F_l_picture.kp T.b_l_picture .nil pass0 (pa_cons (pv 2) (pa_cons (pv 3) pa_nil))))
      (pss_cons (ps_set (i := 5) sc_law.nd rfl (.inl rfl) (pe_call (ok_l_palette T (k := k)) hr (by rfl) T.g_l_palette T.F_l_palette.kp T.b_l_palette .nil pass0 (pa_cons (pv 2) (pa_cons (pv 3) pa_nil))))
      (pss_cons (ps_set (i := 6) sc_law.nd rfl (.inl rfl) (pe_call (ok_numbers_by T (k := k + 1)) hr (by rfl) T.g_numbers_by T.F_numbers_by.kp T.b_numbers_by .nil pass0 (pa_cons (pv 4) (pa_cons (pv 5) pa_nil))))
      (pss_cons (ps_set (i := 7) sc_law.nd rfl (.inl rfl) (pe_call (ok_painted T (k := k + 3)) hr (by rfl) T.g_painted T.F_painted.kp T.b_painted .nil pass0 (pa_cons (pv 6) (pa_cons (pv 5) pa_nil))))
      (pss_cons (ps_if (PW.pt (pw_or (pt_cmpR (op_neDK K hr.units) (pe_call (ok_painted T (k := k + 3)) hr (by rfl) T.g_painted T.F_painted.kp T.b_painted .nil pass0 (pa_cons (pe_call (ok_numbers_by T (k := k + 1)) hr (by rfl) T.g_numbers_by T.F_numbers_by.kp T.b_numbers_by .nil pass0 (pa_cons (pv 7) (pa_cons (pv 5) pa_nil))) (pa_cons (pv 5) pa_nil))) (pv 7) (nomark _)) (pw_or1 (pt_cmpR op_ne (pe_call (ok_lost_in T (k := k + 2)) hr (by rfl) T.g_lost_in T.F_lost_in.kp T.b_lost_in .nil pass0 (pa_cons (pv 7) (pa_cons (pv 7) pa_nil))) pe_int (nomark _))))) (pss_one (ps_ret pe_bl)) pss_nil)
      (pss_cons (ps_set (i := 8) sc_law.nd rfl (.inl rfl) (pe_call (ok_l_colour T (k := k + 1)) hr (by rfl) T.g_l_colour T.F_l_colour.kp T.b_l_colour .nil pass0 (pa_cons (pv 2) (pa_cons (pv 3) pa_nil))))
      (pss_cons (ps_if (PW.pt (pw_and (pt_cmpR op_lt (pe_callB (len_K K) (by rfl) T.z_len PySem.boot_len (pa_cons (pv 5) pa_nil)) pe_int (nomark _)) (pw_and1 (pt_not (pt_val (pe_call (ok_l_more_right T (k := k)) hr (by rfl) T.g_l_more_right T.F_l_more_right.kp T.b_l_more_right .nil pass0 (pa_cons (pv 4) (pa_cons (pv 5) (pa_cons (pv 6) (pa_cons (pv 8) pa_nil)))))))))) (pss_one (ps_ret pe_bl)) pss_nil)
      (pss_cons (ps_set (i := 9) sc_law.nd rfl (.inl rfl) (pe_listRev K rfl (by rfl) T.z_list (by rfl) T.z_reversed (pa_cons (pv 5) pa_nil)))
      (pss_cons (ps_set (i := 10) sc_law.nd rfl (.inl rfl) (pe_call (ok_painted T (k := k + 3)) hr (by rfl) T.g_painted T.F_painted.kp T.b_painted .nil pass0 (pa_cons (pe_call (ok_numbers_by T (k := k + 1)) hr (by rfl) T.g_numbers_by T.F_numbers_by.kp T.b_numbers_by .nil pass0 (pa_cons (pv 4) (pa_cons (pv 9) pa_nil))) (pa_cons (pv 9) pa_nil))))
      (pss_cons (ps_if (pt_cmpR op_ne (pe_call (ok_lost_in T (k := k + 2)) hr (by rfl) T.g_lost_in T.F_lost_in.kp T.b_lost_in .nil pass0 (pa_cons (pv 4) (pa_cons (pv 10) pa_nil))) (pe_call (ok_lost_in T (k := k + 2)) hr (by rfl) T.g_lost_in T.F_lost_in.kp T.b_lost_in .nil pass0 (pa_cons (pv 4) (pa_cons (pv 7) pa_nil))) (nomark _)) (pss_one (ps_ret pe_bl)) pss_nil)
      (pss_cons (ps_if (pt_cmpR (op_neDK K hr.units) (pe_call (ok_l_squares T (k := k + 2)) hr (by rfl) T.g_l_squares T.F_l_squares.kp T.b_l_squares .nil pass0 (pa_cons (pv 4) (pa_cons (pv 10) pa_nil))) (pe_call (ok_l_squares T (k := k + 2)) hr (by rfl) T.g_l_squares T.F_l_squares.kp T.b_l_squares .nil pass0 (pa_cons (pv 4) (pa_cons (pv 7) pa_nil))) (nomark _)) (pss_one (ps_ret pe_bl)) pss_nil)
      (pss_cons (ps_set (i := 11) sc_law.nd rfl (.inl rfl) (pe_slice (sl_listK K) (pe_lc (own := [("_law_colour_here", 13), ("_law_count", 14)]) (by rfl) sc_law.nd (pi_listK K (pe_call (ok_counts_in T (k := k + 3)) hr (by rfl) T.g_counts_in T.F_counts_in.kp T.b_counts_in .nil pass0 (pa_cons (pv 4) pa_nil))) (blkOk_by (own := [("_law_colour_here", 13), ("_law_count", 14)]) (N := N_law) (sc := defScope s_law) (by decide +kernel)) (fun _ _ _ _ _ => (pg_tupK K (n := 2) rfl (pgs_cons (pg_name (i := 13) sc_law.nd rfl (.inl rfl)) (pgs_cons (pg_name (i := 14) sc_law.nd rfl (.inl rfl)) pgs_nil)))) (fun _ _ _ _ _ => pts_nil) (fun _ _ _ _ _ => (pv 13))) po_none (po_some pe_int)))
      (pss_cons (ps_set (i := 12) sc_law.nd rfl (.inl rfl) (pe_call (ok_painted T (k := k + 3)) hr (by rfl) T.g_painted T.F_painted.kp T.b_painted .nil pass0 (pa_cons (pe_call (ok_numbers_by T (k := k + 1)) hr (by rfl) T.g_numbers_by T.F_numbers_by.kp T.b_numbers_by .nil pass0 (pa_cons (pv 4) (pa_cons (pv 11) pa_nil))) (pa_cons (pv 11) pa_nil))))
      (pss_one (ps_if (PW.pt (pw_and (pt_cmpR op_lt (pe_callB (len_K K) (by rfl) T.z_len PySem.boot_len (pa_cons (pv 11) pa_nil)) pe_int (nomark _)) (pw_and1 (pt_cmpR (op_neDK K hr.units) (pv 12) (pv 4) (nomark _))))) (pss_one (ps_ret pe_bl)) pss_nil)))))))))))))))))))
      (pss_one (ps_ret pe_bl))), ?_⟩
    refine ⟨_, rfl, a, _, rfl, .inl hS, _, _, rfl, _, _, rfl, rfl, ?_⟩
    obtain ⟨m, hm⟩ : ∃ m : Int, m = (if ((ns0.map V.int).length : Int) < 4 then ((ns0.map V.int).length : Int) else (4 : Int)) + 1 := ⟨_, rfl⟩
    have m0 : 0 ≤ m ∧ m ≤ 7 := by
      rw [hm]
      split <;> omega
    refine ⟨m, by rw [hm], by omega, by omega, for_range (lo := 0) (n := m.toNat) (fun i σ H' => ∃ y1 y2 y3 y4 y5 y6 y7 y8 y9 y10 y11 y12 y13 y14, σ = [some (.ref a), y1, y2, y3, y4, y5, y6, y7, y8, y9, y10, y11, y12, y13, y14] ∧ Same H H')
      ⟨none, none, none, none, none, none, none, none, none, none, none, none, none, none, rfl, Same.refl H⟩ (fun i σ H1 hi h1 => ?_) (fun σ H1 h1 => ?_)⟩
    · obtain ⟨y1, y2, y3, y4, y5, y6, y7, y8, y9, y10, y11, y12, y13, y14, rfl, s1⟩ := h1
      refine ⟨_, rfl, _, rfl, a, ns0, _, rfl, s1.seq hS, by omega, fun L x0 y0 hL0 x0n => ?_⟩
      have hLH : H L = none := s1.free hL0
      have eL1 : (upd H1 L (.lst [.int x0, .int y0, .int 0])) L = some (.lst [.int x0, .int y0, .int 0]) := upd_same
      have s2 := sm_mut (o := .lst [.int x0, .int y0, .int 0]) s1 hLH
      generalize upd H1 L (.lst [.int x0, .int y0, .int 0]) = H2 at *
      refine ⟨_, rfl, L, _, 1, .int y0, rfl, rfl, SqL.of eL1, rfl, _, _, rfl, rfl, _, rfl, L, _, _, 1, rfl, rfl, eL1, rfl, ?_⟩
      generalize hH : upd H2 L (.lst (List.set [V.int x0, V.int y0, V.int 0] 1 (V.int (y0 + 400)))) = H3
      have lf3 : Lf L H3 0 := ⟨x0, y0 + 400, 0, by rw [← hH]; exact upd_same, x0n, by omega, by omega⟩
      have s3 : Same H H3 := by rw [← hH]; exact sm_mut s2 hLH
      clear hH eL1
      have nB : ∀ b ∈ [L], H b = none := fun b hb => by rw [List.mem_singleton.mp hb]; exact hLH
      refine ⟨_, rfl, L, 0, rfl, lf3, by omega, fun kv H4 wd sp g4 l4 w0 w1 p0 p1 d4 => ?_⟩
      refine ⟨_, rfl, _, rfl, L, _, kv, wd, sp, rfl, l4, by omega, d4, by omega, w1, by omega, p1, fun pa pvs H5 ps g5 l5 hpa epa hP picok => ?_⟩
      have npa : pa ∉ [L] := l4.bk.ne hpa
      have hP0 := hP.un
      refine ⟨_, rfl, _, rfl, L, _, kv, wd, sp, rfl, l5, by omega, d4.g g5, by omega, w1, by omega, p1, fun pl H6 cs g6 l6 d6 c0 c1 cok => ?_⟩
      obtain ⟨la, lvs, rfl, nl, ela, hA⟩ := d6.pal
      have d46 := (d4.g g5).g g6
      obtain ⟨op1, op2, wz, wz0, wz1, op3⟩ := picok
      have w5 : wd.toNat ≤ 5 := by omega
      have okp : picL wd.toNat ps := ⟨op2, fun p hp => ⟨by have := (op3 p hp).1; omega, fun c hc => by
        have := (op3 p hp).2 c hc
        exact ⟨by have := this.1; omega, this.2⟩⟩⟩
      have okc : ∀ c ∈ cs, c5 wd.toNat c := fun c hc => by
        have := cok c hc
        exact ⟨by have := this.1; omega, this.2⟩
      have epa6 := g6.k pa _ npa epa
      have hP6 := hP0.g g6
      have s6 : Same H H6 := ((g4.trans g5).trans g6).sm s3 nB
      have nn : ∀ {x : Addr}, x ∈ ([] : List Addr) → x ∉ ([] : List Addr) := fun h => nomatch h
      have lcv := hA.len
      rw [List.length_map] at lcv
      refine ⟨_, rfl, _, rfl, pa, la, pvs, lvs, ps, cs, rfl, epa6, hP6.sub (fun _ h => nomatch h), ela, hA.sub (fun _ h => nomatch h), c0, by omega, okp.pok w5 okc (by omega), fun N nr H7 s7 hN eNa RN => ?_⟩
      have hN7 := numsD RN l6.bk
      have bk7 := l6.bk.go (Go.of (B := []) s7)
      refine ⟨_, rfl, _, rfl, [L], N, la, _, lvs, nsI cs ps, cs, rfl, eNa, hN7.sub (fun _ h => nomatch h), s7 _ _ ela, hA.s s7, by unfold nsI; rw [List.length_map]; omega, nsb c0 okp, fun O tr H8 s8 hO eO RO => ?_⟩
      have hO8 := toldD RO bk7 s8
      have okt := okp.told c0 okc
      have t8 := s7.trans s8
      -- told again
      refine ⟨_, rfl, _, rfl, O, la, _, lvs, toldP cs ps, cs, rfl, eO, hO8.sub (fun _ h => nomatch h), t8 _ _ ela, (hA.s t8).sub (fun _ h => nomatch h), c0, by have := okt.1; omega, okt.pok w5 okc (by omega), fun N2 nr2 H9 s9 hN2 eN2 RN2 => ?_⟩
      have t9 := t8.trans s9
      refine ⟨_, rfl, [], N2, la, _, lvs, nsI cs (toldP cs ps), cs, rfl, eN2, numsD RN2 (fun _ h => nomatch h), t9 _ _ ela, (hA.s t9).sub (fun _ h => nomatch h), by have := okt.1; unfold nsI; rw [List.length_map]; omega, nsb c0 okt, fun O2 tr2 H10 s10 hO2 eO2 RO2 => ?_⟩
      have hO10 := toldD RO2 (fun _ h => nomatch h) s10
      rw [told_same okc (told_in c0)] at hO10
      have t10 := t9.trans s10
      have u10 := s9.trans s10
      have dO : Dt [] H10 (.ref O) (eG (toldP cs ps)) := .lst (fun h => nomatch h) (u10 _ _ eO) ((hO8.s u10).sub (fun _ h => nomatch h))
      have dO2 : Dt [] H10 (.ref O2) (eG (toldP cs ps)) := .lst (fun h => nomatch h) eO2 hO10
      have shT := okt.sh w5
      refine ⟨_, rfl, _, _, dO2.dP, dO.dP, shT.sh (by omega), shT.sh (by omega), _, rfl, iteN (by rw [eqv_sh shT]; rfl) ?_⟩
      have gT := okt.g w5
      have gP := okp.g w5
      refine ⟨_, rfl, _, rfl, O, O, _, _, toldP cs ps, toldP cs ps, _, rfl, u10 _ _ eO, (hO8.s u10).sub (fun _ h => nomatch h), u10 _ _ eO, (hO8.s u10).sub (fun _ h => nomatch h), gT, gT, rfl, fun i h1 h2 => rfl, fun H11 s11 => ?_⟩
      have z0 : lostL (toldP cs ps) (toldP cs ps) = 0 := (lost_zero gT gT rfl (fun i h1 h2 => rfl)).mpr rfl
      rw [z0]
      refine ⟨rfl, _, rfl, iteN rfl ?_⟩
      have t11 := t10.trans s11
      have u11 := u10.trans s11
      have l11 := l6.same t11
      -- one colour more
      refine ⟨_, rfl, _, rfl, L, [L], _, kv, wd, sp, rfl, l11, by simp, l11.bk, by omega, d46.s t11, by omega, w1, by omega, p1, fun mv H12 mc g12 l12 dm lm cm => ?_⟩
      have omc : c5 wd.toNat mc := ⟨by omega, cm⟩
      have s12 : Same H H12 := g12.sm (s6.trans t11) nB
      have nN : N ∉ [L] := l6.bk.ne hN
      have nO : O ∉ [L] := bk7.ne hO
      have epa12 := g12.k pa _ npa (t11 _ _ epa6)
      have ela12 := g12.k la _ nl (t11 _ _ ela)
      have eN12 := g12.k N _ nN ((s8.trans u11) _ _ eNa)
      have eO12 := g12.k O _ nO (u11 _ _ eO)
      have hP12 : DtA [] H12 pvs (ps.map eP) := ((hP6.s t11).g g12).sub (fun _ h => nomatch h)
      have hA12 : DtA [] H12 lvs (cs.map eC) := ((hA.s t11).g g12).sub (fun _ h => nomatch h)
      have hN12 : DtA [] H12 (nr.map V.ref) ((nsI cs ps).map eI) := ((hN7.s (s8.trans u11)).g g12).sub (fun _ h => nomatch h)
      have hO12 : DtA [] H12 (tr.map V.ref) ((toldP cs ps).map eP) := ((hO8.s u11).g g12).sub (fun _ h => nomatch h)
      have dm12 : Dt [] H12 mv (eC mc) := dm.sub (fun _ h => nomatch h)
      clear hO8 hN7 RO RN RO2 RN2 hO10 dO dO2
      refine ⟨_, rfl, la, _, rfl, .inl (SqL.of ela12), _, _, rfl, rfl, _, rfl, ?_⟩
      refine ite2 (fun e => ⟨_, rfl, _, rfl, _, rfl, _, rfl, pa, la, N, mv, pvs, lvs, _, ps, cs, mc, wd.toNat, rfl, epa12, hP12, ela12, hA12, eN12, hN12, dm12, w5, c0, c1, okp.1, okp.2, okc, omc, fun H13 s13 => ⟨_, rfl, iteN rfl ?_⟩⟩) (fun e => iteN rfl ?_)
      rotate_left
      have s13 := Same.refl H12
      generalize H12 = H13 at *
      rotate_right
      all_goals
        have epa13 := s13 _ _ epa12
        have ela13 := s13 _ _ ela12
        have eO13 := s13 _ _ eO12
        have hP13 := hP12.s s13
        have hA13 := hA12.s s13
        have hO13 := hO12.s s13
        have s13' := s12.trans s13
        clear epa12 ela12 eO12 hP12 hA12 hO12 eN12 hN12 dm12
        refine ⟨_, rfl, la, lvs, rfl, SqL.of ela13, by omega, fun R hR => ?_⟩
        have n14 := sm_new (o := .lst lvs.reverse) hR
        have eR : (upd H13 R (.lst lvs.reverse)) R = some (.lst lvs.reverse) := upd_same
        generalize upd H13 R (.lst lvs.reverse) = H14 at *
        have epa14 := n14 _ _ epa13
        have eO14 := n14 _ _ eO13
        have hP14 := hP13.s n14
        have hO14 := hO13.s n14
        have hA14 := dta_rev (hA13.s n14)
        rw [← List.map_reverse] at hA14
        have s14 := s13'.trans n14
        clear epa13 ela13 eO13 hP13 hA13 hO13 n14 hR s13 s13'
        have c0' : 0 < cs.reverse.length := by rw [List.length_reverse]; exact c0
        have okc' : ∀ c ∈ cs.reverse, c5 wd.toNat c := fun c hc => okc c (List.mem_reverse.mp hc)
        have ephi : phi cs.reverse = phi cs := funext fun c => phi_same c0' c0 (fun x => List.mem_reverse) c
        refine ⟨_, rfl, _, rfl, pa, R, pvs, _, ps, cs.reverse, rfl, epa14, hP14, eR, hA14, c0', by omega, okp.pok w5 okc' (by rw [List.length_reverse]; omega), fun N3 nr3 H15 s15 hN3 eN3 RN3 => ?_⟩
        refine ⟨_, rfl, [], N3, R, _, _, nsI cs.reverse ps, cs.reverse, rfl, eN3, numsD RN3 (fun _ h => nomatch h), s15 _ _ eR, hA14.s s15, by unfold nsI; rw [List.length_map]; omega, nsb c0' okp, fun O3 tr3 H16 s16 hO3 eO3 RO3 => ?_⟩
        have hO3 := toldD RO3 (fun _ h => nomatch h) s16
        have t16 := s15.trans s16
        have gT3 := (okp.told c0' okc').g w5
        have elost : lostL ps (toldP cs.reverse ps) = lostL ps (toldP cs ps) := by rw [lost_told, lost_told, ephi]
        refine ⟨_, rfl, _, rfl, pa, O3, _, _, ps, toldP cs.reverse ps, _, rfl, t16 _ _ epa14, hP14.s t16, eO3, hO3, gP, gT3, told_len _ _, told_row _ _, fun H17 s17 => ?_⟩
        have t17 := t16.trans s17
        refine ⟨_, rfl, _, rfl, pa, O, _, _, ps, toldP cs ps, _, rfl, t17 _ _ epa14, hP14.s t17, t17 _ _ eO14, hO14.s t17, gP, gT, told_len _ _, told_row _ _, fun H18 s18 => ?_⟩
        rw [elost]
        refine ⟨rfl, _, rfl, iteN (by simp) ?_⟩
        have t18 := t17.trans s18
        have u18 := s17.trans s18
        refine ⟨_, rfl, _, rfl, pa, O3, _, _, ps, toldP cs.reverse ps, _, rfl, t18 _ _ epa14, hP14.s t18, u18 _ _ eO3, hO3.s u18, gP, gT3, told_len _ _, told_row _ _, fun D1 r1 H19 s19 hD1 eD1 dD1 => ?_⟩
        have t19 := t18.trans s19
        refine ⟨_, rfl, _, rfl, pa, O, _, _, ps, toldP cs ps, _, rfl, t19 _ _ epa14, hP14.s t19, t19 _ _ eO14, hO14.s t19, gP, gT, told_len _ _, told_row _ _, fun D2 r2 H20 s20 hD2 eD2 dD2 => ?_⟩
        have t20 := t19.trans s20
        have dD1 := dD1.s s20
        have eD1 := s20 _ _ eD1
        rw [sqs_told, ephi, ← sqs_told] at dD1
        have d1 : Dt [] H20 (.ref D1) (eN (sqs ps (toldP cs ps))) := .lst (fun h => nomatch h) eD1 dD1
        have d2 : Dt [] H20 (.ref D2) (eN (sqs ps (toldP cs ps))) := .lst (fun h => nomatch h) eD2 dD2
        have shS : Sh (eN (sqs ps (toldP cs ps))) 2 := by
          rw [sqs_told]
          refine sh_eN (by rw [List.length_map]; omega) fun r hr => ?_
          obtain ⟨p, hp, rfl⟩ := List.mem_map.mp hr
          have := (okp.2 p hp).1
          rw [List.length_map]
          omega
        refine ⟨_, _, d1.dP, d2.dP, shS.sh (by omega), shS.sh (by omega), _, rfl, iteN (by rw [eqv_sh shS]; rfl) ?_⟩
        -- all its own colours
        refine ⟨_, rfl, pa, pvs, ps, rfl, t20 _ _ epa14, hP14.s t20, by omega, fun p hp => by have := (okp.2 p hp).1; omega, fun C ys rs H21 s21 hC eC' hR lrs q1 q2 => ?_⟩
        have t21 := t20.trans s21
        have lys := hR.len
        rw [List.length_map] at lys
        obtain ⟨f, hf⟩ := own_ex hR
        refine ⟨C, rfl, ⟨_, SqL.of eC'⟩, fun E hE => ?_⟩
        refine lc_vals (walk_list (xs := ys)) hE (fun H' s' => SqL.of (s' _ _ eC')) (by omega) f (fun j x H2 H3 Ny Nn hj t2 y ky => ?_) (fun H22 s22 eE => ?_)
        · obtain ⟨rfl, y⟩ := y
          obtain ⟨b, n, fy, eb, db⟩ := hf j (by omega)
          rw [fy] at y
          cases y
          refine ⟨b, _, rfl, SqT.of (t2 _ _ eb), rfl, _, _, rfl, _, _, rfl, rfl, rfl, lc_yes ?_⟩
          exact ⟨_, rfl, ky _ (Same.refl _)⟩
        have t22 := t21.trans s22
        have dW : DtA [] H22 ((List.range ys.length).map f) ((rs.map fun r => r.1).map eC) := by
          refine DtA.mk (by simp [lys]) fun i v d h1 h2 => ?_
          by_cases hi : i < rs.length
          · rw [List.getElem?_map, List.getElem?_range (by omega)] at h1
            cases h1
            rw [List.getElem?_map, List.getElem?_map, List.getElem?_eq_getElem hi] at h2
            cases h2
            obtain ⟨_, _, _, _, db⟩ := hf i hi
            exact db.s s22
          · rw [List.getElem?_map, List.getElem?_map, List.getElem?_eq_none (by omega)] at h2
            cases h2
        generalize (List.range ys.length).map f = us at *
        refine ⟨40, rfl, E, _, rfl, SqL.of eE, fun W hW => ?_⟩
        have s23 := sm_new (o := .lst (cutV us none (some 40))) hW
        have eW : (upd H22 W (.lst (cutV us none (some 40)))) W = some (.lst (cutV us none (some 40))) := upd_same
        generalize upd H22 W (.lst (cutV us none (some 40))) = H23 at *
        have dV := (dW.s s23).cut none (some 40)
        rw [cut_toV _ (by decide), ← List.map_take] at dV
        generalize cutV us none (some 40) = wvs at *
        have t23 := t22.trans s23
        have lown : ((rs.map fun r => r.1).take (Int.toNat 40)).length = min 40 rs.length := by rw [List.length_take, List.length_map]; rfl
        have lps0 := (op3 _ (List.getElem_mem op1)).1
        have c0w : 0 < ((rs.map fun r => r.1).take (Int.toNat 40)).length := by
          obtain ⟨r, hr, _⟩ := q2 _ (List.getElem_mem op1) _ (List.getElem_mem (show 0 < ps[0].length by omega))
          have := List.length_pos_of_mem hr
          omega
        have okw : ∀ c ∈ (rs.map fun r => r.1).take (Int.toNat 40), c5 wd.toNat c := fun c hc => by
          obtain ⟨r, hr, rfl⟩ := List.mem_map.mp (List.mem_of_mem_take hc)
          obtain ⟨p, hp, hc⟩ := q1 r hr
          exact (okp.2 p hp).2 _ hc
        have full : ((rs.map fun r => r.1).take (Int.toNat 40)).length < 40 → ∀ p ∈ ps, ∀ c ∈ p, c ∈ (rs.map fun r => r.1).take (Int.toNat 40) := fun hl p hp c hc => by
          obtain ⟨r, hr, rfl⟩ := q2 p hp c hc
          rw [List.take_of_length_le (by rw [List.length_map]; show rs.length ≤ 40; omega)]
          exact List.mem_map_of_mem hr
        generalize (rs.map fun r => r.1).take (Int.toNat 40) = ow at *
        have lwv := dV.len
        rw [List.length_map] at lwv
        refine ⟨_, rfl, _, rfl, pa, W, pvs, _, ps, ow, rfl, t23 _ _ epa14, hP14.s t23, eW, dV, c0w, by omega, okp.pok w5 okw (by omega), fun N4 nr4 H24 s24 hN4 eN4 RN4 => ?_⟩
        refine ⟨_, rfl, [], N4, W, _, _, nsI ow ps, ow, rfl, eN4, numsD RN4 (fun _ h => nomatch h), s24 _ _ eW, dV.s s24, by unfold nsI; rw [List.length_map]; omega, nsb c0w okp, fun O4 tr4 H25 s25 hO4 eO4 RO4 => ?_⟩
        have hO4 := toldD RO4 (fun _ h => nomatch h) s25
        have t25 := t23.trans (s24.trans s25)
        refine ⟨_, rfl, W, _, rfl, .inl (SqL.of ((s24.trans s25) _ _ eW)), _, _, rfl, rfl, _, rfl, ite2 (fun e => ?_) (fun e => iteN rfl ?_)⟩
        · have e' : (wvs.length : Int) < 40 := of_decide_eq_true e
          rw [told_same okw (full (by omega))] at hO4
          have dS : Dt [] H25 (.ref O4) (eG ps) := .lst (fun h => nomatch h) eO4 hO4
          have dp : Dt [] H25 (.ref pa) (eG ps) := .lst (fun h => nomatch h) (t25 _ _ epa14) (hP14.s t25)
          have shP := okp.sh w5
          refine ⟨_, rfl, _, rfl, _, _, dS.dP, dp.dP, shP.sh (by omega), shP.sh (by omega), _, rfl, iteN (by rw [eqv_sh shP]; rfl) ?_⟩
          exact ⟨_, _, _, _, _, _, _, _, _, _, _, _, _, _, rfl, s14.trans t25⟩
        · exact ⟨_, _, _, _, _, _, _, _, _, _, _, _, _, _, rfl, s14.trans t25⟩
    · obtain ⟨y1, y2, y3, y4, y5, y6, y7, y8, y9, y10, y11, y12, y13, y14, rfl, s1⟩ := h1
      exact q _

end
theorem all_mk {l : PySem.W.OpenLaw} {w : World} {K : PySem.W.Frag} {h : Heap} {mg : Str → Option Value} {fa : Addr} (X : K.In h) (G : h.Ns mainGlobals mg) (hfa : mg "law" = some (.ref fa))
    {f0 : Addr} {od0 an0 : Option Addr} {sl0 : Array (Option Value)} {oc0 kV0 dc0 pm0 cd0 ct0 : Value}
    (a0 : PySem.W.nsIn K mainGlobals "apart" = some (some (.ref f0))) (l0 : K.lookup f0 = some ⟨oc0, od0, .func (PySem.W.fnOf "apart" "apart" (defArgs s_apart) (defBody s_apart) (defScope s_apart) .none kV0 dc0 pm0 an0 cd0 ct0), sl0⟩) (c0 : PySem.W.codeIn K cd0 "apart" = true) (k0 : PySem.W.keepIn K (.ref f0) = true)
    {f1 : Addr} {od1 an1 : Option Addr} {sl1 : Array (Option Value)} {oc1 kV1 dc1 pm1 cd1 ct1 : Value}
    (a1 : PySem.W.nsIn K mainGlobals "nearest" = some (some (.ref f1))) (l1 : K.lookup f1 = some ⟨oc1, od1, .func (PySem.W.fnOf "nearest" "nearest" (defArgs s_nearest) (defBody s_nearest) (defScope s_nearest) .none kV1 dc1 pm1 an1 cd1 ct1), sl1⟩) (c1 : PySem.W.codeIn K cd1 "nearest" = true) (k1 : PySem.W.keepIn K (.ref f1) = true)
    {f2 : Addr} {od2 an2 : Option Addr} {sl2 : Array (Option Value)} {oc2 kV2 dc2 pm2 cd2 ct2 : Value}
    (a2 : PySem.W.nsIn K mainGlobals "counts_in" = some (some (.ref f2))) (l2 : K.lookup f2 = some ⟨oc2, od2, .func (PySem.W.fnOf "counts_in" "counts_in" (defArgs s_counts_in) (defBody s_counts_in) (defScope s_counts_in) .none kV2 dc2 pm2 an2 cd2 ct2), sl2⟩) (c2 : PySem.W.codeIn K cd2 "counts_in" = true) (k2 : PySem.W.keepIn K (.ref f2) = true)
    {f3 : Addr} {od3 an3 : Option Addr} {sl3 : Array (Option Value)} {oc3 kV3 dc3 pm3 cd3 ct3 : Value}
    (a3 : PySem.W.nsIn K mainGlobals "numbers_by" = some (some (.ref f3))) (l3 : K.lookup f3 = some ⟨oc3, od3, .func (PySem.W.fnOf "numbers_by" "numbers_by" (defArgs s_numbers_by) (defBody s_numbers_by) (defScope s_numbers_by) .none kV3 dc3 pm3 an3 cd3 ct3), sl3⟩) (c3 : PySem.W.codeIn K cd3 "numbers_by" = true) (k3 : PySem.W.keepIn K (.ref f3) = true)
    {f4 : Addr} {od4 an4 : Option Addr} {sl4 : Array (Option Value)} {oc4 kV4 dc4 pm4 cd4 ct4 : Value}
    (a4 : PySem.W.nsIn K mainGlobals "painted" = some (some (.ref f4))) (l4 : K.lookup f4 = some ⟨oc4, od4, .func (PySem.W.fnOf "painted" "painted" (defArgs s_painted) (defBody s_painted) (defScope s_painted) .none kV4 dc4 pm4 an4 cd4 ct4), sl4⟩) (c4 : PySem.W.codeIn K cd4 "painted" = true) (k4 : PySem.W.keepIn K (.ref f4) = true)
    {f5 : Addr} {od5 an5 : Option Addr} {sl5 : Array (Option Value)} {oc5 kV5 dc5 pm5 cd5 ct5 : Value}
    (a5 : PySem.W.nsIn K mainGlobals "lost_in" = some (some (.ref f5))) (l5 : K.lookup f5 = some ⟨oc5, od5, .func (PySem.W.fnOf "lost_in" "lost_in" (defArgs s_lost_in) (defBody s_lost_in) (defScope s_lost_in) .none kV5 dc5 pm5 an5 cd5 ct5), sl5⟩) (c5 : PySem.W.codeIn K cd5 "lost_in" = true) (k5 : PySem.W.keepIn K (.ref f5) = true)
    {f6 : Addr} {od6 an6 : Option Addr} {sl6 : Array (Option Value)} {oc6 kV6 dc6 pm6 cd6 ct6 : Value}
    (a6 : PySem.W.nsIn K mainGlobals "_law_mix" = some (some (.ref f6))) (l6 : K.lookup f6 = some ⟨oc6, od6, .func (PySem.W.fnOf "_law_mix" "_law_mix" (defArgs s_l_mix) (defBody s_l_mix) (defScope s_l_mix) .none kV6 dc6 pm6 an6 cd6 ct6), sl6⟩) (c6 : PySem.W.codeIn K cd6 "_law_mix" = true) (k6 : PySem.W.keepIn K (.ref f6) = true)
    {f7 : Addr} {od7 an7 : Option Addr} {sl7 : Array (Option Value)} {oc7 kV7 dc7 pm7 cd7 ct7 : Value}
    (a7 : PySem.W.nsIn K mainGlobals "_law_left" = some (some (.ref f7))) (l7 : K.lookup f7 = some ⟨oc7, od7, .func (PySem.W.fnOf "_law_left" "_law_left" (defArgs s_l_left) (defBody s_l_left) (defScope s_l_left) .none kV7 dc7 pm7 an7 cd7 ct7), sl7⟩) (c7 : PySem.W.codeIn K cd7 "_law_left" = true) (k7 : PySem.W.keepIn K (.ref f7) = true)
    {f8 : Addr} {od8 an8 : Option Addr} {sl8 : Array (Option Value)} {oc8 kV8 dc8 pm8 cd8 ct8 : Value}
    (a8 : PySem.W.nsIn K mainGlobals "_law_pick" = some (some (.ref f8))) (l8 : K.lookup f8 = some ⟨oc8, od8, .func (PySem.W.fnOf "_law_pick" "_law_pick" (defArgs s_l_pick) (defBody s_l_pick) (defScope s_l_pick) .none kV8 dc8 pm8 an8 cd8 ct8), sl8⟩) (c8 : PySem.W.codeIn K cd8 "_law_pick" = true) (k8 : PySem.W.keepIn K (.ref f8) = true)
    {f9 : Addr} {od9 an9 : Option Addr} {sl9 : Array (Option Value)} {oc9 kV9 dc9 pm9 cd9 ct9 : Value}
    (a9 : PySem.W.nsIn K mainGlobals "_law_kind" = some (some (.ref f9))) (l9 : K.lookup f9 = some ⟨oc9, od9, .func (PySem.W.fnOf "_law_kind" "_law_kind" (defArgs s_l_kind) (defBody s_l_kind) (defScope s_l_kind) .none kV9 dc9 pm9 an9 cd9 ct9), sl9⟩) (c9 : PySem.W.codeIn K cd9 "_law_kind" = true) (k9 : PySem.W.keepIn K (.ref f9) = true)
    {f10 : Addr} {od10 an10 : Option Addr} {sl10 : Array (Option Value)} {oc10 kV10 dc10 pm10 cd10 ct10 : Value}
    (a10 : PySem.W.nsIn K mainGlobals "_law_colour" = some (some (.ref f10))) (l10 : K.lookup f10 = some ⟨oc10, od10, .func (PySem.W.fnOf "_law_colour" "_law_colour" (defArgs s_l_colour) (defBody s_l_colour) (defScope s_l_colour) .none kV10 dc10 pm10 an10 cd10 ct10), sl10⟩) (c10 : PySem.W.codeIn K cd10 "_law_colour" = true) (k10 : PySem.W.keepIn K (.ref f10) = true)
    {f11 : Addr} {od11 an11 : Option Addr} {sl11 : Array (Option Value)} {oc11 kV11 dc11 pm11 cd11 ct11 : Value}
    (a11 : PySem.W.nsIn K mainGlobals "_law_palette" = some (some (.ref f11))) (l11 : K.lookup f11 = some ⟨oc11, od11, .func (PySem.W.fnOf "_law_palette" "_law_palette" (defArgs s_l_palette) (defBody s_l_palette) (defScope s_l_palette) .none kV11 dc11 pm11 an11 cd11 ct11), sl11⟩) (c11 : PySem.W.codeIn K cd11 "_law_palette" = true) (k11 : PySem.W.keepIn K (.ref f11) = true)
    {f12 : Addr} {od12 an12 : Option Addr} {sl12 : Array (Option Value)} {oc12 kV12 dc12 pm12 cd12 ct12 : Value}
    (a12 : PySem.W.nsIn K mainGlobals "_law_picture" = some (some (.ref f12))) (l12 : K.lookup f12 = some ⟨oc12, od12, .func (PySem.W.fnOf "_law_picture" "_law_picture" (defArgs s_l_picture) (defBody s_l_picture) (defScope s_l_picture) .none kV12 dc12 pm12 an12 cd12 ct12), sl12⟩) (c12 : PySem.W.codeIn K cd12 "_law_picture" = true) (k12 : PySem.W.keepIn K (.ref f12) = true)
    {f13 : Addr} {od13 an13 : Option Addr} {sl13 : Array (Option Value)} {oc13 kV13 dc13 pm13 cd13 ct13 : Value}
    (a13 : PySem.W.nsIn K mainGlobals "_law_apart" = some (some (.ref f13))) (l13 : K.lookup f13 = some ⟨oc13, od13, .func (PySem.W.fnOf "_law_apart" "_law_apart" (defArgs s_l_apart) (defBody s_l_apart) (defScope s_l_apart) .none kV13 dc13 pm13 an13 cd13 ct13), sl13⟩) (c13 : PySem.W.codeIn K cd13 "_law_apart" = true) (k13 : PySem.W.keepIn K (.ref f13) = true)
    {f14 : Addr} {od14 an14 : Option Addr} {sl14 : Array (Option Value)} {oc14 kV14 dc14 pm14 cd14 ct14 : Value}
    (a14 : PySem.W.nsIn K mainGlobals "_law_squares" = some (some (.ref f14))) (l14 : K.lookup f14 = some ⟨oc14, od14, .func (PySem.W.fnOf "_law_squares" "_law_squares" (defArgs s_l_squares) (defBody s_l_squares) (defScope s_l_squares) .none kV14 dc14 pm14 an14 cd14 ct14), sl14⟩) (c14 : PySem.W.codeIn K cd14 "_law_squares" = true) (k14 : PySem.W.keepIn K (.ref f14) = true)
    {f15 : Addr} {od15 an15 : Option Addr} {sl15 : Array (Option Value)} {oc15 kV15 dc15 pm15 cd15 ct15 : Value}
    (a15 : PySem.W.nsIn K mainGlobals "_law_more_right" = some (some (.ref f15))) (l15 : K.lookup f15 = some ⟨oc15, od15, .func (PySem.W.fnOf "_law_more_right" "_law_more_right" (defArgs s_l_more_right) (defBody s_l_more_right) (defScope s_l_more_right) .none kV15 dc15 pm15 an15 cd15 ct15), sl15⟩) (c15 : PySem.W.codeIn K cd15 "_law_more_right" = true) (k15 : PySem.W.keepIn K (.ref f15) = true)
    {f16 : Addr} {od16 an16 : Option Addr} {sl16 : Array (Option Value)} {oc16 kV16 dc16 pm16 cd16 ct16 : Value}
    (a16 : PySem.W.nsIn K mainGlobals "law" = some (some (.ref f16))) (l16 : K.lookup f16 = some ⟨oc16, od16, .func (PySem.W.fnOf "law" "law" (defArgs s_law) (defBody s_law) (defScope s_law) .none kV16 dc16 pm16 an16 cd16 ct16), sl16⟩) (c16 : PySem.W.codeIn K cd16 "law" = true) (k16 : PySem.W.keepIn K (.ref f16) = true)
    (z_abs : PySem.W.nsIn K mainGlobals "abs" = some none)
    (z_int : PySem.W.nsIn K mainGlobals "int" = some none)
    (z_len : PySem.W.nsIn K mainGlobals "len" = some none)
    (z_list : PySem.W.nsIn K mainGlobals "list" = some none)
    (z_min : PySem.W.nsIn K mainGlobals "min" = some none)
    (z_range : PySem.W.nsIn K mainGlobals "range" = some none)
    (z_reversed : PySem.W.nsIn K mainGlobals "reversed" = some none)
    (z_sorted : PySem.W.nsIn K mainGlobals "sorted" = some none)
    (z_sum : PySem.W.nsIn K mainGlobals "sum" = some none)
    (z_tuple : PySem.W.nsIn K mainGlobals "tuple" = some none)
    (z_zip : PySem.W.nsIn K mainGlobals "zip" = some none)
    : ∃ fd : FuncData, (∀ (s : Shared) (v : Value), BindsTo s fd ⟨[v], []⟩ [("_law_script", v)]) ∧ ∀ base : Heap, K.In base → base.Ns mainGlobals mg → FnOk l.prog w K mg base CX0 5 fa fd ["_law_script"] (spLaw K) := by
  have e := hfa.symm.trans (PySem.W.mg_of X G a16)
  cases e
  exact ⟨_, fun s v => .of_eq rfl, fun base _ _ => ok_law (k := 0) {
      f_apart := f0, d_apart := _, F_apart := fun_mk (st := s_apart) l0 c0 k0, b_apart := (fun_mk (st := s_apart) l0 c0 k0).binds (ps := ["one", "other"]) fun _ _ _ _ _ _ us hl => match us, hl with | [_, _], _ => rfl, g_apart := PySem.W.mg_of X G a0,
      f_nearest := f1, d_nearest := _, F_nearest := fun_mk (st := s_nearest) l1 c1 k1, b_nearest := (fun_mk (st := s_nearest) l1 c1 k1).binds (ps := ["palette", "colour"]) fun _ _ _ _ _ _ us hl => match us, hl with | [_, _], _ => rfl, g_nearest := PySem.W.mg_of X G a1,
      f_counts_in := f2, d_counts_in := _, F_counts_in := fun_mk (st := s_counts_in) l2 c2 k2, b_counts_in := (fun_mk (st := s_counts_in) l2 c2 k2).binds (ps := ["picture"]) fun _ _ _ _ _ _ us hl => match us, hl with | [_], _ => rfl, g_counts_in := PySem.W.mg_of X G a2,
      f_numbers_by := f3, d_numbers_by := _, F_numbers_by := fun_mk (st := s_numbers_by) l3 c3 k3, b_numbers_by := (fun_mk (st := s_numbers_by) l3 c3 k3).binds (ps := ["picture", "palette"]) fun _ _ _ _ _ _ us hl => match us, hl with | [_, _], _ => rfl, g_numbers_by := PySem.W.mg_of X G a3,
      f_painted := f4, d_painted := _, F_painted := fun_mk (st := s_painted) l4 c4 k4, b_painted := (fun_mk (st := s_painted) l4 c4 k4).binds (ps := ["numbers", "palette"]) fun _ _ _ _ _ _ us hl => match us, hl with | [_, _], _ => rfl, g_painted := PySem.W.mg_of X G a4,
      f_lost_in := f5, d_lost_in := _, F_lost_in := fun_mk (st := s_lost_in) l5 c5 k5, b_lost_in := (fun_mk (st := s_lost_in) l5 c5 k5).binds (ps := ["picture", "other"]) fun _ _ _ _ _ _ us hl => match us, hl with | [_, _], _ => rfl, g_lost_in := PySem.W.mg_of X G a5,
      f_l_mix := f6, d_l_mix := _, F_l_mix := fun_mk (st := s_l_mix) l6 c6 k6, b_l_mix := (fun_mk (st := s_l_mix) l6 c6 k6).binds (ps := ["_law_cell", "_law_k"]) fun _ _ _ _ _ _ us hl => match us, hl with | [_, _], _ => rfl, g_l_mix := PySem.W.mg_of X G a6,
      f_l_left := f7, d_l_left := _, F_l_left := fun_mk (st := s_l_left) l7 c7 k7, b_l_left := (fun_mk (st := s_l_left) l7 c7 k7).binds (ps := ["_law_script", "_law_k"]) fun _ _ _ _ _ _ us hl => match us, hl with | [_, _], _ => rfl, g_l_left := PySem.W.mg_of X G a7,
      f_l_pick := f8, d_l_pick := _, F_l_pick := fun_mk (st := s_l_pick) l8 c8 k8, b_l_pick := (fun_mk (st := s_l_pick) l8 c8 k8).binds (ps := ["_law_left_here", "_law_many"]) fun _ _ _ _ _ _ us hl => match us, hl with | [_, _], _ => rfl, g_l_pick := PySem.W.mg_of X G a8,
      f_l_kind := f9, d_l_kind := _, F_l_kind := fun_mk (st := s_l_kind) l9 c9 k9, b_l_kind := (fun_mk (st := s_l_kind) l9 c9 k9).binds (ps := ["_law_left_here"]) fun _ _ _ _ _ _ us hl => match us, hl with | [_], _ => rfl, g_l_kind := PySem.W.mg_of X G a9,
      f_l_colour := f10, d_l_colour := _, F_l_colour := fun_mk (st := s_l_colour) l10 c10 k10, b_l_colour := (fun_mk (st := s_l_colour) l10 c10 k10).binds (ps := ["_law_left_here", "_law_kind_here"]) fun _ _ _ _ _ _ us hl => match us, hl with | [_, _], _ => rfl, g_l_colour := PySem.W.mg_of X G a10,
      f_l_palette := f11, d_l_palette := _, F_l_palette := fun_mk (st := s_l_palette) l11 c11 k11, b_l_palette := (fun_mk (st := s_l_palette) l11 c11 k11).binds (ps := ["_law_left_here", "_law_kind_here"]) fun _ _ _ _ _ _ us hl => match us, hl with | [_, _], _ => rfl, g_l_palette := PySem.W.mg_of X G a11,
      f_l_picture := f12, d_l_picture := _, F_l_picture := fun_mk (st := s_l_picture) l12 c12 k12, b_l_picture := (fun_mk (st := s_l_picture) l12 c12 k12).binds (ps := ["_law_left_here", "_law_kind_here"]) fun _ _ _ _ _ _ us hl => match us, hl with | [_, _], _ => rfl, g_l_picture := PySem.W.mg_of X G a12,
      f_l_apart := f13, d_l_apart := _, F_l_apart := fun_mk (st := s_l_apart) l13 c13 k13, b_l_apart := (fun_mk (st := s_l_apart) l13 c13 k13).binds (ps := ["_law_one", "_law_other"]) fun _ _ _ _ _ _ us hl => match us, hl with | [_, _], _ => rfl, g_l_apart := PySem.W.mg_of X G a13,
      f_l_squares := f14, d_l_squares := _, F_l_squares := fun_mk (st := s_l_squares) l14 c14 k14, b_l_squares := (fun_mk (st := s_l_squares) l14 c14 k14).binds (ps := ["_law_picture_here", "_law_other"]) fun _ _ _ _ _ _ us hl => match us, hl with | [_, _], _ => rfl, g_l_squares := PySem.W.mg_of X G a14,
      f_l_more_right := f15, d_l_more_right := _, F_l_more_right := fun_mk (st := s_l_more_right) l15 c15 k15, b_l_more_right := (fun_mk (st := s_l_more_right) l15 c15 k15).binds (ps := ["_law_picture_here", "_law_palette_here", "_law_numbers", "_law_colour_here"]) fun _ _ _ _ _ _ us hl => match us, hl with | [_, _, _, _], _ => rfl, g_l_more_right := PySem.W.mg_of X G a15,
      z_abs := PySem.W.mg_none_of X G z_abs,
      z_int := PySem.W.mg_none_of X G z_int,
      z_len := PySem.W.mg_none_of X G z_len,
      z_list := PySem.W.mg_none_of X G z_list,
      z_min := PySem.W.mg_none_of X G z_min,
      z_range := PySem.W.mg_none_of X G z_range,
      z_reversed := PySem.W.mg_none_of X G z_reversed,
      z_sorted := PySem.W.mg_none_of X G z_sorted,
      z_sum := PySem.W.mg_none_of X G z_sum,
      z_tuple := PySem.W.mg_none_of X G z_tuple,
      z_zip := PySem.W.mg_none_of X G z_zip } (fun_mk (st := s_law) l16 c16 k16) (by decide)⟩
end Z
open PySem PySem.W PyProof.Rows
set_option maxHeartbeats 0 in
theorem PySem.Challenge.cw_fewcolours_k32_told_by_more_and_again_holds : PySem.Challenge.rw_fewcolours_k32_told_by_more_and_again.Holds := by
  w_on; o_law; k_head; (case hw => w_witness2)
  k_fill
  refine L2.walk_of (l := PySem.Challenge.rw_fewcolours_k32_told_by_more_and_again) (n := 63) (k := 5) (x := "_law_script") (CX := fun _ => L2.CX0) (sp := fun w => Z.spLaw _) rfl (by decide) rfl ⟨rfl, by decide, by decide⟩ (fun w h Y => PySem.W.kIn_of Y) ?F (fun _ _ a ns hl _ hS => ⟨a, ns, rfl, hS, hl, fun _ => rfl⟩) (fun _ _ _ _ _ h => h)
  case F =>
    intro w mg fa h KX G hmg
    refine' Z.all_mk KX G hmg ?a0 ?l0 ?c0 ?k0 ?a1 ?l1 ?c1 ?k1 ?a2 ?l2 ?c2 ?k2 ?a3 ?l3 ?c3 ?k3 ?a4 ?l4 ?c4 ?k4 ?a5 ?l5 ?c5 ?k5 ?a6 ?l6 ?c6 ?k6 ?a7 ?l7 ?c7 ?k7 ?a8 ?l8 ?c8 ?k8 ?a9 ?l9 ?c9 ?k9 ?a10 ?l10 ?c10 ?k10 ?a11 ?l11 ?c11 ?k11 ?a12 ?l12 ?c12 ?k12 ?a13 ?l13 ?c13 ?k13 ?a14 ?l14 ?c14 ?k14 ?a15 ?l15 ?c15 ?k15 ?a16 ?l16 ?c16 ?k16 ?z_abs ?z_int ?z_len ?z_list ?z_min ?z_range ?z_reversed ?z_sorted ?z_sum ?z_tuple ?z_zip
    case a0 => k_is
    case l0 => k_is
    case c0 => k_is
    case k0 => k_is
    case a1 => k_is
    case l1 => k_is
    case c1 => k_is
    case k1 => k_is
    case a2 => k_is
    case l2 => k_is
    case c2 => k_is
    case k2 => k_is
    case a3 => k_is
    case l3 => k_is
    case c3 => k_is
    case k3 => k_is
    case a4 => k_is
    case l4 => k_is
    case c4 => k_is
    case k4 => k_is
    case a5 => k_is
    case l5 => k_is
    case c5 => k_is
    case k5 => k_is
    case a6 => k_is
    case l6 => k_is
    case c6 => k_is
    case k6 => k_is
    case a7 => k_is
    case l7 => k_is
    case c7 => k_is
    case k7 => k_is
    case a8 => k_is
    case l8 => k_is
    case c8 => k_is
    case k8 => k_is
    case a9 => k_is
    case l9 => k_is
    case c9 => k_is
    case k9 => k_is
    case a10 => k_is
    case l10 => k_is
    case c10 => k_is
    case k10 => k_is
    case a11 => k_is
    case l11 => k_is
    case c11 => k_is
    case k11 => k_is
    case a12 => k_is
    case l12 => k_is
    case c12 => k_is
    case k12 => k_is
    case a13 => k_is
    case l13 => k_is
    case c13 => k_is
    case k13 => k_is
    case a14 => k_is
    case l14 => k_is
    case c14 => k_is
    case k14 => k_is
    case a15 => k_is
    case l15 => k_is
    case c15 => k_is
    case k15 => k_is
    case a16 => k_is
    case l16 => k_is
    case c16 => k_is
    case k16 => k_is
    case z_abs => k_is
    case z_int => k_is
    case z_len => k_is
    case z_list => k_is
    case z_min => k_is
    case z_range => k_is
    case z_reversed => k_is
    case z_sorted => k_is
    case z_sum => k_is
    case z_tuple => k_is
    case z_zip => k_is

