import PyProof.Rows.All
import Wide.All
import OpenK.AllK
import Wide.FinOn
import HandS.ForMost
import HandS.Zip
import HandS.IsInst
import HandS.TupAny
import HandS.SortRule
import HandS.Style
import HandS.Walk
import HandS.Evl
import KE.DataMinMax
import HandS.Wide
import HandS.DictTup
import HandS.Small
import KE.SortData
import KE.GoesEnum
import KE.GoesMore
import HandS.Conv
import HandS.TryOnly
import HandS.More
import HandS.RaiseMore
import PyProof.CallStr
import PySem.Challenge.RW_fewcolours_k18_things_that_are_no_tables
set_option Elab.async false
set_option linter.all false
set_option maxRecDepth 100000
namespace Z
open PySem PySem.Spec PyProof.Rows L2
/-! ### heaps but for some addresses -/
def Dom (H H' : Hp) : Prop := ∀ a, H a ≠ none → H' a ≠ none
structure Go (B : List Addr) (H H' : Hp) : Prop where
  k : ∀ a o, a ∉ B → H a = some o → H' a = some o
  d : Dom H H'
def Bk (B : List Addr) (H : Hp) : Prop := ∀ a ∈ B, H a ≠ none
section
variable {B C : List Addr} {H H' H1 H2 : Hp} {p L : Addr} {o : HO}
theorem dom_new : Dom H (upd H p o) := fun a h => by
  by_cases e : a = p
  · subst e
    rw [upd_same]
    exact fun z => nomatch z
  · rw [upd_ne e]
    exact h
theorem dom_mut (d : Dom H H') : Dom H (upd H' p o) := fun a h => dom_new a (d a h)
theorem Go.refl : Go B H H := ⟨fun _ _ _ h => h, fun _ h => h⟩
theorem Go.trans (a : Go B H H1) (b : Go B H1 H2) : Go B H H2 := ⟨fun c o n h => b.k c o n (a.k c o n h), fun c h => b.d c (a.d c h)⟩
theorem same_dom (s : Same H H') : Dom H H' := fun a h => by
  cases q : H a with
  | none => exact absurd q h
  | some o => rw [s a o q]; exact fun z => nomatch z
theorem Go.of (s : Same H H') : Go B H H' := ⟨fun a o _ h => s a o h, same_dom s⟩
theorem Go.new (h : H p = none) : Go B H (upd H p o) := ⟨fun a u _ e => by
  rw [upd_ne (ne_of_none e h)]
  exact e, dom_new⟩
theorem Go.mut (g : Go B H H') (h : H p = none) : Go B H (upd H' p o) := ⟨fun a u n e => by
  rw [upd_ne (ne_of_none e h)]
  exact g.k a u n e, dom_mut g.d⟩
theorem Go.at (g : Go B H H') (h : p ∈ B) : Go B H (upd H' p o) := ⟨fun a u n e => by
  rw [upd_ne (show a ≠ p from fun z => n (by rw [z]; exact h))]
  exact g.k a u n e, dom_mut g.d⟩
theorem Go.w (g : Go C H H') (s : ∀ a ∈ C, a ∈ B) : Go B H H' := ⟨fun a o n h => g.k a o (fun q => n (s a q)) h, g.d⟩
theorem Go.w1 (g : Go [L] H H') (s : L ∈ B) : Go B H H' := g.w fun a h => by rw [List.mem_singleton.mp h]; exact s
theorem Go.free (g : Go B H H') (h : H' p = none) : H p = none := by
  cases q : H p with
  | none => rfl
  | some o => exact absurd h (g.d p (by rw [q]; exact fun z => nomatch z))
theorem Bk.go (b : Bk B H) (g : Go C H H') : Bk B H' := fun a h => g.d a (b a h)
theorem Bk.ne (b : Bk B H) (h : H p = none) : p ∉ B := fun q => b p q h
theorem Bk.cons (b : Bk B H) (h : H p = some o) : Bk (p :: B) H := fun a q => by
  rcases List.mem_cons.mp q with e | e
  · subst e
    rw [h]
    exact fun z => nomatch z
  · exact b a e
theorem Bk.up (b : Bk B H) : Bk B (upd H p o) := fun a h => dom_new a (b a h)
theorem sm_new (h : H p = none) : Same H (upd H p o) := fun b x e => by
  rw [upd_ne (ne_of_none e h)]
  exact e
theorem sm_mut (s : Same H H') (h : H p = none) : Same H (upd H' p o) := fun b x e => by
  rw [upd_ne (ne_of_none e h)]
  exact s b x e
/-- what was new behind H, and is in B, may change -/
theorem Go.sm (g : Go B H1 H2) (s : Same H H1) (n : ∀ a ∈ B, H a = none) : Same H H2 := fun a o h => g.k a o (fun q => by rw [n a q] at h; cases h) (s a o h)
theorem Go.cons (g : Go (p :: B) H1 H2) (s : Go B H H1) (h : H p = none) : Go B H H2 := ⟨fun a o n e => g.k a o (fun q => by
  rcases List.mem_cons.mp q with z | z
  · rw [z, h] at e
    cases e
  · exact n z) (s.k a o n e), fun a e => g.d a (s.d a e)⟩
end
/-! ### the list that is drawn from -/
def Lf (L : Addr) (H : Hp) (n : Nat) : Prop := ∃ a b c : Int, H L = some (.lst [.int a, .int b, .int c]) ∧ 0 ≤ a ∧ 0 ≤ c ∧ c ≤ (n : Int)
section
variable {L p : Addr} {H H' : Hp} {n m : Nat} {o : HO} {B : List Addr}
theorem Lf.mono (h : Lf L H n) (l : n ≤ m) : Lf L H m := by
  obtain ⟨a, b, c, e, h1, h2, h3⟩ := h
  exact ⟨a, b, c, e, h1, h2, by omega⟩
theorem Lf.same (h : Lf L H n) (s : Same H H') : Lf L H' n := by
  obtain ⟨a, b, c, e, h1, h2, h3⟩ := h
  exact ⟨a, b, c, s _ _ e, h1, h2, h3⟩
theorem Lf.go (h : Lf L H n) (g : Go B H H') (i : L ∉ B) : Lf L H' n := by
  obtain ⟨a, b, c, e, h1, h2, h3⟩ := h
  exact ⟨a, b, c, g.k _ _ i e, h1, h2, h3⟩
theorem Lf.ne (h : Lf L H n) (e : H p = none) : p ≠ L := fun q => by
  obtain ⟨a, b, c, e', _⟩ := h
  rw [q, e'] at e
  cases e
theorem Lf.up (h : Lf L H n) (e : p ≠ L) : Lf L (upd H p o) n := by
  obtain ⟨a, b, c, e', h1, h2, h3⟩ := h
  refine ⟨a, b, c, ?_, h1, h2, h3⟩
  rw [upd_ne (Ne.symm e)]
  exact e'
theorem Lf.new (h : Lf L H n) (e : H p = none) : Lf L (upd H p o) n := h.up (h.ne e)
theorem Lf.bk (h : Lf L H n) : Bk [L] H := fun a q => by
  obtain ⟨_, _, _, e, _⟩ := h
  rw [List.mem_singleton.mp q, e]
  exact fun z => nomatch z
end
/-! ### data apart from some addresses -/
mutual
inductive Dt (B : List Addr) (H : Hp) : V → PyData → Prop
  | non : Dt B H .non .none
  | bl (b : Bool) : Dt B H (.bl b) (.bool b)
  | int (i : Int) : Dt B H (.int i) (.int i)
  | str (x : Str) : Dt B H (.str x) (.str x)
  | lst {a : Addr} {xs : List V} {ds : List PyData} : a ∉ B → H a = some (.lst xs) → DtA B H xs ds → Dt B H (.ref a) (.list ds)
  | tup {a : Addr} {xs : List V} {ds : List PyData} : a ∉ B → H a = some (.tup xs) → DtA B H xs ds → Dt B H (.ref a) (.tuple ds)
inductive DtA (B : List Addr) (H : Hp) : List V → List PyData → Prop
  | nil : DtA B H [] []
  | cons {v : V} {vs : List V} {d : PyData} {ds : List PyData} : Dt B H v d → DtA B H vs ds → DtA B H (v :: vs) (d :: ds)
end
section
variable {B C : List Addr} {H H' : Hp} {p L : Addr}
mutual
/-- the general way from one to another -/
theorem Dt.to (f : ∀ a o, a ∉ B → H a = some o → a ∉ C ∧ H' a = some o) : ∀ (d : PyData) (v : V), Dt B H v d → Dt C H' v d
  | .none, _, h => by cases h; exact .non
  | .bool b, _, h => by cases h; exact .bl b
  | .int i, _, h => by cases h; exact .int i
  | .str x, _, h => by cases h; exact .str x
  | .list ds, _, h => by
    cases h with
    | lst n hs ha => exact .lst (f _ _ n hs).1 (f _ _ n hs).2 (DtA.to f ds _ ha)
  | .tuple ds, _, h => by
    cases h with
    | tup n hs ha => exact .tup (f _ _ n hs).1 (f _ _ n hs).2 (DtA.to f ds _ ha)
  | .dict _, _, h => by cases h
theorem DtA.to (f : ∀ a o, a ∉ B → H a = some o → a ∉ C ∧ H' a = some o) : ∀ (ds : List PyData) (vs : List V), DtA B H vs ds → DtA C H' vs ds
  | [], _, h => by cases h; exact .nil
  | d :: ds, _, h => by
    cases h with
    | cons h1 h2 => exact .cons (Dt.to f d _ h1) (DtA.to f ds _ h2)
end
mutual
theorem Dt.dp {K : PySem.W.Frag} : ∀ (d : PyData) (v : V), Dt B H v d → Dp K H v d
  | .none, _, h => by cases h; exact .non
  | .bool b, _, h => by cases h; exact .bl b
  | .int i, _, h => by cases h; exact .int i
  | .str x, _, h => by cases h; exact .str x
  | .list ds, _, h => by
    cases h with
    | lst n hs ha => exact .lst (SqL.of hs) (DtA.dp ds _ ha)
  | .tuple ds, _, h => by
    cases h with
    | tup n hs ha => exact .tup (SqT.of hs) (DtA.dp ds _ ha)
  | .dict _, _, h => by cases h
theorem DtA.dp {K : PySem.W.Frag} : ∀ (ds : List PyData) (vs : List V), DtA B H vs ds → DpAll K H vs ds
  | [], _, h => by cases h; exact .nil
  | d :: ds, _, h => by
    cases h with
    | cons h1 h2 => exact .cons (Dt.dp d _ h1) (DtA.dp ds _ h2)
end
variable {d : PyData} {v : V} {ds : List PyData} {vs ws : List V}
theorem Dt.g (h : Dt B H v d) (g : Go B H H') : Dt B H' v d := Dt.to (fun a o n e => ⟨n, g.k a o n e⟩) d v h
theorem DtA.g (h : DtA B H vs ds) (g : Go B H H') : DtA B H' vs ds := DtA.to (fun a o n e => ⟨n, g.k a o n e⟩) ds vs h
theorem Dt.s (h : Dt B H v d) (s : Same H H') : Dt B H' v d := h.g (Go.of s)
theorem DtA.s (h : DtA B H vs ds) (s : Same H H') : DtA B H' vs ds := h.g (Go.of s)
/-- a new address may change, too -/
theorem Dt.fr (h : Dt B H v d) (e : H p = none) : Dt (p :: B) H v d := Dt.to (fun a o n q => ⟨fun z => by
  rcases List.mem_cons.mp z with y | y
  · rw [y, e] at q
    cases q
  · exact n y, q⟩) d v h
theorem DtA.fr (h : DtA B H vs ds) (e : H p = none) : DtA (p :: B) H vs ds := DtA.to (fun a o n q => ⟨fun z => by
  rcases List.mem_cons.mp z with y | y
  · rw [y, e] at q
    cases q
  · exact n y, q⟩) ds vs h
theorem Dt.un (h : Dt (p :: B) H v d) : Dt B H v d := Dt.to (fun a o n q => ⟨fun z => n (List.mem_cons_of_mem _ z), q⟩) d v h
theorem DtA.un (h : DtA (p :: B) H vs ds) : DtA B H vs ds := DtA.to (fun a o n q => ⟨fun z => n (List.mem_cons_of_mem _ z), q⟩) ds vs h
theorem Dt.sub (h : Dt B H v d) (s : ∀ a ∈ C, a ∈ B) : Dt C H v d := Dt.to (fun a o n q => ⟨fun z => n (s a z), q⟩) d v h
theorem DtA.sub (h : DtA B H vs ds) (s : ∀ a ∈ C, a ∈ B) : DtA C H vs ds := DtA.to (fun a o n q => ⟨fun z => n (s a z), q⟩) ds vs h
theorem Dt.dP {K : PySem.W.Frag} (h : Dt B H v d) : Dp K H v d := Dt.dp d v h
theorem DtA.len {vs : List V} : ∀ {ds : List PyData}, DtA B H vs ds → vs.length = ds.length := by
  induction vs with
  | nil => intro ds h; cases h; rfl
  | cons v vs ih => intro ds h; cases h with | cons h1 h2 => rw [List.length_cons, List.length_cons, ih h2]
theorem DtA.get {vs : List V} : ∀ {ds : List PyData} {i : Nat} {d : PyData}, DtA B H vs ds → ds[i]? = some d → ∃ v, vs[i]? = some v ∧ Dt B H v d := by
  induction vs with
  | nil => intro ds i d h e; cases h; simp at e
  | cons v vs ih =>
    intro ds i d h e
    cases h with
    | cons h1 h2 =>
      cases i with
      | zero => cases e; exact ⟨v, rfl, h1⟩
      | succ i => exact ih (i := i) h2 (by simpa using e)
theorem DtA.getV {vs : List V} : ∀ {ds : List PyData} {i : Nat} {v : V}, DtA B H vs ds → vs[i]? = some v → ∃ d, ds[i]? = some d ∧ Dt B H v d := by
  induction vs with
  | nil => intro ds i d h e; simp at e
  | cons v vs ih =>
    intro ds i d h e
    cases h with
    | cons h1 h2 =>
      cases i with
      | zero => cases e; exact ⟨_, rfl, h1⟩
      | succ i => exact ih (i := i) h2 (by simpa using e)
theorem DtA.app {vs ws : List V} : ∀ {ds es : List PyData}, DtA B H vs ds → DtA B H ws es → DtA B H (vs ++ ws) (ds ++ es) := by
  induction vs with
  | nil => intro ds es h h2; cases h; exact h2
  | cons v vs ih =>
    intro ds es h h2
    cases h with
    | cons h1 h3 => exact .cons h1 (ih h3 h2)
theorem DtA.one (h : Dt B H v d) : DtA B H [v] [d] := .cons h .nil
theorem DtA.ints : ∀ ns : List Int, DtA B H (ns.map V.int) (ns.map PyData.int)
  | [] => .nil
  | n :: ns => .cons (.int n) (DtA.ints ns)
theorem DtA.intsV : ∀ {ns : List Int} {vs : List V}, DtA B H vs (ns.map PyData.int) → vs = ns.map V.int
  | [], _, h => by cases h; rfl
  | n :: ns, _, h => by
    cases h with
    | cons h1 h2 =>
      cases h1
      rw [DtA.intsV h2]
      rfl
theorem DtA.blsV : ∀ {ns : List Bool} {vs : List V}, DtA B H vs (ns.map PyData.bool) → vs = ns.map V.bl
  | [], _, h => by cases h; rfl
  | n :: ns, _, h => by
    cases h with
    | cons h1 h2 =>
      cases h1
      rw [DtA.blsV h2]
      rfl
/-- a colour; a list of ints; a palette -/
def eC (ns : List Int) : PyData := .tuple (ns.map .int)
def eI (ns : List Int) : PyData := .list (ns.map .int)
def eP (cs : List (List Int)) : PyData := .list (cs.map eC)
theorem Dt.col {v : V} {ns : List Int} (h : Dt B H v (eC ns)) : ∃ a, v = .ref a ∧ a ∉ B ∧ H a = some (.tup (ns.map V.int)) := by
  cases h with
  | tup n hs ha =>
    have e := DtA.intsV ha
    subst e
    exact ⟨_, rfl, n, hs⟩
theorem Dt.ofCol {a : Addr} {ns : List Int} (n : a ∉ B) (h : H a = some (.tup (ns.map V.int))) : Dt B H (.ref a) (eC ns) := .tup n h (DtA.ints ns)
theorem Dt.ofInts {a : Addr} {ns : List Int} (n : a ∉ B) (h : H a = some (.lst (ns.map V.int))) : Dt B H (.ref a) (eI ns) := .lst n h (DtA.ints ns)
theorem Dt.ints {v : V} {ns : List Int} (h : Dt B H v (eI ns)) : ∃ a, v = .ref a ∧ a ∉ B ∧ H a = some (.lst (ns.map V.int)) := by
  cases h with
  | lst n hs ha =>
    have e := DtA.intsV ha
    subst e
    exact ⟨_, rfl, n, hs⟩
theorem Dt.tupI {v : V} {ds : List PyData} (h : Dt B H v (.tuple ds)) : ∃ a vs, v = .ref a ∧ a ∉ B ∧ H a = some (.tup vs) ∧ DtA B H vs ds := by
  cases h with
  | tup n hs ha => exact ⟨_, _, rfl, n, hs, ha⟩
theorem Dt.lstI {v : V} {ds : List PyData} (h : Dt B H v (.list ds)) : ∃ a vs, v = .ref a ∧ a ∉ B ∧ H a = some (.lst vs) ∧ DtA B H vs ds := by
  cases h with
  | lst n hs ha => exact ⟨_, _, rfl, n, hs, ha⟩
theorem Dt.pal {v : V} {cs : List (List Int)} (h : Dt B H v (eP cs)) : ∃ a vs, v = .ref a ∧ a ∉ B ∧ H a = some (.lst vs) ∧ DtA B H vs (cs.map eC) := Dt.lstI h
theorem Dt.intI {v : V} {i : Int} (h : Dt B H v (.int i)) : v = .int i := by
  cases h
  rfl
end
/-! ### the rules that speak of the written part, with it named -/
def rLenS (K : PySem.W.Frag) : List V → Hp → VK → Prop := fun xs H Q => ∃ p ys, xs = [.ref p] ∧ (SqL K H p ys ∨ SqT K H p ys) ∧ Q (.int ys.length) H
def rListOf (K : PySem.W.Frag) : List V → Hp → VK → Prop := fun xs H Q => ∃ p ys, xs = [.ref p] ∧ (SqL K H p ys ∨ SqT K H p ys) ∧ ∀ l, H l = none → Q (.ref l) (upd H l (.lst ys))
def rTupOf (K : PySem.W.Frag) : List V → Hp → VK → Prop := fun xs H Q => ∃ p ys, xs = [.ref p] ∧ ((SqL K H p ys ∧ ∀ l, H l = none → Q (.ref l) (upd H l (.tup ys))) ∨ (SqT K H p ys ∧ Q (.ref p) H))
section
variable (K : PySem.W.Frag) {X : Cx}
theorem ix_listK (h : X.K = K := by rfl) : IxR X (rIxL K) := h ▸ ix_list
theorem ix_tupK (h : X.K = K := by rfl) : IxR X (rIxT K) := h ▸ ix_tup
theorem sl_listK (h : X.K = K := by rfl) : SlR X (rSlL K) := h ▸ sl_list
theorem sl_tupAK (h : X.K = K := by rfl) : SlR X (rSlA K) := h ▸ sl_tupA
theorem op_catAK (h : X.K = K := by rfl) : OpR X (binaryOp .Add) (rCatA K) := h ▸ op_catA
theorem op_eqDK (hu : X.A.units + 64 < cLine) (h : X.K = K := by rfl) : OpR X (compareOp .Eq) (rEqD K) := h ▸ op_eqD hu
theorem op_neDK (hu : X.A.units + 64 < cLine) (h : X.K = K := by rfl) : OpR X (compareOp .NotEq) (rNeD K) := h ▸ op_neD hu
theorem len_K (h : X.K = K := by rfl) : CallR X (.builtin "len") (rLenS K) := h ▸ call_len_seq
theorem list_K (h : X.K = K := by rfl) : CallR X (.type "list") (rListOf K) := h ▸ call_list_of
theorem tuple_K (h : X.K = K := by rfl) : CallR X (.type "tuple") (rTupOf K) := h ▸ call_tuple_of
theorem cr_sumK (hc : X.calm = true) (h : X.K = K := by rfl) : CallR X (.builtin "sum") (rSum K) := h ▸ cr_sum hc
theorem cr_maxK (hc : X.calm = true) (h : X.K = K := by rfl) : CallR X (.builtin "max") (rMax K) := h ▸ cr_max hc
theorem cr_minK (hc : X.calm = true) (h : X.K = K := by rfl) : CallR X (.builtin "min") (rMin K) := h ▸ cr_min hc
theorem cr_anyK (hc : X.calm = true) (h : X.K = K := by rfl) : CallR X (.builtin "any") (rAny K) := h ▸ cr_any hc
theorem cr_allK (hc : X.calm = true) (h : X.K = K := by rfl) : CallR X (.builtin "all") (rAll K) := h ▸ cr_all hc
theorem call_isiK1 (h : X.K = K := by rfl) : CallR X (.builtin "isinstance") (rIsi K) := h ▸ call_isi
theorem call_isiTK (h : X.K = K := by rfl) : CallR X (.builtin "isinstance") (rIsiT K) := h ▸ call_isiT
theorem cr_sortedK (h : X.K = K := by rfl) : CallR X (.builtin "sorted") (rSortedPO K) := h ▸ cr_sortedPO
theorem mt_indexK (h : X.K = K := by rfl) : MtR X "list.index" (rIndex K) := h ▸ mt_index
theorem pi_listK {tg l : Expr} {tl : TE} (hl : PE X l tl) (h : X.K = K := by rfl) : PI X tg l (iList K tl) := h ▸ pi_list hl
theorem pg_tupK {pos : Pos} {es : List Expr} {kk : Nat} {t : TGs} {n : Nat} (hc : X.calm = true) (h : PGs X es t) (hn : (assignEach es X.env).length = n := by rfl) (hst : (assignEach es X.env).findIdx? (·.1) = none := by rfl) (h2 : X.K = K := by rfl) : PG X (.Tuple es kk pos) (gTup K n t) :=
  h2 ▸ pg_tup hc h hn hst
theorem pi_tupK {tg l : Expr} {tl : TE} (hl : PE X l tl) (h : X.K = K := by rfl) : PI X tg l (iTup K tl) := h ▸ pi_tup hl
end
/-! ### shapes -/
mutual
def wide : PyData → Bool
  | .none | .bool _ | .int _ | .str _ => true
  | .list xs | .tuple xs => decide (xs.length ≤ 100000) && wideAll xs
  | .dict _ => false
def wideAll : List PyData → Bool
  | [] => true
  | x :: xs => wide x && wideAll xs
end
def Sh (d : PyData) (k : Nat) : Prop := d.canLay0 = true ∧ d.depth ≤ k ∧ wide d = true
theorem sh_all : ∀ {ds : List PyData} {k : Nat}, (∀ d ∈ ds, Sh d k) → PyData.canLayAll0 ds = true ∧ PyData.depthAll ds ≤ k ∧ wideAll ds = true
  | [], _, _ => ⟨rfl, Nat.zero_le _, by rw [wideAll]⟩
  | d :: ds, k, h => by
    obtain ⟨h1, h2, h4⟩ := sh_all (ds := ds) (k := k) fun x hx => h x (List.mem_cons_of_mem _ hx)
    have h3 := h d (List.mem_cons_self ..)
    refine ⟨?_, ?_, ?_⟩
    · rw [PyData.canLayAll0, h1, h3.1]; rfl
    · rw [PyData.depthAll]
      exact Nat.max_le.mpr ⟨h3.2.1, h2⟩
    · rw [wideAll, h4, h3.2.2]; rfl
theorem sh_mem : ∀ {ds : List PyData} {k : Nat}, PyData.canLayAll0 ds = true → PyData.depthAll ds ≤ k → wideAll ds = true → ∀ d ∈ ds, Sh d k
  | [], _, _, _, _, _, h => nomatch h
  | d :: ds, k, h1, h2, h3, x, hx => by
    rw [PyData.canLayAll0] at h1
    rw [PyData.depthAll] at h2
    rw [wideAll] at h3
    have a := Bool.and_eq_true_iff.mp h1
    have b := Nat.max_le.mp h2
    have c := Bool.and_eq_true_iff.mp h3
    rcases List.mem_cons.mp hx with e | e
    · rw [e]; exact ⟨a.1, b.1, c.1⟩
    · exact sh_mem a.2 b.2 c.2 x e
theorem sh_tup {ds : List PyData} {k : Nat} (l : ds.length ≤ 100000) (h : ∀ d ∈ ds, Sh d k) : Sh (.tuple ds) (k + 1) := by
  obtain ⟨h1, h2, h3⟩ := sh_all h
  exact ⟨by rw [PyData.canLay0]; exact h1, by rw [PyData.depth]; omega, by rw [wide, h3, decide_eq_true l]; rfl⟩
theorem sh_lst {ds : List PyData} {k : Nat} (l : ds.length ≤ 100000) (h : ∀ d ∈ ds, Sh d k) : Sh (.list ds) (k + 1) := by
  obtain ⟨h1, h2, h3⟩ := sh_all h
  exact ⟨by rw [PyData.canLay0]; exact h1, by rw [PyData.depth]; omega, by rw [wide, h3, decide_eq_true l]; rfl⟩
theorem sh_int (i : Int) (k : Nat) : Sh (.int i) k := ⟨rfl, by rw [PyData.depth]; omega, by rw [wide]⟩
theorem sh_bool (i : Bool) (k : Nat) : Sh (.bool i) k := ⟨rfl, by rw [PyData.depth]; omega, by rw [wide]⟩
theorem sh_none (k : Nat) : Sh .none k := ⟨rfl, by rw [PyData.depth]; omega, by rw [wide]⟩
theorem sh_eC {ns : List Int} (l : ns.length ≤ 100000) : Sh (eC ns) 1 := sh_tup (by simpa using l) fun d hd => by
  obtain ⟨n, _, rfl⟩ := List.mem_map.mp hd
  exact sh_int n 0
theorem sh_eI {ns : List Int} (l : ns.length ≤ 100000) : Sh (eI ns) 1 := sh_lst (by simpa using l) fun d hd => by
  obtain ⟨n, _, rfl⟩ := List.mem_map.mp hd
  exact sh_int n 0
theorem sh_eP {cs : List (List Int)} (l : cs.length ≤ 100000) (h : ∀ c ∈ cs, c.length ≤ 100000) : Sh (eP cs) 2 := sh_lst (by simpa using l) fun d hd => by
  obtain ⟨n, m, rfl⟩ := List.mem_map.mp hd
  exact sh_eC (h n m)
theorem Sh.mono {d : PyData} {j k : Nat} (h : Sh d j) (l : j ≤ k) : Sh d k := ⟨h.1, Nat.le_trans h.2.1 l, h.2.2⟩
theorem Sh.sh {d : PyData} {k : Nat} (h : Sh d k) (l : k ≤ 64) : SeqAt.shaped d = true := by
  unfold SeqAt.shaped
  rw [h.1, decide_eq_true (Nat.le_trans h.2.1 l)]
  rfl
theorem Sh.tupI {ds : List PyData} {k : Nat} (h : Sh (.tuple ds) k) : ∃ j, k = j + 1 ∧ (∀ d ∈ ds, Sh d j) ∧ ds.length ≤ 100000 := by
  obtain ⟨h1, h2, h3⟩ := h
  rw [PyData.canLay0] at h1
  rw [PyData.depth] at h2
  rw [wide] at h3
  have c := Bool.and_eq_true_iff.mp h3
  exact ⟨k - 1, by omega, sh_mem h1 (by omega) c.2, of_decide_eq_true c.1⟩
theorem Sh.lstI {ds : List PyData} {k : Nat} (h : Sh (.list ds) k) : ∃ j, k = j + 1 ∧ (∀ d ∈ ds, Sh d j) ∧ ds.length ≤ 100000 := by
  obtain ⟨h1, h2, h3⟩ := h
  rw [PyData.canLay0] at h1
  rw [PyData.depth] at h2
  rw [wide] at h3
  have c := Bool.and_eq_true_iff.mp h3
  exact ⟨k - 1, by omega, sh_mem h1 (by omega) c.2, of_decide_eq_true c.1⟩
/-! ### isinstance -/
def tyn : PyData → String
  | .none => "NoneType" | .bool _ => "bool" | .int _ => "int" | .str _ => "str" | .list _ => "list" | .tuple _ => "tuple" | .dict _ => "dict"
theorem Dt.ty {K : PySem.W.Frag} {B : List Addr} {H : Hp} {v : V} {d : PyData} (h : Dt B H v d) : TyX K H v (.type (tyn d)) := by
  cases h with
  | non => exact .base .non
  | bl b => exact .base (.bl b)
  | int i => exact .base (.int i)
  | str x => exact .base (.str x)
  | lst n hs ha => exact .base (.lst hs)
  | tup n hs ha => exact .base (.tup hs)
theorem r_isi {K : PySem.W.Frag} {H : Hp} {Q : VK} {x : V} {t n : String} {b : Bool} (h : TyX K H x (.type t)) (e : kitB t n = some b) (q : Q (.bl b) H) : rIsi K [x, .ty n] H Q := ⟨x, .ty n, _, _, b, rfl, .ty n, h, kit_ty e, q⟩
theorem iteD {c A B : Prop} [Decidable c] (hc : c) (h : A) : if decide c = true then A else B := by
  rw [if_pos (decide_eq_true hc)]
  exact h
theorem iteE {A B : Prop} {c : Bool} (hc : c = true) (h : A) : if c = true then A else B := by
  rw [if_pos hc]
  exact h
theorem iteN {A B : Prop} {c : Bool} (hc : c = false) (h : B) : if c = true then A else B := by
  rw [hc, if_neg Bool.false_ne_true]
  exact h
/-! ### comprehensions -/
theorem lc_yes {te : TE} {σ : L2.St} {H : Hp} {Qy : VK} {N : Hp → Prop} (h : te σ H Qy) : tYes σ H (fun b H3 => if b = true then te σ H3 Qy else N H3) := by
  show if true = true then te σ H Qy else N H
  rw [if_pos rfl]
  exact h
theorem walk_zipT {K : PySem.W.Frag} {a b : Addr} {xs ys : List V} {n : Nat} (hn : n = min xs.length ys.length) : Walk (RZ.ItzT K a b) n (fun H => SqT K H a xs ∧ SqT K H b ys) (YPair (fun i => xs[i]?) (fun i => ys[i]?)) := by
  subst hn
  refine ⟨fun i _ hi q => ?_, fun _ q => ⟨xs, ys, q.1, q.2, by omega⟩, fun i H v H' _ q y => ?_⟩
  · have h1 : i < xs.length := by omega
    have h2 : i < ys.length := by omega
    exact ⟨xs, ys, xs[i], ys[i], q.1, q.2, by simp [h1], by simp [h2]⟩
  · obtain ⟨T, x, z, h1, h2, h3, h4, h5⟩ := y
    exact ⟨T, x, z, h1, h2, h3, h4 xs q.1, h5 ys q.2⟩
theorem sz {n : Nat} (h : n ≤ 100000) : n < sizeLine := Nat.lt_of_le_of_lt h (by decide)
/-- a comprehension that leaves all as it was: what it makes, item by item -/
theorem lc_pure {J : It} {n : Nat} {G : Hp → Prop} {Y : Nat → Hp → V → Hp → Prop} (w : Walk J n G Y) {g : TG} {tt : TT} {te : TE} {vs : List Nat} {σ : L2.St} {H1 : Hp} {D : Addr} {Qd : Hp → Prop} {B : List Addr}
    (hD : H1 D = none) (hB : Bk B H1) (hG : ∀ H', Same H1 H' → G H') (hn : n ≤ 100000) (e : Nat → Option PyData)
    (hs : ∀ (i : Nat) (x : V) (H' H'' : Hp) (Ny : V → Hp → Prop) (Nn : Hp → Prop), i < n → Same H1 H' → Bk (D :: B) H' → Y i H' x H'' → (∀ y H4 d, e i = some d → Same H' H4 → Dt (D :: B) H4 y d → Ny y H4) → (∀ H3, e i = none → Same H' H3 → Nn H3) →
      g x (wipe σ vs) H'' fun σ2 H2 => wipe σ2 vs = wipe σ vs ∧ tt σ2 H2 fun b H3 => if b = true then te σ2 H3 Ny else Nn H3)
    (hd : ∀ (H' : Hp) (ws : List V), Same H1 H' → H' D = some (.lst ws) → DtA (D :: B) H' ws ((List.range n).filterMap e) → Qd H') :
    ∃ W : Nat → Nat → Hp → Prop, (∃ m, W 0 m (upd H1 D (.lst []))) ∧ ∀ i m H, W i m H →
      (J.stop i H ∧ Qd H) ∨ (J.go i H ∧ ∃ Nx : Hp → Prop, (∀ H', Nx H' → ∃ m', m' < m ∧ W (i + 1) m' H') ∧ ∀ x H', J.yld i H x H' → g x (wipe σ vs) H' fun σ2 H2 => wipe σ2 vs = wipe σ vs ∧ tt σ2 H2 fun b H3 =>
        if b = true then te σ2 H3 fun y H4 => ∃ acc, H4 D = some (.lst acc) ∧ acc.length < sizeLine ∧ Nx (upd H4 D (.lst (acc ++ [y]))) else Nx H3) := by
  refine lc_it w (fun i H' => Same H1 H' ∧ ∃ ws, H' D = some (.lst ws) ∧ DtA (D :: B) H' ws ((List.range i).filterMap e) ∧ ws.length ≤ i) ⟨sm_new hD, [], upd_same, .nil, Nat.le_refl _⟩ (fun i H' _ h => hG H' h.1) (fun i x H' H'' hi h y => ?_) (fun H' h => ?_)
  · obtain ⟨s1, ws, eD, hA, hl⟩ := h
    have hb : Bk (D :: B) H' := (hB.go (Go.of (B := B) s1)).cons eD
    refine hs i x H' H'' _ _ hi s1 hb y (fun y H4 d ed s4 hy => ?_) (fun H3 ed s3 => ?_)
    · refine ⟨ws, s4 _ _ eD, sz (by omega), sm_mut (s1.trans s4) hD, ws ++ [y], upd_same, ?_, by simp; omega⟩
      rw [List.range_succ, List.filterMap_append]
      have g4 : Go (D :: B) H4 (upd H4 D (.lst (ws ++ [y]))) := Go.refl.at (List.mem_cons_self ..)
      refine DtA.app ((hA.s s4).g g4) ?_
      simp only [List.filterMap_cons, List.filterMap_nil, ed]
      exact .one (hy.g g4)
    · refine ⟨s1.trans s3, ws, s3 _ _ eD, ?_, by omega⟩
      rw [List.range_succ, List.filterMap_append]
      simp only [List.filterMap_cons, List.filterMap_nil, ed, List.append_nil]
      exact hA.s s3
  · obtain ⟨s1, ws, eD, hA, hl⟩ := h
    exact hd H' ws s1 eD hA
theorem fm_take {α : Type} (ys : List α) : ∀ n, (List.range n).filterMap (fun i => ys[i]?) = ys.take n
  | 0 => by simp
  | n + 1 => by
    rw [List.range_succ, List.filterMap_append, fm_take ys n, List.take_add_one]
    cases h : ys[n]? <;> simp [h]
theorem fm_all {α : Type} {ys : List α} {n : Nat} (h : ys.length = n) : (List.range n).filterMap (fun i => ys[i]?) = ys := by
  rw [fm_take, ← h, List.take_length]
theorem at0 {α : Type} {xs : List α} {i : Int} {v : α} (h : 0 ≤ i) (e : xs[i.toNat]? = some v) : atI xs i = some v := by
  have := atI_nat e
  rw [Int.toNat_of_nonneg h] at this
  exact this
theorem bit_ok (b : Bool) : (-(2 ^ 64) : Int) < (if b = true then 1 else 0) ∧ (if b = true then 1 else 0 : Int) < 2 ^ 64 := by cases b <;> decide
theorem md {j : Int} (h : 0 < j) : 0 < j := h
theorem at_in {xs : List V} {r : Int} (h0 : 0 ≤ r) (h1 : r < xs.length) : ∃ v, v ∈ xs ∧ atI xs r = some v := by
  have h : r.toNat < xs.length := by omega
  exact ⟨xs[r.toNat], List.getElem_mem h, at0 h0 (List.getElem?_eq_getElem h)⟩
theorem at_int {ns : List Int} {r : Int} (h0 : 0 ≤ r) (h1 : r < ns.length) : ∃ z, z ∈ ns ∧ atI (ns.map V.int) r = some (.int z) := by
  have h : r.toNat < ns.length := by omega
  exact ⟨ns[r.toNat], List.getElem_mem h, at0 h0 (by rw [List.getElem?_map, List.getElem?_eq_getElem h]; rfl)⟩
theorem at2 (x y : V) (b : Bool) : atI [x, y] (if b = true then 1 else 0) = some (if b = true then y else x) := by cases b <;> rfl
/-- numbers within bounds -/
def cIn (lo hi : Int) (ns : List Int) : Prop := ∀ x ∈ ns, lo ≤ x ∧ x ≤ hi
theorem cIn.app {lo hi x : Int} {ns : List Int} (h : cIn lo hi ns) (h1 : lo ≤ x) (h2 : x ≤ hi) : cIn lo hi (ns ++ [x]) := fun y hy => by
  rcases List.mem_append.mp hy with q | q
  · exact h y q
  · rw [List.mem_singleton.mp q]
    exact ⟨h1, h2⟩
theorem cIn.nil {lo hi : Int} : cIn lo hi [] := fun _ h => nomatch h
theorem cIn.mono {lo hi lo' hi' : Int} {ns : List Int} (h : cIn lo hi ns) (h1 : lo' ≤ lo) (h2 : hi ≤ hi') : cIn lo' hi' ns := fun x hx => by
  have := h x hx
  omega
/-- a comprehension of drawn numbers -/
theorem lc_ints {J : It} {n : Nat} {G : Hp → Prop} {Y : Nat → Hp → V → Hp → Prop} (w : Walk J n G Y) {g : TG} {tt : TT} {te : TE} {vs : List Nat} {σ : L2.St} {H1 : Hp} {D L : Addr} {Qd : Hp → Prop} (N u : Nat) (lo hi : Int)
    (hD : H1 D = none) (hL : Lf L H1 N) (hG : ∀ H', Go [L] H1 H' → G H') (hn : n ≤ 100000)
    (hs : ∀ (i : Nat) (x : V) (H' H'' : Hp) (Ny : V → Hp → Prop) (Nn : Hp → Prop), i < n → Go [L] H1 H' → Lf L H' (N + u * i) → Y i H' x H'' → (∀ (z : Int) H4, Go [L] H' H4 → Lf L H4 (N + u * i + u) → lo ≤ z → z ≤ hi → Ny (.int z) H4) →
      g x (wipe σ vs) H'' fun σ2 H2 => wipe σ2 vs = wipe σ vs ∧ tt σ2 H2 fun b H3 => if b = true then te σ2 H3 Ny else Nn H3)
    (hd : ∀ (H' : Hp) (ns : List Int), Go [L] H1 H' → Lf L H' (N + u * n) → H' D = some (.lst (ns.map V.int)) → ns.length = n → cIn lo hi ns → Qd H') :
    ∃ W : Nat → Nat → Hp → Prop, (∃ m, W 0 m (upd H1 D (.lst []))) ∧ ∀ i m H, W i m H →
      (J.stop i H ∧ Qd H) ∨ (J.go i H ∧ ∃ Nx : Hp → Prop, (∀ H', Nx H' → ∃ m', m' < m ∧ W (i + 1) m' H') ∧ ∀ x H', J.yld i H x H' → g x (wipe σ vs) H' fun σ2 H2 => wipe σ2 vs = wipe σ vs ∧ tt σ2 H2 fun b H3 =>
        if b = true then te σ2 H3 fun y H4 => ∃ acc, H4 D = some (.lst acc) ∧ acc.length < sizeLine ∧ Nx (upd H4 D (.lst (acc ++ [y]))) else Nx H3) := by
  have nD : D ∉ [L] := hL.bk.ne hD
  refine lc_it w (fun i H' => Go [L] H1 H' ∧ Lf L H' (N + u * i) ∧ ∃ ns : List Int, H' D = some (.lst (ns.map V.int)) ∧ ns.length = i ∧ cIn lo hi ns) ⟨Go.new hD, hL.new hD, [], upd_same, rfl, cIn.nil⟩ (fun i H' _ h => hG H' h.1) (fun i x H' H'' hi h y => ?_) (fun H' h => ?_)
  · obtain ⟨g1, l1, ns, eD, en, cn⟩ := h
    refine hs i x H' H'' _ _ hi g1 l1 y (fun z H4 g4 l4 z0 z1 => ?_)
    refine ⟨ns.map V.int, g4.k D _ nD eD, sz (by rw [List.length_map]; omega), (g1.trans g4).mut hD, (l4.up (hL.ne hD)).mono (by rw [Nat.mul_succ]; omega), ns ++ [z], ?_, by simp; omega, cn.app z0 z1⟩
    rw [upd_same, List.map_append]
    rfl
  · obtain ⟨g1, l1, ns, eD, en, cn⟩ := h
    exact hd H' ns g1 l1 eD en cn
theorem mat {a : List Int} {i : Nat} {x : V} (h : i < a.length) (e : (a.map V.int)[i]? = some x) : x = .int a[i] := by
  rw [List.getElem?_map, List.getElem?_eq_getElem h] at e
  exact (Option.some.inj e).symm
end Z

set_option Elab.async false
set_option linter.all false
set_option maxRecDepth 100000
namespace Z
open PySem PySem.Spec PyProof.Rows L2
open PySem.W (dataLt minD alike alikeAll dataLt_tuple dataLt_all_yes dataLt_all_no dataLt_int min_list_data readsAll_at reads_keeps AlikeAll)
/-! ### the least of pairs -/
def enc (p : Int × Int) : PyData := eC [p.1, p.2]
theorem enc_inj {p q : Int × Int} (h : enc p = enc q) : p = q := by
  have h1 : [PyData.int p.1, PyData.int p.2] = [PyData.int q.1, PyData.int q.2] := by
    unfold enc eC at h
    exact PyData.tuple.inj h
  have h2 := (List.cons.inj h1)
  have h3 := (List.cons.inj h2.2)
  exact Prod.ext (PyData.int.inj h2.1) (PyData.int.inj h3.1)
theorem lt_enc (p q : Int × Int) : dataLt (enc p) (enc q) = SrtO.lexB p q := by
  unfold enc eC
  rw [dataLt_tuple]
  simp only [List.map_cons, List.map_nil]
  unfold SrtO.lexB
  by_cases h : p.1 = q.1
  · rw [if_pos h, dataLt_all_yes (by rfl) (by simp [PyData.eqv, h])]
    by_cases h2 : p.2 = q.2
    · rw [dataLt_all_yes (by rfl) (by simp [PyData.eqv, h2]), decide_eq_false (by omega)]
      rfl
    · rw [dataLt_all_no (by rfl) (by simp [PyData.eqv, h2]), dataLt_int]
  · rw [if_neg h, dataLt_all_no (by rfl) (by simp [PyData.eqv, h]), dataLt_int]
def minP (p : Int × Int) (ps : List (Int × Int)) : Int × Int := ps.foldl (fun a y => if SrtO.lexB y a then y else a) p
theorem minD_enc (p : Int × Int) (ps : List (Int × Int)) : minD (enc p) (ps.map enc) = enc (minP p ps) := by
  unfold minD minP
  induction ps generalizing p with
  | nil => rfl
  | cons x r ih =>
    rw [List.map_cons, List.foldl_cons, List.foldl_cons, lt_enc]
    by_cases h : SrtO.lexB x p = true
    · rw [if_pos h, if_pos h]; exact ih x
    · rw [if_neg h, if_neg h]; exact ih p
theorem minP_le (p : Int × Int) (ps : List (Int × Int)) : ∀ q ∈ p :: ps, SrtO.lexB q (minP p ps) = false := by
  unfold minP
  induction ps generalizing p with
  | nil =>
    intro q hq
    rw [List.mem_singleton.mp hq]
    exact SrtO.lexB_no.mpr (by simp only [List.foldl_nil]; omega)
  | cons x r ih =>
    intro q hq
    rw [List.foldl_cons]
    by_cases h : SrtO.lexB x p = true
    · rw [if_pos h]
      rcases List.mem_cons.mp hq with e | e
      · have i1 := SrtO.lexB_no.mp (ih x x (List.mem_cons_self ..))
        have i2 := SrtO.lexB_iff.mp h
        rw [e]
        exact SrtO.lexB_no.mpr (by omega)
      · exact ih x q e
    · rw [if_neg h]
      rcases List.mem_cons.mp hq with e | e
      · exact ih p q (by rw [e]; exact List.mem_cons_self ..)
      · rcases List.mem_cons.mp e with e | e
        · have i1 := SrtO.lexB_no.mp (ih p p (List.mem_cons_self ..))
          have i2 := SrtO.lexB_no.mp (Bool.eq_false_iff.mpr h)
          rw [e]
          exact SrtO.lexB_no.mpr (by omega)
        · exact ih p q (List.mem_cons_of_mem _ e)
theorem alike_enc (p q : Int × Int) : alike (enc p) (enc q) = true := by
  unfold enc eC
  simp [alike, alikeAll]
theorem dep_enc : ∀ ps : List (Int × Int), PyData.depthAll (ps.map enc) ≤ 1
  | [] => Nat.zero_le _
  | p :: ps => by
    rw [List.map_cons, PyData.depthAll]
    exact Nat.max_le.mpr ⟨(sh_eC (ns := [p.1, p.2]) (by simp)).2.1, dep_enc ps⟩
/-- min(xs), xs a list of pairs of ints: one of the least -/
def rMinP (K : PySem.W.Frag) : List V → Hp → VK → Prop := fun vs H Q => ∃ (a : Addr) (xs : List V) (p : Int × Int) (ps : List (Int × Int)), vs = [V.ref a] ∧ SqL K H a xs ∧ DpAll K H xs ((p :: ps).map enc) ∧
  ∀ (i : Nat) (x : V), xs[i]? = some x → (p :: ps)[i]? = some (minP p ps) → Q x H
theorem cr_minP (K : PySem.W.Frag) {X : Cx} (hc : X.calm = true) (hu : X.A.units + 64 < cLine) (hK : X.K = K := by rfl) : CallR X (.builtin "min") (rMinP K) := by
  subst hK
  intro pins s σ H vs us Q I r h
  obtain ⟨a, xs, p, ps, rfl, hs, hd, q⟩ := h
  obtain ⟨its, rv, hl, hz⟩ := I.list hs
  obtain ⟨u, rfl, ru⟩ := vals1 r
  obtain rfl : u = Value.ref a := ru
  obtain ⟨as, hr⟩ := Dp.readsAll I _ xs its hd rv
  rw [List.map_cons] at hr
  have hdep := dep_enc (p :: ps)
  rw [List.map_cons] at hdep
  refine min_list_data (x := enc p) (xs := ps.map enc) (I.ok.hd hc) hl.isList (by simpa using hr) ⟨fun x hx y hy => ?_, fun x hx => ?_⟩ (by omega) fun i v h' tk bs hv rd hk => ?_
  · rw [← List.map_cons] at hx hy
    obtain ⟨x, _, rfl⟩ := List.mem_map.mp hx
    obtain ⟨y, _, rfl⟩ := List.mem_map.mp hy
    exact alike_enc x y
  · rw [← List.map_cons] at hx
    obtain ⟨x, _, rfl⟩ := List.mem_map.mp hx
    intro z
    unfold enc eC at z
    cases z
  · have hv2 : its[i]? = some v := by simpa using hv
    have hi : i < its.length := (List.getElem?_eq_some_iff.mp hv2).1
    have hi2 : i < xs.length := by rw [rv.length]; exact hi
    obtain ⟨w, hw, rw1⟩ := rv.get (List.getElem?_eq_getElem hi2)
    have ew : w = v := Option.some.inj (hw.symm.trans hv2)
    subst ew
    obtain ⟨cs, r1, l1, m1, _⟩ := readsAll_at hr i w hv2
    rw [← List.map_cons] at l1 m1 r1
    rw [List.length_map] at l1
    have eg : ((p :: ps).map enc).getD i .none = enc (p :: ps)[i] := by
      rw [List.getD_eq_getElem?_getD, List.getElem?_map, List.getElem?_eq_getElem l1]
      rfl
    rw [eg] at r1
    rw [minD_enc] at rd
    have ee := SeqAt.Reads.unique _ _ _ _ _ (sh_eC (ns := [((p :: ps)[i]).1, ((p :: ps)[i]).2]) (by simp)).1 (reads_keeps hk r1) rd
    have ep : (p :: ps)[i] = minP p ps := enc_inj ee
    exact ⟨xs[i], H, I.kept (t' := tk) hk, rw1, q i _ (List.getElem?_eq_getElem hi2) (by rw [List.getElem?_eq_getElem l1, ep])⟩
theorem DtA.rev {B : List Addr} {H : Hp} : ∀ {vs : List V} {ds : List PyData}, DtA B H vs ds → DtA B H vs.reverse ds.reverse
  | [], _, h => by
    cases h
    exact .nil
  | v :: vs, _, h => by
    cases h with
    | cons h1 h2 =>
      rw [List.reverse_cons, List.reverse_cons]
      exact (DtA.rev h2).app (.one h1)
theorem DtA.dP {K : PySem.W.Frag} {B : List Addr} {H : Hp} {vs : List V} {ds : List PyData} (h : DtA B H vs ds) : DpAll K H vs ds := DtA.dp ds vs h
/-- a comprehension of drawn data -/
theorem lc_dtsB {J : It} {n : Nat} {G : Hp → Prop} {Y : Nat → Hp → V → Hp → Prop} (w : Walk J n G Y) {g : TG} {tt : TT} {te : TE} {vs : List Nat} {σ : L2.St} {H1 : Hp} {D L : Addr} {B : List Addr} {Qd : Hp → Prop} (N u : Nat) (Pd : PyData → Prop)
    (hD : H1 D = none) (hL : Lf L H1 N) (LB : L ∈ B) (hB : Bk B H1) (hG : ∀ H', Go [L] H1 H' → G H') (hn : n ≤ 100000)
    (hs : ∀ (i : Nat) (x : V) (H' H'' : Hp) (Ny : V → Hp → Prop) (Nn : Hp → Prop), i < n → Go [L] H1 H' → Lf L H' (N + u * i) → Bk (D :: B) H' → Y i H' x H'' → (∀ (v : V) (d : PyData) H4, Go [L] H' H4 → Lf L H4 (N + u * i + u) → Dt (D :: B) H4 v d → Pd d → Ny v H4) →
      g x (wipe σ vs) H'' fun σ2 H2 => wipe σ2 vs = wipe σ vs ∧ tt σ2 H2 fun b H3 => if b = true then te σ2 H3 Ny else Nn H3)
    (hd : ∀ (H' : Hp) (ws : List V) (ds : List PyData), Go [L] H1 H' → Lf L H' (N + u * n) → H' D = some (.lst ws) → DtA (D :: B) H' ws ds → ds.length = n → (∀ d ∈ ds, Pd d) → Qd H') :
    ∃ W : Nat → Nat → Hp → Prop, (∃ m, W 0 m (upd H1 D (.lst []))) ∧ ∀ i m H, W i m H →
      (J.stop i H ∧ Qd H) ∨ (J.go i H ∧ ∃ Nx : Hp → Prop, (∀ H', Nx H' → ∃ m', m' < m ∧ W (i + 1) m' H') ∧ ∀ x H', J.yld i H x H' → g x (wipe σ vs) H' fun σ2 H2 => wipe σ2 vs = wipe σ vs ∧ tt σ2 H2 fun b H3 =>
        if b = true then te σ2 H3 fun y H4 => ∃ acc, H4 D = some (.lst acc) ∧ acc.length < sizeLine ∧ Nx (upd H4 D (.lst (acc ++ [y]))) else Nx H3) := by
  have nD : D ∉ [L] := hL.bk.ne hD
  refine lc_it w (fun i H' => Go [L] H1 H' ∧ Lf L H' (N + u * i) ∧ ∃ ws ds, H' D = some (.lst ws) ∧ DtA (D :: B) H' ws ds ∧ ds.length = i ∧ ∀ d ∈ ds, Pd d) ⟨Go.new hD, hL.new hD, [], [], upd_same, .nil, rfl, fun _ h => (nomatch h)⟩ (fun i H' _ h => hG H' h.1) (fun i x H' H'' hi h y => ?_) (fun H' h => ?_)
  · obtain ⟨g1, l1, ws, ds, eD, hA, en, hp⟩ := h
    refine hs i x H' H'' _ _ hi g1 l1 ((hB.go g1).cons eD) y (fun z d H4 g4 l4 dz pd => ?_)
    have gm : Go (D :: B) H4 (upd H4 D (.lst (ws ++ [z]))) := Go.refl.at (List.mem_cons_self ..)
    have lw := hA.len
    refine ⟨ws, g4.k D _ nD eD, sz (by omega), (g1.trans g4).mut hD, (l4.up (hL.ne hD)).mono (by rw [Nat.mul_succ]; omega), ws ++ [z], ds ++ [d], upd_same, ((hA.g (g4.w1 (List.mem_cons_of_mem _ LB))).g gm).app (.one (dz.g gm)), by simp; omega, fun e he => ?_⟩
    rcases List.mem_append.mp he with he | he
    · exact hp e he
    · rw [List.mem_singleton.mp he]
      exact pd
  · obtain ⟨g1, l1, ws, ds, eD, hA, en, hp⟩ := h
    exact hd H' ws ds g1 l1 eD hA en hp
/-- a part of a list -/
def cutL {α : Type} (xs : List α) (lo hi : Option Int) : List α := (xs.drop (HT.sIx xs.length 0 lo)).take (HT.sIx xs.length xs.length hi - HT.sIx xs.length 0 lo)
theorem cutL_sub {α : Type} {xs : List α} {lo hi : Option Int} {x : α} (h : x ∈ cutL xs lo hi) : x ∈ xs := List.mem_of_mem_drop (List.mem_of_mem_take h)
theorem cutL_len {α : Type} (xs : List α) (lo hi : Option Int) : (cutL xs lo hi).length ≤ xs.length := by
  unfold cutL
  rw [List.length_take, List.length_drop]
  omega
theorem DtA.drop {B : List Addr} {H : Hp} : ∀ (n : Nat) {vs : List V} {ds : List PyData}, DtA B H vs ds → DtA B H (vs.drop n) (ds.drop n)
  | 0, _, _, h => h
  | n + 1, [], _, h => by cases h; exact .nil
  | n + 1, v :: vs, _, h => by
    cases h with
    | cons h1 h2 => exact DtA.drop n h2
theorem DtA.take {B : List Addr} {H : Hp} : ∀ (n : Nat) {vs : List V} {ds : List PyData}, DtA B H vs ds → DtA B H (vs.take n) (ds.take n)
  | 0, _, _, h => .nil
  | n + 1, [], _, h => by cases h; exact .nil
  | n + 1, v :: vs, _, h => by
    cases h with
    | cons h1 h2 => exact .cons h1 (DtA.take n h2)
theorem DtA.cut {B : List Addr} {H : Hp} {vs : List V} {ds : List PyData} (h : DtA B H vs ds) (lo hi : Option Int) : DtA B H (cutV vs lo hi) (cutL ds lo hi) := by
  unfold cutV cutL
  rw [h.len]
  exact DtA.take _ (DtA.drop _ h)
theorem slice_dt {K : PySem.W.Frag} {B : List Addr} {H : Hp} {x : V} {ds : List PyData} {lo hi : Option Int} {Q : VK} (hx : Dt B H x (.tuple ds)) (hB : Bk B H) (q : ∀ v H', Same H H' → Dt B H' v (.tuple (cutL ds lo hi)) → Q v H') : rSlA K x lo hi H Q := by
  obtain ⟨a, vs, rfl, na, ha, hA⟩ := hx.tupI
  refine ⟨a, vs, rfl, SqT.of ha, fun h => q _ H (Same.refl _) ?_, fun _ p hp => q _ _ (sm_new hp) (.tup (hB.ne hp) upd_same ((hA.cut lo hi).s (sm_new hp)))⟩
  have e : cutL ds lo hi = ds := by
    unfold cutL
    rw [← hA.len, h.1, h.2, List.drop_zero, Nat.sub_zero, hA.len, List.take_length]
  rw [e]
  exact hx
theorem cat_dt {K : PySem.W.Frag} {B : List Addr} {H : Hp} {x y : V} {xs ys : List PyData} {Q : VK} (hx : Dt B H x (.tuple xs)) (hy : Dt B H y (.tuple ys)) (hB : Bk B H) (l : xs.length + ys.length ≤ 100000) (q : ∀ v H', Same H H' → Dt B H' v (.tuple (xs ++ ys)) → Q v H') : rCatA K x y H Q := by
  obtain ⟨a, vs, rfl, na, ha, hA⟩ := hx.tupI
  obtain ⟨b, ws, rfl, nb, hb, hC⟩ := hy.tupI
  have l1 := hA.len
  have l2 := hC.len
  refine ⟨a, b, vs, ws, rfl, rfl, SqT.of ha, SqT.of hb, Nat.le_of_lt (sz (by omega)), fun e => ?_, fun _ e => ?_, fun _ _ p hp => q _ _ (sm_new hp) (.tup (hB.ne hp) upd_same ((hA.app hC).s (sm_new hp)))⟩
  · subst e
    have : xs = [] := List.eq_nil_of_length_eq_zero (by rw [← l1]; rfl)
    subst this
    exact q _ H (Same.refl _) hy
  · subst e
    have : ys = [] := List.eq_nil_of_length_eq_zero (by rw [← l2]; rfl)
    subst this
    exact q _ H (Same.refl _) (by rw [List.append_nil]; exact hx)
theorem sh_cut {ds : List PyData} {k : Nat} {lo hi : Option Int} (h : Sh (.tuple ds) k) : Sh (.tuple (cutL ds lo hi)) k := by
  obtain ⟨j, rfl, h1, h2⟩ := h.tupI
  exact sh_tup (Nat.le_trans (cutL_len _ _ _) h2) fun d hd => h1 d (cutL_sub hd)
theorem sh_cat {xs ys : List PyData} {k : Nat} (h1 : Sh (.tuple xs) k) (h2 : Sh (.tuple ys) k) (l : xs.length + ys.length ≤ 100000) : Sh (.tuple (xs ++ ys)) k := by
  obtain ⟨j, rfl, a1, a2⟩ := h1.tupI
  obtain ⟨j', e, b1, b2⟩ := h2.tupI
  have : j = j' := by omega
  subst this
  exact sh_tup (by simpa using l) fun d hd => by
    rcases List.mem_append.mp hd with h | h
    · exact a1 d h
    · exact b1 d h
/-! ### a comprehension in another one -/
def FrAll (sc : Scope) : List Str → Prop
  | [] => True
  | x :: xs => (sc.names.lookup x = some .cell ∨ sc.names.lookup x = some .free) ∧ FrAll sc xs
theorem FrAll.mem {sc : Scope} : ∀ {xs : List Str}, FrAll sc xs → ∀ x ∈ xs, sc.names.lookup x = some .cell ∨ sc.names.lookup x = some .free
  | [], _, _, h => nomatch h
  | y :: ys, h, x, hx => by
    rcases List.mem_cons.mp hx with e | e
    · rw [e]; exact h.1
    · exact FrAll.mem h.2 x e
def frC (fr : List Str) (scope : Scope) : Bool := scope.names.all fun y => match y.2 with
  | .free => decide (y.1 ∈ fr)
  | _ => true
theorem blkOk_in {N : List Str} {sc scope : Scope} {own : List (Str × Nat)} (fr : List Str) (h : blkC N { kind := .function, names := fr.map fun x => (x, .free), isGenerator := false, isCoroutine := false } scope own = true) (h2 : frC fr scope = true) (hf : FrAll sc fr) : BlkOk N sc scope own := by
  have b := blkOk_by h
  refine ⟨b.kind, b.uniq, b.ix, fun y hy e => ?_, b.own⟩
  have := List.all_eq_true.mp h2 y hy
  rw [e] at this
  exact hf.mem _ (of_decide_eq_true this)
end Z

set_option Elab.async false
set_option linter.all false
set_option maxRecDepth 100000
set_option maxHeartbeats 400000
namespace Z
open PySem PySem.Spec PyProof.Rows L2
/-! ### '9' * n, and its number -/
def nines (n : Nat) : Str := ⟨(List.replicate n (Str.ofString "9").cps).foldl (· ++ ·) #[]⟩
theorem nines_int : ∀ i : Fin 41, 1 ≤ i.val → PySem.intText? (nines i.val) = some ((10 : Int) ^ i.val - 1) ∧ (nines i.val).length ≤ 640 := by decide +kernel
def rRep9 : R2 := fun x y H Q => ∃ n : Int, x = .str "9" ∧ y = .int n ∧ 1 ≤ n ∧ n ≤ 40 ∧ Q (.str (nines n.toNat)) H
theorem op_rep9 {X : Cx} : OpR X (binaryOp .Mult) rRep9 := by
  intro pins s σ H x y v u Q I rx ry h
  obtain ⟨n, rfl, rfl, n1, n2, q⟩ := h
  obtain ⟨t, rfl⟩ := rx
  obtain ⟨t', rfl⟩ := ry
  have l9 : (Str.ofString "9").length = 1 := by decide
  refine P.mul_str ?_ (fun _ _ => ?_) (fun _ _ => ?_) ?_
  · rw [decide_eq_false (by omega), decide_eq_false (by omega)]; rfl
  · rw [l9]
    have : (1 : Int) ≤ (2 ^ 63 - 1) / n := Int.le_ediv_of_mul_le (by omega) (by omega)
    omega
  · rw [l9, Nat.one_mul]
    have : n.toNat ≤ 40 := by omega
    show decide (n.toNat > sizeLine) = false
    exact decide_eq_false (fun h => absurd (Nat.lt_of_lt_of_le h this) (by decide))
  · rw [if_neg (by omega)]
    by_cases e : n = 1
    · subst e
      exact ⟨.str (nines 1), H, I, ⟨t, rfl⟩, q⟩
    · have e2 : ((n == 1) || (Str.ofString "9").length == 0) = false := by
        rw [l9]
        simp [e]
      rw [e2, if_neg Bool.false_ne_true]
      refine ⟨?_, .str (nines n.toNat), H, I.tok _, ⟨_, rfl⟩, q⟩
      exact Nat.le_trans (nines_int ⟨n.toNat, by omega⟩ (by show 1 ≤ n.toNat; omega)).2 (by decide)
/-! ### fractions: the greatest measure -/
def ab (t : Int) : Nat := t.natAbs
def gm (t b : Int) : Nat := Nat.gcd t.natAbs b.natAbs
def pn (t b : Int) : Int := (if b < 0 then -t else t) / (gm t b : Int)
def pd (t b : Int) : Int := (if b < 0 then -b else b) / (gm t b : Int)
theorem gm_pos {t b : Int} (h : b ≠ 0) : 0 < gm t b := Nat.gcd_pos_of_pos_right _ (by omega)
theorem gm_le {t b : Int} (h : b ≠ 0) : gm t b ≤ b.natAbs := Nat.gcd_le_right _ (by omega)
theorem pd_pos {t b : Int} (h : b ≠ 0) : 0 < pd t b := by
  have h1 := gm_pos (t := t) h
  have h2 := gm_le (t := t) h
  unfold pd
  have : (1 : Int) ≤ (if b < 0 then -b else b) / (gm t b : Int) := Int.le_ediv_of_mul_le (by omega) (by split <;> omega)
  omega
theorem pd_le {t b : Int} (h : b ≠ 0) : pd t b ≤ (b.natAbs : Int) := by
  have h1 := gm_pos (t := t) h
  unfold pd
  have h2 : (if b < 0 then -b else b) = (b.natAbs : Int) := by split <;> omega
  rw [h2]
  exact Int.ediv_le_self _ (by omega)
theorem ediv_natAbs {x g : Int} (h : 0 < g) : (x / g).natAbs ≤ x.natAbs := by
  rcases Int.le_total 0 x with h1 | h1
  · have a := Int.ediv_nonneg h1 (Int.le_of_lt h)
    have b := Int.ediv_le_self g h1
    omega
  · have a : x ≤ x / g := Int.le_ediv_of_mul_le h (by
      have : x * g ≤ x * 1 := Int.mul_le_mul_of_nonpos_left h1 (by omega)
      omega)
    have b : x / g < 1 := Int.ediv_lt_of_lt_mul h (by omega)
    omega
theorem pn_le {t b : Int} (h : b ≠ 0) : (pn t b).natAbs ≤ t.natAbs := by
  have h1 := gm_pos (t := t) h
  unfold pn
  refine Nat.le_trans (ediv_natAbs (by omega)) ?_
  split <;> omega
/-! ### // by a great number of either sign -/
def CDivN2 (_ j : Int) : Prop := j ≠ 0 ∧ j.natAbs.log2 < 9000
theorem op_fdivM {X : Cx} : OpR X (binaryOp .FloorDiv) (rI CDivN2 fun i j => .int (i.fdiv j)) := opI fun _ _ _ _ _ _ _ hc q => floordiv_int hc.1 q (.inl (PyProof.noPylong_of_log2 hc.2))
theorem fdiv_neg' {t g : Int} (h : 0 < g) : t.fdiv (-g) = (-t) / g := by
  have e : t.fdiv (-g) = (-t).fdiv g := by
    rw [← Int.neg_fdiv_neg (-t) g, Int.neg_neg]
  rw [e, Int.fdiv_eq_ediv_of_nonneg _ (by omega)]
theorem gm_dvd_l (t b : Int) : (gm t b : Int) ∣ t := Int.ofNat_dvd_left.mpr (Nat.gcd_dvd_left _ _)
theorem gm_dvd_r (t b : Int) : (gm t b : Int) ∣ b := Int.ofNat_dvd_left.mpr (Nat.gcd_dvd_right _ _)
theorem pn_mul {t b : Int} (h : b ≠ 0) : pn t b * (gm t b : Int) = if b < 0 then -t else t := by
  unfold pn
  refine Int.ediv_mul_cancel ?_
  split
  · exact Int.dvd_neg.mpr (gm_dvd_l t b)
  · exact gm_dvd_l t b
theorem pd_mul {t b : Int} (h : b ≠ 0) : pd t b * (gm t b : Int) = if b < 0 then -b else b := by
  unfold pd
  refine Int.ediv_mul_cancel ?_
  split
  · exact Int.dvd_neg.mpr (gm_dvd_r t b)
  · exact gm_dvd_r t b
theorem cross {t b : Int} (h : b ≠ 0) : pn t b * b = t * pd t b := by
  have g0 : (gm t b : Int) ≠ 0 := by have := gm_pos (t := t) h; omega
  have e1 := pn_mul (t := t) h
  have e2 := pd_mul (t := t) h
  refine Int.eq_of_mul_eq_mul_right g0 ?_
  have a1 : pn t b * b * (gm t b : Int) = (pn t b * (gm t b : Int)) * b := by rw [Int.mul_assoc, Int.mul_comm b, ← Int.mul_assoc]
  have a2 : t * pd t b * (gm t b : Int) = t * (pd t b * (gm t b : Int)) := Int.mul_assoc ..
  rw [a1, a2, e1, e2]
  split
  · rw [Int.neg_mul, Int.mul_neg]
  · rfl
theorem gm_low {t b : Int} (h : b ≠ 0) : gm (pn t b) (pd t b) = 1 := by
  have gp := gm_pos (t := t) h
  have e1 := pn_mul (t := t) h
  have e2 := pd_mul (t := t) h
  have n1 : (pn t b).natAbs * gm t b = t.natAbs := by
    have := congrArg Int.natAbs e1
    rw [Int.natAbs_mul, Int.natAbs_natCast] at this
    rw [this]
    split <;> omega
  have n2 : (pd t b).natAbs * gm t b = b.natAbs := by
    have := congrArg Int.natAbs e2
    rw [Int.natAbs_mul, Int.natAbs_natCast] at this
    rw [this]
    split <;> omega
  have h3 : gm (pn t b) (pd t b) * gm t b = gm t b := by
    show Nat.gcd (pn t b).natAbs (pd t b).natAbs * gm t b = gm t b
    rw [← Nat.gcd_mul_right, n1, n2]
    rfl
  exact Nat.eq_of_mul_eq_mul_right gp (by rw [h3, Nat.one_mul])
theorem pn_low {t b : Int} (h : b ≠ 0) : pn (pn t b) (pd t b) = pn t b := by
  have hp := pd_pos (t := t) h
  show (if pd t b < 0 then -(pn t b) else pn t b) / (gm (pn t b) (pd t b) : Int) = pn t b
  rw [gm_low h, if_neg (by omega)]
  exact Int.ediv_one _
theorem pd_low {t b : Int} (h : b ≠ 0) : pd (pn t b) (pd t b) = pd t b := by
  have hp := pd_pos (t := t) h
  show (if pd t b < 0 then -(pd t b) else pd t b) / (gm (pn t b) (pd t b) : Int) = pd t b
  rw [gm_low h, if_neg (by omega)]
  exact Int.ediv_one _
end Z

set_option Elab.async false
set_option linter.all false
set_option maxRecDepth 100000
namespace Z
open PySem PySem.Spec PyProof.Rows L2 L2.DX
/-! ### sorted(d.items()), keys tuples of ints, values ints -/
def entI (e : List Int × Int) : List L2.Key × V := (e.1.map Sum.inl, V.int e.2)
def eRow (e : List Int × Int) : PyData := .tuple [eC e.1, .int e.2]
theorem kV_ints (ns : List Int) : (ns.map Sum.inl).map kV = ns.map V.int := by
  rw [List.map_map]
  rfl
theorem reads_ints {h : Heap} : ∀ {ns : List Int} {us : List Value}, Vals (ns.map V.int) us → ReadsAll h us (ns.map .int) []
  | [], _, r => by
    cases r
    exact .nil
  | n :: ns, _, r => by
    cases r with
    | cons r1 r2 =>
      obtain ⟨t, rfl⟩ := r1
      exact ReadsAll.cons (as := []) (bs := []) (.int n t) (reads_ints r2)
theorem zipped {α β : Type} {R : α → β → Prop} : ∀ {as : List α} {bs : List β}, PySem.W.EachIs R as bs → ∃ zs : List (α × β), zs.map Prod.fst = as ∧ zs.map Prod.snd = bs ∧ ∀ z ∈ zs, R z.1 z.2
  | _, _, .nil => ⟨[], rfl, rfl, fun _ h => nomatch h⟩
  | a :: as, b :: bs, .cons h t => by
    obtain ⟨zs, e1, e2, h3⟩ := zipped t
    refine ⟨(a, b) :: zs, by rw [List.map_cons, e1], by rw [List.map_cons, e2], fun z hz => ?_⟩
    rcases List.mem_cons.mp hz with e | e
    · rw [e]; exact h
    · exact h3 z e
theorem fm_some {α : Type} (f : Nat → α) : ∀ n : Nat, (List.range n).filterMap (fun i => some (f i)) = (List.range n).map f := fun n => by
  rw [← List.filterMap_eq_map]
  rfl
def rSortII : List V → Hp → VK → Prop := fun vs H Q => ∃ (p a : Addr) (ks : List (List Int × Int)), vs = [.ref p] ∧ H p = some (itemsO p a) ∧ H a = some (.dT (ks.map entI)) ∧ ks.length ≤ 1000 ∧
  ∀ (H' : Hp) (l : Addr) (ps : List (Addr × List Int × Int)), Same H H' → H l = none → (ps.map (·.2)).Perm ks → H' l = some (.lst (ps.map fun z => V.ref z.1)) →
    (∀ z ∈ ps, ∃ q, H z.1 = none ∧ H' z.1 = some (.tup [.ref q, .int z.2.2]) ∧ H q = some (.tup (z.2.1.map V.int))) → Q (.ref l) H'
section
variable {X : Cx}
theorem set_dictU (hu : X.A.units + 64 < cLine) : PSet X rSetD := set_dict (by omega)
theorem cr_sortedII (hc : X.calm = true) (hu : X.A.units + 64 < cLine) : CallR X (.builtin "sorted") rSortII := by
  intro pins s σ H xs us Q I r h
  obtain ⟨p, a, ks, rfl, hp, ha, h64, q⟩ := h
  obtain rfl := Vals.ref1 r
  have view : s.heap.IsItemsView p a := (show ObjOk X.prog X.w H s.heap p (itemsO p a) from I.hok p _ hp).1
  obtain ⟨z, hd, xs', rel, o, es, ep, ho, hx, hdat, hes, his, hn⟩ := dt_of I.hok ha
  have l1 : (ks.map entI).length = xs'.length := Paired.length rel
  rw [List.length_map] at l1
  have l2 : es.size = xs'.length := size_of_entries hes
  have hh : X.A.handled = none := I.ok.hd hc
  refine DT.sortedI (es := es) (ep := ep) hh view ⟨o, ho, hx, hdat⟩ (by rw [sizeLine_eq]; omega) fun h' tk as hk hlt hl hG => ?_
  have lak : as.length = ks.length := by omega
  have nd : as.Nodup := List.Pairwise.imp (fun h => Nat.ne_of_lt h) hG.rise
  have pr : ∀ (j : Nat) (b : Addr), as[j]? = some b → ∃ (e : List Int × Int) (kq : Addr) (t : Tok), ks[j]? = some e ∧ H kq = some (.tup (e.1.map V.int)) ∧ h'.get? b = some { cls := .type "tuple", data := .seq #[Value.ref kq, Value.int e.2 t] } := by
    intro j b hj
    obtain ⟨en, he, hg⟩ := hG.pairs j b hj
    rw [entry_at hes j] at he
    cases hxj : xs'[j]? with
    | none =>
      rw [hxj] at he
      exact nomatch (show (none : Option DictEntry) = some en from he)
    | some x =>
      rw [hxj] at he
      have een : entryOfKey (tupleKind (mixKind X.prog X.w)) x = en := Option.some.inj he
      obtain ⟨e0, he0, r1, r2, r3⟩ := pget rel hxj
      rw [List.getElem?_map] at he0
      cases hkj : ks[j]? with
      | none =>
        rw [hkj] at he0
        exact nomatch (show (none : Option (List L2.Key × V)) = some e0 from he0)
      | some e =>
        rw [hkj] at he0
        have ee : entI e = e0 := Option.some.inj he0
        rw [← ee] at r2 r3
        obtain ⟨t, r3'⟩ : ∃ t, x.2.2 = Value.int e.2 t := r3
        refine ⟨e, x.2.1, t, rfl, ?_, ?_⟩
        · have r2' : H x.2.1 = some (.tup ((e.1.map Sum.inl).map kV)) := r2
          rw [kV_ints] at r2'
          exact r2'
        · rw [hg, ← een, ← r3']
          all_goals rfl
  have hob : (h'.push { cls := .type "list", data := .seq (as.map Value.ref).toArray }).get? h'.objs.size = some (seqObj "list" (as.map Value.ref).toArray 0) := Heap.get?_push_size _ rfl
  have kb : ∀ b o, s.heap.get? b = some o → (h'.push { cls := .type "list", data := .seq (as.map Value.ref).toArray }).get? b = some o := fun b o e => Heap.get?_push_of_some _ (hk b o e)
  have ne0 : ∀ b o, h'.get? b = some o → b ≠ h'.objs.size := fun b o e => Nat.ne_of_lt (Heap.lt_size e)
  generalize hh2 : h'.push { cls := .type "list", data := .seq (as.map Value.ref).toArray } = h2 at hob kb ⊢
  have ka : ∀ b o, h'.get? b = some o → h2.get? b = some o := fun b o e => by rw [← hh2]; exact Heap.get?_push_of_some _ e
  have rd : ∀ (j : Nat) (b : Addr) (e : List Int × Int), as[j]? = some b → ks[j]? = some e → Reads h2 (.ref b) (eRow e) [] := by
    intro j b e hj he
    obtain ⟨e', kq, t, he', hkq, hg⟩ := pr j b hj
    have ee : e' = e := Option.some.inj (he'.symm.trans he)
    subst ee
    obtain ⟨_, its, rv, ot, hot, hct, nt, hdt⟩ := (show ObjOk X.prog X.w H s.heap kq (.tup (e'.1.map V.int)) from I.hok kq _ hkq)
    refine .tuple (ka _ _ hg) rfl rfl ?_
    refine ReadsAll.cons (as := []) (bs := []) (Reads.tuple (kb _ _ hot) hct hdt ?_) (ReadsAll.cons (as := []) (bs := []) (.int _ t) .nil)
    have := reads_ints (h := h2) rv
    simpa using this
  have lens : (as.map Value.ref).length = ks.length := by rw [List.length_map, lak]
  have zidx : ∀ pz ∈ (as.map Value.ref).zip ks, ∃ (j : Nat) (b : Addr), pz.1 = .ref b ∧ as[j]? = some b ∧ ks[j]? = some pz.2 := by
    intro pz hpz
    obtain ⟨j, hj⟩ := List.mem_iff_getElem?.mp hpz
    obtain ⟨h1, h2'⟩ := List.getElem?_zip_eq_some.mp hj
    rw [List.getElem?_map] at h1
    cases e : as[j]? with
    | none => rw [e] at h1; cases h1
    | some b =>
      rw [e] at h1
      exact ⟨j, b, (Option.some.inj h1).symm, e, h2'⟩
  refine PySem.W.list_sort_data (s := { s with heap := h2, toks := tk }) (A := X.A.in1) (n := 0) (vs := as.map Value.ref) (bs := ks) (enc := eRow) (R := fun v e => ∃ (j : Nat) (b : Addr), v = .ref b ∧ as[j]? = some b ∧ ks[j]? = some e) hob
    (PySem.W.EachIs.of_zip lens zidx) (PySem.W.EachIs.of_zip lens fun pz hpz => ?_) (PySem.W.AllAlike.of fun b b' => ?_) (PySem.W.Sortable.tuples fun b => ⟨_, _, rfl⟩) (by rw [sizeLine_eq]; omega) (fun b _ => ?_) fun out lo eo => ?_
  · obtain ⟨j, b, e1, e2, e3⟩ := zidx pz hpz
    rw [e1]
    exact ⟨[], rd j b _ e2 e3, fun h => nomatch h⟩
  · unfold eRow eC
    simp [PySem.W.alike, PySem.W.alikeAll, PySem.W.alike_ints]
  · have : (eRow b).depth = 2 := by
      unfold eRow eC
      simp [PyData.depth, PyData.depthAll, PySem.W.depth_ints]
    show X.A.units + 1 + 1 + (eRow b).depth < cLine
    omega
  · show EP X pins σ Q (.ref h'.objs.size) { s with heap := sortedHeap h2 h'.objs.size (as.map Value.ref) out.toArray, toks := tk }
    obtain ⟨zs0, z1, z2, z3⟩ := zipped eo
    -- the addresses
    obtain ⟨zs, w1, w2, w3⟩ : ∃ zs : List (Addr × List Int × Int), zs.map (fun z => Value.ref z.1) = out ∧ zs.map (·.2) = ks.mergeSort (PySem.W.dataLe false eRow) ∧ ∀ z ∈ zs, ∃ j : Nat, as[j]? = some z.1 ∧ ks[j]? = some z.2 := by
      rw [← z1, ← z2]
      clear z1 z2 eo lo
      induction zs0 with
      | nil => exact ⟨[], rfl, rfl, fun _ h => nomatch h⟩
      | cons y ys ih =>
        obtain ⟨zs, w1, w2, w3⟩ := ih fun z hz => z3 z (List.mem_cons_of_mem _ hz)
        obtain ⟨j, b, e1, e2, e3⟩ := z3 y (List.mem_cons_self ..)
        refine ⟨(b, y.2) :: zs, by rw [List.map_cons, List.map_cons, w1, e1], by rw [List.map_cons, List.map_cons, w2], fun z hz => ?_⟩
        rcases List.mem_cons.mp hz with e | e
        · rw [e]; exact ⟨j, e2, e3⟩
        · exact w3 z e
    have hperm : (zs.map (·.2)).Perm ks := by
      rw [w2]
      exact List.mergeSort_perm _ _
    have kF : ∀ b o, b ≠ h'.objs.size → h2.get? b = some o → (sortedHeap h2 h'.objs.size (as.map Value.ref) out.toArray).get? b = some o := fun b o hb e => (PyProof.Rows.sortedHeap_old hb (Heap.lt_size e)).trans e
    have kS : ∀ b o, s.heap.get? b = some o → (sortedHeap h2 h'.objs.size (as.map Value.ref) out.toArray).get? b = some o := fun b o e => kF b o (ne0 _ _ (hk b o e)) (kb b o e)
    obtain ⟨eF, heF⟩ := PyProof.Rows.sortedHeap_at (vs := as.map Value.ref) (out := out.toArray) hob
    have I1 : Inv X pins σ H { s with heap := sortedHeap h2 h'.objs.size (as.map Value.ref) out.toArray, toks := tk } := I.kept (t' := tk) kS
    have hn0 : H h'.objs.size = none := I.hok.fresh (Nat.le_of_lt hlt)
    have hlen : (zs.map fun z => V.ref z.1).length ≤ sizeLine := by
      have e := hperm.length_eq
      rw [List.length_map] at e
      rw [List.length_map, sizeLine_eq]
      omega
    have rv : Vals (zs.map fun z => V.ref z.1) out.toArray.toList := by
      show Vals _ out
      rw [← w1]
      exact vals_maps (fun z : Addr × List Int × Int => V.ref z.1) (fun z => Value.ref z.1) zs fun _ _ => rfl
    have I2 : Inv X pins σ (upd H h'.objs.size (.lst (zs.map fun z => V.ref z.1))) { s with heap := sortedHeap h2 h'.objs.size (as.map Value.ref) out.toArray, toks := tk } :=
      I1.take (h' := sortedHeap h2 h'.objs.size (as.map Value.ref) out.toArray) (t' := tk) (fun b ob _ e => e) (I.fpOk (Nat.le_of_lt hlt) hn0) ⟨hlen, out.toArray.toList, eF, rv, heF⟩
    obtain ⟨H2, I3, g, qt⟩ := takeT (P := fun b vs => ∃ (j : Nat) (e : List Int × Int) (kq : Addr), as[j]? = some b ∧ ks[j]? = some e ∧ vs = [.ref kq, .int e.2] ∧ H kq = some (.tup (e.1.map V.int))) I as _ I2 nd fun b hb => by
      obtain ⟨j, hj⟩ := List.mem_iff_getElem?.mp hb
      obtain ⟨e, kq, t, he, hkq, hg⟩ := pr j b hj
      have hbl : s.heap.objs.size ≤ b := Nat.le_of_lt (hG.above b hb)
      refine ⟨hbl, ?_, [.ref kq, .int e.2], ⟨j, e, kq, hj, he, rfl, hkq⟩, fun H3 => ⟨(by rw [sizeLine_eq]; show 2 ≤ 16777216; omega), [Value.ref kq, Value.int e.2 t], .cons rfl (.cons ⟨t, rfl⟩ .nil), ⟨_, kF _ _ (ne0 _ _ hg) (ka _ _ hg), rfl, 0, rfl⟩⟩⟩
      rw [upd_ne (ne0 _ _ hg)]
      exact I.hok.fresh hbl
    have gr : ∀ b o, H b = some o → H2 b = some o := fun b o e => g b o (by rw [upd_ne (ne_of_none e hn0)]; exact e)
    refine ⟨.ref h'.objs.size, H2, I3, rfl, q H2 h'.objs.size zs gr hn0 hperm (g _ _ upd_same) fun z' hz' => ?_⟩
    obtain ⟨i, i1, i2⟩ := w3 z' hz'
    obtain ⟨vs, ⟨j, e, kq, j1, j2, ev, hkq⟩, hH⟩ := qt z'.1 (List.mem_of_getElem? i1)
    have eij : i = j := (List.getElem?_inj (List.getElem?_eq_some_iff.mp i1).1 nd).mp (i1.trans j1.symm)
    subst eij
    have ee : e = z'.2 := Option.some.inj (j2.symm.trans i2)
    rw [ev, ee] at hH
    rw [ee] at hkq
    exact ⟨kq, I.hok.fresh (Nat.le_of_lt (hG.above _ (List.mem_of_getElem? i1))), hH, hkq⟩
end
end Z

set_option Elab.async false
set_option linter.all false
set_option maxRecDepth 100000
set_option maxHeartbeats 400000
namespace Z
open PySem PySem.Spec PyProof.Rows L2
/-! ### fractions as numbers -/
theorem pn_q {t b : Int} (h : b ≠ 0) : pn t b = (Rat.divInt t b).num := by
  rw [Rat.num_divInt]
  unfold pn gm
  rw [show Int.gcd b t = Nat.gcd t.natAbs b.natAbs from Nat.gcd_comm _ _]
  congr 1
  by_cases h0 : b < 0
  · rw [if_pos h0, Int.sign_eq_neg_one_of_neg h0]; omega
  · rw [if_neg h0, Int.sign_eq_one_of_pos (by omega)]; omega
theorem pd_q {t b : Int} (h : b ≠ 0) : pd t b = ((Rat.divInt t b).den : Int) := by
  rw [Rat.den_divInt, if_neg h]
  unfold pd gm
  rw [show Int.gcd b t = Nat.gcd t.natAbs b.natAbs from Nat.gcd_comm _ _, Int.natCast_ediv]
  congr 1
  split <;> omega
/-- x over M, its top at most A -/
def Fr (M A : Nat) (x : Rat) : Prop := ∃ a : Int, x = Rat.divInt a M ∧ a.natAbs ≤ A
theorem Fr.den {M A : Nat} {x : Rat} (h : Fr M A x) (hM : 0 < M) : x.den ≤ M := by
  obtain ⟨a, rfl, _⟩ := h
  rw [Rat.den_divInt, if_neg (by omega)]
  exact Nat.le_trans (Nat.div_le_self _ _) (by omega)
theorem ediv_nat {x : Int} (g : Nat) : (x / (g : Int)).natAbs ≤ x.natAbs := by
  rcases Nat.eq_zero_or_pos g with h | h
  · subst h; simp
  rcases Int.le_total 0 x with h1 | h1
  · have a := Int.ediv_nonneg h1 (Int.natCast_nonneg g)
    have b := Int.ediv_le_self (g : Int) h1
    omega
  · have a : x ≤ x / (g : Int) := Int.le_ediv_of_mul_le (by omega) (by
      have : x * (g : Int) ≤ x * 1 := Int.mul_le_mul_of_nonpos_left h1 (by omega)
      omega)
    have b : x / (g : Int) < 1 := Int.ediv_lt_of_lt_mul (by omega) (by omega)
    omega
theorem Fr.num {M A : Nat} {x : Rat} (h : Fr M A x) (hM : 0 < M) : x.num.natAbs ≤ A := by
  obtain ⟨a, rfl, ha⟩ := h
  rw [Rat.num_divInt, Int.sign_eq_one_of_pos (by omega), Int.one_mul]
  exact Nat.le_trans (ediv_nat _) ha
theorem Fr.add {M A B : Nat} {x y : Rat} (hM : 0 < M) (h : Fr M A x) (h2 : Fr M B y) : Fr M (A + B) (x + y) := by
  obtain ⟨a, rfl, ha⟩ := h
  obtain ⟨b, rfl, hb⟩ := h2
  refine ⟨a + b, ?_, by omega⟩
  have hm : (M : Int) ≠ 0 := by omega
  rw [Rat.divInt_add_divInt _ _ hm hm, ← Int.add_mul, Rat.divInt_mul_right hm]
theorem Fr.mul {M N A B : Nat} {x y : Rat} (h : Fr M A x) (h2 : Fr N B y) : Fr (M * N) (A * B) (x * y) := by
  obtain ⟨a, rfl, ha⟩ := h
  obtain ⟨b, rfl, hb⟩ := h2
  refine ⟨a * b, by rw [Rat.divInt_mul_divInt, Int.natCast_mul], ?_⟩
  rw [Int.natAbs_mul]
  exact Nat.mul_le_mul ha hb
theorem Fr.neg {M A : Nat} {x : Rat} (h : Fr M A x) : Fr M A (-x) := by
  obtain ⟨a, rfl, ha⟩ := h
  exact ⟨-a, by rw [Rat.neg_divInt], by omega⟩
theorem Fr.mono {M A B : Nat} {x : Rat} (h : Fr M A x) (l : A ≤ B) : Fr M B x := by
  obtain ⟨a, e, ha⟩ := h
  exact ⟨a, e, by omega⟩
theorem Fr.int {M A : Nat} {n : Int} (hM : 0 < M) (h : n.natAbs ≤ A) : Fr M (A * M) (n : Rat) := by
  refine ⟨n * M, ?_, ?_⟩
  · have hm : (M : Int) ≠ 0 := by omega
    have : Rat.divInt (n * M) (1 * M) = Rat.divInt n 1 := Rat.divInt_mul_right hm
    rw [Int.one_mul] at this
    rw [this, ← Rat.num_divInt_den (n : Rat)]
    rfl
  · rw [Int.natAbs_mul, Int.natAbs_natCast]
    exact Nat.mul_le_mul_right _ h
theorem Fr.of {t b : Int} {M A : Nat} (hb : 0 < b) (hd : b ∣ (M : Int)) (hM : 0 < M) (hA : t.natAbs * M ≤ A) : Fr M A (Rat.divInt t b) := by
  obtain ⟨k, hk⟩ := hd
  have k0 : 0 < k := by
    have h0 : 0 < b * k := by omega
    rcases Int.lt_or_le 0 k with z | z
    · exact z
    · have := Int.mul_nonpos_of_nonneg_of_nonpos (Int.le_of_lt hb) z
      omega
  refine ⟨t * k, ?_, ?_⟩
  · rw [hk, Rat.divInt_mul_right (by omega)]
  · refine Nat.le_trans ?_ hA
    rw [Int.natAbs_mul]
    refine Nat.mul_le_mul_left _ ?_
    have : k ≤ b * k := by
      have : 1 * k ≤ b * k := Int.mul_le_mul_of_nonneg_right (by omega) (by omega)
      omega
    omega
/-- how far a colour is from a middle, by places -/
def sq (x : Rat) : Rat := x * x
def farN (c : List Int) (m : List Rat) : Nat → Rat
  | 0 => 0
  | i + 1 => farN c m i + sq ((c.getD i 0 : Rat) - m.getD i 0)
theorem Fr.sub {M A B : Nat} {x y : Rat} (hM : 0 < M) (h : Fr M A x) (h2 : Fr M B y) : Fr M (A + B) (x - y) := by
  rw [Rat.sub_eq_add_neg]
  exact h.add hM h2.neg
theorem Fr.zero {M A : Nat} (hM : 0 < M) : Fr M A 0 := by
  refine ⟨0, ?_, by simp⟩
  rw [Rat.zero_divInt]
theorem farN_fr {c : List Int} {m : List Rat} {M A C : Nat} (hM : 0 < M) (hc : ∀ i, (c.getD i 0).natAbs ≤ C) (hm : ∀ z ∈ m, Fr M A z) : ∀ i, Fr (M * M) (i * ((C * M + A) * (C * M + A))) (farN c m i)
  | 0 => Fr.zero (Nat.mul_pos hM hM)
  | i + 1 => by
    rw [Nat.succ_mul]
    have hz : Fr M A (m.getD i 0) := by
      rw [List.getD_eq_getElem?_getD]
      cases e : m[i]? with
      | none => exact Fr.zero hM
      | some z => exact hm z (List.mem_of_getElem? e)
    have g := (Fr.int hM (hc i)).sub hM hz
    exact (farN_fr hM hc hm i).add (Nat.mul_pos hM hM) (g.mul g)
theorem farN_nonneg (c : List Int) (m : List Rat) : ∀ i, 0 ≤ farN c m i
  | 0 => Rat.le_refl
  | i + 1 => Rat.add_nonneg (farN_nonneg c m i) (by
    unfold sq
    rcases Rat.nonneg_total ((c.getD i 0 : Rat) - m.getD i 0) with h | h
    · exact Rat.mul_nonneg h h
    · have := Rat.mul_nonneg h h
      rw [Rat.neg_mul, Rat.mul_neg, Rat.neg_neg] at this
      exact this)
/-- the first of the least -/
def argF (f : Nat → Rat) : Nat → Nat
  | 0 => 0
  | i + 1 => if f i < f (argF f i) then i else argF f i
theorem argF_lt (f : Nat → Rat) : ∀ n, 0 < n → argF f n < n
  | 0, h => absurd h (by omega)
  | n + 1, _ => by
    rw [argF]
    split
    · omega
    · rcases Nat.eq_zero_or_pos n with e | e
      · subst e; exact Nat.zero_lt_one
      · have := argF_lt f n e; omega
/-- small enough to reckon with -/
def lim : Nat := 2 ^ 2000
def lim2 : Nat := 2 ^ 4000
def Qb (x : Rat) : Prop := x.den < lim ∧ x.num.natAbs < lim
theorem Fr.qb {M A : Nat} {x : Rat} (h : Fr M A x) (hM : 0 < M) (h1 : M < lim) (h2 : A < lim) : Qb x := ⟨Nat.lt_of_le_of_lt (h.den hM) h1, Nat.lt_of_le_of_lt (h.num hM) h2⟩
theorem qq (x : Rat) : Rat.divInt x.num (x.den : Int) = x := Rat.num_divInt_den x
theorem add_q (p r : Rat) : Rat.divInt (p.num * r.den + r.num * p.den) (p.den * r.den) = p + r := by
  have h1 : (p.den : Int) ≠ 0 := by have := p.den_nz; omega
  have h2 : (r.den : Int) ≠ 0 := by have := r.den_nz; omega
  rw [← Rat.divInt_add_divInt _ _ h1 h2, qq, qq]
theorem mul_q (p r : Rat) : Rat.divInt (p.num * r.num) (p.den * r.den) = p * r := by
  rw [← Rat.divInt_mul_divInt, qq, qq]
theorem lt_q (p r : Rat) : decide (p.num * r.den < r.num * p.den) = decide (p < r) := decide_eq_decide.mpr (Rat.lt_iff p r).symm
def qp (x : Rat) : Int × Int := (x.num, (x.den : Int))
theorem lim_lim : lim * lim ≤ lim2 := by unfold lim lim2; rw [← Nat.pow_add]; exact Nat.le_refl _
theorem mul_lim {a b : Nat} (h1 : a < lim) (h2 : b < lim) : a * b < lim2 := Nat.lt_of_lt_of_le (Nat.mul_lt_mul'' h1 h2) lim_lim
theorem lim_mul {i j : Int} (h1 : i.natAbs < lim2) (h2 : j.natAbs < lim2) : CMulW i j := wide_mul (a := 4000) (b := 4000) h1 h2 (by decide) (by decide) (by decide)
theorem lim_le : lim ≤ lim2 := Nat.pow_le_pow_right (by decide) (by decide)
theorem to_lim {a b : Nat} (h : a ≤ b) (hb : b < lim := by decide +kernel) : a < lim := Nat.lt_of_le_of_lt h hb
theorem to_lim2 {a b : Nat} (h : a ≤ b) (hb : b < lim2 := by decide +kernel) : a < lim2 := Nat.lt_of_le_of_lt h hb
theorem lim_div {i j : Int} (h : 0 < j) (hb : j.natAbs < lim2) : CDivW i j := wide_div (b := 4000) h hb (by decide) (by decide)
theorem lim_divN {i j : Int} (h : j ≠ 0) (hb : j.natAbs < lim2) : CDivN2 i j := ⟨h, Nat.lt_of_lt_of_le (PySem.Flt.log2_lt_of (k := 4000) (by decide) hb) (by decide)⟩
end Z

set_option Elab.async false
set_option linter.all false
set_option maxRecDepth 100000
namespace Z
open PySem PySem.Spec PyProof.Rows L2
/-! ### zip of a tuple and a list -/
def ItTL (K : PySem.W.Frag) (a b : Addr) : It where
  go := fun i H => ∃ (xs ys : List V) (x y : V), (SqT K H a xs ∧ SqL K H b ys) ∧ xs[i]? = some x ∧ ys[i]? = some y
  yld := fun i H v H' => ∃ (T : Addr) (x y : V), v = .ref T ∧ H T = none ∧ H' = upd H T (.tup [x, y]) ∧ (∀ l, SqT K H a l → l[i]? = some x) ∧ (∀ l, SqL K H b l → l[i]? = some y)
  stop := fun i H => ∃ xs ys : List V, (SqT K H a xs ∧ SqL K H b ys) ∧ i ≤ xs.length ∧ i ≤ ys.length ∧ (i = xs.length ∨ i = ys.length)
def own2 (z TI TO i1 i2 : Addr) : List Addr := [z, TI, TO, i1, i2]
def atTL (a b z TI TO i1 i2 : Addr) (i : Nat) (h : Heap) : Prop :=
  IsZip h z TI TO .none ∧ IsTupOf2 h TI (.ref i1) (.ref i2) ∧ (∃ x y, IsTupOf2 h TO x y) ∧ h.IsTupleIter i1 a i ∧ h.IsListIter i2 b i
theorem five {z TI TO i1 i2 q : Addr} (h : q ∈ own2 z TI TO i1 i2) : q = z ∨ q = TI ∨ q = TO ∨ q = i1 ∨ q = i2 := by
  simpa [own2] using h
theorem ne_itT {h : Heap} {t it l : Addr} {items : Array Value} {i : Nat} (p : h.IsTuple t items) (q : h.IsTupleIter it l i) : t ≠ it := fun e => by
  obtain ⟨o, ho, hcl, _⟩ := p
  obtain ⟨o', ho', hcl', _⟩ := q
  rw [e, ho'] at ho
  have eo := Option.some.inj ho
  rw [eo, hcl] at hcl'
  exact absurd (Value.type.inj hcl') (by decide)
theorem ne_itL {h : Heap} {t it l : Addr} {items : Array Value} {i : Nat} (p : h.IsList t items) (q : h.IsListIter it l i) : t ≠ it := fun e => by
  obtain ⟨o, ho, hcl, _⟩ := p
  obtain ⟨o', ho', hcl', _⟩ := q
  rw [e, ho'] at ho
  have eo := Option.some.inj ho
  rw [eo, hcl] at hcl'
  exact absurd (Value.type.inj hcl') (by decide)
set_option maxHeartbeats 1000000 in
theorem turnTL {P : Program} {w : World} {K : PySem.W.Frag} {elts : List Expr} {kk : Nat} {tpos : Pos} {a b z TI TO i1 i2 : Addr} (D : ZipSep2 z TI TO i1 i2 [i1, a] [i2, b]) :
    Turn P w K (.Tuple elts kk tpos) (ItTL K a b) (own2 z TI TO i1 i2) z (atTL a b z TI TO i1 i2) := by
  refine ⟨by simp [own2], fun i h st q hq => ?_, fun i h h' st k => ?_, ?_, ?_, fun A i s Q E st h => wpAny_pyIter_zip st.1 h⟩
  · obtain ⟨hz, hTI, ⟨x, y, hTO⟩, ⟨o1, e1, _, d1⟩, ⟨o2, e2, _, d2⟩⟩ := st
    rcases five hq with rfl | rfl | rfl | rfl | rfl
    · exact ⟨_, hz, fun v q => nomatch q⟩
    · exact ⟨_, hTI, fun v q => nomatch q⟩
    · exact ⟨_, hTO, fun v q => nomatch q⟩
    · exact ⟨o1, e1, fun v q => by rw [d1] at q; cases q⟩
    · exact ⟨o2, e2, fun v q => by rw [d2] at q; cases q⟩
  · obtain ⟨hz, hTI, ⟨x, y, hTO⟩, h1, h2⟩ := st
    exact ⟨k z (by simp [own2]) _ hz, k TI (by simp [own2]) _ hTI, ⟨x, y, k TO (by simp [own2]) _ hTO⟩, h1.at fun o q => k i1 (by simp [own2]) o q, h2.at fun o q => k i2 (by simp [own2]) o q⟩
  · intro X hP hw hK hc i pins s σ H E I hf st hg
    subst hP hw hK
    obtain ⟨hz, hTI, ⟨x0, y0, hTO⟩, h1, h2⟩ := st
    obtain ⟨xs, ys, x, y, ⟨qx, qy⟩, fx, fy⟩ := hg
    obtain ⟨js1, r1, p1, _⟩ := I.tuple qx
    obtain ⟨js2, r2, p2, _⟩ := I.list qy
    obtain ⟨u1, f1, m1⟩ := r1.get fx
    obtain ⟨u2, f2, m2⟩ := r2.get fy
    have lz : z < s.heap.objs.size := Heap.lt_size hz
    have hd := I.ok.hd hc
    have n1 : a ≠ i1 := ne_itT p1 h1
    have n2 : b ≠ i2 := ne_itL p2.isList h2
    have k1 : i < js1.toArray.size := by have := (List.getElem?_eq_some_iff.mp f1).1; simpa using this
    have k2 : i < js2.toArray.size := by have := (List.getElem?_eq_some_iff.mp f2).1; simpa using this
    refine wpAny_pyNext_zipD2_item D (Draws.tuple (A := X.A.in1) hd i1 a n1 js1.toArray) (Draws.list (A := X.A.in1) hd i2 b n2 js2.toArray) hz hTI hTO ⟨h1, p1⟩ ⟨h2, p2.isList⟩ k1 k2 fun x1 x2 h' tk e1 e2 z' TO' st1 st2 hT hsz hk => ?_
    have w1 : x1 = u1 := Option.some.inj (e1.symm.trans (by simpa using f1))
    have w2 : x2 = u2 := Option.some.inj (e2.symm.trans (by simpa using f2))
    subst w1 w2
    refine ⟨_, rfl, wpAny_letOwnedTupleGo_zip (s := { s with heap := h', toks := tk }) z' fun h'' z'' sb => ?_⟩
    have up : ∀ q o, q ≠ z → h'.get? q = some o → h''.get? q = some o := fun q o n e => (sb.2 q n).trans e
    have hT2 := up _ _ (Nat.ne_of_gt lz) hT
    have fresh : H s.heap.objs.size = none := I.hok.fresh (Nat.le_refl _)
    have new : ObjOk X.prog X.w (upd H s.heap.objs.size (.tup [x, y])) h'' s.heap.objs.size (.tup [x, y]) :=
      ⟨by show 2 ≤ sizeLine; decide, [x1, x2], .cons m1 (.cons m2 .nil), ⟨_, hT2, rfl, _, rfl⟩⟩
    have kp : ∀ q o, q ∉ own2 z TI TO i1 i2 → s.heap.get? q = some o → h''.get? q = some o := fun q o nq e => by
      have nz : q ≠ z := fun y => nq (by simp [own2, y])
      refine up q o nz (hk q o nz (fun y => nq (by simp [own2, y])) (fun y => nq (by simp [own2, y])) (fun y => nq (by simp [own2, y])) e)
    have zi : ∀ {j : Addr} {fp : List Addr}, j ∈ fp → z ∉ fp → j ≠ z := fun hj hz e => hz (by rw [← e]; exact hj)
    refine ⟨.ref s.heap.objs.size, _, I.turnedNew (t' := tk) (ch := own2 z TI TO i1 i2) kp hf (Nat.le_refl _) new, rfl, ⟨_, x, y, rfl, fresh, rfl, fun l hl => by rw [I.tuple_inj hl qx]; exact fx, fun l hl => by rw [I.list_inj hl qy]; exact fy⟩, ⟨z'', ?_, ⟨x1, x2, up _ _ D.TOz TO'⟩, ?_, ?_⟩, fun q hq => ?_⟩
    · exact up _ _ D.TIz (hk _ _ D.TIz D.TITO D.TIi1 D.TIi2 hTI)
    · exact st1.1.at fun o e => up _ _ (zi D.mem1 D.zf1) e
    · exact st2.1.at fun o e => up _ _ (zi D.mem2 D.zf2) e
    · have lq : q < s.heap.objs.size := by
        rcases five hq with rfl | rfl | rfl | rfl | rfl
        · exact lz
        · exact Heap.lt_size hTI
        · exact Heap.lt_size hTO
        · obtain ⟨_, e, _⟩ := h1; exact Heap.lt_size e
        · obtain ⟨_, e, _⟩ := h2; exact Heap.lt_size e
      rw [upd_ne (Nat.ne_of_lt lq)]
      exact (hf q hq).1
  · intro X hP hw hK hc i pins s σ H E I hf st hg
    subst hP hw hK
    obtain ⟨hz, hTI, ⟨x0, y0, hTO⟩, h1, h2⟩ := st
    obtain ⟨xs, ys, ⟨qx, qy⟩, b1, b2, hend⟩ := hg
    obtain ⟨js1, r1, p1, _⟩ := I.tuple qx
    obtain ⟨js2, r2, p2, _⟩ := I.list qy
    have hd := I.ok.hd hc
    have l1 := r1.length
    have l2 := r2.length
    have n1 : a ≠ i1 := ne_itT p1 h1
    have n2 : b ≠ i2 := ne_itL p2.isList h2
    refine wpAny_pyNext_zipD2_end D (Draws.tuple (A := X.A.in1) hd i1 a n1 js1.toArray) (Draws.list (A := X.A.in1) hd i2 b n2 js2.toArray) hz hTI hTO ⟨h1, p1⟩ ⟨h2, p2.isList⟩ (by simp; omega) (by simp; omega) (by simp; omega) fun h' tk hk => ?_
    exact ⟨rfl, I.turnedL (t' := tk) (ch := own2 z TI TO i1 i2) (fun q o nq e => hk q o (fun y => nq (by simp [own2, y])) (fun y => nq (by simp [own2, y])) (fun y => nq (by simp [own2, y])) (fun y => nq (by simp [own2, y])) e) hf⟩
set_option maxHeartbeats 400000
def iZipTX (K : PySem.W.Frag) (ta : TA) : TI := fun σ H R => ta σ H fun vs H1 => ∃ a b xs ys, vs = [.ref a, .ref b] ∧ ((SqT K H1 a xs ∧ SqL K H1 b ys ∧ R (ItTL K a b) H1) ∨ (SqT K H1 a xs ∧ SqT K H1 b ys ∧ R (RZ.ItzT K a b) H1))
theorem own2_le {N y : Nat} (hy : y ∈ own2 (N + 4) (N + 2) (N + 3) N (N + 1)) : N ≤ y := by
  rcases five hy with z | z | z | z | z <;> rw [z]
  · exact Nat.le_add_right _ _
  · exact Nat.le_add_right _ _
  · exact Nat.le_add_right _ _
  · exact Nat.le_refl _
  · exact Nat.le_add_right _ _
theorem zipTL_end {X : Cx} {pins : List (Addr × Obj)} {σ : L2.St} {H1 : Hp} {s1 : Shared} {R : It → Hp → Prop} {a b : Addr} {xs ys : List V} {elts : List Expr} {kk : Nat} {tpos : Pos} (I1 : Inv X pins σ H1 s1) (qx : SqT X.K H1 a xs) (qy : SqL X.K H1 b ys) (q : R (ItTL X.K a b) H1) :
    wpAny (model X.prog X.w) X.A (call (.type "zip") [.ref a, .ref b]) (fun v s2 => wpAny (model X.prog X.w) X.A (pyIter v) (PIE X pins σ (.Tuple elts kk tpos) R) X.xe s2) X.xe s1 := by
  obtain ⟨js1, m1, p1, _⟩ := I1.tuple qx
  obtain ⟨js2, m2, p2, _⟩ := I1.list qy
  have la : a < s1.heap.objs.size := by obtain ⟨_, o, _⟩ := p1; exact Heap.lt_size o
  have lb : b < s1.heap.objs.size := by obtain ⟨_, o, _⟩ := p2.isList; exact Heap.lt_size o
  refine zip_begins2 (begins_tuple a js1.toArray) (begins_list b js2.toArray) p1 p2.isList fun h' hz hTI hTO g1 g2 hsz hk => wpAny_pyIter_zip hz ?_
  have one : ∀ {x : Addr}, x < s1.heap.objs.size → ∀ y ∈ [x], y < s1.heap.objs.size := fun hx y hy => by rw [List.mem_singleton.mp hy]; exact hx
  have I2 : Inv X pins σ H1 { s1 with heap := h' } := I1.kept (t' := s1.toks) hk
  have fr : ∀ y, s1.heap.objs.size ≤ y → FpOk X pins H1 y := fun y hle => I1.fpOk hle (I1.hok.fresh hle)
  have sp := zip_sep2 (one la) (one lb)
  generalize s1.heap.objs.size = N at *
  exact ⟨N + 4, own2 (N + 4) (N + 2) (N + 3) N (N + 1), atTL a b (N + 4) (N + 2) (N + 3) N (N + 1), ItTL X.K a b, H1, rfl, I2, turnTL sp, ⟨hz, hTI, ⟨_, _, hTO⟩, ⟨_, g1, rfl, rfl⟩, ⟨_, g2, rfl, rfl⟩⟩, fun y hy => fr y (own2_le hy), q⟩
theorem pi_zipTX (K : PySem.W.Frag) {X : Cx} {e e2 : Expr} {ta : TA} {p pos tpos : Pos} {elts : List Expr} {kk : Nat} (hg : Gl X "zip") (hm : X.mg "zip" = none) (ha : PA X [e, e2] ta)
    (hs : starEach [e, e2] X.env = (false, eval e X.env) :: starEach [e2] X.env := by rfl) (hpl : (backTo pos (starEach [e2] X.env)).any (·.1) = false := by rfl) (hK : X.K = K := by rfl) :
    PI X (.Tuple elts kk tpos) (.Call (.Name "zip" p) [e, e2] [] pos) (iZipTX K ta) := by
  subst hK
  refine ⟨fun pins s σ H R I h => ?_⟩
  refine Call_ (ld_blt I hg hm PyProof.Rows.boot_zip (PyProof.Rows.callWith_type1 (thn (ha.run pos pins s σ H _ I h) fun us s1 ⟨vs, H1, I1, r1, q1⟩ => ?_) hs hpl))
  obtain ⟨a, b, xs, ys, rfl, q1⟩ := q1
  obtain ⟨u1, us, rfl, ra, r1⟩ : ∃ u1 vs', us = u1 :: vs' ∧ RelV (.ref a) u1 ∧ Vals [.ref b] vs' := by
    cases r1 with
    | cons x y => exact ⟨_, _, rfl, x, y⟩
  obtain ⟨u2, rfl, rb⟩ := vals1 r1
  cases (show u1 = Value.ref a from ra)
  cases (show u2 = Value.ref b from rb)
  rcases q1 with ⟨qx, qy, q⟩ | ⟨hqx, hqy, q⟩
  · exact zipTL_end I1 qx qy q
  · obtain ⟨its, rv, p1, _⟩ := I1.tuple hqx
    obtain ⟨its2, rv2, p2, _⟩ := I1.tuple hqy
    obtain ⟨o1, ho1, _⟩ := id p1
    obtain ⟨o2, ho2, _⟩ := id p2
    refine RZ.call_zipT (show s1.heap.IsTuple a its.toArray from p1) (show s1.heap.IsTuple b its2.toArray from p2) fun h' hz hTI hTO h1 h2 hsz hk => wpAny_pyIter_zip hz ?_
    have I2 : Inv X pins σ H1 { s1 with heap := h' } := I1.kept (t' := s1.toks) hk
    refine ⟨s1.heap.objs.size + 4, own2 (s1.heap.objs.size + 4) (s1.heap.objs.size + 2) (s1.heap.objs.size + 3) s1.heap.objs.size (s1.heap.objs.size + 1), _, _, H1, rfl, I2, RZ.turn_zipT (PySem.W.ktu_apart s1.heap.objs.size a b (Heap.lt_size ho1) (Heap.lt_size ho2)), ⟨hz, hTI, ⟨_, _, hTO⟩, h1, h2⟩, fun y hy => ?_, q⟩
    have hle := own2_le hy
    exact I1.fpOk hle (I1.hok.fresh hle)
theorem walk_zipTL {K : PySem.W.Frag} {a b : Addr} {xs ys : List V} {n : Nat} (h1 : xs.length = n) (h2 : ys.length = n) : Walk (ItTL K a b) n (fun H => SqT K H a xs ∧ SqL K H b ys) (YPair (fun i => xs[i]?) (fun i => ys[i]?)) := by
  refine ⟨fun i H hi q => ⟨xs, ys, xs[i]'(by omega), ys[i]'(by omega), q, by simp, by simp⟩, fun H q => ⟨xs, ys, q, by omega, by omega, .inl (by omega)⟩, fun i H v H' _ q y => ?_⟩
  obtain ⟨T, x, z, e1, e2, e3, e4, e5⟩ := y
  exact ⟨T, x, z, e1, e2, e3, e4 xs q.1, e5 ys q.2⟩
end Z

set_option Elab.async false
set_option linter.all false
set_option maxRecDepth 100000
set_option maxHeartbeats 400000
namespace Z
open PySem PySem.Spec PyProof.Rows L2
/-! ### lists of lists -/
def eN (ns : List (List Int)) : PyData := .list (ns.map eI)
def eG (ps : List (List (List Int))) : PyData := .list (ps.map eP)
theorem sh_eN {ns : List (List Int)} (l : ns.length ≤ 100000) (h : ∀ c ∈ ns, c.length ≤ 100000) : Sh (eN ns) 2 := sh_lst (by simpa using l) fun d hd => by
  obtain ⟨n, m, rfl⟩ := List.mem_map.mp hd
  exact sh_eI (h n m)
theorem sh_eG {ps : List (List (List Int))} (l : ps.length ≤ 100000) (h : ∀ p ∈ ps, p.length ≤ 100000 ∧ ∀ c ∈ p, c.length ≤ 100000) : Sh (eG ps) 3 := sh_lst (by simpa using l) fun d hd => by
  obtain ⟨n, m, rfl⟩ := List.mem_map.mp hd
  exact sh_eP (h n m).1 (h n m).2
theorem DtA.mk {B : List Addr} {H : Hp} : ∀ {vs : List V} {ds : List PyData}, vs.length = ds.length → (∀ (i : Nat) v d, vs[i]? = some v → ds[i]? = some d → Dt B H v d) → DtA B H vs ds
  | [], [], _, _ => .nil
  | [], _ :: _, h, _ => nomatch h
  | _ :: _, [], h, _ => nomatch h
  | v :: vs, d :: ds, h, f => .cons (f 0 v d rfl rfl) (DtA.mk (by simpa using h) fun i v d h1 h2 => f (i + 1) v d h1 h2)
theorem DtA.two {B : List Addr} {H : Hp} {vs : List V} {ds : List PyData} {i : Nat} {v : V} {d : PyData} (h : DtA B H vs ds) (h1 : vs[i]? = some v) (h2 : ds[i]? = some d) : Dt B H v d := by
  obtain ⟨d', e, h3⟩ := h.getV h1
  rw [h2] at e
  cases e
  exact h3
theorem at2i (x y : Int) (b : Bool) : ∃ z : Int, atI [V.int x, V.int y] (if b = true then 1 else 0) = some (.int z) ∧ (z = x ∨ z = y) := by
  cases b
  · exact ⟨x, rfl, .inl rfl⟩
  · exact ⟨y, rfl, .inr rfl⟩
theorem ixN_last {n : Nat} (h : 0 < n) : ixN n (-1) = some (n - 1) := by
  unfold ixN
  rw [if_neg (by omega), if_pos (by omega)]
  congr 1
  omega
theorem DtA.set {B : List Addr} {H : Hp} {v : V} {d : PyData} : ∀ {vs : List V} {ds : List PyData} (j : Nat), DtA B H vs ds → Dt B H v d → DtA B H (vs.set j v) (ds.set j d)
  | [], _, _, h, _ => by cases h; exact .nil
  | _ :: _, _, 0, h, hv => by cases h with | cons h1 h2 => exact .cons hv h2
  | _ :: _, _, j + 1, h, hv => by cases h with | cons h1 h2 => exact .cons h1 (DtA.set j h2 hv)
theorem Dt.lst2 {B : List Addr} {H : Hp} {v : V} {ds : List PyData} (h : Dt B H v (.list ds)) : ∃ a vs, v = .ref a ∧ a ∉ B ∧ H a = some (.lst vs) ∧ DtA B H vs ds := by
  cases h with
  | lst n hs ha => exact ⟨_, _, rfl, n, hs, ha⟩
theorem cut_fromV {α : Type} (xs : List α) {n : Int} (h0 : 0 ≤ n) : cutL xs (some n) none = xs.drop n.toNat := by
  unfold cutL
  have e : HT.sIx xs.length 0 (some n) = min n.toNat xs.length := by
    show (if n < 0 then (n + (xs.length : Int)).toNat else min n.toNat xs.length) = _
    rw [if_neg (by omega)]
  have e2 : HT.sIx xs.length xs.length none = xs.length := rfl
  rw [e, e2]
  rcases Nat.le_total n.toNat xs.length with h | h
  · rw [Nat.min_eq_left h, List.take_of_length_le (by rw [List.length_drop]; omega)]
  · rw [Nat.min_eq_right h, List.drop_of_length_le (Nat.le_refl _), List.drop_of_length_le h, List.take_nil]
theorem cut_toV {α : Type} (xs : List α) {n : Int} (h0 : 0 ≤ n) : cutL xs none (some n) = xs.take n.toNat := by
  unfold cutL
  have e : HT.sIx xs.length xs.length (some n) = min n.toNat xs.length := by
    show (if n < 0 then (n + (xs.length : Int)).toNat else min n.toNat xs.length) = _
    rw [if_neg (by omega)]
  have e2 : HT.sIx xs.length 0 none = 0 := rfl
  rw [e, e2, List.drop_zero, Nat.sub_zero]
  rcases Nat.le_total n.toNat xs.length with h | h
  · rw [Nat.min_eq_left h]
  · rw [Nat.min_eq_right h, List.take_length, List.take_of_length_le h]
theorem pg_lstK {X : Cx} (K : PySem.W.Frag) {pos : Pos} {es : List Expr} {kk : Nat} {t : TGs} {n : Nat} (hc : X.calm = true) (h : PGs X es t) (hn : (assignEach es X.env).length = n := by rfl) (hst : (assignEach es X.env).findIdx? (·.1) = none := by rfl) (h2 : X.K = K := by rfl) : PG X (.Tuple es kk pos) (gLst K n t) :=
  h2 ▸ pg_lst hc h hn hst
theorem pi_zipAK {X : Cx} (K : PySem.W.Frag) {e e2 : Expr} {ta : TA} {p pos tpos : Pos} {elts : List Expr} {kk : Nat} (hg : Gl X "zip") (hm : X.mg "zip" = none) (ha : PA X [e, e2] ta)
    (hs : starEach [e, e2] X.env = (false, eval e X.env) :: starEach [e2] X.env := by rfl) (hpl : (backTo pos (starEach [e2] X.env)).any (·.1) = false := by rfl) (hK : X.K = K := by rfl) :
    PI X (.Tuple elts kk tpos) (.Call (.Name "zip" p) [e, e2] [] pos) (RZ.iZipA K ta) := by
  subst hK
  exact RZ.pi_zipA hg hm ha hs hpl
theorem yesT {σ : L2.St} {H : Hp} {A N : Hp → Prop} (h : A H) : tYes σ H (fun b H3 => if b = true then A H3 else N H3) := by
  show if true = true then A H else N H
  rw [if_pos rfl]
  exact h
/-- any walk -/
theorem walk_W {J : It} {n : Nat} {G : Hp → Prop} {Y : Nat → Hp → V → Hp → Prop} (w : Walk J n G Y) {R : (Hp → Prop) → V → Hp → Prop} {Qd : Hp → Prop} {H0 : Hp} (Pv : Nat → Hp → Prop) (h0 : Pv 0 H0) (hG : ∀ i H, i ≤ n → Pv i H → G H) (hs : ∀ i x H H', i < n → Pv i H → Y i H x H' → R (Pv (i + 1)) x H') (hd : ∀ H, Pv n H → Qd H) :
    ∃ W : Nat → Nat → Hp → Prop, (∃ m, W 0 m H0) ∧ ∀ i m H, W i m H → (J.stop i H ∧ Qd H) ∨ (J.go i H ∧ ∃ Nx : Hp → Prop, (∀ H', Nx H' → ∃ m', m' < m ∧ W (i + 1) m' H') ∧ ∀ x H', J.yld i H x H' → R Nx x H') := by
  obtain ⟨w1, w2, w3⟩ := w
  refine ⟨fun i m H => i ≤ n ∧ m = n - i ∧ Pv i H, ⟨n, Nat.zero_le _, rfl, h0⟩, fun i m H h => ?_⟩
  obtain ⟨hi, hm, hp⟩ := h
  have g := hG i H hi hp
  by_cases e : i = n
  · subst e
    exact .inl ⟨w2 _ g, hd _ hp⟩
  · refine .inr ⟨w1 i H (by omega) g, Pv (i + 1), fun H' h' => ⟨n - (i + 1), by omega, by omega, rfl, h'⟩, fun x H' y => ?_⟩
    exact hs i x H H' (by omega) hp (w3 i H x H' (by omega) g y)
theorem colsOf {Pc : List Int → Prop} : ∀ {ds : List PyData}, (∀ d ∈ ds, ∃ c, d = eC c ∧ Pc c) → ∃ cs : List (List Int), ds = cs.map eC ∧ ∀ c ∈ cs, Pc c
  | [], _ => ⟨[], rfl, fun _ h => nomatch h⟩
  | d :: ds, h => by
    obtain ⟨m, e, hm⟩ := colsOf (ds := ds) fun x hx => h x (List.mem_cons_of_mem _ hx)
    obtain ⟨z, ez, hz⟩ := h d (List.mem_cons_self ..)
    refine ⟨z :: m, by rw [e, ez]; rfl, fun y hy => ?_⟩
    rcases List.mem_cons.mp hy with q | q
    · rw [q]; exact hz
    · exact hm y q
/-- a list whose items are new lists, each another one; what is in these was there ahead -/
structure Rws (B : List Addr) (H H' : Hp) (D : Addr) (rs : List Addr) (dss : List (List PyData)) : Prop where
  len : rs.length = dss.length
  nd : rs.Nodup
  nD : D ∉ rs
  fr : ∀ r ∈ rs, H r = none
  row : ∀ (i : Nat) r ds, rs[i]? = some r → dss[i]? = some ds → ∃ ws, H' r = some (.lst ws) ∧ DtA B H ws ds
section
variable {B C : List Addr} {H H' H2 : Hp} {D p : Addr} {rs : List Addr} {dss : List (List PyData)}
theorem Rws.s (h : Rws B H H' D rs dss) (s : Same H' H2) : Rws B H H2 D rs dss := ⟨h.len, h.nd, h.nD, h.fr, fun i r ds h1 h2 => by
  obtain ⟨ws, e, a⟩ := h.row i r ds h1 h2
  exact ⟨ws, s _ _ e, a⟩⟩
theorem Rws.up {o : HO} (h : Rws B H H' D rs dss) (n : p ∉ rs) : Rws B H (upd H' p o) D rs dss := ⟨h.len, h.nd, h.nD, h.fr, fun i r ds h1 h2 => by
  obtain ⟨ws, e, a⟩ := h.row i r ds h1 h2
  refine ⟨ws, ?_, a⟩
  rw [upd_ne (fun z => n (by rw [← z]; exact List.mem_of_getElem? h1))]
  exact e⟩
theorem Rws.go (h : Rws B H H' D rs dss) (g : Go C H' H2) (n : ∀ r ∈ rs, r ∉ C) : Rws B H H2 D rs dss := ⟨h.len, h.nd, h.nD, h.fr, fun i r ds h1 h2 => by
  obtain ⟨ws, e, a⟩ := h.row i r ds h1 h2
  exact ⟨ws, g.k _ _ (n r (List.mem_of_getElem? h1)) e, a⟩⟩
theorem Rws.tail {r : Addr} {ds : List PyData} (h : Rws B H H' D (r :: rs) (ds :: dss)) : Rws B H H' D rs dss := ⟨by simpa using h.len, (List.nodup_cons.mp h.nd).2, fun z => h.nD (List.mem_cons_of_mem _ z), fun x hx => h.fr x (List.mem_cons_of_mem _ hx), fun i x ds h1 h2 => h.row (i + 1) x ds h1 h2⟩
theorem Rws.dt (h : Rws B H H' D rs dss) (b : Bk B H) (s : Go B H H') : DtA B H' (rs.map V.ref) (dss.map PyData.list) := by
  refine DtA.mk (by rw [List.length_map, List.length_map]; exact h.len) fun i v d h1 h2 => ?_
  rw [List.getElem?_map] at h1 h2
  cases e1 : rs[i]? with
  | none => rw [e1] at h1; cases h1
  | some r =>
    cases e2 : dss[i]? with
    | none => rw [e2] at h2; cases h2
    | some ds =>
      rw [e1] at h1
      rw [e2] at h2
      cases h1
      cases h2
      obtain ⟨ws, e, a⟩ := h.row i r ds e1 e2
      exact .lst (b.ne (h.fr r (List.mem_of_getElem? e1))) e (a.g s)
end
/-- a comprehension of known values -/
theorem lc_vals {J : It} {n : Nat} {G : Hp → Prop} {Y : Nat → Hp → V → Hp → Prop} (w : Walk J n G Y) {g : TG} {tt : TT} {te : TE} {vs : List Nat} {σ : L2.St} {H1 : Hp} {D : Addr} {Qd : Hp → Prop}
    (hD : H1 D = none) (hG : ∀ H', Same H1 H' → G H') (hn : n ≤ 100000) (f : Nat → V)
    (hs : ∀ (i : Nat) (x : V) (H' H'' : Hp) (Ny : V → Hp → Prop) (Nn : Hp → Prop), i < n → Same H1 H' → Y i H' x H'' → (∀ H4, Same H' H4 → Ny (f i) H4) →
      g x (wipe σ vs) H'' fun σ2 H2 => wipe σ2 vs = wipe σ vs ∧ tt σ2 H2 fun b H3 => if b = true then te σ2 H3 Ny else Nn H3)
    (hd : ∀ (H' : Hp), Same H1 H' → H' D = some (.lst ((List.range n).map f)) → Qd H') :
    ∃ W : Nat → Nat → Hp → Prop, (∃ m, W 0 m (upd H1 D (.lst []))) ∧ ∀ i m H, W i m H →
      (J.stop i H ∧ Qd H) ∨ (J.go i H ∧ ∃ Nx : Hp → Prop, (∀ H', Nx H' → ∃ m', m' < m ∧ W (i + 1) m' H') ∧ ∀ x H', J.yld i H x H' → g x (wipe σ vs) H' fun σ2 H2 => wipe σ2 vs = wipe σ vs ∧ tt σ2 H2 fun b H3 =>
        if b = true then te σ2 H3 fun y H4 => ∃ acc, H4 D = some (.lst acc) ∧ acc.length < sizeLine ∧ Nx (upd H4 D (.lst (acc ++ [y]))) else Nx H3) := by
  refine lc_it w (fun i H' => Same H1 H' ∧ H' D = some (.lst ((List.range i).map f))) ⟨sm_new hD, upd_same⟩ (fun i H' _ h => hG H' h.1) (fun i x H' H'' hi h y => ?_) (fun H' h => hd H' h.1 h.2)
  obtain ⟨s1, eD⟩ := h
  refine hs i x H' H'' _ _ hi s1 y (fun H4 s4 => ?_)
  refine ⟨_, s4 _ _ eD, sz (by rw [List.length_map, List.length_range]; omega), sm_mut (s1.trans s4) hD, ?_⟩
  rw [upd_same, List.range_succ, List.map_append]
  rfl
/-- a comprehension of new lists -/
theorem lc_rows {J : It} {n : Nat} {G : Hp → Prop} {Y : Nat → Hp → V → Hp → Prop} (w : Walk J n G Y) {g : TG} {tt : TT} {te : TE} {vs : List Nat} {σ : L2.St} {H1 : Hp} {D : Addr} {Qd : Hp → Prop} (B : List Addr)
    (hD : H1 D = none) (hG : ∀ H', Same H1 H' → G H') (hn : n ≤ 100000) (e : Nat → List PyData)
    (hs : ∀ (i : Nat) (x : V) (H' H'' : Hp) (Ny : V → Hp → Prop) (Nn : Hp → Prop), i < n → Same H1 H' → Y i H' x H'' → (∀ r ws H4, Same H' H4 → H' r = none → H4 r = some (.lst ws) → DtA B H1 ws (e i) → Ny (.ref r) H4) →
      g x (wipe σ vs) H'' fun σ2 H2 => wipe σ2 vs = wipe σ vs ∧ tt σ2 H2 fun b H3 => if b = true then te σ2 H3 Ny else Nn H3)
    (hd : ∀ (H' : Hp) (rs : List Addr), Same H1 H' → H' D = some (.lst (rs.map V.ref)) → Rws B H1 H' D rs ((List.range n).map e) → Qd H') :
    ∃ W : Nat → Nat → Hp → Prop, (∃ m, W 0 m (upd H1 D (.lst []))) ∧ ∀ i m H, W i m H →
      (J.stop i H ∧ Qd H) ∨ (J.go i H ∧ ∃ Nx : Hp → Prop, (∀ H', Nx H' → ∃ m', m' < m ∧ W (i + 1) m' H') ∧ ∀ x H', J.yld i H x H' → g x (wipe σ vs) H' fun σ2 H2 => wipe σ2 vs = wipe σ vs ∧ tt σ2 H2 fun b H3 =>
        if b = true then te σ2 H3 fun y H4 => ∃ acc, H4 D = some (.lst acc) ∧ acc.length < sizeLine ∧ Nx (upd H4 D (.lst (acc ++ [y]))) else Nx H3) := by
  refine lc_it w (fun i H' => Same H1 H' ∧ ∃ rs, H' D = some (.lst (rs.map V.ref)) ∧ Rws B H1 H' D rs ((List.range i).map e)) ⟨sm_new hD, [], upd_same, ⟨rfl, List.nodup_nil, (fun h => nomatch h), (fun _ h => nomatch h), (fun i r ds h => by simp at h)⟩⟩ (fun i H' _ h => hG H' h.1) (fun i x H' H'' hi h y => ?_) (fun H' h => ?_)
  · obtain ⟨s1, rs, eD, R⟩ := h
    have hl : rs.length = i := by rw [R.len, List.length_map, List.length_range]
    refine hs i x H' H'' _ _ hi s1 y (fun r ws H4 s4 hr er ha => ?_)
    have nr : r ≠ D := fun z => by rw [z, eD] at hr; cases hr
    have nrs : r ∉ rs := fun z => by
      obtain ⟨j, hj, ej⟩ := List.getElem_of_mem z
      obtain ⟨ws', e', _⟩ := R.row j r (e j) (by rw [List.getElem?_eq_getElem hj, ej]) (by rw [List.getElem?_map, List.getElem?_range (by omega)]; rfl)
      rw [e'] at hr
      cases hr
    refine ⟨_, s4 _ _ eD, sz (by rw [List.length_map]; omega), sm_mut (s1.trans s4) hD, rs ++ [r], by rw [upd_same, List.map_append]; rfl, ?_⟩
    have R4 := (R.s s4).up (o := .lst (rs.map V.ref ++ [.ref r])) (R.nD)
    refine ⟨by simp [hl], ?_, ?_, fun z hz => ?_, fun j z ds h1 h2 => ?_⟩
    · rw [List.nodup_append]
      refine ⟨R.nd, by simp, fun a ha b hb => ?_⟩
      rw [List.mem_singleton.mp hb]
      exact fun q => nrs (by rw [← q]; exact ha)
    · intro q
      rcases List.mem_append.mp q with q | q
      · exact R.nD q
      · exact nr (List.mem_singleton.mp q).symm
    · rcases List.mem_append.mp hz with q | q
      · exact R.fr z q
      · rw [List.mem_singleton.mp q]
        exact s1.free hr
    · rw [List.getElem?_append] at h1
      rw [List.range_succ, List.map_append, List.getElem?_append, List.length_map, List.length_range] at h2
      by_cases c : j < rs.length
      · rw [if_pos c] at h1
        rw [if_pos (by omega)] at h2
        exact R4.row j z ds h1 h2
      · rw [if_neg c] at h1
        rw [if_neg (by omega)] at h2
        have j0 : j - rs.length = 0 := by
          cases q : j - rs.length with
          | zero => rfl
          | succ m => rw [q] at h1; simp at h1
        rw [j0] at h1
        rw [show j - i = 0 by omega] at h2
        cases h1
        cases h2
        refine ⟨ws, ?_, ha⟩
        rw [upd_ne nr]
        exact er
  · obtain ⟨s1, rs, eD, R⟩ := h
    exact hd H' rs s1 eD R
end Z

set_option Elab.async false
set_option linter.all false
set_option maxRecDepth 100000
set_option maxHeartbeats 400000
namespace Z
open PySem PySem.Spec PyProof.Rows L2
/-! ### a def that is called where nothing is being shown -/
structure FnG (P : Program) (w : World) (K : PySem.W.Frag) (mg : Str → Option Value) (base : Heap) (k : Nat) (f : Addr) (fd : FuncData) (ps : List Str) (sp : Sp) : Prop where
  run : ∀ (A : Around) (outer : List Env) (s : Shared) (H : Hp) (args : Args) (us : List Value) (vs : List V) (Q : VK) (E : XK), A.guards = some [] → Room k A → Env0 P w K mg base A outer s H → BindsTo s fd args (ps.zip us) → Vals vs us → sp vs H Q E → codeAny (model P w) A (Code.call (Value.ref f) args) (CR CX0 outer P w H s Q E) s
theorem fn_g {P : Program} {w : World} {K : PySem.W.Frag} {mg : Str → Option Value} {base : Heap} {x qual : Str} {st : Stmt} {f : Addr} {fd : FuncData} {N ps : List Str} {k : Nat} {sp : Sp} (F : Fun K x qual st f fd) (S : FnScope N ps (defScope st))
    (len : ∀ (vs : List V) (H : Hp) (Q : VK) (E : XK), sp vs H Q E → vs.length = ps.length)
    (hbody : ∀ (cdv : Value) (A : Around) (outer : List Env) (s : Shared) (H : Hp) (vs : List V) (Q : VK) (E : XK), A.guards = some [] → Room k (A.deeper (envOfC qual (defScope st) s.heap.objs.size f cdv)) → sp vs H Q E →
      ∃ t, PSs (cxOf CX0 P w K mg base N qual (defScope st) f cdv A outer s H E).nox (defBody st) t ∧ t { nx := fun _ H' => Q V.non H', rt := Q } (L2.start N vs) H) : FnG P w K mg base (k + 1) f fd ps sp := by
  obtain ⟨oc, od, kV, doc, pm, an, cdv, ct, osl, rfl, lk, hcd⟩ := F.ex
  refine ⟨fun A outer s H args us vs Q E hA hr e0 hb r hsp => ?_⟩
  have hl := len vs H Q E hsp
  have KX := PySem.W.Frag.In.keeps e0.mod.kin fun b o e => (e0.bs b o e).left
  have lim := Heap.NoLimit.keeps e0.mod.nolimit fun b o e => (e0.bs b o e).left
  refine codeAny_call_function (Room.depth hr) (KX f _ lk) rfl S.co S.gen rfl (PySem.W.codeRec_of KX hcd) (hb (model P w) A.in1 (fun e s' => CR CX0 outer P w H s Q E (Except.error e) s') _ (wpAny_newFunctionEnv_cells S.kind ?hk fun env he s1 x => ?_))
  case hk =>
    rintro ⟨n, v⟩ hy
    rcases S.par n (List.of_mem_zip hy).left with q | q
    · exact Or.inl q
    · exact Or.inr ⟨q, PySem.W.cellsFrom_some (defScope st).names (s.heap.objs.size + 1) [] (Or.inl q)⟩
  subst he
  refine ⟨Heap.NoLimit.keeps lim x.toInCall.keep, codeAny_func ?_⟩
  obtain ⟨t, ht, hq⟩ := hbody cdv A outer s H vs Q E hA (Room.deeper hr (envOfC qual (defScope st) s.heap.objs.size f cdv)) hsp
  have I := inv_start (CX := CX0) (E := E) S hr.hd e0 hl r x
  refine wpAny_mono ((PSs.nox ht).run [] s1 (L2.start N vs) H { nx := fun _ H' => Q V.non H', rt := Q } I hq) (fun fl s' hs => ?_) (fun e s' hs => hs)
  cases fl with
  | next =>
    obtain ⟨σ', H', J, q⟩ := hs
    exact ⟨V.non, H', J.os, J.bare, J.base, J.hok, rfl, q⟩
  | brk =>
    obtain ⟨_, _, _, q⟩ := hs
    exact q.elim
  | cont =>
    obtain ⟨_, _, _, q⟩ := hs
    exact q.elim
  | ret u =>
    obtain ⟨v, σ', H', J, rv, q⟩ := hs
    exact ⟨v, H', J.os, J.bare, J.base, J.hok, rv, q⟩
theorem law_call2 {P : Program} {w : World} {K : PySem.W.Frag} {mg mb : Str → Option Value} {k : Nat} {fa a : Addr} {fd : FuncData} {x : Str} {sp : Sp} {s₁ : Shared} {vs : List Value} {ns : List Int} (KX : K.In s₁.heap) (hns : s₁.heap.Ns mainGlobals mg) (hb : s₁.heap.Ns builtinsNs mb)
    (hbb : ∀ x : Str, x ≠ Str.ofString "__name__" → mb x = bootBuiltins x) (hlim : s₁.heap.NoLimit) (hg : s₁.gens = #[]) (ha : s₁.heap.get? a = some { cls := Value.type "list", data := Data.seq vs.toArray }) (hi : IntsAre vs ns) (hl : ns.length ≤ sizeLine) (hr : Room k callerA)
    (F : ∀ base : Heap, K.In base → base.Ns mainGlobals mg → FnG P w K mg base k fa fd [x] sp) (hbind : ∀ (s : Shared) (u : Value), BindsTo s fd { pos := [u] } [(x, u)])
    (hsp : ∀ H : Hp, Only H → SqL K H a (ns.map V.int) → sp [V.ref a] H (fun v _ => v = V.bl true) fun _ _ _ => False) :
    codeAny (model P w) callerA (Code.call (Value.ref fa) { pos := [Value.ref a] }) (fun r s' => r = Except.ok (Flow.ret (Value.bool true)) ∧ OldK s₁.heap s'.heap ∧ s'.os = s₁.os ∧ AllBare s'.gens) s₁ := by
  have rv := vals_ints hi
  have lenV := hi.length
  have core : ∀ H : Hp, Only H → SqL K H a (ns.map V.int) → HOk P w H s₁.heap → (∀ b, H b ≠ none → b = a) → (H a ≠ none → List.lookup a K = none) →
      codeAny (model P w) callerA (Code.call (Value.ref fa) { pos := [Value.ref a] }) (fun r s' => r = Except.ok (Flow.ret (Value.bool true)) ∧ OldK s₁.heap s'.heap ∧ s'.os = s₁.os ∧ AllBare s'.gens) s₁ := by
    intro H hO hS hok hA hK
    have noA : ∀ {b : Addr} {o : Obj} {es ep}, s₁.heap.get? b = some o → o.data = Data.dict es ep → H b = none := by
      intro b o es ep e d
      cases q : H b with
      | none => rfl
      | some u =>
        have e' := hA b (by rw [q]; exact fun z => nomatch z)
        subst e'
        rw [ha] at e
        cases e
        cases d
    have nsK : ∀ {b : Addr} {m : Str → Option Value}, s₁.heap.Ns b m → (hidT s₁.heap H).Ns b m := by
      rintro b m ⟨o, es, ep, e, d, r⟩
      exact ⟨o, es, ep, hidT_get e (noA e d), d, r⟩
    have hKb : K.In (hidT s₁.heap H) := by
      intro b o e
      refine hidT_get (KX b o e) ?_
      cases q : H b with
      | none => rfl
      | some u =>
        have e' := hA b (by rw [q]; exact fun z => nomatch z)
        subst e'
        rw [hK (by rw [q]; exact fun z => nomatch z)] at e
        cases e
    have hM : L2.Mod K mg (hidT s₁.heap H) := ⟨hKb, nsK hns, ⟨mb, nsK hb, hbb⟩, by
      obtain ⟨mc, h1, h2⟩ := hlim
      exact ⟨mc, nsK h1, h2⟩⟩
    have e0 : Env0 P w K mg (hidT s₁.heap H) callerA [] s₁ H := ⟨rfl, hM, fun b o e => of_hidT e, Nat.le_of_eq (hidT_size s₁.heap H), trivial, fun b hb => absurd (show b ∈ ([] : List Addr) from hb) (by simp), hok, AllBare.of_eq hg⟩
    refine codeAny_mono ((F _ hKb (nsK hns)).run callerA [] s₁ H { pos := [Value.ref a] } [Value.ref a] [V.ref a] (fun v _ => v = V.bl true) (fun _ _ _ => False) rfl hr e0 (hbind s₁ (Value.ref a)) (Paired.cons rfl Paired.nil) (hsp H hO hS)) fun r s' h => ?_
    cases r with
    | error e => exact False.elim h
    | ok fl =>
      cases fl with
      | next => exact False.elim h
      | brk => exact False.elim h
      | cont => exact False.elim h
      | ret u =>
        obtain ⟨v, H', os, bare, un, hok', r', q⟩ := h
        subst q
        have eu : u = Value.bool true := r'
        subst eu
        refine ⟨rfl, OldK.of_keep fun b o e => ?_, os, bare⟩
        cases q : H b with
        | none => exact un.keep b o e q (fun z => absurd (show b ∈ ([] : List Addr) from z) (by simp)) (by simp)
        | some u =>
          rcases hO b with z | ⟨ob, xs, z⟩
          · rw [q] at z
            cases z
          · have z2 := un.frzs b ob (HO.lst xs) z
            obtain ⟨e1, _⟩ := hok b (HO.frz ob (HO.lst xs)) z
            obtain ⟨e2, _⟩ := hok' b (HO.frz ob (HO.lst xs)) z2
            rw [e] at e1
            cases e1
            exact e2
  cases hk : List.lookup a K with
  | none =>
    refine core (fun b => if b = a then some (HO.frz { cls := Value.type "list", data := Data.seq vs.toArray } (HO.lst (ns.map V.int))) else none) (fun b => ?_) (Or.inl (Or.inr ⟨_, if_pos rfl⟩)) (fun b u z => ?_) (fun b z => ?_) (fun _ => hk)
    · by_cases hb : b = a
      · exact .inr ⟨_, _, if_pos hb⟩
      · exact .inl (if_neg hb)
    · by_cases hb : b = a
      · have z' := (if_pos hb).symm.trans z
        cases z'
        subst hb
        exact ⟨ha, by rw [List.length_map]; exact hl, vs, 0, rv, ha⟩
      · have z' := (if_neg hb).symm.trans z
        cases z'
    · by_cases hb : b = a
      · exact hb
      · exact absurd (if_neg hb) z
  | some o =>
    have e := KX a o hk
    rw [ha] at e
    cases e
    refine core (fun _ => none) (fun _ => .inl rfl) (Or.inr ⟨_, vs.toArray, 0, hk, rfl, rfl, rfl, by rw [List.size_toArray, lenV]; exact hl, rv⟩) (fun b u z => ?_) (fun b z => absurd rfl z) (fun z => absurd rfl z)
    cases z
theorem walk_of2 {l : PySem.W.OpenLaw} {n k : Nat} {q : Program} {loose : List Str} {XP : (Str → Option Value) → Heap → Prop} {YP : World → Heap → Prop} {d : DefRec} {K : Params → PySem.W.Frag} {sp : World → Sp} {x : Str} (hn : l.most = some n) (hn2 : n ≤ sizeLine) (hdf : d.params.defaults = []) (hr : Room k callerA)
    (hY : ∀ (w : World) (h : Heap), YP w h → (K w.params).In h)
    (F : ∀ (w : World) (mg : Str → Option Value) (fa : Addr) (h : Heap), (K w.params).In h → h.Ns mainGlobals mg → mg d.name = some (Value.ref fa) → ∃ fd, (∀ (s : Shared) (u : Value), BindsTo s fd { pos := [u] } [(x, u)]) ∧ ∀ base : Heap, (K w.params).In base → base.Ns mainGlobals mg → FnG l.prog w (K w.params) mg base k fa fd [x] (sp w))
    (hsp : ∀ (w : World) (H : Hp) (a : Addr) (ns : List Int), ns.length ≤ n → Only H → SqL (K w.params) H a (ns.map V.int) → sp w [V.ref a] H (fun v _ => v = V.bl true) fun _ _ _ => False) :
    PySem.W.WalkO q loose XP YP l.row.toRowW d [] fun f vs => call f vs :=
  Att.attach_call hn hdf fun w s₀ s₁ mg mb fa o pm cd doc a vs ns G Y ho hd hcd hmg hobj hints hlen hg => by
    have KX := hY w s₁.heap Y
    obtain ⟨fd, hb, hF⟩ := F w mg fa s₁.heap KX G.T.g hmg
    exact law_call2 KX G.T.g G.T.b G.T.builtins G.T.nolimit hg hobj hints (Nat.le_trans hlen hn2) hr hF hb (fun H hO hS => hsp w H a ns hlen hO hS)
/-! ### str of data -/
def rStrD (K : PySem.W.Frag) : List V → Hp → VK → Prop := fun xs H Q => ∃ (a : Addr) (d : PyData), xs = [.ref a] ∧ Dp K H (.ref a) d ∧ d.showable = true ∧ d.hasDict = false ∧ d.depth ≤ 40 ∧ d.shown.length ≤ sizeLine ∧ Q (.str d.shown) H
theorem cr_strD (K : PySem.W.Frag) {X : Cx} (hg : X.A.guards = some []) (hu : X.A.units + 64 < cLine) (hK : X.K = K := by rfl) : CallR X (.type "str") (rStrD K) := by
  subst hK
  intro pins s σ H xs us Q I r h
  obtain ⟨a, d, rfl, hd, h1, h2, h3, h4, q⟩ := h
  obtain ⟨u, rfl, ru⟩ := vals1 r
  have ru2 := ru
  obtain rfl : u = Value.ref a := ru
  obtain ⟨as, hr⟩ := Dp.reads I d _ _ hd ru2
  exact str_of_reads hr h1 (fun z => by rw [h2] at z; cases z) hg (by omega) (fun _ _ e => e) (fun h' u tk hk => ⟨.str d.shown, H, I.kept hk, ⟨u, rfl⟩, q⟩) h4
/-! ### how long a text is -/
structure Shw (d : PyData) (n : Nat) : Prop where
  a : d.showable = true
  b : d.hasDict = false
  c : d.shown.length ≤ n
theorem Shw.mono {d : PyData} {n m : Nat} (h : Shw d n) (l : n ≤ m) : Shw d m := ⟨h.a, h.b, Nat.le_trans h.c l⟩
theorem shw_all {n : Nat} : ∀ {ds : List PyData}, (∀ d ∈ ds, Shw d n) → PyData.showableAll ds = true ∧ PyData.hasDictAll ds = false ∧ ((PyData.shownAll ds).map (fun x => x.length)).sum ≤ n * ds.length ∧ (PyData.shownAll ds).length = ds.length
  | [], _ => ⟨by rw [PyData.showableAll], by rw [PyData.hasDictAll], by rw [PyData.shownAll]; simp, by rw [PyData.shownAll]; rfl⟩
  | d :: ds, h => by
    obtain ⟨h1, h2, h3, h4⟩ := shw_all (ds := ds) (n := n) fun x hx => h x (List.mem_cons_of_mem _ hx)
    have h0 := h d (List.mem_cons_self ..)
    refine ⟨?_, ?_, ?_, ?_⟩
    · rw [PyData.showableAll, h1, h0.a]; rfl
    · rw [PyData.hasDictAll, h2, h0.b]; rfl
    · rw [PyData.shownAll, List.map_cons, List.sum_cons, List.length_cons, Nat.mul_succ]
      have := h0.c
      omega
    · rw [PyData.shownAll, List.length_cons, List.length_cons, h4]
theorem shw_lst {ds : List PyData} {n : Nat} (h : ∀ d ∈ ds, Shw d n) : Shw (.list ds) (n * ds.length + 2 * ds.length + 3) := by
  obtain ⟨h1, h2, h3, h4⟩ := shw_all h
  refine ⟨by rw [PyData.showable]; exact h1, by rw [PyData.hasDict]; exact h2, ?_⟩
  rw [PyData.shown]
  have := listText_len_le (PyData.shownAll ds)
  rw [h4] at this
  omega
theorem shw_tup {ds : List PyData} {n : Nat} (h : ∀ d ∈ ds, Shw d n) : Shw (.tuple ds) (n * ds.length + 2 * ds.length + 3) := by
  obtain ⟨h1, h2, h3, h4⟩ := shw_all h
  refine ⟨by rw [PyData.showable]; exact h1, by rw [PyData.hasDict]; exact h2, ?_⟩
  rw [PyData.shown]
  have := tupleText_len_le (PyData.shownAll ds)
  rw [h4] at this
  omega
theorem shw_int {i : Int} (h : i.natAbs < 2 ^ 40) : Shw (.int i) 60 := by
  refine ⟨?_, by rw [PyData.hasDict], ?_⟩
  · rw [PyData.showable]
    refine decide_eq_true ?_
    rcases Nat.eq_zero_or_pos i.natAbs with z | z
    · rw [z]; decide
    · have := (Nat.log2_lt (by omega)).mpr h
      omega
  · rw [PyData.shown]
    have h2 := nat_repr_length_le (n := i.natAbs) (k := 40) (by decide) h
    rw [PySem.ofString_length]
    cases i with
    | ofNat m =>
      have e : toString (Int.ofNat m) = m.repr := rfl
      rw [e]
      have e : (Int.ofNat m).natAbs = m := rfl
      rw [e] at h2
      omega
    | negSucc m =>
      have e : toString (Int.negSucc m) = "-" ++ (m + 1).repr := rfl
      rw [e, String.length_append]
      have e : (Int.negSucc m).natAbs = m + 1 := rfl
      rw [e] at h2
      have : "-".length = 1 := rfl
      omega
theorem shw_eC {ns : List Int} (h : cIn (-1000000000) 1000000000 ns) (l : ns.length ≤ 10) : Shw (eC ns) 700 := by
  refine (shw_tup (n := 60) fun d hd => ?_).mono (by rw [List.length_map]; omega)
  obtain ⟨x, hx, rfl⟩ := List.mem_map.mp hd
  have := h x hx
  exact shw_int (by omega)
theorem shw_eI {ns : List Int} (h : cIn (-1000000000) 1000000000 ns) (l : ns.length ≤ 100) : Shw (eI ns) 7000 := by
  refine (shw_lst (n := 60) fun d hd => ?_).mono (by rw [List.length_map]; omega)
  obtain ⟨x, hx, rfl⟩ := List.mem_map.mp hd
  have := h x hx
  exact shw_int (by omega)
theorem shw_eP {cs : List (List Int)} (h : ∀ c ∈ cs, c.length ≤ 10 ∧ cIn (-1000000000) 1000000000 c) (l : cs.length ≤ 100) : Shw (eP cs) 71000 := by
  refine (shw_lst (n := 700) fun d hd => ?_).mono (by rw [List.length_map]; omega)
  obtain ⟨x, hx, rfl⟩ := List.mem_map.mp hd
  exact shw_eC (h x hx).2 (h x hx).1
theorem shw_eG {ps : List (List (List Int))} (h : ∀ p ∈ ps, p.length ≤ 100 ∧ ∀ c ∈ p, c.length ≤ 10 ∧ cIn (-1000000000) 1000000000 c) (l : ps.length ≤ 50) : Shw (eG ps) 4000000 := by
  refine (shw_lst (n := 71000) fun d hd => ?_).mono (by rw [List.length_map]; omega)
  obtain ⟨x, hx, rfl⟩ := List.mem_map.mp hd
  exact shw_eP (h x hx).2 (h x hx).1
end Z

set_option Elab.async false
set_option linter.all false
set_option maxRecDepth 100000
namespace Z
open PySem PySem.Spec PyProof.Rows L2
/-! ### str of anything -/
def rStrV (K : PySem.W.Frag) : List V → Hp → VK → Prop := fun xs H Q => rStrD K xs H Q ∨ (∃ i, xs = [.int i] ∧ i.natAbs.log2 < 1920 ∧ Q (.str (toString i)) H) ∨ (∃ a, xs = [.str a] ∧ Q (.str a) H) ∨ (∃ b : Bool, xs = [.bl b] ∧ Q (.str (if b then "True" else "False")) H) ∨ (xs = [.non] ∧ Q (.str "None") H)
theorem cr_strV (K : PySem.W.Frag) {X : Cx} (hg : X.A.guards = some []) (hu : X.A.units + 64 < cLine) (hK : X.K = K := by rfl) : CallR X (.type "str") (rStrV K) := by
  intro pins s σ H xs us Q I r h
  rcases h with h | h | h | h | h
  · exact cr_strD K hg hu hK pins s σ H xs us Q I r h
  · exact call_str_int pins s σ H xs us Q I r h
  · exact SkE.call_str_str pins s σ H xs us Q I r h
  · obtain ⟨b, rfl, q⟩ := h
    obtain ⟨u, rfl, ru⟩ := vals1 r
    cases ru
    exact PySem.P.str_of_bool ⟨.str _, H, I.tok _, ⟨_, rfl⟩, q⟩
  · obtain ⟨rfl, q⟩ := h
    obtain ⟨u, rfl, ru⟩ := vals1 r
    cases ru
    exact PySem.P.str_of_none ⟨.str _, H, I.tok _, ⟨_, rfl⟩, q⟩
def strT : PyData → Str
  | .str x => x
  | .none => "None"
  | .bool b => if b then "True" else "False"
  | .int i => toString i
  | d => d.shown
theorem str_dt {K : PySem.W.Frag} {B : List Addr} {H : Hp} {v : V} {d : PyData} {n k : Nat} {Q : VK} (h : Dt B H v d) (hs : Shw d n) (hn : n ≤ sizeLine) (sh : Sh d k) (hk : k ≤ 40) (q : Q (.str (strT d)) H) : rStrV K [v] H Q := by
  have hd := h
  cases h with
  | non => exact .inr (.inr (.inr (.inr ⟨rfl, q⟩)))
  | bl b => exact .inr (.inr (.inr (.inl ⟨b, rfl, q⟩)))
  | int i =>
    refine .inr (.inl ⟨i, rfl, ?_, q⟩)
    have := hs.a
    rw [PyData.showable] at this
    exact of_decide_eq_true this
  | str x => exact .inr (.inr (.inl ⟨x, rfl, q⟩))
  | lst a b c => exact .inl ⟨_, _, rfl, hd.dP, hs.a, hs.b, Nat.le_trans sh.2.1 hk, Nat.le_trans hs.c hn, q⟩
  | tup a b c => exact .inl ⟨_, _, rfl, hd.dP, hs.a, hs.b, Nat.le_trans sh.2.1 hk, Nat.le_trans hs.c hn, q⟩
theorem shw_str {x : Str} (h : ∀ c ∈ x.cps.toList, c < 16 ^ 8) : Shw (.str x) (10 * x.length + 2) := ⟨rfl, rfl, by rw [PyData.shown]; exact StrLaws.reprText_len x h⟩
theorem shw_none : Shw .none 10 := ⟨rfl, rfl, by decide +kernel⟩
theorem shw_bool (b : Bool) : Shw (.bool b) 10 := ⟨rfl, rfl, by cases b <;> decide +kernel⟩
theorem cps_of (s : String) : ∀ c ∈ (Str.ofString s).cps.toList, c < 16 ^ 8 := fun c hc => by
  rw [Str.ofString_eq_toList] at hc
  have hc' : c ∈ s.toList.map Char.toNat := by simpa using hc
  obtain ⟨x, _, rfl⟩ := List.mem_map.mp hc'
  exact x.val.toNat_lt
end Z

set_option Elab.async false
set_option linter.all false
set_option maxRecDepth 100000
namespace Z
open PySem PySem.Spec PyProof.Rows L2
def topS (i : Nat) : Stmt := PySem.Challenge.pw_fewcolours_k18_things_that_are_no_tables.main.body.getD i (.Pass ⟨0, 0, 0, 0⟩)
abbrev s_is_number : Stmt := topS 1
abbrev N_is_number : List Str := ["thing"]
theorem sc_is_number : FnScope N_is_number ["thing"] (defScope s_is_number) := ⟨rfl, rfl, rfl, by decide +kernel, rfl, by decide +kernel, by decide +kernel⟩
abbrev s_are_rising : Stmt := topS 2
abbrev N_are_rising : List Str := ["things", "thing", "a", "b"]
theorem sc_are_rising : FnScope N_are_rising ["things"] (defScope s_are_rising) := ⟨rfl, rfl, rfl, by decide +kernel, rfl, by decide +kernel, by decide +kernel⟩
abbrev s_is_colour : Stmt := topS 3
abbrev N_is_colour : List Str := ["thing", "wide", "number"]
theorem sc_is_colour : FnScope N_is_colour ["thing", "wide"] (defScope s_is_colour) := ⟨rfl, rfl, rfl, by decide +kernel, rfl, by decide +kernel, by decide +kernel⟩
abbrev s_apart : Stmt := topS 4
abbrev N_apart : List Str := ["one", "other", "a", "b"]
theorem sc_apart : FnScope N_apart ["one", "other"] (defScope s_apart) := ⟨rfl, rfl, rfl, by decide +kernel, rfl, by decide +kernel, by decide +kernel⟩
abbrev s_nearest : Stmt := topS 6
abbrev N_nearest : List Str := ["palette", "colour", "squares", "one"]
theorem sc_nearest : FnScope N_nearest ["palette", "colour"] (defScope s_nearest) := ⟨rfl, rfl, rfl, by decide +kernel, rfl, by decide +kernel, by decide +kernel⟩
abbrev s_are_rows : Stmt := topS 8
abbrev N_are_rows : List Str := ["thing", "row"]
theorem sc_are_rows : FnScope N_are_rows ["thing"] (defScope s_are_rows) := ⟨rfl, rfl, rfl, by decide +kernel, rfl, by decide +kernel, by decide +kernel⟩
abbrev s_are_begins : Stmt := topS 9
abbrev N_are_begins : List Str := ["begins", "low", "high"]
theorem sc_are_begins : FnScope N_are_begins ["begins", "low", "high"] (defScope s_are_begins) := ⟨rfl, rfl, rfl, by decide +kernel, rfl, by decide +kernel, by decide +kernel⟩
abbrev s_tells_all : Stmt := topS 10
abbrev N_tells_all : List Str := ["palette", "first", "last", "number"]
theorem sc_tells_all : FnScope N_tells_all ["palette", "first", "last", "number"] (defScope s_tells_all) := ⟨rfl, rfl, rfl, by decide +kernel, rfl, by decide +kernel, by decide +kernel⟩
abbrev s_shows_table : Stmt := topS 11
abbrev N_shows_table : List Str := ["palette", "low", "high", "table", "begins", "lasts", "begin", "number", "last"]
theorem sc_shows_table : FnScope N_shows_table ["palette", "low", "high", "table"] (defScope s_shows_table) := ⟨rfl, rfl, rfl, by decide +kernel, rfl, by decide +kernel, by decide +kernel⟩
abbrev s_first_places : Stmt := topS 13
abbrev N_first_places : List Str := ["palette", "pairs", "firsts", "place", "number", "colour"]
theorem sc_first_places : FnScope N_first_places ["palette"] (defScope s_first_places) := ⟨rfl, rfl, rfl, by decide +kernel, rfl, by decide +kernel, by decide +kernel⟩
abbrev s_begin_between : Stmt := topS 14
abbrev N_begin_between : List Str := ["left", "right", "both"]
theorem sc_begin_between : FnScope N_begin_between ["left", "right"] (defScope s_begin_between) := ⟨rfl, rfl, rfl, by decide +kernel, rfl, by decide +kernel, by decide +kernel⟩
abbrev s_line_table : Stmt := topS 15
abbrev N_line_table : List Str := ["palette", "low", "high", "firsts", "rows", "left", "right", "begin"]
theorem sc_line_table : FnScope N_line_table ["palette", "low", "high"] (defScope s_line_table) := ⟨rfl, rfl, rfl, by decide +kernel, rfl, by decide +kernel, by decide +kernel⟩
abbrev s_l_mix : Stmt := topS 17
abbrev N_l_mix : List Str := ["_law_cell", "_law_k", "_law_m"]
theorem sc_l_mix : FnScope N_l_mix ["_law_cell", "_law_k"] (defScope s_l_mix) := ⟨rfl, rfl, rfl, by decide +kernel, rfl, by decide +kernel, by decide +kernel⟩
abbrev s_l_left : Stmt := topS 18
abbrev N_l_left : List Str := ["_law_script", "_law_k", "_law_cell"]
theorem sc_l_left : FnScope N_l_left ["_law_script", "_law_k"] (defScope s_l_left) := ⟨rfl, rfl, rfl, by decide +kernel, rfl, by decide +kernel, by decide +kernel⟩
abbrev s_l_pick : Stmt := topS 19
abbrev N_l_pick : List Str := ["_law_left_here", "_law_many", "_law_digit"]
theorem sc_l_pick : FnScope N_l_pick ["_law_left_here", "_law_many"] (defScope s_l_pick) := ⟨rfl, rfl, rfl, by decide +kernel, rfl, by decide +kernel, by decide +kernel⟩
abbrev s_l_colour : Stmt := topS 20
abbrev N_l_colour : List Str := ["_law_left_here", "_law_kind", "_law_wide", "_law_span", "_law_place"]
theorem sc_l_colour : FnScope N_l_colour ["_law_left_here", "_law_kind"] (defScope s_l_colour) := ⟨rfl, rfl, rfl, by decide +kernel, rfl, by decide +kernel, by decide +kernel⟩
abbrev s_l_palette : Stmt := topS 21
abbrev N_l_palette : List Str := ["_law_left_here", "_law_kind", "_law_many", "_law_found", "_law_k", "_law_colour_here"]
theorem sc_l_palette : FnScope N_l_palette ["_law_left_here", "_law_kind"] (defScope s_l_palette) := ⟨rfl, rfl, rfl, by decide +kernel, rfl, by decide +kernel, by decide +kernel⟩
abbrev s_l_line : Stmt := topS 22
abbrev N_l_line : List Str := ["_law_left_here", "_law_palette_here", "_law_low"]
theorem sc_l_line : FnScope N_l_line ["_law_left_here"] (defScope s_l_line) := ⟨rfl, rfl, rfl, by decide +kernel, rfl, by decide +kernel, by decide +kernel⟩
abbrev s_l_apart : Stmt := topS 23
abbrev N_l_apart : List Str := ["_law_one", "_law_other", "_law_a", "_law_b"]
theorem sc_l_apart : FnScope N_l_apart ["_law_one", "_law_other"] (defScope s_l_apart) := ⟨rfl, rfl, rfl, by decide +kernel, rfl, by decide +kernel, by decide +kernel⟩
abbrev s_l_nearest : Stmt := topS 24
abbrev N_l_nearest : List Str := ["_law_palette_here", "_law_colour_here", "_law_k", "_law_one"]
theorem sc_l_nearest : FnScope N_l_nearest ["_law_palette_here", "_law_colour_here"] (defScope s_l_nearest) := ⟨rfl, rfl, rfl, by decide +kernel, rfl, by decide +kernel, by decide +kernel⟩
abbrev s_l_number_of : Stmt := topS 25
abbrev N_l_number_of : List Str := ["_law_table", "_law_n", "_law_begin", "_law_number"]
theorem sc_l_number_of : FnScope N_l_number_of ["_law_table", "_law_n"] (defScope s_l_number_of) := ⟨rfl, rfl, rfl, by decide +kernel, rfl, by decide +kernel, by decide +kernel⟩
abbrev s_l_whole : Stmt := topS 26
abbrev N_l_whole : List Str := ["_law_thing"]
theorem sc_l_whole : FnScope N_l_whole ["_law_thing"] (defScope s_l_whole) := ⟨rfl, rfl, rfl, by decide +kernel, rfl, by decide +kernel, by decide +kernel⟩
abbrev s_l_told_right : Stmt := topS 27
abbrev N_l_told_right : List Str := ["_law_palette_here", "_law_low", "_law_high", "_law_thing", "_law_row", "_law_begins", "_law_one", "_law_begin", "_law_number", "_law_other", "_law_n"]
theorem sc_l_told_right : FnScope N_l_told_right ["_law_palette_here", "_law_low", "_law_high", "_law_thing"] (defScope s_l_told_right) := ⟨rfl, rfl, rfl, by decide +kernel, rfl, by decide +kernel, by decide +kernel⟩
abbrev s_l_deep : Stmt := topS 28
abbrev N_l_deep : List Str := ["_law_deep_here", "_law_thing", "_law_turn"]
theorem sc_l_deep : FnScope N_l_deep ["_law_deep_here"] (defScope s_l_deep) := ⟨rfl, rfl, rfl, by decide +kernel, rfl, by decide +kernel, by decide +kernel⟩
abbrev s_l_odd : Stmt := topS 29
abbrev N_l_odd : List Str := ["_law_left_here", "_law_low", "_law_number", "_law_some"]
theorem sc_l_odd : FnScope N_l_odd ["_law_left_here", "_law_low", "_law_number"] (defScope s_l_odd) := ⟨rfl, rfl, rfl, by decide +kernel, rfl, by decide +kernel, by decide +kernel⟩
abbrev s_l_bent : Stmt := topS 30
abbrev N_l_bent : List Str := ["_law_left_here", "_law_table", "_law_low", "_law_rows", "_law_at", "_law_begin", "_law_number", "_law_odd_here", "_law_way"]
theorem sc_l_bent : FnScope N_l_bent ["_law_left_here", "_law_table", "_law_low"] (defScope s_l_bent) := ⟨rfl, rfl, rfl, by decide +kernel, rfl, by decide +kernel, by decide +kernel⟩
abbrev s_law : Stmt := topS 31
abbrev N_law : List Str := ["_law_script", "_law_k", "_law_left_here", "_law_palette_here", "_law_low", "_law_high", "_law_told", "_law_turn", "_law_thing", "_law_kept", "_law_found"]
theorem sc_law : FnScope N_law ["_law_script"] (defScope s_law) := ⟨rfl, rfl, rfl, by decide +kernel, rfl, by decide +kernel, by decide +kernel⟩
structure Tx (K : PySem.W.Frag) (mg : Str → Option Value) where
  f_is_number : Addr
  d_is_number : FuncData
  F_is_number : Fun K "is_number" "is_number" s_is_number f_is_number d_is_number
  b_is_number : Binds K d_is_number ["thing"] []
  g_is_number : mg "is_number" = some (.ref f_is_number)
  f_are_rising : Addr
  d_are_rising : FuncData
  F_are_rising : Fun K "are_rising" "are_rising" s_are_rising f_are_rising d_are_rising
  b_are_rising : Binds K d_are_rising ["things"] []
  g_are_rising : mg "are_rising" = some (.ref f_are_rising)
  f_is_colour : Addr
  d_is_colour : FuncData
  F_is_colour : Fun K "is_colour" "is_colour" s_is_colour f_is_colour d_is_colour
  b_is_colour : Binds K d_is_colour ["thing", "wide"] []
  g_is_colour : mg "is_colour" = some (.ref f_is_colour)
  f_apart : Addr
  d_apart : FuncData
  F_apart : Fun K "apart" "apart" s_apart f_apart d_apart
  b_apart : Binds K d_apart ["one", "other"] []
  g_apart : mg "apart" = some (.ref f_apart)
  f_nearest : Addr
  d_nearest : FuncData
  F_nearest : Fun K "nearest" "nearest" s_nearest f_nearest d_nearest
  b_nearest : Binds K d_nearest ["palette", "colour"] []
  g_nearest : mg "nearest" = some (.ref f_nearest)
  f_are_rows : Addr
  d_are_rows : FuncData
  F_are_rows : Fun K "are_rows" "are_rows" s_are_rows f_are_rows d_are_rows
  b_are_rows : Binds K d_are_rows ["thing"] []
  g_are_rows : mg "are_rows" = some (.ref f_are_rows)
  f_are_begins : Addr
  d_are_begins : FuncData
  F_are_begins : Fun K "are_begins" "are_begins" s_are_begins f_are_begins d_are_begins
  b_are_begins : Binds K d_are_begins ["begins", "low", "high"] []
  g_are_begins : mg "are_begins" = some (.ref f_are_begins)
  f_tells_all : Addr
  d_tells_all : FuncData
  F_tells_all : Fun K "tells_all" "tells_all" s_tells_all f_tells_all d_tells_all
  b_tells_all : Binds K d_tells_all ["palette", "first", "last", "number"] []
  g_tells_all : mg "tells_all" = some (.ref f_tells_all)
  f_shows_table : Addr
  d_shows_table : FuncData
  F_shows_table : Fun K "shows_table" "shows_table" s_shows_table f_shows_table d_shows_table
  b_shows_table : Binds K d_shows_table ["palette", "low", "high", "table"] []
  g_shows_table : mg "shows_table" = some (.ref f_shows_table)
  f_first_places : Addr
  d_first_places : FuncData
  F_first_places : Fun K "first_places" "first_places" s_first_places f_first_places d_first_places
  b_first_places : Binds K d_first_places ["palette"] []
  g_first_places : mg "first_places" = some (.ref f_first_places)
  f_begin_between : Addr
  d_begin_between : FuncData
  F_begin_between : Fun K "begin_between" "begin_between" s_begin_between f_begin_between d_begin_between
  b_begin_between : Binds K d_begin_between ["left", "right"] []
  g_begin_between : mg "begin_between" = some (.ref f_begin_between)
  f_line_table : Addr
  d_line_table : FuncData
  F_line_table : Fun K "line_table" "line_table" s_line_table f_line_table d_line_table
  b_line_table : Binds K d_line_table ["palette", "low", "high"] []
  g_line_table : mg "line_table" = some (.ref f_line_table)
  f_l_mix : Addr
  d_l_mix : FuncData
  F_l_mix : Fun K "_law_mix" "_law_mix" s_l_mix f_l_mix d_l_mix
  b_l_mix : Binds K d_l_mix ["_law_cell", "_law_k"] []
  g_l_mix : mg "_law_mix" = some (.ref f_l_mix)
  f_l_left : Addr
  d_l_left : FuncData
  F_l_left : Fun K "_law_left" "_law_left" s_l_left f_l_left d_l_left
  b_l_left : Binds K d_l_left ["_law_script", "_law_k"] []
  g_l_left : mg "_law_left" = some (.ref f_l_left)
  f_l_pick : Addr
  d_l_pick : FuncData
  F_l_pick : Fun K "_law_pick" "_law_pick" s_l_pick f_l_pick d_l_pick
  b_l_pick : Binds K d_l_pick ["_law_left_here", "_law_many"] []
  g_l_pick : mg "_law_pick" = some (.ref f_l_pick)
  f_l_colour : Addr
  d_l_colour : FuncData
  F_l_colour : Fun K "_law_colour" "_law_colour" s_l_colour f_l_colour d_l_colour
  b_l_colour : Binds K d_l_colour ["_law_left_here", "_law_kind"] []
  g_l_colour : mg "_law_colour" = some (.ref f_l_colour)
  f_l_palette : Addr
  d_l_palette : FuncData
  F_l_palette : Fun K "_law_palette" "_law_palette" s_l_palette f_l_palette d_l_palette
  b_l_palette : Binds K d_l_palette ["_law_left_here", "_law_kind"] []
  g_l_palette : mg "_law_palette" = some (.ref f_l_palette)
  f_l_line : Addr
  d_l_line : FuncData
  F_l_line : Fun K "_law_line" "_law_line" s_l_line f_l_line d_l_line
  b_l_line : Binds K d_l_line ["_law_left_here"] []
  g_l_line : mg "_law_line" = some (.ref f_l_line)
  f_l_apart : Addr
  d_l_apart : FuncData
  F_l_apart : Fun K "_law_apart" "_law_apart" s_l_apart f_l_apart d_l_apart
  b_l_apart : Binds K d_l_apart ["_law_one", "_law_other"] []
  g_l_apart : mg "_law_apart" = some (.ref f_l_apart)
  f_l_nearest : Addr
  d_l_nearest : FuncData
  F_l_nearest : Fun K "_law_nearest" "_law_nearest" s_l_nearest f_l_nearest d_l_nearest
  b_l_nearest : Binds K d_l_nearest ["_law_palette_here", "_law_colour_here"] []
  g_l_nearest : mg "_law_nearest" = some (.ref f_l_nearest)
  f_l_number_of : Addr
  d_l_number_of : FuncData
  F_l_number_of : Fun K "_law_number_of" "_law_number_of" s_l_number_of f_l_number_of d_l_number_of
  b_l_number_of : Binds K d_l_number_of ["_law_table", "_law_n"] []
  g_l_number_of : mg "_law_number_of" = some (.ref f_l_number_of)
  f_l_whole : Addr
  d_l_whole : FuncData
  F_l_whole : Fun K "_law_whole" "_law_whole" s_l_whole f_l_whole d_l_whole
  b_l_whole : Binds K d_l_whole ["_law_thing"] []
  g_l_whole : mg "_law_whole" = some (.ref f_l_whole)
  f_l_told_right : Addr
  d_l_told_right : FuncData
  F_l_told_right : Fun K "_law_told_right" "_law_told_right" s_l_told_right f_l_told_right d_l_told_right
  b_l_told_right : Binds K d_l_told_right ["_law_palette_here", "_law_low", "_law_high", "_law_thing"] []
  g_l_told_right : mg "_law_told_right" = some (.ref f_l_told_right)
  f_l_deep : Addr
  d_l_deep : FuncData
  F_l_deep : Fun K "_law_deep" "_law_deep" s_l_deep f_l_deep d_l_deep
  b_l_deep : Binds K d_l_deep ["_law_deep_here"] []
  g_l_deep : mg "_law_deep" = some (.ref f_l_deep)
  f_l_odd : Addr
  d_l_odd : FuncData
  F_l_odd : Fun K "_law_odd" "_law_odd" s_l_odd f_l_odd d_l_odd
  b_l_odd : Binds K d_l_odd ["_law_left_here", "_law_low", "_law_number"] []
  g_l_odd : mg "_law_odd" = some (.ref f_l_odd)
  f_l_bent : Addr
  d_l_bent : FuncData
  F_l_bent : Fun K "_law_bent" "_law_bent" s_l_bent f_l_bent d_l_bent
  b_l_bent : Binds K d_l_bent ["_law_left_here", "_law_table", "_law_low"] []
  g_l_bent : mg "_law_bent" = some (.ref f_l_bent)
  z_abs : mg "abs" = none
  z_all : mg "all" = none
  z_bool : mg "bool" = none
  z_enumerate : mg "enumerate" = none
  z_int : mg "int" = none
  z_isinstance : mg "isinstance" = none
  z_len : mg "len" = none
  z_list : mg "list" = none
  z_max : mg "max" = none
  z_min : mg "min" = none
  z_range : mg "range" = none
  z_sorted : mg "sorted" = none
  z_str : mg "str" = none
  z_sum : mg "sum" = none
  z_tuple : mg "tuple" = none
  z_zip : mg "zip" = none
section
variable {P : Program} {w : World} {K : PySem.W.Frag} {mg : Str → Option Value} {base : Heap}
/-! ### mix -/
def spMix : Sp := fun vs H Q _ => ∃ c n : Int, vs = [.int c, .int n] ∧ 0 ≤ n ∧ n < 2000000000 ∧ ∀ r : Int, 0 ≤ r → r < 1999999973 → Q (.int r) H
theorem ok_l_mix (T : Tx K mg) {k : Nat} : FnOk P w K mg base CX0 (k + 1) T.f_l_mix T.d_l_mix ["_law_cell", "_law_k"] spMix := by
  refine T.F_l_mix.ok sc_l_mix (fun vs H Q E h => ?_) (fun cdv A outer s H vs Q E hr h => ?_)
  · obtain ⟨c, n, rfl, _⟩ := h
    rfl
  · obtain ⟨c, n, rfl, h1, h2, q⟩ := h
    refine ⟨_, (pss_cons (ps_set (i := 2) sc_l_mix.nd rfl (.inl rfl) (pe_op op_mod (pe_op op_mul (pe_op op_add (pe_op op_add (pe_op op_mod (pv 0) pe_int) (pe_op op_mul (pe_op op_mul (pv 1) (pv 1)) pe_int)) pe_int) pe_int) pe_int))
      (pss_one (ps_ret (pe_op op_mod (pe_op op_mul (pv 2) (pv 2)) pe_int)))), ?_⟩
    refine ⟨.int c, rfl, _, _, rfl, rfl, md (by decide), .int n, rfl, .int n, rfl, _, _, rfl, rfl, .inl ⟨by omega, by omega⟩, _, _, rfl, rfl, .inr ⟨by decide, by decide⟩, _, _, rfl, rfl, _, _, rfl, rfl, _, _, rfl, rfl, .inr ⟨by decide, by decide⟩, _, _, rfl, rfl, md (by decide), ?_⟩
    refine ⟨_, rfl, _, rfl, _, _, rfl, rfl, .inl ⟨?_, ?_⟩, _, _, rfl, rfl, md (by decide), ?_⟩
    · omega
    · omega
    · exact q _ (Int.emod_nonneg _ (by decide)) (Int.emod_lt_of_pos _ (by decide))
/-! ### left -/
def spLeft (K : PySem.W.Frag) : Sp := fun vs H Q _ => ∃ (a : Addr) (ns : List Int) (n : Int), vs = [.ref a, .int n] ∧ SqL K H a (ns.map V.int) ∧ 0 ≤ n ∧ ∀ (p : Addr) (x y : Int), H p = none → 0 ≤ x → Q (.ref p) (upd H p (.lst [.int x, .int y, .int 0]))
theorem left_end {c n : Int} {H : Hp} {Q : VK} (q : ∀ (p : Addr) (x y : Int), H p = none → 0 ≤ x → Q (.ref p) (upd H p (.lst [.int x, .int y, .int 0]))) (p : Addr) (hp : H p = none) (b : Bool) :
    Q (.ref p) (upd H p (.lst [.int ((if c < 0 then -c else c) * (if b = true then 1 else 0)), .int (c + 1000003 * n), .int 0])) := by
  refine q p _ _ hp ?_
  cases b <;> simp <;> split <;> omega
theorem ok_l_left (T : Tx K mg) {k : Nat} : FnOk P w K mg base CX0 (k + 1) T.f_l_left T.d_l_left ["_law_script", "_law_k"] (spLeft K) := by
  refine T.F_l_left.ok sc_l_left (fun vs H Q E h => ?_) (fun cdv A outer s H vs Q E hr h => ?_)
  · obtain ⟨a, ns, n, rfl, _⟩ := h
    rfl
  · obtain ⟨a, ns, n, rfl, hS, h1, q⟩ := h
    refine ⟨_, (pss_cons (ps_set (i := 2) sc_l_left.nd rfl (.inl rfl) (pe_ifExp (pt_cmpR op_lt (pv 1) (pe_callB (len_K K) (by rfl) T.z_len PySem.boot_len (pa_cons (pv 0) pa_nil)) (nomark _)) (pe_ix (ix_listK K) (pv 0) (pv 1) (fun _ _ => rfl)) pe_int))
      (pss_one (ps_ret (pe_lst (pa_cons (pe_op op_mul (pe_callB call_abs (by rfl) T.z_abs (by decide +kernel) (pa_cons (pv 2) pa_nil)) (pe_callTy call_int1 (by rfl) T.z_int (by decide +kernel) (pa_cons (pe_cmpR op_ge (pe_callB call_abs (by rfl) T.z_abs (by decide +kernel) (pa_cons (pv 2) pa_nil)) (pe_op op_pow pe_int pe_int) (nomark _)) pa_nil))) (pa_cons (pe_op op_add (pv 2) (pe_op op_mul pe_int (pv 1))) (pa_cons pe_int pa_nil))))))), ?_⟩
    refine ⟨_, rfl, _, rfl, a, _, rfl, .inl hS, _, _, rfl, rfl, _, rfl, ite2 (fun e => ?_) (fun e => ?_)⟩
    · have e1 : n < (ns.map V.int).length := of_decide_eq_true e
      rw [List.length_map] at e1
      have g : atI (ns.map V.int) n = some (.int (ns[n.toNat]'(by omega))) := at0 h1 (by rw [List.getElem?_map, List.getElem?_eq_getElem]; rfl)
      refine ⟨_, rfl, _, rfl, a, _, _, _, rfl, rfl, hS, g, ?_⟩
      exact ⟨_, rfl, _, rfl, _, rfl, _, rfl, _, _, rfl, rfl, ⟨by decide, by decide, by decide⟩, _, _, rfl, rfl, .inr ⟨_, rfl, _, _, rfl, rfl, .inr (bit_ok _), _, rfl, _, rfl, _, _, rfl, rfl, .inl ⟨by decide, by decide⟩, _, _, rfl, rfl, (by show 3 ≤ sizeLine; decide), fun p hp => left_end q p hp _⟩⟩
    · exact ⟨_, rfl, _, rfl, _, rfl, _, rfl, _, _, rfl, rfl, ⟨by decide, by decide, by decide⟩, _, _, rfl, rfl, .inr ⟨_, rfl, _, _, rfl, rfl, .inr (bit_ok _), _, rfl, _, rfl, _, _, rfl, rfl, .inl ⟨by decide, by decide⟩, _, _, rfl, rfl, (by show 3 ≤ sizeLine; decide), fun p hp => left_end q p hp _⟩⟩
/-! ### pick -/
def spPick : Sp := fun vs H Q _ => ∃ (L : Addr) (m : Int) (n : Nat), vs = [.ref L, .int m] ∧ Lf L H n ∧ n < 1000000000 ∧ 0 < m ∧ m < 1073741824 ∧ ∀ (r : Int) (H' : Hp), Go [L] H H' → Lf L H' (n + 1) → 0 ≤ r → r < m → Q (.int r) H'
theorem ok_l_pick (T : Tx K mg) {k : Nat} : FnOk P w K mg base CX0 (k + 2) T.f_l_pick T.d_l_pick ["_law_left_here", "_law_many"] spPick := by
  refine T.F_l_pick.ok sc_l_pick (fun vs H Q E h => ?_) (fun cdv A outer s H vs Q E hr h => ?_)
  · obtain ⟨L, m, n, rfl, _⟩ := h
    rfl
  · obtain ⟨L, m, n, rfl, ⟨a, b, c, hL, a0, c0, cn⟩, hn, m0, m1, q⟩ := h
    refine ⟨_, (pss_cons (ps_asg (pe_op op_add (pe_ix (ix_listK K) (pv 0) pe_int (fun _ _ => rfl)) pe_int) (pg_sub (pv 0) pe_int set_list))
      (pss_cons (ps_if (pt_cmpR op_gt (pe_ix (ix_listK K) (pv 0) pe_int (fun _ _ => rfl)) pe_int (nomark _)) (pss_cons (ps_set (i := 2) sc_l_pick.nd rfl (.inl rfl) (pe_op op_mod (pe_ix (ix_listK K) (pv 0) pe_int (fun _ _ => rfl)) (pv 1)))
      (pss_cons (ps_asg (pe_op op_fdiv (pe_ix (ix_listK K) (pv 0) pe_int (fun _ _ => rfl)) (pv 1)) (pg_sub (pv 0) pe_int set_list))
      (pss_one (ps_ret (pv 2))))) pss_nil)
      (pss_one (ps_ret (pe_op op_mod (pe_op op_fdiv (pe_call (ok_l_mix T (k := k)) hr (by rfl) T.g_l_mix T.F_l_mix.kp T.b_l_mix .nil pass0 (pa_cons (pe_call (ok_l_mix T (k := k)) hr (by rfl) T.g_l_mix T.F_l_mix.kp T.b_l_mix .nil pass0 (pa_cons (pe_ix (ix_listK K) (pv 0) pe_int (fun _ _ => rfl)) (pa_cons (pe_ix (ix_listK K) (pv 0) pe_int (fun _ _ => rfl)) pa_nil))) (pa_cons (pe_op op_add (pe_ix (ix_listK K) (pv 0) pe_int (fun _ _ => rfl)) pe_int) pa_nil))) pe_int) (pv 1)))))), ?_⟩
    refine ⟨_, rfl, L, _, 2, .int c, rfl, rfl, SqL.of hL, rfl, _, _, rfl, rfl, _, rfl, L, _, _, 2, rfl, rfl, hL, rfl, ?_⟩
    generalize hH : upd H L (.lst (List.set [V.int a, V.int b, V.int c] 2 (V.int (c + 1)))) = H1
    have hL1 : H1 L = some (.lst [.int a, .int b, .int (c + 1)]) := by rw [← hH]; exact upd_same
    have g1 : Go [L] H H1 := by rw [← hH]; exact Go.refl.at (List.mem_singleton.mpr rfl)
    refine ⟨_, rfl, L, _, 0, .int a, rfl, rfl, SqL.of hL1, rfl, _, _, rfl, rfl, _, rfl, ite2 (fun e => ?_) (fun e => ?_)⟩
    · have e1 : 0 < a := of_decide_eq_true e
      refine ⟨_, rfl, L, _, 0, .int a, rfl, rfl, SqL.of hL1, rfl, _, rfl, _, _, rfl, rfl, md m0, ?_⟩
      refine ⟨_, rfl, L, _, 0, .int a, rfl, rfl, SqL.of hL1, rfl, _, rfl, _, _, rfl, rfl, ⟨m0, m1⟩, _, rfl, L, _, _, 0, rfl, rfl, hL1, rfl, ?_⟩
      refine ⟨_, rfl, ?_⟩
      exact q _ _ (g1.at (List.mem_singleton.mpr rfl)) ⟨a / m, b, c + 1, upd_same, Int.ediv_nonneg a0 (by omega), by omega, by omega⟩ (Int.emod_nonneg _ (by omega)) (Int.emod_lt_of_pos _ m0)
    · refine ⟨_, rfl, L, _, 1, .int b, rfl, rfl, SqL.of hL1, rfl, _, rfl, L, _, 2, .int (c + 1), rfl, rfl, SqL.of hL1, rfl, _, _, rfl, by omega, by omega, fun r1 _ _ => ?_⟩
      refine ⟨_, rfl, L, _, 2, .int (c + 1), rfl, rfl, SqL.of hL1, rfl, _, _, rfl, rfl, _, _, rfl, by omega, by omega, fun r2 _ _ => ?_⟩
      refine ⟨_, _, rfl, rfl, ⟨by decide, by decide⟩, _, rfl, _, _, rfl, rfl, md m0, ?_⟩
      exact q _ _ g1 ⟨a, b, c + 1, hL1, a0, by omega, by omega⟩ (Int.emod_nonneg _ (by omega)) (Int.emod_lt_of_pos _ m0)
/-! ### colour -/
def spColour : Sp := fun vs H Q _ => ∃ (L : Addr) (B : List Addr) (n : Nat) (kv : V) (wd sp : Int), vs = [.ref L, kv] ∧ Lf L H n ∧ L ∈ B ∧ Bk B H ∧ n < 100000000 ∧ Dt [L] H kv (eC [wd, sp]) ∧ 0 ≤ wd ∧ wd ≤ 5 ∧ 1 ≤ sp ∧ sp ≤ 1000 ∧
  ∀ (v : V) (H' : Hp) (ns : List Int), Go [L] H H' → Lf L H' (n + 10) → Dt B H' v (eC ns) → (ns.length : Int) = wd → cIn 0 999 ns → Q v H'
theorem ok_l_colour (T : Tx K mg) {k : Nat} : FnOk P w K mg base CX0 (k + 3) T.f_l_colour T.d_l_colour ["_law_left_here", "_law_kind"] spColour := by
  refine T.F_l_colour.ok sc_l_colour (fun vs H Q E h => ?_) (fun cdv A outer s H vs Q E hr h => ?_)
  · obtain ⟨L, B, n, kv, wd, sp, rfl, _⟩ := h
    rfl
  · obtain ⟨L, B, n, kv, wd, sp, rfl, hL, LB, hB, hn, hk, w0, w1, s0, s1, q⟩ := h
    obtain ⟨ka, rfl, nk, hkT⟩ := hk.col
    refine ⟨_, (pss_cons (ps_asg (pv 1) (pg_tupK K (n := 2) rfl (pgs_cons (pg_name (i := 2) sc_l_colour.nd rfl (.inl rfl)) (pgs_cons (pg_name (i := 3) sc_l_colour.nd rfl (.inr rfl)) pgs_nil))))
      (pss_one (ps_ret (pe_callTy (tuple_K K) (by rfl) T.z_tuple (by decide +kernel) (pa_cons (pe_lc (own := [("_law_place", 4)]) (by rfl) sc_l_colour.nd (pi_range1 (by rfl) T.z_range (pa_cons (pv 2) pa_nil)) (blkOk_by (own := [("_law_place", 4)]) (N := N_l_colour) (sc := defScope s_l_colour) (by decide +kernel)) (fun _ _ _ _ _ => (pg_name (i := 4) sc_l_colour.nd rfl (.inl rfl))) (fun _ _ _ _ _ => pts_nil) (fun _ _ _ _ _ => (pe_ix (ix_listK K) (pe_lst (pa_cons (pe_call (ok_l_pick T (k := k)) hr (by rfl) T.g_l_pick T.F_l_pick.kp T.b_l_pick .nil pass0 (pa_cons (pv 0) (pa_cons (pv 3) pa_nil))) (pa_cons pe_int pa_nil))) (pe_callTy call_int1 (by rfl) T.z_int (by decide +kernel) (pa_cons (pe_cmpR op_eq (pe_call (ok_l_pick T (k := k)) hr (by rfl) T.g_l_pick T.F_l_pick.kp T.b_l_pick .nil pass0 (pa_cons (pv 0) (pa_cons pe_int pa_nil))) pe_int (nomark _)) pa_nil)) (fun _ _ => rfl)))) pa_nil))))), ?_⟩
    refine ⟨_, rfl, ka, [.int wd, .int sp], rfl, SqT.of hkT, rfl, .int wd, _, rfl, .int sp, _, rfl, rfl, ?_⟩
    refine ⟨_, rfl, wd, rfl, by omega, by omega, fun D hD => ?_⟩
    refine lc_range (lo := 0) (n := wd.toNat) (fun i H' => ∃ ns : List Int, ns.length = i ∧ cIn 0 999 ns ∧ Go [L] H H' ∧ Lf L H' (n + 2 * i) ∧ H' D = some (.lst (ns.map V.int)))
      ⟨[], rfl, cIn.nil, Go.new hD, hL.new hD, upd_same⟩ (fun i H1 hi h1 => ?_) (fun H1 h1 => ?_)
    · obtain ⟨ns, en, cn, g, l, eD⟩ := h1
      have nD : D ∉ [L] := hL.bk.ne hD
      refine ⟨rfl, lc_yes ?_⟩
      refine ⟨_, rfl, _, rfl, L, sp, n + 2 * i, rfl, l, by omega, by omega, by omega, fun r1 H2 g2 l2 a1 b1 => ?_⟩
      refine ⟨(by show 2 ≤ sizeLine; decide), fun p hp => ?_⟩
      refine ⟨_, rfl, L, 8, n + 2 * i + 1, rfl, l2.new hp, by omega, by decide, by decide, fun r2 H3 g3 l3 a2 b2 => ?_⟩
      have e3 : H3 p = some (.lst [.int r1, .int 999]) := g3.k p _ (l2.bk.ne hp) upd_same
      refine ⟨rfl, .inr ⟨_, rfl, p, _, _, _, rfl, rfl, SqL.of e3, at2 _ _ _, ns.map V.int, ?_⟩⟩
      have gg : Go [L] H1 H3 := (g2.trans (Go.new hp)).trans g3
      obtain ⟨x, ex, x0, x1⟩ : ∃ x : Int, (if decide (V.int r2 = V.int 0) = true then V.int 999 else V.int r1) = .int x ∧ 0 ≤ x ∧ x ≤ 999 := by
        by_cases hb : decide (V.int r2 = V.int 0) = true
        · rw [if_pos hb]
          exact ⟨999, rfl, by decide, by decide⟩
        · rw [if_neg hb]
          exact ⟨r1, rfl, by omega, by omega⟩
      refine ⟨gg.k D _ nD eD, sz (by rw [List.length_map]; omega), ns ++ [x], ?_, cn.app x0 x1, (g.trans gg).mut hD, (l3.up (hL.ne hD)).mono (by omega), ?_⟩
      · rw [List.length_append]
        simp
        omega
      · rw [upd_same, List.map_append, ex]
        rfl
    · obtain ⟨ns, en, cn, g, l, eD⟩ := h1
      refine ⟨D, _, rfl, .inl ⟨SqL.of eD, fun t ht => ?_⟩⟩
      exact q _ _ ns (g.trans (Go.new ht)) ((l.new ht).mono (by omega)) (Dt.ofCol ((hB.go g).ne ht) upd_same) (by omega) cn
/-! ### apart, both ways -/
def ap (a b : List Int) : Int := ((a.zip b).map fun p => (p.1 - p.2) ^ 2).sum
theorem ap_len (a b : List Int) : ((a.zip b).map fun p => (p.1 - p.2) ^ 2).length = min a.length b.length := by simp
theorem sq_ok {x y : Int} (h1 : -100000000 ≤ x) (h2 : x ≤ 100000000) (h3 : -100000000 ≤ y) (h4 : y ≤ 100000000) : CPow (x - y) 2 := ⟨by decide, by decide, by omega⟩
theorem zat {a b : List Int} {i : Nat} {f : Int × Int → PyData} (h1 : i < a.length) (h2 : i < b.length) : ((a.zip b).map f)[i]? = some (f (a[i], b[i])) := by
  rw [List.getElem?_map, List.getElem?_eq_getElem (by simp; omega)]
  simp
def spApart : Sp := fun vs H Q _ => ∃ (B : List Addr) (x y : V) (a b : List Int), vs = [x, y] ∧ Dt B H x (eC a) ∧ Dt B H y (eC b) ∧ a.length = b.length ∧ b.length ≤ 100 ∧ cIn (-100000000) 100000000 a ∧ cIn (-100000000) 100000000 b ∧ ∀ H', Same H H' → Q (.int (ap a b)) H'
theorem ok_apart (T : Tx K mg) {k : Nat} : FnOk P w K mg base CX0 (k + 1) T.f_apart T.d_apart ["one", "other"] spApart := by
  refine T.F_apart.ok sc_apart (fun vs H Q E h => ?_) (fun cdv A outer s H vs Q E hr h => ?_)
  · obtain ⟨B, x, y, a, b, rfl, _⟩ := h
    rfl
  · obtain ⟨B, x, y, a, b, rfl, ha, hb, hl, hz, ca, cb, q⟩ := h
    obtain ⟨pa, rfl, na, ta⟩ := ha.col
    obtain ⟨pb, rfl, nb, tb⟩ := hb.col
    refine ⟨_, (pss_one (ps_ret (pe_callB (cr_sumK K rfl) (by rfl) T.z_sum (by decide +kernel) (pa_cons (pe_lc (own := [("a", 2), ("b", 3)]) (by rfl) sc_apart.nd (RZ.pi_zipA (by rfl) T.z_zip (pa_cons (pv 0) (pa_cons (pv 1) pa_nil))) (blkOk_by (own := [("a", 2), ("b", 3)]) (N := N_apart) (sc := defScope s_apart) (by decide +kernel)) (fun _ _ _ _ _ => (pg_tupK K (n := 2) rfl (pgs_cons (pg_name (i := 2) sc_apart.nd rfl (.inl rfl)) (pgs_cons (pg_name (i := 3) sc_apart.nd rfl (.inl rfl)) pgs_nil)))) (fun _ _ _ _ _ => pts_nil) (fun _ _ _ _ _ => (pe_op op_pow (pe_op op_sub (pv 2) (pv 3)) pe_int))) pa_nil)))), ?_⟩
    refine ⟨_, rfl, _, rfl, pa, pb, _, _, rfl, .inr ⟨SqT.of ta, SqT.of tb, fun D hD => ?_⟩⟩
    refine lc_pure (B := []) (walk_zipT (n := a.length) (xs := a.map V.int) (ys := b.map V.int) (by simp; omega)) hD (fun _ h => nomatch h) (fun H' s' => ⟨SqT.of (s' _ _ ta), SqT.of (s' _ _ tb)⟩) (by omega)
      (fun i => ((a.zip b).map fun p => PyData.int ((p.1 - p.2) ^ 2))[i]?) (fun i x H' H'' Ny Nn hi s1 bk y ky kn => ?_) (fun H' ws s1 eD hA => ?_)
    · obtain ⟨t, x, y, rfl, ht, rfl, e1, e2⟩ := y
      have i2 : i < b.length := by omega
      have x1 := mat hi e1
      have x2 := mat i2 e2
      have c1 := ca _ (List.getElem_mem hi)
      have c2 := cb _ (List.getElem_mem i2)
      refine ⟨t, [x, y], rfl, SqT.of upd_same, rfl, x, _, rfl, y, _, rfl, rfl, rfl, lc_yes ?_⟩
      refine ⟨_, rfl, _, rfl, _, _, x1, x2, _, _, rfl, rfl, sq_ok c1.1 c1.2 c2.1 c2.2, ?_⟩
      exact ky _ _ _ (zat hi i2) (sm_new ht) (.int _)
    · rw [fm_all (by simp; omega)] at hA
      have hA2 : DtA (D :: []) H' ws (((a.zip b).map fun p => (p.1 - p.2) ^ 2).map PyData.int) := by rw [List.map_map]; exact hA
      refine ⟨D, _, rfl, SqL.of (by rw [eD, hA2.intsV]), ?_⟩
      exact q _ s1
/-! ### the law's own apart -/
theorem ok_l_apart (T : Tx K mg) {k : Nat} : FnOk P w K mg base CX0 (k + 1) T.f_l_apart T.d_l_apart ["_law_one", "_law_other"] spApart := by
  refine T.F_l_apart.ok sc_l_apart (fun vs H Q E h => ?_) (fun cdv A outer s H vs Q E hr h => ?_)
  · obtain ⟨B, x, y, a, b, rfl, _⟩ := h
    rfl
  · obtain ⟨B, x, y, a, b, rfl, ha, hb, hl, hz, ca, cb, q⟩ := h
    obtain ⟨pa, rfl, na, ta⟩ := ha.col
    obtain ⟨pb, rfl, nb, tb⟩ := hb.col
    refine ⟨_, (pss_one (ps_ret (pe_callB (cr_sumK K rfl) (by rfl) T.z_sum (by decide +kernel) (pa_cons (pe_lc (own := [("_law_a", 2), ("_law_b", 3)]) (by rfl) sc_l_apart.nd (RZ.pi_zipA (by rfl) T.z_zip (pa_cons (pv 0) (pa_cons (pv 1) pa_nil))) (blkOk_by (own := [("_law_a", 2), ("_law_b", 3)]) (N := N_l_apart) (sc := defScope s_l_apart) (by decide +kernel)) (fun _ _ _ _ _ => (pg_tupK K (n := 2) rfl (pgs_cons (pg_name (i := 2) sc_l_apart.nd rfl (.inl rfl)) (pgs_cons (pg_name (i := 3) sc_l_apart.nd rfl (.inl rfl)) pgs_nil)))) (fun _ _ _ _ _ => pts_nil) (fun _ _ _ _ _ => (pe_op op_mul (pe_op op_sub (pv 2) (pv 3)) (pe_op op_sub (pv 2) (pv 3))))) pa_nil)))), ?_⟩
    refine ⟨_, rfl, _, rfl, pa, pb, _, _, rfl, .inr ⟨SqT.of ta, SqT.of tb, fun D hD => ?_⟩⟩
    refine lc_pure (B := []) (walk_zipT (n := a.length) (xs := a.map V.int) (ys := b.map V.int) (by simp; omega)) hD (fun _ h => nomatch h) (fun H' s' => ⟨SqT.of (s' _ _ ta), SqT.of (s' _ _ tb)⟩) (by omega)
      (fun i => ((a.zip b).map fun p => PyData.int ((p.1 - p.2) ^ 2))[i]?) (fun i x H' H'' Ny Nn hi s1 bk y ky kn => ?_) (fun H' ws s1 eD hA => ?_)
    · obtain ⟨t, x, y, rfl, ht, rfl, e1, e2⟩ := y
      have i2 : i < b.length := by omega
      have x1 := mat hi e1
      have x2 := mat i2 e2
      have c1 := ca _ (List.getElem_mem hi)
      have c2 := cb _ (List.getElem_mem i2)
      refine ⟨t, [x, y], rfl, SqT.of upd_same, rfl, x, _, rfl, y, _, rfl, rfl, rfl, lc_yes ?_⟩
      refine ⟨_, rfl, _, rfl, _, _, x1, x2, _, rfl, _, rfl, _, _, x1, x2, _, _, rfl, rfl, .inl ⟨by omega, by omega⟩, ?_⟩
      exact ky _ _ _ (zat hi i2) (sm_new ht) (by rw [Int.pow_succ, Int.pow_succ, Int.pow_zero, Int.one_mul]; exact .int _)
    · rw [fm_all (by simp; omega)] at hA
      have hA2 : DtA (D :: []) H' ws (((a.zip b).map fun p => (p.1 - p.2) ^ 2).map PyData.int) := by rw [List.map_map]; exact hA
      refine ⟨D, _, rfl, SqL.of (by rw [eD, hA2.intsV]), ?_⟩
      exact q _ s1
/-! ### palette -/
def cOk (wd : Int) (c : List Int) : Prop := (c.length : Int) = wd ∧ cIn 0 999 c
def spPalette : Sp := fun vs H Q _ => ∃ (L : Addr) (n : Nat) (kv : V) (wd sp : Int), vs = [.ref L, kv] ∧ Lf L H n ∧ n < 10000000 ∧ Dt [L] H kv (eC [wd, sp]) ∧ 0 ≤ wd ∧ wd ≤ 5 ∧ 1 ≤ sp ∧ sp ≤ 1000 ∧
  ∀ (v : V) (H' : Hp) (cs : List (List Int)), Go [L] H H' → Lf L H' (n + 1000) → Dt [L] H' v (eP cs) → 0 < cs.length → cs.length ≤ 40 → (∀ c ∈ cs, cOk wd c) → Q v H'
theorem ok_l_palette (T : Tx K mg) {k : Nat} : FnOk P w K mg base CX0 (k + 4) T.f_l_palette T.d_l_palette ["_law_left_here", "_law_kind"] spPalette := by
  refine T.F_l_palette.ok sc_l_palette (fun vs H Q E h => ?_) (fun cdv A outer s H vs Q E hr h => ?_)
  · obtain ⟨L, n, kv, wd, sp, rfl, _⟩ := h
    rfl
  · obtain ⟨L, n, kv, wd, sp, rfl, hL, hn, hk, w0, w1, s0, s1, q⟩ := h
    refine ⟨_, (pss_cons (ps_set (i := 2) sc_l_palette.nd rfl (.inl rfl) (pe_ix (ix_listK K) (pe_lst (pa_cons pe_int (pa_cons pe_int (pa_cons pe_int (pa_cons pe_int (pa_cons pe_int (pa_cons pe_int (pa_cons pe_int (pa_cons (pe_op op_add pe_int (pe_call (ok_l_pick T (k := k + 1)) hr (by rfl) T.g_l_pick T.F_l_pick.kp T.b_l_pick .nil pass0 (pa_cons (pv 0) (pa_cons pe_int pa_nil)))) pa_nil))))))))) (pe_call (ok_l_pick T (k := k + 1)) hr (by rfl) T.g_l_pick T.F_l_pick.kp T.b_l_pick .nil pass0 (pa_cons (pv 0) (pa_cons pe_int pa_nil))) (fun _ _ => rfl)))
      (pss_cons (ps_set (i := 3) sc_l_palette.nd rfl (.inl rfl) (pe_lst pa_nil))
      (pss_cons (ps_for PassesOwn.never rfl (pi_range1 (by rfl) T.z_range (pa_cons (pv 2) pa_nil)) (pg_name (i := 4) sc_l_palette.nd rfl (.inl rfl)) (pss_cons (ps_set (i := 5) sc_l_palette.nd rfl (.inl rfl) (pe_call (ok_l_colour T (k := k)) hr (by rfl) T.g_l_colour T.F_l_colour.kp T.b_l_colour .nil pass0 (pa_cons (pv 0) (pa_cons (pv 1) pa_nil))))
      (Evl.pss_cut (ps_if (PW.pt (pw_and (pt_cmpR (op_neDK K hr.units) (pv 3) (pe_lst pa_nil) (nomark _)) (pw_and1 (pt_cmpR op_eq (pe_call (ok_l_pick T (k := k + 1)) hr (by rfl) T.g_l_pick T.F_l_pick.kp T.b_l_pick .nil pass0 (pa_cons (pv 0) (pa_cons pe_int pa_nil))) pe_int (nomark _))))) (pss_one (ps_set (i := 5) sc_l_palette.nd rfl (.inl rfl) (pe_ix (ix_listK K) (pv 3) (pe_call (ok_l_pick T (k := k + 1)) hr (by rfl) T.g_l_pick T.F_l_pick.kp T.b_l_pick .nil pass0 (pa_cons (pv 0) (pa_cons (pe_callB (len_K K) (by rfl) T.z_len PySem.boot_len (pa_cons (pv 3) pa_nil)) pa_nil))) (fun _ _ => rfl)))) pss_nil)
      (pss_one (ps_expr (pe_bm PySem.F.plainAttrs_list PySem.F.slot_list_append PySem.F.type_list_append mt_append (pv 3) (pa_cons (pv 5) pa_nil)))))))
      (pss_one (ps_ret (pv 3)))))), ?_⟩
    refine ⟨_, rfl, L, 31, n, rfl, hL, by omega, by decide, by decide, fun r1 H1 g1 l1 a1 b1 => ?_⟩
    refine ⟨_, _, rfl, rfl, (by show 8 ≤ sizeLine; decide), fun p hp => ?_⟩
    refine ⟨_, rfl, L, 8, n + 1, rfl, l1.new hp, by omega, by decide, by decide, fun r2 H2 g2 l2 a2 b2 => ?_⟩
    have e2 : H2 p = some (.lst ([1, 2, 3, 4, 5, 7, 9, 10 + r1].map V.int)) := g2.k p _ (l1.bk.ne hp) upd_same
    obtain ⟨m, mm, em⟩ := at_int (ns := [1, 2, 3, 4, 5, 7, 9, 10 + r1]) a2 b2
    refine ⟨p, _, r2, .int m, rfl, rfl, SqL.of e2, em, ?_⟩
    have hm : 1 ≤ m ∧ m ≤ 40 := by
      simp at mm
      omega
    have gH : Go [L] H H2 := (g1.trans (Go.new hp)).trans g2
    refine ⟨Nat.zero_le _, fun D hD => ?_⟩
    have hD0 : H D = none := gH.free hD
    refine ⟨_, rfl, m, rfl, by omega, by omega, for_range (lo := 0) (n := m.toNat) (fun i σ H' => ∃ y4 y5 vs cs, σ = [some (.ref L), some kv, some (.int m), some (.ref D), y4, y5] ∧ Go [L] H H' ∧ Lf L H' (n + 2 + 12 * i) ∧ H' D = some (.lst vs) ∧ DtA [D, L] H' vs (cs.map eC) ∧ cs.length = i ∧ ∀ c ∈ cs, cOk wd c)
      ⟨none, none, [], [], rfl, gH.mut hD0, (l2.new hD).mono (by omega), upd_same, .nil, rfl, fun _ h => nomatch h⟩ (fun i σ H3 hi h3 => ?_) (fun σ H3 h3 => ?_)⟩
    · obtain ⟨y4, y5, vs, cs, rfl, g3, l3, eD, hA, hl, hc⟩ := h3
      have nD : D ∉ [L] := hL.bk.ne hD0
      have bk3 : Bk [D, L] H3 := l3.bk.cons eD
      refine ⟨_, rfl, _, rfl, L, [D, L], n + 2 + 12 * i, kv, wd, sp, rfl, l3, by simp, bk3, by omega, hk.g g3, w0, w1, s0, s1, fun v H4 ns g4 l4 d4 n4 c4 => ?_⟩
      have eD4 := g4.k D _ nD eD
      refine ⟨fun σ' H' => ∃ y4 v c, σ' = [some (.ref L), some kv, some (.int m), some (.ref D), y4, some v] ∧ Go [L] H3 H' ∧ Lf L H' (n + 2 + 12 * i + 12) ∧ Dt [D, L] H' v (eC c) ∧ cOk wd c, ?_, fun σ' H' hM => ?_⟩
      · refine ⟨_, rfl, Nat.zero_le _, fun z hz => ⟨eP cs, .list [], ?_, .lst (SqL.of upd_same) .nil, ?_, rfl, _, rfl, ite2 (fun e => ?_) (fun e => ?_)⟩⟩
        · exact Dt.dP (B := [L]) (.lst nD ((Go.new (B := [L]) hz).k D _ nD eD4) (((hA.g (g4.w1 (by simp))).un).g (Go.new hz)))
        · exact (sh_eP (by omega) fun c h => by have := (hc c h).1; omega).sh (by omega)
        · have hcs : cs ≠ [] := fun z => by
            subst z
            exact absurd e (by decide)
          have hlen : 0 < cs.length := List.length_pos_iff.mpr hcs
          refine ⟨_, rfl, L, 6, n + 2 + 12 * i + 10, rfl, l4.new hz, by omega, by decide, by decide, fun r5 H5 g5 l5 a5 b5 => ?_⟩
          have g45 : Go [L] H4 H5 := (Go.new hz).trans g5
          refine ⟨rfl, _, rfl, ite2 (fun e => ?_) (fun e => ?_)⟩
          · have eD5 := g45.k D _ nD eD4
            have hA5 := hA.g ((g4.trans g45).w1 (B := [D, L]) (by simp))
            have lv := hA5.len
            rw [List.length_map] at lv
            refine ⟨_, rfl, _, rfl, _, rfl, D, _, rfl, .inl (SqL.of eD5), L, _, n + 2 + 12 * i + 11, rfl, l5, by omega, by omega, by omega, fun r6 H6 g6 l6 a6 b6 => ?_⟩
            have eD6 := g6.k D _ nD eD5
            have hr6 : r6.toNat < cs.length := by omega
            obtain ⟨v6, f6, d6⟩ := (hA5.g (g6.w1 (B := [D, L]) (by simp))).get (i := r6.toNat) (d := eC cs[r6.toNat]) (by rw [List.getElem?_map, List.getElem?_eq_getElem hr6]; rfl)
            refine ⟨D, _, _, _, rfl, rfl, SqL.of eD6, at0 a6 f6, ?_⟩
            exact ⟨_, v6, _, rfl, (g4.trans g45).trans g6, l6.mono (by omega), d6, hc _ (List.getElem_mem hr6)⟩
          · exact ⟨_, v, ns, rfl, g4.trans g45, l5.mono (by omega), d4.g (g45.w1 (by simp)), n4, c4⟩
        · exact iteF ⟨_, v, ns, rfl, g4.trans (Go.new hz), (l4.new hz).mono (by omega), d4.g (Go.new hz), n4, c4⟩
      · obtain ⟨z4, v7, c7, rfl, g7, l7, d7, o7⟩ := hM
        have eD7 := g7.k D _ nD eD
        have hA7 := hA.g (g7.w1 (B := [D, L]) (by simp))
        have lv := hA7.len
        rw [List.length_map] at lv
        have gm : Go [D, L] H' (upd H' D (.lst (vs ++ [v7]))) := Go.refl.at (by simp)
        refine ⟨_, rfl, .inl ⟨rfl, _, SqL.of eD7⟩, _, rfl, D, _, _, rfl, rfl, eD7, sz (by omega), ?_⟩
        refine ⟨z4, some v7, vs ++ [v7], cs ++ [c7], rfl, (g3.trans g7).mut hD0, (l7.up (hL.ne hD0)).mono (by omega), upd_same, ?_, by simp; omega, fun c h => ?_⟩
        · rw [List.map_append]
          exact (hA7.g gm).app (.one (d7.g gm))
        · rcases List.mem_append.mp h with h | h
          · exact hc c h
          · rw [List.mem_singleton.mp h]
            exact o7
    · obtain ⟨y4, y5, vs, cs, rfl, g3, l3, eD, hA, hl, hc⟩ := h3
      exact ⟨_, rfl, q _ _ cs g3 (l3.mono (by omega)) (.lst (hL.bk.ne hD0) eD hA.un) (by omega) (by omega) hc⟩
/-! ### the nearest -/
def near (cs : List (List Int)) (c : List Int) (i : Nat) : Prop := ∃ h : i < cs.length, ∀ (j : Nat) (hj : j < cs.length), ap cs[i] c < ap cs[j] c ∨ (ap cs[i] c = ap cs[j] c ∧ i ≤ j)
theorem near_one {cs : List (List Int)} {c : List Int} {i j : Nat} (h1 : near cs c i) (h2 : near cs c j) : i = j := by
  obtain ⟨a, f⟩ := h1
  obtain ⟨b, g⟩ := h2
  have x := f j b
  have y := g i a
  omega
def pOk (cs : List (List Int)) (c : List Int) : Prop := cs.length ≤ 1000 ∧ c.length ≤ 100 ∧ cIn (-100000000) 100000000 c ∧ ∀ x ∈ cs, x.length = c.length ∧ cIn (-100000000) 100000000 x
def spNear : Sp := fun vs H Q _ => ∃ (B : List Addr) (pl cv : V) (cs : List (List Int)) (c : List Int), vs = [pl, cv] ∧ Dt B H pl (eP cs) ∧ Dt B H cv (eC c) ∧ pOk cs c ∧ 0 < cs.length ∧
  ∀ H' (i : Nat), Same H H' → near cs c i → Q (.int i) H'
theorem first_at {ns : List Int} {m : Int} (h : m ∈ ns) : ∃ j : Nat, ns[j]? = some m ∧ ∀ i x, i < j → ns[i]? = some x → x ≠ m := by
  induction ns with
  | nil => cases h
  | cons n ns ih =>
    by_cases e : n = m
    · exact ⟨0, by rw [e]; rfl, fun i x hi => by omega⟩
    · have hm : m ∈ ns := by
        rcases List.mem_cons.mp h with z | z
        · exact absurd z.symm e
        · exact z
      obtain ⟨j, h1, h2⟩ := ih hm
      refine ⟨j + 1, h1, fun i x hi hx => ?_⟩
      cases i with
      | zero =>
        have : n = x := Option.some.inj hx
        rw [← this]; exact e
      | succ i => exact h2 i x (by omega) hx
theorem near_of {cs : List (List Int)} {c : List Int} {j : Nat} {m : Int} (hle : ∀ y ∈ cs.map (fun x => ap x c), m ≤ y) (h1 : (cs.map fun x => ap x c)[j]? = some m) (h2 : ∀ i x, i < j → (cs.map fun x => ap x c)[i]? = some x → x ≠ m) : near cs c j := by
  have hj : j < cs.length := by
    have := (List.getElem?_eq_some_iff.mp h1).1
    rwa [List.length_map] at this
  rw [List.getElem?_map, List.getElem?_eq_getElem hj] at h1
  have e : ap cs[j] c = m := Option.some.inj h1
  refine ⟨hj, fun i hi => ?_⟩
  have l := hle (ap cs[i] c) (List.mem_map.mpr ⟨_, List.getElem_mem hi, rfl⟩)
  by_cases hij : i < j
  · have := h2 i (ap cs[i] c) hij (by rw [List.getElem?_map, List.getElem?_eq_getElem hi]; rfl)
    omega
  · omega
theorem flat_ints (ns : List Int) : (ns.map V.int).all flatV = true := by
  induction ns with
  | nil => rfl
  | cons n ns ih => rw [List.map_cons, List.all_cons, ih]; rfl
theorem ok_nearest (T : Tx K mg) {k : Nat} : FnOk P w K mg base CX0 (k + 2) T.f_nearest T.d_nearest ["palette", "colour"] spNear := by
  refine T.F_nearest.ok sc_nearest (fun vs H Q E h => ?_) (fun cdv A outer s H vs Q E hr h => ?_)
  · obtain ⟨B, pl, cv, cs, c, rfl, _⟩ := h
    rfl
  · obtain ⟨B, pl, cv, cs, c, rfl, hp, hc, ⟨o1, o2, o3, o4⟩, c0, q⟩ := h
    obtain ⟨pa, vs, rfl, np, ep, hA⟩ := hp.pal
    have lv := hA.len
    rw [List.length_map] at lv
    refine ⟨_, (pss_cons (ps_setLc (i := 2) (own := [("one", 3)]) (by rfl) sc_nearest.nd rfl rfl (sw_true rfl rfl rfl (by decide +kernel)) (pi_listK K (pv 0)) (blkOk_by (own := [("one", 3)]) (N := N_nearest) (sc := defScope s_nearest) (by decide +kernel)) (fun _ _ _ _ _ => (pg_name (i := 3) sc_nearest.nd rfl (.inl rfl))) (fun _ _ _ _ _ => pts_nil) (fun _ _ _ _ _ => (pe_call (ok_apart T (k := k)) hr (by rfl) T.g_apart T.F_apart.kp T.b_apart .nil pass0 (pa_cons (pv 3) (pa_cons (pv 1) pa_nil)))))
      (pss_one (ps_ret (pe_bm PySem.F.plainAttrs_list PySem.F.slot_list_index PySem.F.type_list_index (mt_indexK K) (pv 2) (pa_cons (pe_callB (cr_minK K rfl) (by rfl) T.z_min (by decide +kernel) (pa_cons (pv 2) pa_nil)) pa_nil))))), ?_⟩
    refine ⟨_, rfl, pa, rfl, ⟨_, SqL.of ep⟩, fun D hD => ?_⟩
    refine lc_pure (B := []) (walk_list (xs := vs)) hD (fun _ h => nomatch h) (fun H' s' => SqL.of (s' _ _ ep)) (by omega)
      (fun i => (cs.map fun x => PyData.int (ap x c))[i]?) (fun i x H' H'' Ny Nn hi t1 bk y ky kn => ?_) (fun H8 ws s8 eS hW => ?_)
    · obtain ⟨rfl, y⟩ := y
      obtain ⟨d1, f1, h1⟩ := hA.getV y
      have hi2 : i < cs.length := by omega
      rw [List.getElem?_map, List.getElem?_eq_getElem hi2] at f1
      have ed : d1 = eC cs[i] := (Option.some.inj f1).symm
      subst ed
      have oc := o4 _ (List.getElem_mem hi2)
      refine ⟨rfl, lc_yes ⟨_, rfl, _, rfl, B, x, cv, cs[i], c, rfl, h1.s t1, hc.s t1, oc.1, o2, oc.2, o3, fun H3 s3 => ?_⟩⟩
      exact ky _ _ _ (by rw [List.getElem?_map, List.getElem?_eq_getElem hi2]; rfl) s3 (.int _)
    · rw [fm_all (by simp; omega)] at hW
      have hW2 : DtA [D] H8 ws ((cs.map fun x => ap x c).map PyData.int) := by rw [List.map_map]; exact hW
      have ews := hW2.intsV
      subst ews
      refine ⟨_, rfl, .inl ⟨rfl, _, SqL.of eS⟩, _, rfl, D, _, rfl, SqL.of eS, (by rw [List.length_map]; omega), fun m hm hle => ?_⟩
      obtain ⟨j, h1, h2⟩ := first_at hm
      refine ⟨D, _, _, j, .int m, rfl, rfl, SqL.of eS, rfl, flat_ints _, (by rw [List.getElem?_map, h1]; rfl), (by unfold eqV; simp), fun i z hi hz => ?_, ?_⟩
      · rw [List.getElem?_map] at hz
        cases hx : (cs.map fun x => ap x c)[i]? with
        | none => rw [hx] at hz; cases hz
        | some x =>
          rw [hx] at hz
          have ez : V.int x = z := Option.some.inj hz
          rw [← ez]
          have := h2 i x hi hx
          unfold eqV
          simp [this]
      · exact q _ j s8 (near_of hle h1 h2)
/-! ### the law's own nearest -/
def prF (cs : List (List Int)) (c : List Int) (i : Nat) : Option (Int × Int) := (cs[i]?).map fun x => (ap x c, (i : Int))
def prs (cs : List (List Int)) (c : List Int) : List (Int × Int) := (List.range cs.length).filterMap (prF cs c)
theorem prs_map (cs : List (List Int)) (c : List Int) : (List.range cs.length).filterMap (fun i => (prF cs c i).map enc) = (prs cs c).map enc := by
  unfold prs
  rw [List.map_filterMap]
theorem prs_at (cs : List (List Int)) (c : List Int) : prs cs c = cs.zipIdx.map fun x => (ap x.1 c, (x.2 : Int)) := by
  have e : prF cs c = fun i => (cs.zipIdx.map fun x => (ap x.1 c, (x.2 : Int)))[i]? := by
    funext i
    unfold prF
    rw [List.getElem?_map, List.getElem?_zipIdx]
    cases cs[i]? <;> simp
  unfold prs
  rw [e, fm_all (by simp)]
theorem near_min {cs : List (List Int)} {c : List Int} {p : Int × Int} {ps : List (Int × Int)} {i : Nat} (e : prs cs c = p :: ps) (h : (p :: ps)[i]? = some (minP p ps)) : near cs c i ∧ (minP p ps).2 = i := by
  have le := minP_le p ps
  rw [← e, prs_at] at le h
  have hi : i < cs.length := by
    have := (List.getElem?_eq_some_iff.mp h).1
    simpa using this
  rw [List.getElem?_map, List.getElem?_zipIdx, List.getElem?_eq_getElem hi] at h
  have em : (ap cs[i] c, (i : Int)) = minP p ps := by
    have := Option.some.inj h
    simpa using this
  rw [← em] at le
  refine ⟨⟨hi, fun j hj => ?_⟩, by rw [← em]⟩
  have := SrtO.lexB_no.mp (le (ap cs[j] c, (j : Int)) (List.mem_map.mpr ⟨(cs[j], j), by
    rw [List.mem_iff_getElem?]
    exact ⟨j, by rw [List.getElem?_zipIdx, List.getElem?_eq_getElem hj]; simp⟩, rfl⟩))
  simp only at this
  omega
theorem ok_l_nearest (T : Tx K mg) {k : Nat} : FnOk P w K mg base CX0 (k + 2) T.f_l_nearest T.d_l_nearest ["_law_palette_here", "_law_colour_here"] spNear := by
  refine T.F_l_nearest.ok sc_l_nearest (fun vs H Q E h => ?_) (fun cdv A outer s H vs Q E hr h => ?_)
  · obtain ⟨B, pl, cv, cs, c, rfl, _⟩ := h
    rfl
  · obtain ⟨B, pl, cv, cs, c, rfl, hp, hc, ⟨o1, o2, o3, o4⟩, c0, q⟩ := h
    obtain ⟨pa, vs, rfl, np, ep, hA⟩ := hp.pal
    have lv := hA.len
    rw [List.length_map] at lv
    refine ⟨_, (pss_one (ps_ret (pe_ix (ix_tupK K) (pe_callB (cr_minP K rfl hr.units) (by rfl) T.z_min (by decide +kernel) (pa_cons (pe_lc (own := [("_law_k", 2), ("_law_one", 3)]) (by rfl) sc_l_nearest.nd (pi_enum (by rfl) T.z_enumerate (pa_cons (pv 0) pa_nil)) (blkOk_by (own := [("_law_k", 2), ("_law_one", 3)]) (N := N_l_nearest) (sc := defScope s_l_nearest) (by decide +kernel)) (fun _ _ _ _ _ => (pg_tupK K (n := 2) rfl (pgs_cons (pg_name (i := 2) sc_l_nearest.nd rfl (.inl rfl)) (pgs_cons (pg_name (i := 3) sc_l_nearest.nd rfl (.inl rfl)) pgs_nil)))) (fun _ _ _ _ _ => pts_nil) (fun _ _ _ _ _ => (pe_tup (pa_cons (pe_call (ok_l_apart T (k := k)) hr (by rfl) T.g_l_apart T.F_l_apart.kp T.b_l_apart .nil pass0 (pa_cons (pv 3) (pa_cons (pv 1) pa_nil))) (pa_cons (pv 2) pa_nil))))) pa_nil)) pe_int (fun _ _ => rfl)))), ?_⟩
    refine ⟨_, rfl, pa, _, rfl, SqL.of ep, fun D hD => ?_⟩
    refine lc_pure (B := []) (walk_enum (xs := vs)) hD (fun _ h => nomatch h) (fun H' s' => SqL.of (s' _ _ ep)) (by omega)
      (fun i => (prF cs c i).map enc) (fun i x H' H'' Ny Nn hi s1 bk y ky kn => ?_) (fun H1 ws s1 eD hW => ?_)
    · obtain ⟨t, x, y, rfl, ht, rfl, e1, e2⟩ := y
      obtain ⟨d1, f1, g1⟩ := hA.getV e2
      have hi2 : i < cs.length := by omega
      rw [List.getElem?_map, List.getElem?_eq_getElem hi2] at f1
      have ed : d1 = eC cs[i] := (Option.some.inj f1).symm
      subst ed
      have ex : V.int i = x := Option.some.inj e1
      subst ex
      have oc := o4 _ (List.getElem_mem hi2)
      refine ⟨t, _, rfl, SqT.of upd_same, rfl, _, _, rfl, y, _, rfl, rfl, rfl, lc_yes ?_⟩
      refine ⟨_, rfl, _, rfl, B, y, cv, cs[i], c, rfl, (g1.s s1).s (sm_new ht), (hc.s s1).s (sm_new ht), oc.1, o2, oc.2, o3, fun H3 s3 => ?_⟩
      refine ⟨_, rfl, (by show 2 ≤ sizeLine; decide), fun t2 ht2 => ?_⟩
      have s4 := (sm_new ht).trans s3
      refine ky _ _ (enc (ap cs[i] c, (i : Int))) ?_ (s4.trans (sm_new ht2)) (Dt.ofCol ((bk.go (Go.of (B := []) s4)).ne ht2) upd_same)
      unfold prF
      rw [List.getElem?_eq_getElem hi2]
      rfl
    · rw [lv, prs_map] at hW
      have hl : (prs cs c).length = cs.length := by rw [prs_at]; simp
      obtain ⟨p, ps, e⟩ : ∃ p ps, prs cs c = p :: ps := by
        cases h : prs cs c with
        | nil => rw [h] at hl; simp at hl; omega
        | cons p ps => exact ⟨p, ps, rfl⟩
      rw [e] at hW
      refine ⟨D, ws, p, ps, rfl, SqL.of eD, hW.dP, fun i x hx hm => ?_⟩
      obtain ⟨hn, h2⟩ := near_min e hm
      obtain ⟨d, fd', gd⟩ := hW.getV hx
      rw [List.getElem?_map, hm] at fd'
      have ed : d = enc (minP p ps) := (Option.some.inj fd').symm
      subst ed
      obtain ⟨t, rfl, _, et⟩ := gd.col
      refine ⟨t, _, 1, .int (minP p ps).2, rfl, rfl, SqT.of et, rfl, ?_⟩
      rw [h2]
      exact q _ i s1 hn
/-! ### pairs, sorted -/
def key (H : Hp) : V → Int × Int
  | .ref t => match H t with
    | some (.tup [.int a, .int b]) => (a, b)
    | _ => (0, 0)
  | _ => (0, 0)
theorem key_of {H : Hp} {t : Addr} {a b : Int} (h : H t = some (.tup [.int a, .int b])) : key H (.ref t) = (a, b) := by
  simp only [key, h]
theorem keys {B : List Addr} {H : Hp} : ∀ {ps : List (Int × Int)} {ws : List V}, DtA B H ws (ps.map enc) → (∀ x ∈ ws, ∃ t, x = .ref t ∧ H t = some (.tup [.int (key H x).1, .int (key H x).2])) ∧ ws.map (key H) = ps
  | [], _, h => by
    cases h
    exact ⟨fun _ h => (nomatch h), rfl⟩
  | p :: ps, _, h => by
    cases h with
    | cons h1 h2 =>
      obtain ⟨t, rfl, _, e⟩ := h1.col
      obtain ⟨i1, i2⟩ := keys h2
      have ek : key H (.ref t) = (p.1, p.2) := key_of e
      refine ⟨fun x hx => ?_, ?_⟩
      · rcases List.mem_cons.mp hx with z | z
        · rw [z, ek]
          exact ⟨t, rfl, e⟩
        · exact i1 x z
      · rw [List.map_cons, i2, ek]
def Rs (l : List (Int × Int)) : Prop := l.Pairwise fun x y => SrtO.lexB y x = false
theorem rs_one {l m : List (Int × Int)} (p : l.Perm m) (h1 : Rs l) (h2 : Rs m) : l = m := by
  refine p.eq_of_pairwise (fun a b _ _ x y => ?_) h1 h2
  have u := SrtO.lexB_no.mp x
  have v := SrtO.lexB_no.mp y
  have e1 : a.1 = b.1 := by omega
  have e2 : a.2 = b.2 := by omega
  exact Prod.ext e1 e2
/-! ### tables on a line -/
def bb (l r : Int × Int) : Int := if (l.1 + r.1) % 2 = 0 ∧ r.2 < l.2 then (l.1 + r.1) / 2 else (l.1 + r.1) / 2 + 1
def gg1 (n : Int) (q : Int × Int) : Int := (q.1 - n) * (q.1 - n)
def lt2 (n : Int) (l r : Int × Int) : Prop := gg1 n l < gg1 n r ∨ (gg1 n l = gg1 n r ∧ l.2 < r.2)
def le2 (n : Int) (l r : Int × Int) : Prop := gg1 n l < gg1 n r ∨ (gg1 n l = gg1 n r ∧ l.2 ≤ r.2)
theorem le2.tr {n : Int} {a b c : Int × Int} (h1 : le2 n a b) (h2 : le2 n b c) : le2 n a c := by
  unfold le2 at *
  omega
theorem sq_diff (n : Int) (l r : Int × Int) : gg1 n r - gg1 n l = (r.1 - l.1) * (r.1 + l.1 - 2 * n) := by
  unfold gg1
  generalize l.1 = x
  generalize r.1 = y
  have e1 : (y - n) * (y - n) = y * y - 2 * (n * y) + n * n := by
    rw [Int.sub_mul, Int.mul_sub, Int.mul_sub, Int.mul_comm y n]
    omega
  have e2 : (x - n) * (x - n) = x * x - 2 * (n * x) + n * n := by
    rw [Int.sub_mul, Int.mul_sub, Int.mul_sub, Int.mul_comm x n]
    omega
  have e3 : (y - x) * (y + x - 2 * n) = y * y - x * x - 2 * (n * y) + 2 * (n * x) := by
    rw [Int.sub_mul, Int.mul_sub, Int.mul_sub, Int.mul_add, Int.mul_add, Int.mul_comm x y, Int.mul_left_comm y 2 n, Int.mul_left_comm x 2 n, Int.mul_comm y n, Int.mul_comm x n]
    omega
  rw [e1, e2, e3]
  omega
theorem beat {n : Int} {l r : Int × Int} (h : l.1 < r.1) : bb l r ≤ n → le2 n r l := by
  intro hb
  have e := sq_diff n l r
  have hs : r.1 + l.1 < 2 * n ∨ (r.1 + l.1 = 2 * n ∧ r.2 < l.2) := by
    unfold bb at hb
    split at hb <;> omega
  rcases hs with hs | ⟨hs, hk⟩
  · left
    have : (r.1 - l.1) * (r.1 + l.1 - 2 * n) < 0 := Int.mul_neg_of_pos_of_neg (by omega) (by omega)
    omega
  · right
    rw [show r.1 + l.1 - 2 * n = 0 by omega, Int.mul_zero] at e
    omega
theorem keep {n : Int} {l r : Int × Int} (h : l.1 < r.1) : n < bb l r → le2 n l r := by
  intro hb
  have e := sq_diff n l r
  have hs : 2 * n < r.1 + l.1 ∨ (r.1 + l.1 = 2 * n ∧ l.2 ≤ r.2) := by
    unfold bb at hb
    split at hb <;> omega
  rcases hs with hs | ⟨hs, hk⟩
  · left
    have : 0 < (r.1 - l.1) * (r.1 + l.1 - 2 * n) := Int.mul_pos (by omega) (by omega)
    omega
  · right
    rw [show r.1 + l.1 - 2 * n = 0 by omega, Int.mul_zero] at e
    omega
def at2q (qs : List (Int × Int)) (i : Nat) : Int × Int := qs.getD i (0, 0)
def bq (qs : List (Int × Int)) (i : Nat) : Int := bb (at2q qs i) (at2q qs (i + 1))
def Up (qs : List (Int × Int)) : Prop := ∀ i, i + 1 < qs.length → (at2q qs i).1 < (at2q qs (i + 1)).1
theorem bq_up {qs : List (Int × Int)} (u : Up qs) {i : Nat} (h : i + 2 < qs.length) : bq qs i ≤ bq qs (i + 1) := by
  have h1 := u i (by omega)
  have h2 := u (i + 1) (by omega)
  unfold bq bb
  split <;> split <;> omega
theorem bq_mono {qs : List (Int × Int)} (u : Up qs) {i : Nat} : ∀ {j : Nat}, i ≤ j → j + 1 < qs.length → bq qs i ≤ bq qs j
  | 0, h, _ => by
    have : i = 0 := by omega
    subst this
    exact Int.le_refl _
  | j + 1, h, hj => by
    by_cases e : i = j + 1
    · subst e
      exact Int.le_refl _
    · exact Int.le_trans (bq_mono u (j := j) (by omega) (by omega)) (bq_up u (by omega))
def Tn (qs : List (Int × Int)) (n : Int) (t : Nat) : Prop := t < qs.length ∧ (∀ i, i < t → bq qs i ≤ n) ∧ ∀ i, t ≤ i → i + 1 < qs.length → n < bq qs i
theorem tn_ex {qs : List (Int × Int)} (u : Up qs) (h0 : 0 < qs.length) (n : Int) : ∃ t, Tn qs n t := by
  have step : ∀ m, m + 1 ≤ qs.length → ∃ t, t ≤ m ∧ (∀ i, i < t → bq qs i ≤ n) ∧ ∀ i, t ≤ i → i < m → n < bq qs i := by
    intro m
    induction m with
    | zero => exact fun _ => ⟨0, Nat.le_refl _, fun i hi => by omega, fun i _ hi => by omega⟩
    | succ m ih =>
      intro hm
      obtain ⟨t, h1, h2, h3⟩ := ih (by omega)
      by_cases ht : t = m
      · by_cases hb : bq qs m ≤ n
        · refine ⟨m + 1, Nat.le_refl _, fun i hi => ?_, fun i hi hi2 => by omega⟩
          by_cases e : i = m
          · rw [e]; exact hb
          · exact h2 i (by omega)
        · refine ⟨m, by omega, fun i hi => h2 i (by omega), fun i hi hi2 => ?_⟩
          have : i = m := by omega
          rw [this]
          omega
      · refine ⟨t, by omega, h2, fun i hi hi2 => ?_⟩
        by_cases e : i = m
        · rw [e]
          have a := h3 t (Nat.le_refl _) (by omega)
          have b := bq_mono u (i := t) (j := m) (by omega) (by omega)
          omega
        · exact h3 i hi (by omega)
  obtain ⟨t, h1, h2, h3⟩ := step (qs.length - 1) (by omega)
  exact ⟨t, by omega, h2, fun i hi hi2 => h3 i hi (by omega)⟩
theorem tn_best {qs : List (Int × Int)} (u : Up qs) {n : Int} {t : Nat} (h : Tn qs n t) : ∀ j, j < qs.length → le2 n (at2q qs t) (at2q qs j) := by
  obtain ⟨h0, h1, h2⟩ := h
  have up : ∀ d, t + d < qs.length → le2 n (at2q qs t) (at2q qs (t + d)) := by
    intro d
    induction d with
    | zero => exact fun _ => .inr ⟨rfl, Int.le_refl _⟩
    | succ d ih => exact fun hd => (ih (by omega)).tr (keep (u (t + d) hd) (h2 (t + d) (by omega) hd))
  have down : ∀ d, d ≤ t → le2 n (at2q qs t) (at2q qs (t - d)) := by
    intro d
    induction d with
    | zero => exact fun _ => .inr ⟨rfl, Int.le_refl _⟩
    | succ d ih =>
      intro hd
      have e : t - (d + 1) + 1 = t - d := by omega
      have k := beat (n := n) (u (t - (d + 1)) (by omega)) (h1 (t - (d + 1)) (by omega))
      rw [e] at k
      exact (ih (by omega)).tr k
  intro j hj
  by_cases hjt : t ≤ j
  · have := up (j - t) (by omega)
    rwa [show t + (j - t) = j by omega] at this
  · have := down (t - j) (by omega)
    rwa [show t - (t - j) = j by omega] at this
theorem tn_mono {qs : List (Int × Int)} {n m : Int} {t r : Nat} (h : n ≤ m) (a : Tn qs n t) (b : Tn qs m r) : t ≤ r := by
  obtain ⟨a0, a1, a2⟩ := a
  obtain ⟨b0, b1, b2⟩ := b
  rcases Nat.lt_or_ge r t with c | c
  · have x := a1 r c
    have y := b2 r (Nat.le_refl _) (by omega)
    omega
  · exact c
/-- the palette's unlike places, each with its least number -/
structure Fst (cs : List (List Int)) (qs : List (Int × Int)) : Prop where
  pos : 0 < qs.length
  up : Up qs
  own : ∀ q ∈ qs, ∃ i : Nat, q.2 = (i : Int) ∧ cs[i]? = some [q.1]
  all : ∀ (i : Nat) (p : Int), cs[i]? = some [p] → ∃ q ∈ qs, q.1 = p ∧ q.2 ≤ (i : Int)
theorem ap1 (p n : Int) : ap [p] [n] = gg1 n (p, 0) := by
  show (p - n) ^ 2 + 0 = (p - n) * (p - n)
  rw [Int.pow_succ, Int.pow_succ, Int.pow_zero, Int.one_mul, Int.add_zero]
theorem at2q_mem {qs : List (Int × Int)} {i : Nat} (h : i < qs.length) : at2q qs i ∈ qs := by
  unfold at2q
  rw [List.getD_eq_getElem?_getD, List.getElem?_eq_getElem h]
  exact List.getElem_mem h
theorem tn_near {cs : List (List Int)} {qs : List (Int × Int)} (F : Fst cs qs) (h1 : ∀ c ∈ cs, c.length = 1) {n : Int} {t : Nat} (h : Tn qs n t) : ∃ i : Nat, (at2q qs t).2 = (i : Int) ∧ near cs [n] i := by
  obtain ⟨i, e1, e2⟩ := F.own _ (at2q_mem h.1)
  obtain ⟨hi, e3⟩ := List.getElem?_eq_some_iff.mp e2
  refine ⟨i, e1, hi, fun j hj => ?_⟩
  obtain ⟨p, ep⟩ : ∃ p, cs[j] = [p] := by
    have := h1 _ (List.getElem_mem hj)
    match cs[j], this with
    | [p], _ => exact ⟨p, rfl⟩
  obtain ⟨q, hq, q1, q2⟩ := F.all j p (by rw [List.getElem?_eq_getElem hj, ep])
  obtain ⟨m, hm, em⟩ := List.mem_iff_getElem.mp hq
  have b := tn_best F.up h m hm
  have eq : at2q qs m = q := by
    unfold at2q
    rw [List.getD_eq_getElem?_getD, List.getElem?_eq_getElem hm, em]
    rfl
  rw [eq] at b
  have g1 : ap cs[i] [n] = gg1 n (at2q qs t) := by rw [e3, ap1]; rfl
  have g2 : ap cs[j] [n] = gg1 n q := by rw [ep, ap1, ← q1]; rfl
  rw [g1, g2]
  unfold le2 at b
  omega
/-- the rows, and what is read off them -/
def rowF (qs : List (Int × Int)) (low high : Int) (i : Nat) : Option (Int × Int) := if low < bq qs i ∧ bq qs i ≤ high then some (bq qs i, (at2q qs (i + 1)).2) else none
def bt (rs : List (Int × Int)) (n t0 : Int) : Int := rs.foldl (fun t r => if r.1 ≤ n then r.2 else t) t0
theorem bt_rows {qs : List (Int × Int)} {low high n : Int} {t0 t : Nat} (h0 : Tn qs low t0) (h : Tn qs n t) (hl : low ≤ n) (hh : n ≤ high) : ∀ m, m + 1 ≤ qs.length →
    bt ((List.range m).filterMap (rowF qs low high)) n (at2q qs t0).2 = (at2q qs (if m ≤ t0 then t0 else if m ≤ t then m else t)).2 := by
  have tt := tn_mono hl h0 h
  obtain ⟨a0, a1, a2⟩ := h0
  obtain ⟨b0, b1, b2⟩ := h
  intro m
  induction m with
  | zero =>
    intro _
    rw [if_pos (Nat.zero_le _)]
    rfl
  | succ m ih =>
    intro hm
    have ih := ih (by omega)
    rw [List.range_succ, List.filterMap_append]
    unfold bt at ih ⊢
    rw [List.foldl_append, ih]
    have x1 := a1 m
    have x2 := fun h => a2 m h (by omega)
    have y1 := b1 m
    have y2 := fun h => b2 m h (by omega)
    simp only [List.filterMap_cons, List.filterMap_nil]
    by_cases hc : low < bq qs m ∧ bq qs m ≤ high
    · have er : rowF qs low high m = some (bq qs m, (at2q qs (m + 1)).2) := if_pos hc
      rw [er]
      simp only [List.foldl_cons, List.foldl_nil]
      have m0 : t0 ≤ m := by
        rcases Nat.lt_or_ge m t0 with c | c
        · have := x1 c
          omega
        · exact c
      by_cases hn : bq qs m ≤ n
      · rw [if_pos hn]
        have : m < t := by
          rcases Nat.lt_or_ge m t with c | c
          · exact c
          · have := y2 c
            omega
        rw [if_neg (show ¬ m + 1 ≤ t0 by omega), if_pos (show m + 1 ≤ t by omega)]
      · rw [if_neg hn]
        have : t ≤ m := by
          rcases Nat.lt_or_ge m t with c | c
          · have := y1 c
            omega
          · exact c
        rw [if_neg (show ¬ m + 1 ≤ t0 by omega), if_neg (show ¬ m + 1 ≤ t by omega)]
        by_cases hm0 : m ≤ t0
        · rw [if_pos hm0]
          have : t0 = t := by omega
          rw [this]
        · rw [if_neg hm0]
          by_cases hmt : m ≤ t
          · rw [if_pos hmt]
            have : m = t := by omega
            rw [this]
          · rw [if_neg hmt]
    · have er : rowF qs low high m = none := if_neg hc
      rw [er]
      simp only [List.foldl_nil]
      have mo : m < t0 ∨ t ≤ m := by
        rcases Nat.lt_or_ge m t0 with c | c
        · exact .inl c
        · right
          rcases Nat.lt_or_ge m t with d | d
          · have u1 := x2 c
            have u2 := y1 d
            exact absurd ⟨u1, by omega⟩ hc
          · exact d
      rcases mo with c | c
      · rw [if_pos (show m ≤ t0 by omega), if_pos (show m + 1 ≤ t0 by omega)]
      · rw [if_neg (show ¬ m + 1 ≤ t by omega)]
        by_cases hm0 : m ≤ t0
        · rw [if_pos hm0]
          by_cases hm1 : m + 1 ≤ t0
          · rw [if_pos hm1]
          · rw [if_neg hm1]
            have : t0 = t := by omega
            rw [this]
        · rw [if_neg hm0, if_neg (show ¬ m + 1 ≤ t0 by omega)]
          by_cases hmt : m ≤ t
          · rw [if_pos hmt]
            have : m = t := by omega
            rw [this]
          · rw [if_neg hmt]
theorem bt_near {cs : List (List Int)} {qs : List (Int × Int)} (F : Fst cs qs) (h1 : ∀ c ∈ cs, c.length = 1) {low high n : Int} {i0 : Nat} (hi0 : near cs [low] i0) (hl : low ≤ n) (hh : n ≤ high) (one : ∀ {c : List Int} {i j : Nat}, near cs c i → near cs c j → i = j) :
    ∃ i : Nat, near cs [n] i ∧ bt ((low, (i0 : Int)) :: (List.range (qs.length - 1)).filterMap (rowF qs low high)) n (i0 : Int) = (i : Int) := by
  obtain ⟨t0, T0⟩ := tn_ex F.up F.pos low
  obtain ⟨t, Tt⟩ := tn_ex F.up F.pos n
  obtain ⟨j0, e0, n0⟩ := tn_near F h1 T0
  obtain ⟨j, e, nj⟩ := tn_near F h1 Tt
  have : i0 = j0 := one hi0 n0
  subst this
  refine ⟨j, nj, ?_⟩
  have b := bt_rows T0 Tt hl hh (qs.length - 1) (by have := F.pos; omega)
  have tt := tn_mono hl T0 Tt
  unfold bt at b ⊢
  rw [List.foldl_cons]
  simp only [if_pos hl]
  rw [← e0, b, ← e]
  have l0 := T0.1
  have l1 := Tt.1
  congr 2
  split
  · omega
  · split <;> omega
/-! ### the palette's unlike places -/
def ppF (cs : List (List Int)) (i : Nat) : Option (Int × Int) := (cs[i]?).map fun c => (c.headD 0, (i : Int))
def pps (cs : List (List Int)) : List (Int × Int) := (List.range cs.length).filterMap (ppF cs)
theorem pps_map (cs : List (List Int)) : (List.range cs.length).filterMap (fun i => (ppF cs i).map enc) = (pps cs).map enc := by
  unfold pps
  rw [List.map_filterMap]
theorem pps_mem {cs : List (List Int)} {q : Int × Int} (h : q ∈ pps cs) : ∃ (i : Nat) (c : List Int), cs[i]? = some c ∧ q = (c.headD 0, (i : Int)) := by
  obtain ⟨i, _, e⟩ := List.mem_filterMap.mp h
  unfold ppF at e
  cases hc : cs[i]? with
  | none => rw [hc] at e; cases e
  | some c =>
    rw [hc] at e
    exact ⟨i, c, hc, (Option.some.inj e).symm⟩
theorem pps_has {cs : List (List Int)} {i : Nat} {c : List Int} (h : cs[i]? = some c) : (c.headD 0, (i : Int)) ∈ pps cs := by
  refine List.mem_filterMap.mpr ⟨i, List.mem_range.mpr (List.getElem?_eq_some_iff.mp h).1, ?_⟩
  unfold ppF
  rw [h]
  rfl
theorem at2q_l {acc : List (Int × Int)} {x : Int × Int} {i : Nat} (h : i < acc.length) : at2q (acc ++ [x]) i = at2q acc i := by
  unfold at2q
  rw [List.getD_eq_getElem?_getD, List.getD_eq_getElem?_getD, List.getElem?_append_left h]
theorem at2q_r {acc : List (Int × Int)} {x : Int × Int} : at2q (acc ++ [x]) acc.length = x := by
  unfold at2q
  rw [List.getD_eq_getElem?_getD, List.getElem?_append_right (Nat.le_refl _), Nat.sub_self]
  rfl
theorem at_end {us : List V} {v : V} (h : us[us.length - 1]? = some v) : atI us (-1) = some v := by
  have h2 : us.getLast? = some v := by rw [List.getLast?_eq_getElem?]; exact h
  obtain ⟨xs, e⟩ := List.getLast?_eq_some_iff.mp h2
  rw [e]
  exact atI_last _ _
def fpS (acc : List (Int × Int)) (q : Int × Int) : List (Int × Int) := if acc = [] ∨ (acc.getLastD (0, 0)).1 ≠ q.1 then acc ++ [q] else acc
def fp (l : List (Int × Int)) : List (Int × Int) := l.foldl fpS []
structure FpOk2 (pre acc : List (Int × Int)) : Prop where
  sub : ∀ q ∈ acc, q ∈ pre
  up : Up acc
  all : ∀ x ∈ pre, ∃ q ∈ acc, q.1 = x.1 ∧ q.2 ≤ x.2
  last : ∀ x ∈ acc, x.1 ≤ (acc.getLastD (0, 0)).1
theorem fp_inv : ∀ (post pre acc : List (Int × Int)), FpOk2 pre acc → Rs (pre ++ post) → FpOk2 (pre ++ post) (post.foldl fpS acc)
  | [], pre, acc, h, _ => by rw [List.append_nil]; exact h
  | x :: post, pre, acc, h, hr => by
    have hr2 : Rs ((pre ++ [x]) ++ post) := by rw [List.append_assoc]; exact hr
    have goal : FpOk2 (pre ++ [x]) (fpS acc x) → FpOk2 (pre ++ x :: post) ((x :: post).foldl fpS acc) := fun g => by
      have := fp_inv post (pre ++ [x]) (fpS acc x) g hr2
      rw [List.append_assoc] at this
      exact this
    refine goal ?_
    have le : ∀ y ∈ pre, ¬ (x.1 < y.1 ∨ x.1 = y.1 ∧ x.2 < y.2) := fun y hy => by
      have hp := List.pairwise_append.mp hr
      exact SrtO.lexB_no.mp (hp.2.2 y hy x (List.mem_cons_self ..))
    unfold fpS
    by_cases hc : acc = [] ∨ (acc.getLastD (0, 0)).1 ≠ x.1
    · rw [if_pos hc]
      refine ⟨fun q hq => ?_, fun i hi => ?_, fun y hy => ?_, fun y hy => ?_⟩
      · rcases List.mem_append.mp hq with hq | hq
        · exact List.mem_append.mpr (.inl (h.sub q hq))
        · exact List.mem_append.mpr (.inr hq)
      · rw [List.length_append, List.length_singleton] at hi
        by_cases hl : i + 1 < acc.length
        · have := h.up i hl
          rw [at2q_l (by omega), at2q_l hl]
          exact this
        · have hi2 : i + 1 = acc.length := by omega
          rw [at2q_l (by omega), hi2, at2q_r]
          have hne : acc ≠ [] := fun z => by rw [z] at hi2; simp at hi2
          have e1 : at2q acc i = acc.getLastD (0, 0) := by
            unfold at2q
            rw [List.getLastD_eq_getLast?, List.getLast?_eq_getElem?, List.getD_eq_getElem?_getD, show acc.length - 1 = i by omega]
          have hm : acc.getLastD (0, 0) ∈ acc := by
            rw [← e1]
            exact at2q_mem (by omega)
          have hlt := le _ (h.sub _ hm)
          rw [e1]
          rcases hc with hc | hc
          · exact absurd hc hne
          · show (acc.getLastD (0, 0)).1 < x.1
            omega
      · rcases List.mem_append.mp hy with hy | hy
        · obtain ⟨q, hq, a, b⟩ := h.all y hy
          exact ⟨q, List.mem_append.mpr (.inl hq), a, b⟩
        · rw [List.mem_singleton.mp hy]
          exact ⟨x, List.mem_append.mpr (.inr (List.mem_singleton.mpr rfl)), rfl, Int.le_refl _⟩
      · have el : (acc ++ [x]).getLastD (0, 0) = x := by
          rw [List.getLastD_eq_getLast?, List.getLast?_append]
          rfl
        rw [el]
        rcases List.mem_append.mp hy with hy | hy
        · have := le _ (h.sub y hy)
          omega
        · rw [List.mem_singleton.mp hy]
          exact Int.le_refl _
    · rw [if_neg hc]
      have hne : acc ≠ [] := fun z => hc (.inl z)
      have hx : (acc.getLastD (0, 0)).1 = x.1 := Classical.byContradiction fun z => hc (.inr z)
      have hm : acc.getLastD (0, 0) ∈ acc := by
        rw [List.getLastD_eq_getLast?]
        cases hg : acc.getLast? with
        | none => exact absurd (List.getLast?_eq_none_iff.mp hg) hne
        | some z => exact List.mem_of_getLast? hg
      refine ⟨fun q hq => List.mem_append.mpr (.inl (h.sub q hq)), h.up, fun y hy => ?_, h.last⟩
      rcases List.mem_append.mp hy with hy | hy
      · exact h.all y hy
      · rw [List.mem_singleton.mp hy]
        have := le _ (h.sub _ hm)
        exact ⟨_, hm, hx, by omega⟩
theorem fp_fst {cs : List (List Int)} {l : List (Int × Int)} (hp : l.Perm (pps cs)) (hr : Rs l) (h0 : 0 < cs.length) (h1 : ∀ c ∈ cs, c.length = 1) : Fst cs (fp l) := by
  have F := fp_inv l [] [] ⟨fun _ h => (nomatch h), fun i hi => by simp at hi, fun _ h => (nomatch h), fun _ h => (nomatch h)⟩ (by rw [List.nil_append]; exact hr)
  rw [List.nil_append] at F
  have hd : ∀ c : List Int, c.length = 1 → c = [c.headD 0] := fun c hc => by
    match c, hc with
    | [x], _ => rfl
  refine ⟨?_, F.up, fun q hq => ?_, fun i p hip => ?_⟩
  · obtain ⟨q, hq, _⟩ := F.all _ (hp.mem_iff.mpr (pps_has (List.getElem?_eq_getElem h0)))
    exact List.length_pos_of_mem hq
  · obtain ⟨i, c, hc, e⟩ := pps_mem (hp.mem_iff.mp (F.sub q hq))
    refine ⟨i, by rw [e], ?_⟩
    rw [hc, e]
    exact congrArg some (hd c (h1 c (List.mem_of_getElem? hc)))
  · obtain ⟨q, hq, a, b⟩ := F.all _ (hp.mem_iff.mpr (pps_has hip))
    exact ⟨q, hq, a, b⟩
theorem fp_len : ∀ (l acc : List (Int × Int)), (l.foldl fpS acc).length ≤ acc.length + l.length
  | [], acc => Nat.le_refl _
  | x :: l, acc => by
    have := fp_len l (fpS acc x)
    have h2 : (fpS acc x).length ≤ acc.length + 1 := by
      unfold fpS
      split
      · rw [List.length_append]; exact Nat.le_refl _
      · omega
    rw [List.foldl_cons, List.length_cons]
    omega
def eR (rs : List (Int × Int)) : PyData := .tuple (rs.map enc)
def wOk (cs : List (List Int)) : Prop := 0 < cs.length ∧ cs.length ≤ 100 ∧ ∀ c ∈ cs, c.length = 1 ∧ cIn 0 999 c
def spFirst : Sp := fun vs H Q _ => ∃ (B : List Addr) (pl : V) (cs : List (List Int)), vs = [pl] ∧ Dt B H pl (eP cs) ∧ Bk B H ∧ wOk cs ∧
  ∀ v H' (qs : List (Int × Int)), Same H H' → Dt B H' v (.list (qs.map enc)) → Fst cs qs → qs.length ≤ 100 → Q v H'
theorem emp2 (xs : List PyData) : PyData.eqv (.list xs) (.list []) = xs.isEmpty := by
  cases xs <;> simp [PyData.eqv, PyData.eqvAll]
theorem ok_first_places (T : Tx K mg) {k : Nat} : FnOk P w K mg base CX0 (k + 1) T.f_first_places T.d_first_places ["palette"] spFirst := by
  refine T.F_first_places.ok sc_first_places (fun vs H Q E h => ?_) (fun cdv A outer s H vs Q E hr h => ?_)
  · obtain ⟨B, pl, cs, rfl, _⟩ := h
    rfl
  · obtain ⟨B, pl, cs, rfl, hp, hB, ⟨c0, c1, c2⟩, q⟩ := h
    obtain ⟨pa, vs, rfl, np, ep, hA⟩ := hp.pal
    have lv := hA.len
    rw [List.length_map] at lv
    refine ⟨_, (pss_cons (ps_set (i := 1) sc_first_places.nd rfl (.inl rfl) (pe_callB (cr_sortedK K) (by rfl) T.z_sorted (by decide +kernel) (pa_cons (pe_lc (own := [("number", 4), ("colour", 5)]) (by rfl) sc_first_places.nd (pi_enum (by rfl) T.z_enumerate (pa_cons (pv 0) pa_nil)) (blkOk_by (own := [("number", 4), ("colour", 5)]) (N := N_first_places) (sc := defScope s_first_places) (by decide +kernel)) (fun _ _ _ _ _ => (pg_tupK K (n := 2) rfl (pgs_cons (pg_name (i := 4) sc_first_places.nd rfl (.inl rfl)) (pgs_cons (pg_name (i := 5) sc_first_places.nd rfl (.inl rfl)) pgs_nil)))) (fun _ _ _ _ _ => pts_nil) (fun _ _ _ _ _ => (pe_tup (pa_cons (pe_ix (ix_tupK K) (pv 5) pe_int (fun _ _ => rfl)) (pa_cons (pv 4) pa_nil))))) pa_nil)))
      (pss_cons (ps_set (i := 2) sc_first_places.nd rfl (.inl rfl) (pe_lst pa_nil))
      (pss_cons (ps_for PassesOwn.never rfl (pi_listK K (pv 1)) (pg_tupK K (n := 2) rfl (pgs_cons (pg_name (i := 3) sc_first_places.nd rfl (.inl rfl)) (pgs_cons (pg_name (i := 4) sc_first_places.nd rfl (.inl rfl)) pgs_nil))) (pss_one (ps_if (PW.pt (pw_or (pt_cmpR (op_eqDK K hr.units) (pv 2) (pe_lst pa_nil) (nomark _)) (pw_or1 (pt_cmpR (op_neDK K hr.units) (pe_ix (ix_tupK K) (pe_ix (ix_listK K) (pv 2) (pe_un un_neg pe_int) (fun _ _ => rfl)) pe_int (fun _ _ => rfl)) (pv 3) (nomark _))))) (pss_one (ps_expr (pe_bm PySem.F.plainAttrs_list PySem.F.slot_list_append PySem.F.type_list_append mt_append (pv 2) (pa_cons (pe_tup (pa_cons (pv 3) (pa_cons (pv 4) pa_nil))) pa_nil)))) pss_nil)))
      (pss_one (ps_ret (pv 2)))))), ?_⟩
    refine ⟨_, rfl, pa, _, rfl, SqL.of ep, fun D hD => ?_⟩
    refine lc_pure (B := B) (walk_enum (xs := vs)) hD hB (fun H' s' => SqL.of (s' _ _ ep)) (by omega)
      (fun i => (ppF cs i).map enc) (fun i x H' H'' Ny Nn hi s1 bk y ky kn => ?_) (fun H1 ws s1 eD hW => ?_)
    · obtain ⟨t, x, y, rfl, ht, rfl, e1, e2⟩ := y
      obtain ⟨d1, f1, g1⟩ := hA.getV e2
      have hi2 : i < cs.length := by omega
      rw [List.getElem?_map, List.getElem?_eq_getElem hi2] at f1
      have ed : d1 = eC cs[i] := (Option.some.inj f1).symm
      subst ed
      have ex : V.int i = x := Option.some.inj e1
      subst ex
      have oc := c2 _ (List.getElem_mem hi2)
      obtain ⟨z, ez⟩ : ∃ z, cs[i] = [z] := by
        match cs[i], oc.1 with
        | [z], _ => exact ⟨z, rfl⟩
      rw [ez] at g1
      have s2 := sm_new (o := .tup [.int (i : Int), y]) ht
      obtain ⟨ya, rfl, ny, ey⟩ := ((g1.s s1).s s2).col
      refine ⟨t, _, rfl, SqT.of upd_same, rfl, _, _, rfl, _, _, rfl, rfl, rfl, lc_yes ?_⟩
      refine ⟨_, rfl, ya, _, 0, .int z, rfl, rfl, SqT.of ey, rfl, _, rfl, (by show 2 ≤ sizeLine; decide), fun t2 ht2 => ?_⟩
      refine ky _ _ (enc (z, (i : Int))) ?_ (s2.trans (sm_new ht2)) (Dt.ofCol ((bk.go (Go.of (B := []) s2)).ne ht2) upd_same)
      unfold ppF
      rw [List.getElem?_eq_getElem hi2, ez]
      rfl
    · rw [lv, pps_map] at hW
      obtain ⟨k1, k2⟩ := keys hW
      refine ⟨D, ws, key H1, rfl, SqL.of eD, k1, fun ys p hs hb hp2 => ?_⟩
      have py : (ys.map (key H1)).Perm (pps cs) := by
        rw [← k2]
        exact hb.perm.map _
      have ry : Rs (ys.map (key H1)) := List.pairwise_map.mpr hs
      have lp : (pps cs).length ≤ 100 := by
        unfold pps
        refine Nat.le_trans (List.length_filterMap_le _ _) ?_
        rw [List.length_range]
        exact c1
      have ly : ys.length ≤ 100 := by
        have := py.length_eq
        rw [List.length_map] at this
        omega
      have B1 := hB.go (Go.of (B := B) s1)
      have s2 : Same H1 (upd H1 p (.lst ys)) := sm_new hp2
      have ep2 : (upd H1 p (.lst ys)) p = some (.lst ys) := upd_same
      generalize upd H1 p (.lst ys) = H2 at *
      refine ⟨Nat.zero_le _, fun F hF => ?_⟩
      have s3 := sm_new (o := .lst []) hF
      have hF0 : H F = none := s1.free (s2.free hF)
      have hF1 : H1 F = none := s2.free hF
      refine ⟨_, rfl, p, rfl, ⟨_, SqL.of (s3 _ _ ep2)⟩, for_list (xs := ys) (fun i σ H' => ∃ y3 y4 y5 us, σ = [some (.ref pa), some (.ref p), some (.ref F), y3, y4, y5] ∧ Same H2 H' ∧ H' F = some (.lst us) ∧ DtA (F :: B) H' us ((fp ((ys.map (key H1)).take i)).map enc))
        ⟨_, _, _, [], rfl, s3, upd_same, .nil⟩ (fun i σ H' _ h => ?_) (fun i x σ H3 hx h3 => ?_) (fun σ H3 h3 => ?_)⟩
      · obtain ⟨y3, y4, y5, us, rfl, s4, eF, hU⟩ := h
        exact SqL.of (s4 _ _ ep2)
      · obtain ⟨y3, y4, y5, us, rfl, s4, eF, hU⟩ := h3
        obtain ⟨t, rfl, et⟩ := k1 x (hb.perm.mem_iff.mp (List.mem_of_getElem? hx))
        have et3 := s4 _ _ (s2 _ _ et)
        have il := (List.getElem?_eq_some_iff.mp hx).1
        have B3 := (B1.go (Go.of (B := B) (s2.trans s4))).cons eF
        have stp : fp ((ys.map (key H1)).take (i + 1)) = fpS (fp ((ys.map (key H1)).take i)) (key H1 (.ref t)) := by
          unfold fp
          rw [List.take_add_one, List.foldl_append, List.getElem?_map, hx]
          rfl
        have lfp : (fp ((ys.map (key H1)).take i)).length ≤ 100 := by
          have := fp_len ((ys.map (key H1)).take i) []
          have h5 : ((ys.map (key H1)).take i).length ≤ ys.length := by rw [List.length_take, List.length_map]; omega
          unfold fp
          simp only [List.length_nil] at this
          omega
        generalize hqs : fp ((ys.map (key H1)).take i) = qs at *
        generalize hkk : key H1 (.ref t) = kq at *
        have lu := hU.len
        rw [List.length_map] at lu
        have shq : Sh (.list (qs.map enc)) 2 := sh_lst (by rw [List.length_map]; omega) fun d hd => by
          obtain ⟨z, _, rfl⟩ := List.mem_map.mp hd
          exact sh_eC (by simp)
        refine ⟨t, [.int kq.1, .int kq.2], rfl, SqT.of et3, rfl, _, _, rfl, _, _, rfl, rfl, ?_⟩
        refine ⟨_, rfl, Nat.zero_le _, fun z hz => ⟨.list (qs.map enc), .list [], ?_, .lst (SqL.of upd_same) .nil, shq.sh (by omega), rfl, _, rfl, ?_⟩⟩
        · have s5 := sm_new (o := .lst []) hz
          exact .lst (SqL.of (s5 _ _ eF)) (hU.s s5).dP
        have s5 := sm_new (o := .lst []) hz
        rw [emp2]
        refine ite2 (fun e => ?_) (fun e => ?_)
        · have hc : qs = [] ∨ (qs.getLastD (0, 0)).1 ≠ kq.1 := .inl (by
            have := List.isEmpty_iff.mp e
            exact List.map_eq_nil_iff.mp this)
          refine iteT ?_
          have eF4 := s5 _ _ eF
          have hU4 := hU.s s5
          have B4 := B3.go (Go.of (B := []) s5)
          refine ⟨_, rfl, .inl ⟨rfl, _, SqL.of eF4⟩, _, rfl, _, rfl, (by show 2 ≤ sizeLine; decide), fun t2 ht2 => ?_⟩
          have s6 := sm_new (o := .tup [.int kq.1, .int kq.2]) ht2
          have dn : Dt (F :: B) (upd (upd H3 z (.lst [])) t2 (.tup [.int kq.1, .int kq.2])) (.ref t2) (enc kq) := Dt.ofCol (B4.ne ht2) upd_same
          have eF5 := s6 _ _ eF4
          have hU5 := hU4.s s6
          have s45 : Same H2 (upd (upd H3 z (.lst [])) t2 (.tup [.int kq.1, .int kq.2])) := (s4.trans s5).trans s6
          refine ⟨F, _, _, rfl, rfl, eF5, sz (by omega), ?_⟩
          generalize upd (upd H3 z (.lst [])) t2 (.tup [.int kq.1, .int kq.2]) = H6 at *
          have gm : Go (F :: B) H6 (upd H6 F (.lst (us ++ [.ref t2]))) := Go.refl.at (List.mem_cons_self ..)
          refine ⟨_, _, _, us ++ [.ref t2], rfl, sm_mut s45 hF, upd_same, ?_⟩
          rw [stp, show fpS qs kq = qs ++ [kq] from if_pos hc, List.map_append]
          exact (hU5.g gm).app (.one (dn.g gm))
        · have hne : qs ≠ [] := fun z2 => e (by rw [z2]; rfl)
          have hl0 : 0 < qs.length := List.length_pos_iff.mpr hne
          obtain ⟨w, fw, dw⟩ := (hU.s s5).get (i := qs.length - 1) (d := enc (qs.getLastD (0, 0))) (by
            rw [List.getElem?_map, List.getLastD_eq_getLast?, List.getLast?_eq_getElem?, List.getElem?_eq_getElem (by omega)]
            rfl)
          obtain ⟨wa, rfl, _, ew⟩ := dw.col
          refine ⟨_, rfl, _, rfl, F, _, _, .ref wa, rfl, rfl, SqL.of (s5 _ _ eF), at_end (by rw [lu]; exact fw), wa, _, 0, .int (qs.getLastD (0, 0)).1, rfl, rfl, SqT.of ew, rfl, _, rfl, .int (qs.getLastD (0, 0)).1, .int kq.1, .int _, .int _, (sh_int _ 0).sh (by omega), (sh_int _ 0).sh (by omega), _, rfl, ite2 (fun e2 => ?_) (fun e2 => ?_)⟩
          · have hc : qs = [] ∨ (qs.getLastD (0, 0)).1 ≠ kq.1 := .inr (fun z2 => by
              rw [z2] at e2
              simp [PyData.eqv] at e2)
            have eF4 := s5 _ _ eF
            have hU4 := hU.s s5
            have B4 := B3.go (Go.of (B := []) s5)
            refine ⟨_, rfl, .inl ⟨rfl, _, SqL.of eF4⟩, _, rfl, _, rfl, (by show 2 ≤ sizeLine; decide), fun t2 ht2 => ?_⟩
            have s6 := sm_new (o := .tup [.int kq.1, .int kq.2]) ht2
            have dn : Dt (F :: B) (upd (upd H3 z (.lst [])) t2 (.tup [.int kq.1, .int kq.2])) (.ref t2) (enc kq) := Dt.ofCol (B4.ne ht2) upd_same
            have eF5 := s6 _ _ eF4
            have hU5 := hU4.s s6
            have s45 : Same H2 (upd (upd H3 z (.lst [])) t2 (.tup [.int kq.1, .int kq.2])) := (s4.trans s5).trans s6
            refine ⟨F, _, _, rfl, rfl, eF5, sz (by omega), ?_⟩
            generalize upd (upd H3 z (.lst [])) t2 (.tup [.int kq.1, .int kq.2]) = H6 at *
            have gm : Go (F :: B) H6 (upd H6 F (.lst (us ++ [.ref t2]))) := Go.refl.at (List.mem_cons_self ..)
            refine ⟨_, _, _, us ++ [.ref t2], rfl, sm_mut s45 hF, upd_same, ?_⟩
            rw [stp, show fpS qs kq = qs ++ [kq] from if_pos hc, List.map_append]
            exact (hU5.g gm).app (.one (dn.g gm))
          · have hx2 : (qs.getLastD (0, 0)).1 = kq.1 := by simpa [PyData.eqv] using e2
            have hn : ¬ (qs = [] ∨ (qs.getLastD (0, 0)).1 ≠ kq.1) := fun z2 => by
              rcases z2 with z2 | z2
              · exact hne z2
              · exact z2 hx2
            refine ⟨_, _, _, us, rfl, s4.trans s5, s5 _ _ eF, ?_⟩
            rw [stp, show fpS qs kq = qs from if_neg hn]
            exact hU.s s5
      · obtain ⟨y3, y4, y5, us, rfl, s4, eF, hU⟩ := h3
        have tk : (ys.map (key H1)).take ys.length = ys.map (key H1) := by
          rw [← List.length_map (f := key H1)]
          exact List.take_length
        rw [tk] at hU
        have lfp : (fp (ys.map (key H1))).length ≤ 100 := by
          have := fp_len (ys.map (key H1)) []
          rw [List.length_map] at this
          unfold fp
          simp only [List.length_nil] at this
          omega
        exact ⟨_, rfl, q _ _ (fp (ys.map (key H1))) ((s1.trans s2).trans s4) (.lst (hB.ne hF0) eF hU.un) (fp_fst py ry c0 fun c hc => (c2 c hc).1) lfp⟩
/-! ### where the next one begins -/
def spBegin : Sp := fun vs H Q _ => ∃ (B : List Addr) (x y : V) (l r : Int × Int), vs = [x, y] ∧ Dt B H x (enc l) ∧ Dt B H y (enc r) ∧ Q (.int (bb l r)) H
theorem ok_begin_between (T : Tx K mg) {k : Nat} : FnOk P w K mg base CX0 (k + 1) T.f_begin_between T.d_begin_between ["left", "right"] spBegin := by
  refine T.F_begin_between.ok sc_begin_between (fun vs H Q E h => ?_) (fun cdv A outer s H vs Q E hr h => ?_)
  · obtain ⟨B, x, y, l, r, rfl, _⟩ := h
    rfl
  · obtain ⟨B, x, y, l, r, rfl, hx, hy, q⟩ := h
    obtain ⟨la, rfl, _, el⟩ := hx.col
    obtain ⟨ra, rfl, _, er⟩ := hy.col
    refine ⟨_, (pss_cons (ps_set (i := 2) sc_begin_between.nd rfl (.inl rfl) (pe_op op_add (pe_ix (ix_tupK K) (pv 0) pe_int (fun _ _ => rfl)) (pe_ix (ix_tupK K) (pv 1) pe_int (fun _ _ => rfl))))
      (pss_cons (ps_if (PW.pt (pw_and (pt_cmpR op_eq (pe_op op_mod (pv 2) pe_int) pe_int (nomark _)) (pw_and1 (pt_cmpR op_lt (pe_ix (ix_tupK K) (pv 1) pe_int (fun _ _ => rfl)) (pe_ix (ix_tupK K) (pv 0) pe_int (fun _ _ => rfl)) (nomark _))))) (pss_one (ps_ret (pe_op op_fdiv (pv 2) pe_int))) pss_nil)
      (pss_one (ps_ret (pe_op op_add (pe_op op_fdiv (pv 2) pe_int) pe_int))))), ?_⟩
    refine ⟨_, rfl, la, _, 0, .int l.1, rfl, rfl, SqT.of el, rfl, _, rfl, ra, _, 0, .int r.1, rfl, rfl, SqT.of er, rfl, _, _, rfl, rfl, ?_⟩
    refine ⟨_, rfl, _, _, rfl, rfl, md (by decide), rfl, _, rfl, ite2 (fun e => ?_) (fun e => ?_)⟩
    · have e1 : (l.1 + r.1) % 2 = 0 := by simpa using e
      refine ⟨_, rfl, ra, _, 1, .int r.2, rfl, rfl, SqT.of er, rfl, _, rfl, la, _, 1, .int l.2, rfl, rfl, SqT.of el, rfl, _, _, rfl, rfl, _, rfl, ite2 (fun e2 => ?_) (fun e2 => ?_)⟩
      · have e3 : r.2 < l.2 := of_decide_eq_true e2
        refine ⟨_, rfl, _, _, rfl, rfl, ⟨by decide, by decide⟩, ?_⟩
        unfold bb at q
        rw [if_pos ⟨e1, e3⟩] at q
        exact q
      · have e3 : ¬ r.2 < l.2 := fun h => e2 (decide_eq_true h)
        refine ⟨_, rfl, _, _, rfl, rfl, ⟨by decide, by decide⟩, _, _, rfl, rfl, ?_⟩
        unfold bb at q
        rw [if_neg (fun h => e3 h.2)] at q
        exact q
    · have e1 : ¬ (l.1 + r.1) % 2 = 0 := by simpa using e
      refine iteF ⟨_, rfl, _, _, rfl, rfl, ⟨by decide, by decide⟩, _, _, rfl, rfl, ?_⟩
      unfold bb at q
      rw [if_neg (fun h => e1 h.1)] at q
      exact q
/-! ### the first row -/
def hd2 (rs : List (Int × Int)) : Int × Int := rs.headD (0, 0)
theorem hd_get {rs : List (Int × Int)} (h : 0 < rs.length) : rs[0]? = some (hd2 rs) := by
  match rs, h with
  | r :: rs, _ => rfl
/-! ### the law's own reading of a table -/
def noF (n : Int) (r : Int × Int) : Option Int := if r.1 ≤ n then some r.2 else none
theorem bt_last : ∀ (rs : List (Int × Int)) (n t0 : Int), bt rs n t0 = (rs.filterMap (noF n)).getLastD t0
  | [], _, _ => rfl
  | r :: rs, n, t0 => by
    have ih := bt_last rs n (if r.1 ≤ n then r.2 else t0)
    unfold bt at ih ⊢
    rw [List.foldl_cons, ih, List.filterMap_cons]
    unfold noF
    by_cases h : r.1 ≤ n
    · simp only [if_pos h]
      rw [List.getLastD_cons]
    · simp only [if_neg h]
theorem fmb {α β : Type} (ds : List α) (f : α → Option β) : (List.range ds.length).filterMap (fun i => (ds[i]?).bind f) = ds.filterMap f := by
  have h := List.filterMap_filterMap (f := fun i : Nat => ds[i]?) (g := f) (l := List.range ds.length)
  rw [fm_all rfl] at h
  exact h.symm
def spNoOf : Sp := fun vs H Q _ => ∃ (B : List Addr) (tv : V) (rs : List (Int × Int)) (n : Int), vs = [tv, .int n] ∧ Dt B H tv (eR rs) ∧ 0 < rs.length ∧ rs.length ≤ 1000 ∧ (hd2 rs).1 ≤ n ∧ ∀ H', Same H H' → Q (.int (bt rs n (hd2 rs).2)) H'
theorem ok_l_number_of (T : Tx K mg) {k : Nat} : FnOk P w K mg base CX0 (k + 1) T.f_l_number_of T.d_l_number_of ["_law_table", "_law_n"] spNoOf := by
  refine T.F_l_number_of.ok sc_l_number_of (fun vs H Q E h => ?_) (fun cdv A outer s H vs Q E hr h => ?_)
  · obtain ⟨B, tv, rs, n, rfl, _⟩ := h
    rfl
  · obtain ⟨B, tv, rs, n, rfl, ht, h0, h1, hn, q⟩ := h
    obtain ⟨ta, vs, rfl, na, et, hA⟩ := ht.tupI
    have lv := hA.len
    rw [List.length_map] at lv
    refine ⟨_, (pss_one (ps_ret (pe_ix (ix_listK K) (pe_lc (own := [("_law_begin", 2), ("_law_number", 3)]) (by rfl) sc_l_number_of.nd (pi_tupK K (pv 0)) (blkOk_by (own := [("_law_begin", 2), ("_law_number", 3)]) (N := N_l_number_of) (sc := defScope s_l_number_of) (by decide +kernel)) (fun _ _ _ _ _ => (pg_tupK K (n := 2) rfl (pgs_cons (pg_name (i := 2) sc_l_number_of.nd rfl (.inl rfl)) (pgs_cons (pg_name (i := 3) sc_l_number_of.nd rfl (.inl rfl)) pgs_nil)))) (fun _ _ _ _ _ => pts_one (pt_cmpR op_le (pv 2) (pv 1) (nomark _))) (fun _ _ _ _ _ => (pv 3))) (pe_un un_neg pe_int) (fun _ _ => rfl)))), ?_⟩
    refine ⟨_, rfl, ta, rfl, ⟨_, SqT.of et⟩, fun D hD => ?_⟩
    refine lc_pure (B := []) (walk_tup (xs := vs)) hD (fun _ h => nomatch h) (fun H' s' => SqT.of (s' _ _ et)) (by omega)
      (fun i => (rs[i]?).bind fun r => (noF n r).map PyData.int) (fun i x H' H'' Ny Nn hi t1 bk y ky kn => ?_) (fun H8 ws s8 eS hW => ?_)
    · obtain ⟨rfl, y⟩ := y
      obtain ⟨d, fd', gd⟩ := hA.getV y
      have il : i < rs.length := by omega
      rw [List.getElem?_map, List.getElem?_eq_getElem il] at fd'
      have ed : d = enc rs[i] := (Option.some.inj fd').symm
      subst ed
      obtain ⟨xa, rfl, _, ex⟩ := (gd.s t1).col
      refine ⟨xa, [.int rs[i].1, .int rs[i].2], rfl, SqT.of ex, rfl, _, _, rfl, _, _, rfl, rfl, rfl, ?_⟩
      refine ⟨_, rfl, _, rfl, _, _, rfl, rfl, _, rfl, ite2 (fun e => ?_) (fun e => ?_)⟩
      · refine ⟨_, rfl, ky _ _ (.int rs[i].2) ?_ (Same.refl _) (.int _)⟩
        rw [List.getElem?_eq_getElem il]
        show (noF n rs[i]).map PyData.int = _
        unfold noF
        rw [if_pos (of_decide_eq_true e)]
        rfl
      · refine kn _ ?_ (Same.refl _)
        rw [List.getElem?_eq_getElem il]
        show (noF n rs[i]).map PyData.int = _
        unfold noF
        rw [if_neg (fun h => e (decide_eq_true h))]
        rfl
    · rw [lv, fmb, ← List.map_filterMap] at hW
      have ew := hW.intsV
      subst ew
      have ne : rs.filterMap (noF n) ≠ [] := fun z => by
        have := List.filterMap_eq_nil_iff.mp z (hd2 rs) (List.mem_of_getElem? (hd_get h0))
        unfold noF at this
        rw [if_pos hn] at this
        cases this
      obtain ⟨ys, z, ez⟩ : ∃ ys z, rs.filterMap (noF n) = ys ++ [z] := ⟨_, _, (List.dropLast_concat_getLast ne).symm⟩
      have eb : bt rs n (hd2 rs).2 = z := by
        rw [bt_last, ez, List.getLastD_eq_getLast?, List.getLast?_append]
        rfl
      refine ⟨_, rfl, D, _, _, .int z, rfl, rfl, SqL.of eS, ?_, ?_⟩
      · rw [ez, List.map_append]
        exact atI_last _ _
      · rw [← eb]
        exact q _ s8
/-! ### the table of a line -/
def rowsOf (qs : List (Int × Int)) (low high i0 : Int) : List (Int × Int) := (low, i0) :: (List.range (qs.length - 1)).filterMap (rowF qs low high)
def spLine : Sp := fun vs H Q _ => ∃ (B : List Addr) (pl : V) (cs : List (List Int)) (low high : Int), vs = [pl, .int low, .int high] ∧ Dt B H pl (eP cs) ∧ Bk B H ∧ wOk cs ∧ -10000000 ≤ low ∧ low ≤ 10000000 ∧
  ∀ v H' (qs : List (Int × Int)) (i0 : Nat), Same H H' → Dt B H' v (eR (rowsOf qs low high (i0 : Int))) → Fst cs qs → near cs [low] i0 → qs.length ≤ 100 → Q v H'
theorem at2q_get {qs : List (Int × Int)} {i : Nat} (h : i < qs.length) : qs[i]? = some (at2q qs i) := by
  unfold at2q
  rw [List.getD_eq_getElem?_getD, List.getElem?_eq_getElem h]
  rfl
theorem cut1 (xs : List V) : cutV xs (some 1) none = xs.drop 1 := by
  unfold cutV
  have e1 : HT.sIx xs.length 0 (some 1) = min 1 xs.length := HT.sIx_nat xs.length 0 1
  have e2 : HT.sIx xs.length xs.length none = xs.length := rfl
  rw [e1, e2]
  cases xs with
  | nil => rfl
  | cons x r =>
    rw [List.length_cons, show min 1 (r.length + 1) = 1 by omega, Nat.add_sub_cancel]
    show r.take r.length = r
    exact List.take_length
theorem ok_line_table (T : Tx K mg) {k : Nat} : FnOk P w K mg base CX0 (k + 3) T.f_line_table T.d_line_table ["palette", "low", "high"] spLine := by
  refine T.F_line_table.ok sc_line_table (fun vs H Q E h => ?_) (fun cdv A outer s H vs Q E hr h => ?_)
  · obtain ⟨B, pl, cs, low, high, rfl, _⟩ := h
    rfl
  · obtain ⟨B, pl, cs, low, high, rfl, hp, hB, wo, w1, w2, q⟩ := h
    refine ⟨_, (pss_cons (ps_set (i := 3) sc_line_table.nd rfl (.inl rfl) (pe_call (ok_first_places T (k := k + 1)) hr (by rfl) T.g_first_places T.F_first_places.kp T.b_first_places .nil pass0 (pa_cons (pv 0) pa_nil)))
      (pss_cons (ps_set (i := 4) sc_line_table.nd rfl (.inl rfl) (pe_lst (pa_cons (pe_tup (pa_cons (pv 1) (pa_cons (pe_call (ok_nearest T (k := k)) hr (by rfl) T.g_nearest T.F_nearest.kp T.b_nearest .nil pass0 (pa_cons (pv 0) (pa_cons (pe_tup (pa_cons (pv 1) pa_nil)) pa_nil))) pa_nil))) pa_nil)))
      (pss_cons (ps_for PassesOwn.never rfl (RZ.pi_zipA (by rfl) T.z_zip (pa_cons (pv 3) (pa_cons (pe_slice (sl_listK K) (pv 3) (po_some pe_int) po_none) pa_nil))) (pg_tupK K (n := 2) rfl (pgs_cons (pg_name (i := 5) sc_line_table.nd rfl (.inl rfl)) (pgs_cons (pg_name (i := 6) sc_line_table.nd rfl (.inl rfl)) pgs_nil))) (pss_cons (ps_set (i := 7) sc_line_table.nd rfl (.inl rfl) (pe_call (ok_begin_between T (k := k + 1)) hr (by rfl) T.g_begin_between T.F_begin_between.kp T.b_begin_between .nil pass0 (pa_cons (pv 5) (pa_cons (pv 6) pa_nil))))
      (pss_one (ps_if (pt_chain op_lt op_le (pv 1) (pv 7) (pv 2)) (pss_one (ps_expr (pe_bm PySem.F.plainAttrs_list PySem.F.slot_list_append PySem.F.type_list_append mt_append (pv 4) (pa_cons (pe_tup (pa_cons (pv 7) (pa_cons (pe_ix (ix_tupK K) (pv 6) pe_int (fun _ _ => rfl)) pa_nil))) pa_nil)))) pss_nil))))
      (pss_one (ps_ret (pe_callTy (tuple_K K) (by rfl) T.z_tuple (by decide +kernel) (pa_cons (pv 4) pa_nil))))))), ?_⟩
    refine ⟨_, rfl, B, pl, cs, rfl, hp, hB, wo, fun fv H1 qs s1 d1 F1 n1 => ?_⟩
    obtain ⟨fa, fs, rfl, nfa, efa, hA⟩ := d1.lstI
    have lf := hA.len
    rw [List.length_map] at lf
    refine ⟨_, rfl, _, rfl, _, rfl, (by show 1 ≤ sizeLine; decide), fun t ht => ?_⟩
    have s2 := sm_new (o := .tup [.int low]) ht
    have B1 := hB.go (Go.of (B := B) s1)
    have dt : Dt B (upd H1 t (.tup [.int low])) (.ref t) (eC [low]) := Dt.ofCol (B1.ne ht) upd_same
    have po : pOk cs [low] := ⟨by have := wo.2.1; omega, by simp, fun x hx => by rw [List.mem_singleton.mp hx]; omega, fun x hx => ⟨(wo.2.2 x hx).1, (wo.2.2 x hx).2.mono (by decide) (by decide)⟩⟩
    refine ⟨B, pl, .ref t, cs, [low], rfl, (hp.s s1).s s2, dt, po, wo.1, fun H3 i0 s3 hi0 => ?_⟩
    have s13 := s2.trans s3
    have B3 := B1.go (Go.of (B := B) s13)
    refine ⟨(by show 2 ≤ sizeLine; decide), fun t2 ht2 => ?_⟩
    have s4 := sm_new (o := .tup [.int low, .int (i0 : Int)]) ht2
    have d2 : Dt B (upd H3 t2 (.tup [.int low, .int (i0 : Int)])) (.ref t2) (enc (low, (i0 : Int))) := Dt.ofCol (B3.ne ht2) upd_same
    have B4 := B3.go (Go.of (B := B) s4)
    have t14 := s13.trans s4
    generalize upd H3 t2 (.tup [.int low, .int (i0 : Int)]) = H4 at *
    refine ⟨(by show 1 ≤ sizeLine; decide), fun R hR => ?_⟩
    have s5 := sm_new (o := .lst [.ref t2]) hR
    have eR5 : (upd H4 R (.lst [.ref t2])) R = some (.lst [.ref t2]) := upd_same
    have nR : R ∉ B := B4.ne hR
    have d2' : Dt (R :: B) (upd H4 R (.lst [.ref t2])) (.ref t2) (enc (low, (i0 : Int))) := (d2.fr hR).s s5
    have hA5 := (((hA.s t14).fr hR)).s s5
    have efa5 := s5 _ _ (t14 _ _ efa)
    have B5 : Bk B (upd H4 R (.lst [.ref t2])) := B4.up
    generalize upd H4 R (.lst [.ref t2]) = H5 at *
    refine ⟨_, rfl, _, rfl, 1, rfl, fa, _, rfl, SqL.of efa5, fun sl hsl => ?_⟩
    have s6 := sm_new (o := .lst (cutV fs (some 1) none)) hsl
    have esl : (upd H5 sl (.lst (cutV fs (some 1) none))) sl = some (.lst (fs.drop 1)) := by rw [upd_same, cut1]
    generalize upd H5 sl (.lst (cutV fs (some 1) none)) = H6 at *
    have efa6 := s6 _ _ efa5
    have hA6 := hA5.s s6
    have hR6 := s6 _ _ eR5
    have nsl : sl ≠ R := fun z => by rw [z, eR5] at hsl; cases hsl
    have nfR : fa ≠ R := fun z => by
      have := t14 _ _ efa
      rw [z, hR] at this
      cases this
    refine ⟨fa, sl, _, _, rfl, .inl ⟨SqL.of efa6, SqL.of esl, ?_⟩⟩
    refine for_it (walk_zip (n := qs.length - 1) (xs := fs) (ys := fs.drop 1) (by rw [List.length_drop]; omega)) (fun i σ H' => ∃ y5 y6 y7 us, σ = [some pl, some (.int low), some (.int high), some (.ref fa), some (.ref R), y5, y6, y7] ∧ Go [R] H6 H' ∧ H' R = some (.lst us) ∧ DtA (R :: B) H' us (((low, (i0 : Int)) :: (List.range i).filterMap (rowF qs low high)).map enc) ∧ us.length ≤ i + 1)
      ⟨_, _, _, [.ref t2], rfl, Go.refl, hR6, .one (d2'.s s6), Nat.le_refl _⟩ (fun i σ H' _ h => ?_) (fun i x σ H7 H8 hi h7 y => ?_) (fun σ H7 h7 => ?_)
    · obtain ⟨y5, y6, y7, us, rfl, g7, eR7, hU, lU⟩ := h
      exact ⟨SqL.of (g7.k _ _ (by simpa using nfR) efa6), SqL.of (g7.k _ _ (by simpa using nsl) esl)⟩
    · obtain ⟨y5, y6, y7, us, rfl, g7, eR7, hU, lU⟩ := h7
      obtain ⟨t, x, y, rfl, ht, rfl, f1, f2⟩ := y
      have f1' : fs[i]? = some x := f1
      have f2' : fs[i + 1]? = some y := by
        have : (fs.drop 1)[i]? = some y := f2
        rwa [List.getElem?_drop, Nat.add_comm] at this
      have hA7 := hA6.g (g7.w1 (B := R :: B) (List.mem_cons_self ..))
      obtain ⟨dx, fx, gx⟩ := hA7.getV f1'
      obtain ⟨dy, fy, gy⟩ := hA7.getV f2'
      rw [List.getElem?_map, at2q_get (by omega)] at fx fy
      have ex : dx = enc (at2q qs i) := (Option.some.inj fx).symm
      have ey : dy = enc (at2q qs (i + 1)) := (Option.some.inj fy).symm
      subst ex ey
      have s8 := sm_new (o := .tup [x, y]) ht
      have gx8 := gx.s s8
      have gy8 := gy.s s8
      have eR8 := s8 _ _ eR7
      have hU8 := hU.s s8
      have g8 : Go [R] H6 (upd H7 t (.tup [x, y])) := g7.trans (Go.of s8)
      have B8 : Bk (R :: B) (upd H7 t (.tup [x, y])) := ((B5.go (Go.of (B := B) s6)).go g8).cons eR8
      refine ⟨t, _, rfl, SqT.of upd_same, rfl, _, _, rfl, _, _, rfl, rfl, ?_⟩
      generalize upd H7 t (.tup [x, y]) = H8 at *
      refine ⟨_, rfl, _, rfl, R :: B, x, y, at2q qs i, at2q qs (i + 1), rfl, gx8, gy8, ?_⟩
      have erow : ((low, (i0 : Int)) :: (List.range (i + 1)).filterMap (rowF qs low high)).map enc = ((low, (i0 : Int)) :: (List.range i).filterMap (rowF qs low high)).map enc ++ ((rowF qs low high i).toList).map enc := by
        rw [List.range_succ, List.filterMap_append, ← List.cons_append, List.map_append]
        congr 2
      obtain ⟨ya, rfl, nya, eya⟩ := gy8.col
      have skip : ¬ (low < bq qs i ∧ bq qs i ≤ high) → ∃ y5' y6' y7' us', [some pl, some (.int low), some (.int high), some (.ref fa), some (.ref R), some x, some (.ref ya), some (.int (bq qs i))] = [some pl, some (.int low), some (.int high), some (.ref fa), some (.ref R), y5', y6', y7'] ∧ Go [R] H6 H8 ∧ H8 R = some (.lst us') ∧ DtA (R :: B) H8 us' (((low, (i0 : Int)) :: (List.range (i + 1)).filterMap (rowF qs low high)).map enc) ∧ us'.length ≤ i + 1 + 1 := fun hn => by
        refine ⟨_, _, _, us, rfl, g8, eR8, ?_, by omega⟩
        rw [erow, show rowF qs low high i = none from if_neg hn]
        rw [Option.toList_none, List.map_nil, List.append_nil]
        exact hU8
      refine ⟨_, rfl, _, rfl, _, _, rfl, rfl, _, rfl, ite2 (fun e => ?_) (fun e => ?_)⟩
      · refine ⟨_, rfl, _, _, rfl, rfl, _, rfl, ite2 (fun e2 => ?_) (fun e2 => ?_)⟩
        · have hc : low < bq qs i ∧ bq qs i ≤ high := ⟨of_decide_eq_true e, of_decide_eq_true e2⟩
          refine ⟨_, rfl, .inl ⟨rfl, _, SqL.of eR8⟩, _, rfl, _, rfl, ya, _, 1, .int (at2q qs (i + 1)).2, rfl, rfl, SqT.of eya, rfl, (by show 2 ≤ sizeLine; decide), fun t9 ht9 => ?_⟩
          have s9 := sm_new (o := .tup [.int (bq qs i), .int (at2q qs (i + 1)).2]) ht9
          have d9 : Dt (R :: B) (upd H8 t9 (.tup [.int (bq qs i), .int (at2q qs (i + 1)).2])) (.ref t9) (enc (bq qs i, (at2q qs (i + 1)).2)) := Dt.ofCol (B8.ne ht9) upd_same
          have g9 : Go [R] H6 (upd H8 t9 (.tup [.int (bq qs i), .int (at2q qs (i + 1)).2])) := g8.trans (Go.of s9)
          have eR9 := s9 _ _ eR8
          have hU9 := hU8.s s9
          refine ⟨R, _, _, rfl, rfl, eR9, sz (by omega), ?_⟩
          have gm : Go (R :: B) (upd H8 t9 (.tup [.int (bq qs i), .int (at2q qs (i + 1)).2])) (upd (upd H8 t9 (.tup [.int (bq qs i), .int (at2q qs (i + 1)).2])) R (.lst (us ++ [.ref t9]))) := Go.refl.at (List.mem_cons_self ..)
          refine ⟨_, _, _, us ++ [.ref t9], rfl, g9.at (by simp), upd_same, ?_, by simp; omega⟩
          rw [erow, show rowF qs low high i = some (bq qs i, (at2q qs (i + 1)).2) from if_pos hc]
          exact (hU9.g gm).app (.one (d9.g gm))
        · exact skip (fun h => e2 (decide_eq_true h.2))
      · exact ⟨false, rfl, iteF (skip (fun h => e (decide_eq_true h.1)))⟩
    · obtain ⟨y5, y6, y7, us, rfl, g7, eR7, hU, lU⟩ := h7
      refine ⟨_, rfl, R, _, rfl, .inl ⟨SqL.of eR7, fun t ht => ?_⟩⟩
      have g47 : Same H4 H7 := g7.sm (s5.trans s6) (fun a ha => by rw [List.mem_singleton.mp ha]; exact hR)
      have B7 : Bk B H7 := B4.go (Go.of (B := B) g47)
      refine q _ _ qs i0 (((s1.trans t14).trans g47).trans (sm_new ht)) (.tup (B7.ne ht) upd_same (hU.un.s (sm_new ht))) F1 hi0 n1
/-! ### a palette on a line, and a stretch -/
theorem bit_01 (b : Bool) : 0 ≤ (if b = true then (1 : Int) else 0) ∧ (if b = true then (1 : Int) else 0) ≤ 1 := by cases b <;> decide
def spLL : Sp := fun vs H Q _ => ∃ (L : Addr) (n : Nat), vs = [.ref L] ∧ Lf L H n ∧ n < 1000000 ∧
  ∀ (t pa : Addr) (H' : Hp) (cs : List (List Int)) (low high : Int), Go [L] H H' → Lf L H' (n + 1010) → H' t = some (.tup [.ref pa, .int low, .int high]) → Dt [L] H' (.ref pa) (eP cs) → 0 < cs.length → cs.length ≤ 40 → (∀ c ∈ cs, cOk 1 c) → -2000 ≤ low → low ≤ 999 → low ≤ high → high ≤ low + 100 → Q (.ref t) H'
theorem ok_l_line (T : Tx K mg) {k : Nat} : FnOk P w K mg base CX0 (k + 5) T.f_l_line T.d_l_line ["_law_left_here"] spLL := by
  refine T.F_l_line.ok sc_l_line (fun vs H Q E h => ?_) (fun cdv A outer s H vs Q E hr h => ?_)
  · obtain ⟨L, n, rfl, _⟩ := h
    rfl
  · obtain ⟨L, n, rfl, hL, hn, q⟩ := h
    refine ⟨_, (pss_cons (ps_set (i := 1) sc_l_line.nd rfl (.inl rfl) (pe_call (ok_l_palette T (k := k)) hr (by rfl) T.g_l_palette T.F_l_palette.kp T.b_l_palette .nil pass0 (pa_cons (pv 0) (pa_cons (pe_tup (pa_cons pe_int (pa_cons (pe_ix (ix_listK K) (pe_lst (pa_cons pe_int (pa_cons pe_int (pa_cons pe_int (pa_cons pe_int (pa_cons pe_int (pa_cons pe_int pa_nil))))))) (pe_call (ok_l_pick T (k := k + 2)) hr (by rfl) T.g_l_pick T.F_l_pick.kp T.b_l_pick .nil pass0 (pa_cons (pv 0) (pa_cons pe_int pa_nil))) (fun _ _ => rfl)) pa_nil))) pa_nil))))
      (pss_cons (ps_set (i := 2) sc_l_line.nd rfl (.inl rfl) (pe_op op_sub (pe_op op_sub (pe_ix (ix_tupK K) (pe_ix (ix_listK K) (pv 1) (pe_call (ok_l_pick T (k := k + 2)) hr (by rfl) T.g_l_pick T.F_l_pick.kp T.b_l_pick .nil pass0 (pa_cons (pv 0) (pa_cons (pe_callB (len_K K) (by rfl) T.z_len PySem.boot_len (pa_cons (pv 1) pa_nil)) pa_nil))) (fun _ _ => rfl)) pe_int (fun _ _ => rfl)) (pe_call (ok_l_pick T (k := k + 2)) hr (by rfl) T.g_l_pick T.F_l_pick.kp T.b_l_pick .nil pass0 (pa_cons (pv 0) (pa_cons pe_int pa_nil)))) (pe_op op_mul pe_int (pe_callTy call_int1 (by rfl) T.z_int (by decide +kernel) (pa_cons (pe_cmpR op_eq (pe_call (ok_l_pick T (k := k + 2)) hr (by rfl) T.g_l_pick T.F_l_pick.kp T.b_l_pick .nil pass0 (pa_cons (pv 0) (pa_cons pe_int pa_nil))) pe_int (nomark _)) pa_nil)))))
      (pss_one (ps_ret (pe_tup (pa_cons (pv 1) (pa_cons (pv 2) (pa_cons (pe_op op_add (pv 2) (pe_ix (ix_listK K) (pe_lst (pa_cons pe_int (pa_cons pe_int (pa_cons pe_int (pa_cons (pe_call (ok_l_pick T (k := k + 2)) hr (by rfl) T.g_l_pick T.F_l_pick.kp T.b_l_pick .nil pass0 (pa_cons (pv 0) (pa_cons pe_int pa_nil))) pa_nil))))) (pe_call (ok_l_pick T (k := k + 2)) hr (by rfl) T.g_l_pick T.F_l_pick.kp T.b_l_pick .nil pass0 (pa_cons (pv 0) (pa_cons pe_int pa_nil))) (fun _ _ => rfl))) pa_nil)))))))), ?_⟩
    refine ⟨_, rfl, (by show 6 ≤ sizeLine; decide), fun p hp => ?_⟩
    refine ⟨_, rfl, L, 6, n, rfl, hL.new hp, by omega, by decide, by decide, fun r1 H1 g1 l1 a1 b1 => ?_⟩
    have e1 : H1 p = some (.lst ([4, 12, 40, 256, 1000, 90].map V.int)) := g1.k p _ (hL.bk.ne hp) upd_same
    obtain ⟨sp, ms, es⟩ := at_int (ns := [4, 12, 40, 256, 1000, 90]) a1 b1
    refine ⟨p, _, r1, .int sp, rfl, rfl, SqL.of e1, es, (by show 2 ≤ sizeLine; decide), fun kt hkt => ?_⟩
    simp at ms
    refine ⟨L, n + 1, .ref kt, 1, sp, rfl, l1.new hkt, by omega, Dt.ofCol (l1.bk.ne hkt) upd_same, by omega, by omega, by omega, by omega, fun pl H2 cs g2 l2 d2 c0 c1 cok => ?_⟩
    obtain ⟨pa, vs, rfl, np, ep, hA⟩ := d2.pal
    have lv := hA.len
    rw [List.length_map] at lv
    have gH : Go [L] H H2 := (((Go.new hp).trans g1).trans (Go.new hkt)).trans g2
    refine ⟨_, rfl, _, rfl, _, rfl, pa, _, rfl, .inl (SqL.of ep), L, _, n + 1001, rfl, l2, by omega, by omega, by omega, fun r3 H3 g3 l3 a3 b3 => ?_⟩
    have ep3 := g3.k pa _ np ep
    have hA3 := hA.g g3
    have i3 : r3.toNat < cs.length := by omega
    obtain ⟨v3, f3, d3⟩ := hA3.get (i := r3.toNat) (d := eC cs[r3.toNat]) (by rw [List.getElem?_map, List.getElem?_eq_getElem i3]; rfl)
    have o3 := cok _ (List.getElem_mem i3)
    generalize cs[r3.toNat] = x3 at *
    obtain ⟨z3, rfl⟩ : ∃ z, x3 = [z] := by
      match x3, o3.1 with
      | [z], _ => exact ⟨z, rfl⟩
    have z3b := o3.2 z3 (by simp)
    obtain ⟨ta, rfl, _, u3⟩ := d3.col
    refine ⟨pa, _, _, _, rfl, rfl, SqL.of ep3, at0 a3 f3, ta, _, 0, .int z3, rfl, rfl, SqT.of u3, rfl, ?_⟩
    refine ⟨_, rfl, L, 60, n + 1002, rfl, l3, by omega, by decide, by decide, fun r4 H4 g4 l4 a4 b4 => ?_⟩
    refine ⟨_, _, rfl, rfl, _, rfl, L, 8, n + 1003, rfl, l4, by omega, by decide, by decide, fun r5 H5 g5 l5 a5 b5 => ?_⟩
    refine ⟨rfl, .inr ⟨_, rfl, _, _, rfl, rfl, .inl ⟨by decide, by decide⟩, _, _, rfl, rfl, ?_⟩⟩
    have hb := bit_01 (decide (V.int r5 = V.int 0))
    generalize (if decide (V.int r5 = V.int 0) = true then (1 : Int) else 0) = bit at *
    refine ⟨_, rfl, _, rfl, _, rfl, _, rfl, L, 100, n + 1004, rfl, l5, by omega, by decide, by decide, fun r6 H6 g6 l6 a6 b6 => ?_⟩
    refine ⟨(by show 4 ≤ sizeLine; decide), fun p7 hp7 => ?_⟩
    refine ⟨_, rfl, L, 4, n + 1005, rfl, l6.new hp7, by omega, by decide, by decide, fun r7 H7 g7 l7 a7 b7 => ?_⟩
    have e7 : H7 p7 = some (.lst ([0, 1, 90, r6].map V.int)) := g7.k p7 _ (l6.bk.ne hp7) upd_same
    obtain ⟨z7, m7, f7⟩ := at_int (ns := [0, 1, 90, r6]) a7 b7
    refine ⟨p7, _, r7, .int z7, rfl, rfl, SqL.of e7, f7, _, _, rfl, rfl, (by show 3 ≤ sizeLine; decide), fun t ht => ?_⟩
    have m7' : 0 ≤ z7 ∧ z7 ≤ 99 := by
      simp at m7
      omega
    have g27 : Go [L] H2 (upd H7 t (.tup [.ref pa, .int (z3 - r4 - 900 * bit), .int (z3 - r4 - 900 * bit + z7)])) := ((((((g3.trans g4).trans g5).trans g6).trans (Go.new hp7)).trans g7)).trans (Go.new ht)
    exact q t pa _ cs _ _ (gH.trans g27) ((l7.new ht).mono (by omega)) upd_same (d2.g g27) c0 c1 cok (by omega) (by omega) (by omega) (by omega)
/-! ### numbers of the nearest -/
open Classical in
noncomputable def nrI (cs : List (List Int)) (c : List Int) : Nat := if h : ∃ i, near cs c i then h.choose else 0
theorem nr_of {cs : List (List Int)} {c : List Int} {i : Nat} (h : near cs c i) : nrI cs c = i := by
  unfold nrI
  rw [dif_pos ⟨i, h⟩]
  exact near_one (Exists.choose_spec (⟨i, h⟩ : ∃ i, near cs c i)) h
/-! ### tables that tell the nearest: three ways to look -/
def Gd (f : Int → Int) (hi : Int) : List (Int × Int) → Prop
  | [] => False
  | [r] => r.1 ≤ hi ∧ ∀ n, r.1 ≤ n → n ≤ hi → f n = r.2
  | r :: s :: t => r.1 < s.1 ∧ (∀ n, r.1 ≤ n → n < s.1 → f n = r.2) ∧ Gd f hi (s :: t)
def Ri : List (Int × Int) → Prop
  | r :: s :: t => r.1 < s.1 ∧ Ri (s :: t)
  | _ => True
def LastLe (hi : Int) : List (Int × Int) → Prop
  | [] => True
  | [r] => r.1 ≤ hi
  | _ :: s :: t => LastLe hi (s :: t)
def Ck (f : Int → Int) (hi : Int) : List (Int × Int) → Prop
  | [] => True
  | [r] => f r.1 = r.2 ∧ f hi = r.2
  | r :: s :: t => (f r.1 = r.2 ∧ f (s.1 - 1) = r.2) ∧ Ck f hi (s :: t)
def Cvx (f : Int → Int) : Prop := ∀ a b n, a ≤ n → n ≤ b → f a = f b → f n = f a
theorem gd_ri {f : Int → Int} {hi : Int} : ∀ {rs : List (Int × Int)}, Gd f hi rs → Ri rs ∧ LastLe hi rs
  | [], h => h.elim
  | [r], h => ⟨True.intro, h.1⟩
  | r :: s :: t, h => ⟨⟨h.1, (gd_ri h.2.2).1⟩, (gd_ri h.2.2).2⟩
theorem gd_ck {f : Int → Int} {hi : Int} : ∀ {rs : List (Int × Int)}, Gd f hi rs → Ck f hi rs
  | [], h => h.elim
  | [r], h => ⟨h.2 _ (Int.le_refl _) h.1, h.2 _ h.1 (Int.le_refl _)⟩
  | r :: s :: t, h => ⟨⟨h.2.1 _ (Int.le_refl _) h.1, h.2.1 _ (by have := h.1; omega) (by omega)⟩, gd_ck h.2.2⟩
theorem gd_of {f : Int → Int} (cv : Cvx f) {hi : Int} : ∀ {rs : List (Int × Int)}, rs ≠ [] → Ri rs → LastLe hi rs → Ck f hi rs → Gd f hi rs
  | [], h, _, _, _ => absurd rfl h
  | [r], _, _, l, c => ⟨l, fun n h1 h2 => by rw [← c.1]; exact cv r.1 hi n h1 h2 (by rw [c.1, c.2])⟩
  | r :: s :: t, _, ri, l, c => ⟨ri.1, fun n h1 h2 => by rw [← c.1.1]; exact cv r.1 (s.1 - 1) n h1 (by omega) (by rw [c.1.1, c.1.2]), gd_of cv (by simp) ri.2 l c.2⟩
theorem bt_cons (r : Int × Int) (rs : List (Int × Int)) (n t0 : Int) : bt (r :: rs) n t0 = bt rs n (if r.1 ≤ n then r.2 else t0) := rfl
theorem bt_past {n : Int} : ∀ {rs : List (Int × Int)} (t0 : Int), Ri rs → (∀ r, rs.head? = some r → n < r.1) → bt rs n t0 = t0
  | [], _, _, _ => rfl
  | [r], t0, _, h => by
    rw [bt_cons, if_neg (by have := h r rfl; omega)]
    rfl
  | r :: s :: t, t0, ri, h => by
    have := h r rfl
    rw [bt_cons, if_neg (by omega)]
    exact bt_past t0 ri.2 fun x hx => by
      cases hx
      have := ri.1
      omega
theorem gd_bt {f : Int → Int} {hi : Int} : ∀ {rs : List (Int × Int)}, Gd f hi rs → ∀ n t0, (hd2 rs).1 ≤ n → n ≤ hi → bt rs n t0 = f n
  | [], h, _, _, _, _ => h.elim
  | [r], h, n, t0, h1, h2 => by
    rw [bt_cons, if_pos (show r.1 ≤ n from h1)]
    exact (h.2 n h1 h2).symm
  | r :: s :: t, h, n, t0, h1, h2 => by
    rw [bt_cons, if_pos (show r.1 ≤ n from h1)]
    by_cases c : s.1 ≤ n
    · exact gd_bt h.2.2 n _ c h2
    · rw [bt_past _ (gd_ri h.2.2).1 (fun x hx => by cases hx; omega)]
      exact (h.2.1 n h1 (by omega)).symm
theorem bt_gd {f : Int → Int} {hi : Int} : ∀ {rs : List (Int × Int)}, rs ≠ [] → Ri rs → LastLe hi rs → (∀ n, (hd2 rs).1 ≤ n → n ≤ hi → ∀ t0, bt rs n t0 = f n) → Gd f hi rs
  | [], h, _, _, _ => absurd rfl h
  | [r], _, _, l, h => ⟨l, fun n h1 h2 => by
    have := h n h1 h2 0
    rw [bt_cons, if_pos h1] at this
    exact this.symm⟩
  | r :: s :: t, _, ri, l, h => by
    have ll : ∀ {xs : List (Int × Int)} {x : Int × Int}, Ri (x :: xs) → LastLe hi (x :: xs) → x.1 ≤ hi := by
      intro xs
      induction xs with
      | nil => intro x _ l; exact l
      | cons y ys ih => intro x r l; have := ih r.2 l; have := r.1; omega
    have sh := ll ri.2 l
    refine ⟨ri.1, fun n h1 h2 => ?_, bt_gd (by simp) ri.2 l fun n h1 h2 t0 => ?_⟩
    · have := h n h1 (by omega) 0
      rw [bt_cons, if_pos h1, bt_past _ ri.2 (fun x hx => by cases hx; omega)] at this
      exact this.symm
    · have h1' : s.1 ≤ n := h1
      have := h n (show r.1 ≤ n by have := ri.1; omega) h2 0
      rw [← this, bt_cons, bt_cons, bt_cons, if_pos h1', if_pos h1']
theorem gd_put {f : Int → Int} {hi : Int} : ∀ {rs : List (Int × Int)} {at' : Nat} {b : Int}, Gd f hi rs → (h : at' < rs.length) → rs[at'].1 < b → b ≤ hi → (∀ h2 : at' + 1 < rs.length, b < rs[at' + 1].1) → Gd f hi (rs.take (at' + 1) ++ [(b, rs[at'].2)] ++ rs.drop (at' + 1))
  | [], _, _, g, _, _, _, _ => g.elim
  | [r], 0, b, g, _, h1, h2, _ => ⟨h1, fun n a c => g.2 n a (by omega), h2, fun n a c => g.2 n (Int.le_trans (Int.le_of_lt h1) a) c⟩
  | [r], at' + 1, b, g, h, _, _, _ => absurd h (by simp)
  | r :: s :: t, 0, b, g, _, h1, h2, h3 => by
    have h3' : b < s.1 := h3 (by simp)
    exact ⟨h1, fun n a c => g.2.1 n a (by omega), h3', fun n a c => g.2.1 n (Int.le_trans (Int.le_of_lt h1) a) c, g.2.2⟩
  | r :: s :: t, at' + 1, b, g, h, h1, h2, h3 => by
    have h' : at' < (s :: t).length := by simpa using h
    have ih := gd_put (rs := s :: t) (at' := at') (b := b) g.2.2 h' h1 h2 (fun h4 => h3 (by simpa using h4))
    show Gd f hi (r :: s :: (t.take at' ++ [(b, ((s :: t)[at']'h').2)] ++ t.drop at'))
    exact ⟨g.1, g.2.1, ih⟩
/-! the nearest on a line -/
noncomputable def nf (cs : List (List Int)) (n : Int) : Int := (nrI cs [n] : Int)
theorem near_ex {cs : List (List Int)} (h : 0 < cs.length) (c : List Int) : ∃ i, near cs c i := by
  have : ∀ m, 0 < m → m ≤ cs.length → ∃ i, i < m ∧ ∃ hi : i < cs.length, ∀ (j : Nat) (hj : j < cs.length), j < m → ap cs[i] c < ap cs[j] c ∨ (ap cs[i] c = ap cs[j] c ∧ i ≤ j) := by
    intro m
    induction m with
    | zero => intro h; omega
    | succ m ih =>
      intro _ hm
      rcases Nat.eq_zero_or_pos m with z | z
      · subst z
        exact ⟨0, by omega, h, fun j hj hj2 => by
          have : j = 0 := by omega
          subst this
          exact .inr ⟨rfl, Nat.le_refl _⟩⟩
      · obtain ⟨i, him, hi, hb⟩ := ih z (by omega)
        by_cases c1 : ap (cs[m]'(by omega)) c < ap cs[i] c
        · refine ⟨m, by omega, by omega, fun j hj hj2 => ?_⟩
          by_cases e : j = m
          · subst e; exact .inr ⟨rfl, Nat.le_refl _⟩
          · have := hb j hj (by omega)
            omega
        · refine ⟨i, by omega, hi, fun j hj hj2 => ?_⟩
          by_cases e : j = m
          · subst e; omega
          · exact hb j hj (by omega)
  obtain ⟨i, _, hi, hb⟩ := this cs.length h (Nat.le_refl _)
  exact ⟨i, hi, fun j hj => hb j hj hj⟩
theorem nf_near {cs : List (List Int)} (h : 0 < cs.length) (n : Int) : near cs [n] (nrI cs [n]) := by
  obtain ⟨i, hi⟩ := near_ex h [n]
  rw [nr_of hi]
  exact hi
theorem nf_of {cs : List (List Int)} {n : Int} {i : Nat} (h : near cs [n] i) : nf cs n = (i : Int) := by
  unfold nf
  rw [nr_of h]
theorem nf_cvx {cs : List (List Int)} (h : 0 < cs.length) (h1 : ∀ c ∈ cs, c.length = 1) : Cvx (nf cs) := fun a b n h2 h3 e => by
  have na := nf_near h a
  have nb := nf_near h b
  have en : nrI cs [a] = nrI cs [b] := by
    unfold nf at e
    omega
  rw [← en] at nb
  obtain ⟨hi, fa⟩ := na
  obtain ⟨_, fb⟩ := nb
  have : near cs [n] (nrI cs [a]) := by
    refine ⟨hi, fun j hj => ?_⟩
    have xa := fa j hj
    have xb := fb j hj
    obtain ⟨p, ep⟩ : ∃ p, cs[nrI cs [a]] = [p] := by
      have := h1 _ (List.getElem_mem hi)
      match cs[nrI cs [a]], this with
      | [p], _ => exact ⟨p, rfl⟩
    obtain ⟨q, eq⟩ : ∃ q, cs[j] = [q] := by
      have := h1 _ (List.getElem_mem hj)
      match cs[j], this with
      | [q], _ => exact ⟨q, rfl⟩
    rw [ep, eq, ap1, ap1] at xa xb ⊢
    have da := sq_diff a (p, 0) (q, 0)
    have db := sq_diff b (p, 0) (q, 0)
    have dn := sq_diff n (p, 0) (q, 0)
    simp only at da db dn
    generalize nrI cs [a] = i at *
    -- the difference is along a line
    rcases Int.lt_trichotomy p q with c | c | c
    · have m1 : (q - p) * (q + p - 2 * b) ≤ (q - p) * (q + p - 2 * n) := Int.mul_le_mul_of_nonneg_left (by omega) (by omega)
      omega
    · subst c
      omega
    · have m1 : (q - p) * (q + p - 2 * a) ≤ (q - p) * (q + p - 2 * n) := Int.mul_le_mul_of_nonpos_left (by omega) (by omega)
      omega
  rw [nf_of this]
  rfl
def GT (cs : List (List Int)) (lo hi : Int) (rs : List (Int × Int)) : Prop := rs ≠ [] ∧ (hd2 rs).1 = lo ∧ Gd (nf cs) hi rs
theorem bq_lt {qs : List (Int × Int)} (u : Up qs) {i : Nat} (h : i + 2 < qs.length) : bq qs i < bq qs (i + 1) := by
  have h1 := u i (by omega)
  have h2 := u (i + 1) (by omega)
  unfold bq bb
  split <;> split <;> omega
theorem bq_mono2 {qs : List (Int × Int)} (u : Up qs) {i j : Nat} (h : i < j) (hj : j + 1 < qs.length) : bq qs i < bq qs j := by
  have a := bq_lt u (i := i) (by omega)
  have b := bq_mono u (i := i + 1) (j := j) (by omega) hj
  omega
theorem ri_pair : ∀ {rs : List (Int × Int)}, rs.Pairwise (fun a b => a.1 < b.1) → Ri rs
  | [], _ => True.intro
  | [r], _ => True.intro
  | r :: s :: t, h => by
    obtain ⟨h1, h2⟩ := List.pairwise_cons.mp h
    exact ⟨h1 s (List.mem_cons_self ..), ri_pair h2⟩
theorem last_all {hi : Int} : ∀ {rs : List (Int × Int)}, (∀ r ∈ rs, r.1 ≤ hi) → LastLe hi rs
  | [], _ => True.intro
  | [r], h => h r (by simp)
  | r :: s :: t, h => last_all (rs := s :: t) fun x hx => h x (List.mem_cons_of_mem _ hx)
theorem line_gt {cs : List (List Int)} {qs : List (Int × Int)} (F : Fst cs qs) (h1 : ∀ c ∈ cs, c.length = 1) {lo hi : Int} {i0 : Nat} (n0 : near cs [lo] i0) (hl : lo ≤ hi) : GT cs lo hi (rowsOf qs lo hi (i0 : Int)) := by
  have rowm : ∀ {i : Nat} {r : Int × Int}, rowF qs lo hi i = some r → lo < r.1 ∧ r.1 ≤ hi ∧ r.1 = bq qs i := fun {i r} e => by
    unfold rowF at e
    split at e
    · cases e
      rename_i c
      exact ⟨c.1, c.2, rfl⟩
    · cases e
  have mem : ∀ r ∈ (List.range (qs.length - 1)).filterMap (rowF qs lo hi), lo < r.1 ∧ r.1 ≤ hi := fun r hr => by
    obtain ⟨i, _, e⟩ := List.mem_filterMap.mp hr
    exact ⟨(rowm e).1, (rowm e).2.1⟩
  have pw : (rowsOf qs lo hi (i0 : Int)).Pairwise (fun a b => a.1 < b.1) := by
    unfold rowsOf
    refine List.pairwise_cons.mpr ⟨fun r hr => (mem r hr).1, ?_⟩
    refine List.pairwise_filterMap.mpr ?_
    refine List.Pairwise.imp_of_mem (R := fun a b : Nat => a < b) ?_ List.pairwise_lt_range
    intro a b ha hb hab x hx y hy
    have hb' := List.mem_range.mp hb
    have ex := (rowm hx).2.2
    have ey := (rowm hy).2.2
    have := bq_mono2 F.up hab (by omega)
    omega
  have ne : rowsOf qs lo hi (i0 : Int) ≠ [] := by unfold rowsOf; simp
  refine ⟨ne, rfl, bt_gd ne (ri_pair pw) (last_all fun r hr => ?_) fun n a b t0 => ?_⟩
  · unfold rowsOf at hr
    rcases List.mem_cons.mp hr with e | e
    · rw [e]; exact hl
    · exact (mem r e).2
  · obtain ⟨i, ni, e⟩ := bt_near F h1 (high := hi) n0 (n := n) a b near_one
    rw [nf_of ni, ← e]
    unfold rowsOf
    rw [bt_cons, bt_cons, if_pos (show lo ≤ n from a), if_pos (show lo ≤ n from a)]
/-! ### numbers and colours of any data -/
def isNum : PyData → Bool
  | .int _ => true
  | _ => false
def isCol (d : PyData) (n : Int) : Bool := match d with
  | .tuple ds => decide ((ds.length : Int) = n) && ds.all isNum
  | _ => false
def spNum : Sp := fun vs H Q _ => ∃ (B : List Addr) (v : V) (d : PyData), vs = [v] ∧ Dt B H v d ∧ Q (.bl (isNum d)) H
def spIsCol : Sp := fun vs H Q _ => ∃ (B : List Addr) (v : V) (d : PyData) (n : Int) (j : Nat), vs = [v, .int n] ∧ Dt B H v d ∧ Sh d j ∧ j ≤ 60 ∧ ∀ H', Same H H' → Q (.bl (isCol d n)) H'
theorem fm_bind {α β : Type} (ds : List α) (f : α → Option β) : (List.range ds.length).filterMap (fun i => (ds[i]?).bind f) = ds.filterMap f := by
  have h := List.filterMap_filterMap (f := fun i : Nat => ds[i]?) (g := f) (l := List.range ds.length)
  rw [fm_all rfl] at h
  exact h.symm
theorem isCol_no {ds : List PyData} {n : Int} (h : (ds.length : Int) ≠ n) : isCol (.tuple ds) n = false := by
  unfold isCol
  simp [h]
theorem isCol_yes {ds : List PyData} {n : Int} (h : (ds.length : Int) = n) : isCol (.tuple ds) n = ds.all isNum := by
  unfold isCol
  simp [h]
theorem ok_is_number (T : Tx K mg) {k : Nat} : FnOk P w K mg base CX0 (k + 1) T.f_is_number T.d_is_number ["thing"] spNum := by
  refine T.F_is_number.ok sc_is_number (fun vs H Q E h => ?_) (fun cdv A outer s H vs Q E hr h => ?_)
  · obtain ⟨B, v, d, rfl, _⟩ := h
    rfl
  · obtain ⟨B, v, d, rfl, hv, q⟩ := h
    refine ⟨_, (pss_one (ps_ret (pe_and (pe_callB (call_isiK1 K) (by rfl) T.z_isinstance (by decide +kernel) (pa_cons (pv 0) (pa_cons (pe_bltn (v := .ty "int") (by rfl) T.z_int (by decide +kernel) rfl) pa_nil))) (pe_one (pe_not (pe_callB (call_isiK1 K) (by rfl) T.z_isinstance (by decide +kernel) (pa_cons (pv 0) (pa_cons (pe_bltn (v := .ty "bool") (by rfl) T.z_bool (by decide +kernel) rfl) pa_nil)))))))), ?_⟩
    cases d with
    | none =>
      have tx : TyX K H v (.type "NoneType") := hv.ty
      exact ⟨_, rfl, _, _, _, _, false, rfl, .ty _, tx, kit_ty (by decide +kernel), _, rfl, iteF q⟩
    | bool b =>
      have tx : TyX K H v (.type "bool") := hv.ty
      exact ⟨_, rfl, _, _, _, _, true, rfl, .ty _, tx, kit_ty (by decide +kernel), _, rfl, iteT ⟨_, rfl, _, _, _, _, true, rfl, .ty _, tx, kit_ty (by decide +kernel), _, rfl, q⟩⟩
    | int i =>
      have tx : TyX K H v (.type "int") := hv.ty
      exact ⟨_, rfl, _, _, _, _, true, rfl, .ty _, tx, kit_ty (by decide +kernel), _, rfl, iteT ⟨_, rfl, _, _, _, _, false, rfl, .ty _, tx, kit_ty (by decide +kernel), _, rfl, q⟩⟩
    | str z =>
      have tx : TyX K H v (.type "str") := hv.ty
      exact ⟨_, rfl, _, _, _, _, false, rfl, .ty _, tx, kit_ty (by decide +kernel), _, rfl, iteF q⟩
    | list ds =>
      have tx : TyX K H v (.type "list") := hv.ty
      exact ⟨_, rfl, _, _, _, _, false, rfl, .ty _, tx, kit_ty (by decide +kernel), _, rfl, iteF q⟩
    | tuple ds =>
      have tx : TyX K H v (.type "tuple") := hv.ty
      exact ⟨_, rfl, _, _, _, _, false, rfl, .ty _, tx, kit_ty (by decide +kernel), _, rfl, iteF q⟩
    | dict kvs => cases hv
theorem ok_is_colour (T : Tx K mg) {k : Nat} : FnOk P w K mg base CX0 (k + 2) T.f_is_colour T.d_is_colour ["thing", "wide"] spIsCol := by
  refine T.F_is_colour.ok sc_is_colour (fun vs H Q E h => ?_) (fun cdv A outer s H vs Q E hr h => ?_)
  · obtain ⟨B, v, d, n, j, rfl, _⟩ := h
    rfl
  · obtain ⟨B, v, d, n, j, rfl, hv, hd, hj, q⟩ := h
    refine ⟨_, (pss_cons (ps_if (PW.pt (pw_or (pt_not (pt_val (pe_callB (call_isiK1 K) (by rfl) T.z_isinstance (by decide +kernel) (pa_cons (pv 0) (pa_cons (pe_bltn (v := .ty "tuple") (by rfl) T.z_tuple (by decide +kernel) rfl) pa_nil))))) (pw_or1 (pt_cmpR op_ne (pe_callB (len_K K) (by rfl) T.z_len PySem.boot_len (pa_cons (pv 0) pa_nil)) (pv 1) (nomark _))))) (pss_one (ps_ret pe_bl)) pss_nil)
      (pss_one (ps_ret (pe_callB (cr_allK K rfl) (by rfl) T.z_all (by decide +kernel) (pa_cons (pe_lc (own := [("number", 2)]) (by rfl) sc_is_colour.nd (pi_tupK K (pv 0)) (blkOk_by (own := [("number", 2)]) (N := N_is_colour) (sc := defScope s_is_colour) (by decide +kernel)) (fun _ _ _ _ _ => (pg_name (i := 2) sc_is_colour.nd rfl (.inl rfl))) (fun _ _ _ _ _ => pts_nil) (fun _ _ _ _ _ => (pe_call (ok_is_number T (k := k)) hr (by rfl) T.g_is_number T.F_is_number.kp T.b_is_number .nil pass0 (pa_cons (pv 2) pa_nil)))) pa_nil))))), ?_⟩
    cases d with
    | tuple ds =>
      have tx : TyX K H v (.type "tuple") := hv.ty
      obtain ⟨a, xs, rfl, na, ha, hA⟩ := hv.tupI
      have l1 := hA.len
      obtain ⟨j, rfl, hs, hl⟩ := hd.tupI
      refine ⟨_, rfl, _, _, _, _, true, rfl, .ty _, tx, kit_ty (by decide +kernel), _, rfl, iteF ?_⟩
      refine ⟨_, rfl, a, _, rfl, .inr (SqT.of ha), _, rfl, rfl, _, rfl, ite2 (fun e => ?_) (fun e => ?_)⟩
      · have e1 : (ds.length : Int) ≠ n := fun z => by
          rw [l1, z] at e
          simp at e
        have := q _ (Same.refl _)
        rw [isCol_no e1] at this
        exact this
      have el : (ds.length : Int) = n := by
        rw [l1] at e
        simpa using e
      refine ⟨_, rfl, a, rfl, ⟨_, SqT.of ha⟩, fun D hD => ?_⟩
      refine lc_pure (B := []) (walk_tup (xs := xs)) hD (fun _ h => nomatch h) (fun H' s' => SqT.of (s' _ _ ha)) (by omega)
        (fun i => (ds.map fun d => PyData.bool (isNum d))[i]?) (fun i x H' H'' Ny Nn hi t1 bk y ky kn => ?_) (fun H8 ws s8 eS hW => ?_)
      · obtain ⟨rfl, y⟩ := y
        obtain ⟨d1, f1, h1⟩ := hA.getV y
        refine ⟨rfl, lc_yes ⟨_, rfl, B, x, d1, rfl, h1.s t1, ?_⟩⟩
        exact ky _ _ _ (by rw [List.getElem?_map, f1]; rfl) (Same.refl _) (.bl _)
      · rw [fm_all (by simp; omega)] at hW
        have hW2 : DtA [D] H8 ws ((ds.map isNum).map PyData.bool) := by rw [List.map_map]; exact hW
        refine ⟨D, _, rfl, SqL.of (by rw [eS, hW2.blsV]), ?_⟩
        rw [show (ds.map isNum).all id = isCol (.tuple ds) n by rw [isCol_yes el, List.all_map]; rfl]
        exact q _ s8
    | none =>
      have tx : TyX K H v (.type "NoneType") := hv.ty
      exact ⟨_, rfl, _, _, _, _, false, rfl, .ty _, tx, kit_ty (by decide +kernel), _, rfl, iteT (iteT (q _ (Same.refl _)))⟩
    | bool b =>
      have tx : TyX K H v (.type "bool") := hv.ty
      exact ⟨_, rfl, _, _, _, _, false, rfl, .ty _, tx, kit_ty (by decide +kernel), _, rfl, iteT (iteT (q _ (Same.refl _)))⟩
    | int i =>
      have tx : TyX K H v (.type "int") := hv.ty
      exact ⟨_, rfl, _, _, _, _, false, rfl, .ty _, tx, kit_ty (by decide +kernel), _, rfl, iteT (iteT (q _ (Same.refl _)))⟩
    | str z =>
      have tx : TyX K H v (.type "str") := hv.ty
      exact ⟨_, rfl, _, _, _, _, false, rfl, .ty _, tx, kit_ty (by decide +kernel), _, rfl, iteT (iteT (q _ (Same.refl _)))⟩
    | list ds =>
      have tx : TyX K H v (.type "list") := hv.ty
      exact ⟨_, rfl, _, _, _, _, false, rfl, .ty _, tx, kit_ty (by decide +kernel), _, rfl, iteT (iteT (q _ (Same.refl _)))⟩
    | dict kvs => cases hv
/-! ### the checker of tables -/
theorem allT' (n : Nat) : (List.range n).filterMap (fun _ => some (PyData.bool true)) = (List.replicate n true).map PyData.bool := by
  induction n with
  | zero => rfl
  | succ n ih =>
    rw [List.range_succ, List.filterMap_append, ih, List.replicate_succ', List.map_append]
    rfl
def risB (ns : List Int) : Bool := ((ns.zip (ns.drop 1)).map fun p => decide (p.1 < p.2)).all id
theorem risB_cons (a b : Int) (ns : List Int) : risB (a :: b :: ns) = (decide (a < b) && risB (b :: ns)) := rfl
theorem ris_ri : ∀ rs : List (Int × Int), risB (rs.map (·.1)) = true ↔ Ri rs
  | [] => ⟨fun _ => True.intro, fun _ => rfl⟩
  | [r] => ⟨fun _ => True.intro, fun _ => rfl⟩
  | r :: s :: t => by
    have ih := ris_ri (s :: t)
    show risB (r.1 :: s.1 :: t.map (·.1)) = true ↔ r.1 < s.1 ∧ Ri (s :: t)
    rw [risB_cons, Bool.and_eq_true, decide_eq_true_iff]
    exact and_congr Iff.rfl ih
theorem last_le (hi : Int) : ∀ rs : List (Int × Int), rs ≠ [] → ((rs.map (·.1)).getLastD 0 ≤ hi ↔ LastLe hi rs)
  | [], h => absurd rfl h
  | [r], _ => Iff.rfl
  | r :: s :: t, _ => last_le hi (s :: t) (by simp)
def spRis : Sp := fun vs H Q _ => ∃ (a : Addr) (ns : List Int), vs = [.ref a] ∧ H a = some (.lst (ns.map V.int)) ∧ ns.length ≤ 1000 ∧ ∀ H', Same H H' → Q (.bl (risB ns)) H'
theorem ok_are_rising (T : Tx K mg) {k : Nat} : FnOk P w K mg base CX0 (k + 2) T.f_are_rising T.d_are_rising ["things"] spRis := by
  refine T.F_are_rising.ok sc_are_rising (fun vs H Q E h => ?_) (fun cdv A outer s H vs Q E hr h => ?_)
  · obtain ⟨a, ns, rfl, _⟩ := h
    rfl
  · obtain ⟨a, ns, rfl, ea, l, q⟩ := h
    refine ⟨_, (pss_cons (ps_if (pt_not (pt_val (pe_callB (cr_allK K rfl) (by rfl) T.z_all (by decide +kernel) (pa_cons (pe_lc (own := [("thing", 1)]) (by rfl) sc_are_rising.nd (pi_listK K (pv 0)) (blkOk_by (own := [("thing", 1)]) (N := N_are_rising) (sc := defScope s_are_rising) (by decide +kernel)) (fun _ _ _ _ _ => (pg_name (i := 1) sc_are_rising.nd rfl (.inl rfl))) (fun _ _ _ _ _ => pts_nil) (fun _ _ _ _ _ => (pe_call (ok_is_number T (k := k)) hr (by rfl) T.g_is_number T.F_is_number.kp T.b_is_number .nil pass0 (pa_cons (pv 1) pa_nil)))) pa_nil)))) (pss_one (ps_ret pe_bl)) pss_nil)
      (pss_one (ps_ret (pe_callB (cr_allK K rfl) (by rfl) T.z_all (by decide +kernel) (pa_cons (pe_lc (own := [("a", 2), ("b", 3)]) (by rfl) sc_are_rising.nd (RZ.pi_zipA (by rfl) T.z_zip (pa_cons (pv 0) (pa_cons (pe_slice (sl_listK K) (pv 0) (po_some pe_int) po_none) pa_nil))) (blkOk_by (own := [("a", 2), ("b", 3)]) (N := N_are_rising) (sc := defScope s_are_rising) (by decide +kernel)) (fun _ _ _ _ _ => (pg_tupK K (n := 2) rfl (pgs_cons (pg_name (i := 2) sc_are_rising.nd rfl (.inl rfl)) (pgs_cons (pg_name (i := 3) sc_are_rising.nd rfl (.inl rfl)) pgs_nil)))) (fun _ _ _ _ _ => pts_nil) (fun _ _ _ _ _ => (pe_cmpR op_lt (pv 2) (pv 3) (nomark _)))) pa_nil))))), ?_⟩
    refine ⟨_, rfl, a, rfl, ⟨_, SqL.of ea⟩, fun D hD => ?_⟩
    refine lc_pure (B := []) (walk_list (xs := ns.map V.int)) hD (fun _ h => nomatch h) (fun H' s' => SqL.of (s' _ _ ea)) (by rw [List.length_map]; omega) (fun i => some (.bool true)) (fun i x H' H'' Ny Nn hi s2 bk y ky kn => ?_) (fun H1 ws s1 eD hW => ?_)
    · obtain ⟨rfl, y⟩ := y
      rw [List.length_map] at hi
      have ex := mat hi y
      subst ex
      exact ⟨rfl, lc_yes ⟨_, rfl, [], _, .int ns[i], rfl, .int _, ky _ _ _ rfl (Same.refl _) (.bl _)⟩⟩
    rw [allT'] at hW
    refine ⟨D, _, rfl, SqL.of (by rw [eD, hW.blsV]), ?_⟩
    rw [show (List.replicate (ns.map V.int).length true).all id = true by simp]
    refine ⟨_, rfl, iteF ?_⟩
    have ea1 := s1 _ _ ea
    refine ⟨_, rfl, _, rfl, 1, rfl, a, _, rfl, SqL.of ea1, fun sl hsl => ?_⟩
    have s2 := sm_new (o := .lst (cutV (ns.map V.int) (some 1) none)) hsl
    have esl : (upd H1 sl (.lst (cutV (ns.map V.int) (some 1) none))) sl = some (.lst ((ns.drop 1).map V.int)) := by rw [upd_same, cut1, List.map_drop]
    generalize upd H1 sl (.lst (cutV (ns.map V.int) (some 1) none)) = H2 at *
    have ea2 := s2 _ _ ea1
    refine ⟨a, sl, _, _, rfl, .inl ⟨SqL.of ea2, SqL.of esl, fun D2 hD2 => ?_⟩⟩
    refine lc_pure (B := []) (walk_zip (n := min ns.length (ns.drop 1).length) (xs := ns.map V.int) (ys := (ns.drop 1).map V.int) (by simp)) hD2 (fun _ h => nomatch h) (fun H' s' => ⟨SqL.of (s' _ _ ea2), SqL.of (s' _ _ esl)⟩) (by omega)
      (fun i => (((ns.zip (ns.drop 1)).map fun p => decide (p.1 < p.2)).map PyData.bool)[i]?) (fun i x H' H'' Ny Nn hi t1 bk y ky kn => ?_) (fun H3 ws3 s3 eD3 hW3 => ?_)
    · obtain ⟨t, x, y, rfl, ht, rfl, e1, e2⟩ := y
      have i1 : i < ns.length := by omega
      have i2 : i < (ns.drop 1).length := by omega
      have x1 := mat i1 e1
      have x2 := mat i2 e2
      subst x1 x2
      refine ⟨t, _, rfl, SqT.of upd_same, rfl, _, _, rfl, _, _, rfl, rfl, rfl, lc_yes ?_⟩
      refine ⟨_, rfl, _, rfl, _, _, rfl, rfl, ?_⟩
      refine ky _ _ _ ?_ (sm_new ht) (.bl _)
      rw [List.getElem?_map, List.getElem?_map, List.getElem?_eq_getElem (by rw [List.length_zip]; exact hi)]
      simp
    · rw [fm_all (by simp)] at hW3
      refine ⟨D2, _, rfl, SqL.of (by rw [eD3, hW3.blsV]), ?_⟩
      exact q _ ((s1.trans s2).trans s3)
def spAreB : Sp := fun vs H Q _ => ∃ (a : Addr) (ns : List Int) (lo hi : Int), vs = [.ref a, .int lo, .int hi] ∧ H a = some (.lst (ns.map V.int)) ∧ 0 < ns.length ∧ ns.length ≤ 1000 ∧ ∀ (b : Bool) H', Same H H' → (b = true ↔ ns.headD 0 = lo ∧ ns.getLastD 0 ≤ hi ∧ risB ns = true) → Q (.bl b) H'
theorem ok_are_begins (T : Tx K mg) {k : Nat} : FnOk P w K mg base CX0 (k + 3) T.f_are_begins T.d_are_begins ["begins", "low", "high"] spAreB := by
  refine T.F_are_begins.ok sc_are_begins (fun vs H Q E h => ?_) (fun cdv A outer s H vs Q E hr h => ?_)
  · obtain ⟨a, ns, lo, hi, rfl, _⟩ := h
    rfl
  · obtain ⟨a, ns, lo, hi, rfl, ea, l0, l, q⟩ := h
    have h0 : (ns.map V.int)[0]? = some (.int (ns.headD 0)) := by
      match ns, l0 with
      | x :: xs, _ => rfl
    have hl : atI (ns.map V.int) (-1) = some (.int (ns.getLastD 0)) := by
      obtain ⟨ys, z, ez⟩ : ∃ ys z, ns = ys ++ [z] := ⟨_, _, (List.dropLast_concat_getLast (List.length_pos_iff.mp l0)).symm⟩
      rw [ez, List.map_append, List.getLastD_eq_getLast?, List.getLast?_append]
      exact atI_last _ _
    refine ⟨_, (pss_one (ps_ret (pe_and (pe_cmpR op_eq (pe_ix (ix_listK K) (pv 0) pe_int (fun _ _ => rfl)) (pv 1) (nomark _)) (pe_and (pe_cmpR op_le (pe_ix (ix_listK K) (pv 0) (pe_un un_neg pe_int) (fun _ _ => rfl)) (pv 2) (nomark _)) (pe_one (pe_call (ok_are_rising T (k := k)) hr (by rfl) T.g_are_rising T.F_are_rising.kp T.b_are_rising .nil pass0 (pa_cons (pv 0) pa_nil))))))), ?_⟩
    refine ⟨_, rfl, a, _, 0, _, rfl, rfl, SqL.of ea, atI_nat (j := 0) h0, _, rfl, rfl, _, rfl, ite2 (fun e => ?_) (fun e => ?_)⟩
    · have e0 : ns.headD 0 = lo := by simpa using e
      refine ⟨_, rfl, _, rfl, a, _, _, _, rfl, rfl, SqL.of ea, hl, _, rfl, _, _, rfl, rfl, _, rfl, ite2 (fun e => ?_) (fun e => ?_)⟩
      · have e1 := of_decide_eq_true e
        refine ⟨_, rfl, a, ns, rfl, ea, l, fun H' s' => q _ H' s' ?_⟩
        exact ⟨fun h => ⟨e0, e1, h⟩, fun h => h.2.2⟩
      · exact q _ H (Same.refl _) ⟨fun h => (nomatch h), fun h => absurd (decide_eq_true h.2.1) e⟩
    · exact q _ H (Same.refl _) ⟨fun h => absurd h (by simpa using e), fun h => absurd (by rw [h.1]; simp) e⟩
def spTells : Sp := fun vs H Q _ => ∃ (B : List Addr) (pl : V) (cs : List (List Int)) (x y m : Int), vs = [pl, .int x, .int y, .int m] ∧ Dt B H pl (eP cs) ∧ Bk B H ∧ wOk cs ∧ -10000000 ≤ x ∧ x ≤ 10000000 ∧ -10000000 ≤ y ∧ y ≤ 10000000 ∧ ∀ (b : Bool) H', Same H H' → (b = true ↔ nf cs x = m ∧ nf cs y = m) → Q (.bl b) H'
theorem pok1 {cs : List (List Int)} {n : Int} (wo : wOk cs) (h1 : -10000000 ≤ n) (h2 : n ≤ 10000000) : pOk cs [n] := ⟨by have := wo.2.1; omega, by simp, fun x hx => by rw [List.mem_singleton.mp hx]; omega, fun x hx => ⟨(wo.2.2 x hx).1, (wo.2.2 x hx).2.mono (by decide) (by decide)⟩⟩
theorem ok_tells_all (T : Tx K mg) {k : Nat} : FnOk P w K mg base CX0 (k + 3) T.f_tells_all T.d_tells_all ["palette", "first", "last", "number"] spTells := by
  refine T.F_tells_all.ok sc_tells_all (fun vs H Q E h => ?_) (fun cdv A outer s H vs Q E hr h => ?_)
  · obtain ⟨B, pl, cs, x, y, m, rfl, _⟩ := h
    rfl
  · obtain ⟨B, pl, cs, x, y, m, rfl, hp, hB, wo, x1, x2, y1, y2, q⟩ := h
    refine ⟨_, (pss_one (ps_ret (pe_and (pe_cmpR op_eq (pe_call (ok_nearest T (k := k)) hr (by rfl) T.g_nearest T.F_nearest.kp T.b_nearest .nil pass0 (pa_cons (pv 0) (pa_cons (pe_tup (pa_cons (pv 1) pa_nil)) pa_nil))) (pv 3) (nomark _)) (pe_one (pe_cmpR op_eq (pe_call (ok_nearest T (k := k)) hr (by rfl) T.g_nearest T.F_nearest.kp T.b_nearest .nil pass0 (pa_cons (pv 0) (pa_cons (pe_tup (pa_cons (pv 2) pa_nil)) pa_nil))) (pv 3) (nomark _)))))), ?_⟩
    refine ⟨_, rfl, _, rfl, (by show 1 ≤ sizeLine; decide), fun t ht => ?_⟩
    have s1 := sm_new (o := .tup [.int x]) ht
    have d1 : Dt B (upd H t (.tup [.int x])) (.ref t) (eC [x]) := Dt.ofCol (hB.ne ht) upd_same
    generalize upd H t (.tup [.int x]) = H1 at *
    refine ⟨B, pl, _, cs, [x], rfl, hp.s s1, d1, pok1 wo x1 x2, wo.1, fun H2 i s2 hi => ?_⟩
    have t2 := s1.trans s2
    have ei := nf_of hi
    refine ⟨_, rfl, rfl, _, rfl, ite2 (fun e => ?_) (fun e => ?_)⟩
    · have e0 : (i : Int) = m := by simpa using e
      refine ⟨_, rfl, _, rfl, (by show 1 ≤ sizeLine; decide), fun t3 ht3 => ?_⟩
      have s3 := sm_new (o := .tup [.int y]) ht3
      have B2 := hB.go (Go.of (B := []) t2)
      have d3 : Dt B (upd H2 t3 (.tup [.int y])) (.ref t3) (eC [y]) := Dt.ofCol (B2.ne ht3) upd_same
      generalize upd H2 t3 (.tup [.int y]) = H3 at *
      refine ⟨B, pl, _, cs, [y], rfl, (hp.s t2).s s3, d3, pok1 wo y1 y2, wo.1, fun H4 j s4 hj => ?_⟩
      have ej := nf_of hj
      refine ⟨_, rfl, rfl, q _ _ ((t2.trans s3).trans s4) ?_⟩
      rw [ei, ej, decide_eq_true_iff]
      exact ⟨fun h => ⟨e0, by simpa using h⟩, fun h => by rw [h.2]⟩
    · refine q _ _ t2 ⟨fun h => absurd h (by simpa using e), fun h => absurd ?_ e⟩
      rw [ei] at h
      simp [h.1]
def lasts (hi : Int) (rs : List (Int × Int)) : List Int := ((rs.map (·.1)).drop 1).map (· - 1) ++ [hi]
def ckB (cs : List (List Int)) (p : (Int × Int) × Int) : Prop := nf cs p.1.1 = p.1.2 ∧ nf cs p.2 = p.1.2
theorem ck_all (cs : List (List Int)) (hi : Int) : ∀ rs : List (Int × Int), (∀ p ∈ rs.zip (lasts hi rs), ckB cs p) ↔ Ck (nf cs) hi rs
  | [] => ⟨fun _ => True.intro, fun _ p h => by simp at h⟩
  | [r] => by
    show (∀ p ∈ [(r, hi)], ckB cs p) ↔ _
    simp only [List.mem_singleton, forall_eq]
    exact Iff.rfl
  | r :: s :: t => by
    have ih := ck_all cs hi (s :: t)
    have e : (r :: s :: t).zip (lasts hi (r :: s :: t)) = (r, s.1 - 1) :: (s :: t).zip (lasts hi (s :: t)) := rfl
    rw [e]
    constructor
    · intro h
      exact ⟨h _ (List.mem_cons_self ..), ih.mp fun p hp => h p (List.mem_cons_of_mem _ hp)⟩
    · intro h p hp
      rcases List.mem_cons.mp hp with z | z
      · rw [z]; exact h.1
      · exact ih.mpr h.2 p z
theorem lasts_len (hi : Int) (rs : List (Int × Int)) (h : 0 < rs.length) : (lasts hi rs).length = rs.length := by
  unfold lasts
  simp
  omega
/-! ### the checker, of anything -/
def isRowsD : PyData → Bool
  | .tuple ds => decide (0 < ds.length) && ds.all (fun d => isCol d 2)
  | _ => false
theorem col2 {d : PyData} (h : isCol d 2 = true) : ∃ r : Int × Int, d = enc r := by
  unfold isCol at h
  cases d with
  | tuple ds =>
    simp only [Bool.and_eq_true, decide_eq_true_eq] at h
    obtain ⟨h1, h2⟩ := h
    match ds, h1, h2 with
    | [a, b], _, h2 =>
      simp only [List.all_cons, List.all_nil, Bool.and_true, Bool.and_eq_true] at h2
      cases a with
      | int x =>
        cases b with
        | int y => exact ⟨(x, y), rfl⟩
        | _ => simp [isNum] at h2
      | _ => simp [isNum] at h2
    | [], h1, _ => simp at h1
    | [_], h1, _ => simp at h1
    | _ :: _ :: _ :: _, h1, _ => simp at h1; omega
  | _ => simp at h
theorem cols2 : ∀ {ds : List PyData}, ds.all (fun d => isCol d 2) = true → ∃ rs : List (Int × Int), ds = rs.map enc
  | [], _ => ⟨[], rfl⟩
  | d :: ds, h => by
    simp only [List.all_cons, Bool.and_eq_true] at h
    obtain ⟨r, rfl⟩ := col2 h.1
    obtain ⟨rs, rfl⟩ := cols2 h.2
    exact ⟨r :: rs, rfl⟩
theorem col_enc (r : Int × Int) : isCol (enc r) 2 = true := rfl
theorem rowsD {d : PyData} (h : isRowsD d = true) : ∃ rs, d = eR rs ∧ 0 < rs.length := by
  cases d with
  | tuple ds =>
    simp only [isRowsD, Bool.and_eq_true, decide_eq_true_eq] at h
    obtain ⟨rs, rfl⟩ := cols2 h.2
    exact ⟨rs, rfl, by simpa using h.1⟩
  | _ => simp [isRowsD] at h
theorem rowsD_of {rs : List (Int × Int)} (h : 0 < rs.length) : isRowsD (eR rs) = true := by
  simp only [isRowsD, eR, Bool.and_eq_true, decide_eq_true_eq, List.length_map, List.all_map]
  exact ⟨h, List.all_eq_true.mpr fun r _ => col_enc r⟩
theorem eR_inj : ∀ {rs qs : List (Int × Int)}, eR rs = eR qs → rs = qs := by
  have : ∀ {rs qs : List (Int × Int)}, rs.map enc = qs.map enc → rs = qs := by
    intro rs
    induction rs with
    | nil => intro qs h; cases qs with | nil => rfl | cons a b => simp at h
    | cons r rs ih =>
      intro qs h
      cases qs with
      | nil => simp at h
      | cons q qs =>
        rw [List.map_cons, List.map_cons] at h
        obtain ⟨h1, h2⟩ := List.cons.inj h
        rw [ih h2]
        have : r = q := by
          unfold enc eC at h1
          simp at h1
          exact Prod.ext h1.1 h1.2
        rw [this]
  intro rs qs h
  unfold eR at h
  exact this (PyData.tuple.inj h)
def spAreRowsD : Sp := fun vs H Q _ => ∃ (B : List Addr) (v : V) (d : PyData) (j : Nat), vs = [v] ∧ Dt B H v d ∧ Sh d j ∧ j ≤ 60 ∧ ∀ H', Same H H' → Q (.bl (isRowsD d)) H'
theorem ok_are_rows (T : Tx K mg) {k : Nat} : FnOk P w K mg base CX0 (k + 3) T.f_are_rows T.d_are_rows ["thing"] spAreRowsD := by
  refine T.F_are_rows.ok sc_are_rows (fun vs H Q E h => ?_) (fun cdv A outer s H vs Q E hr h => ?_)
  · obtain ⟨B, v, d, j, rfl, _⟩ := h
    rfl
  · obtain ⟨B, v, d, j, rfl, hv, hd, hj, q⟩ := h
    refine ⟨_, (pss_cons (ps_if (PW.pt (pw_or (pt_not (pt_val (pe_callB (call_isiK1 K) (by rfl) T.z_isinstance (by decide +kernel) (pa_cons (pv 0) (pa_cons (pe_bltn (v := .ty "tuple") (by rfl) T.z_tuple (by decide +kernel) rfl) pa_nil))))) (pw_or1 (pt_cmpR op_eq (pe_callB (len_K K) (by rfl) T.z_len PySem.boot_len (pa_cons (pv 0) pa_nil)) pe_int (nomark _))))) (pss_one (ps_ret pe_bl)) pss_nil)
      (pss_one (ps_ret (pe_callB (cr_allK K rfl) (by rfl) T.z_all (by decide +kernel) (pa_cons (pe_lc (own := [("row", 1)]) (by rfl) sc_are_rows.nd (pi_tupK K (pv 0)) (blkOk_by (own := [("row", 1)]) (N := N_are_rows) (sc := defScope s_are_rows) (by decide +kernel)) (fun _ _ _ _ _ => (pg_name (i := 1) sc_are_rows.nd rfl (.inl rfl))) (fun _ _ _ _ _ => pts_nil) (fun _ _ _ _ _ => (pe_call (ok_is_colour T (k := k)) hr (by rfl) T.g_is_colour T.F_is_colour.kp T.b_is_colour .nil pass0 (pa_cons (pv 1) (pa_cons pe_int pa_nil))))) pa_nil))))), ?_⟩
    cases d with
    | tuple ds =>
      have tx : TyX K H v (.type "tuple") := hv.ty
      obtain ⟨a, xs, rfl, na, ea, hA⟩ := hv.tupI
      have lx := hA.len
      obtain ⟨j, rfl, hs, hl⟩ := hd.tupI
      refine ⟨_, rfl, _, _, _, _, true, rfl, .ty _, tx, kit_ty (by decide +kernel), _, rfl, iteF ?_⟩
      refine ⟨_, rfl, a, _, rfl, .inr (SqT.of ea), rfl, _, rfl, ite2 (fun e => ?_) (fun e => ?_)⟩
      · have e0 : (xs.length : Int) = 0 := by simpa using e
        have := q H (Same.refl _)
        rw [show isRowsD (.tuple ds) = false by simp only [isRowsD, decide_eq_false (show ¬ 0 < ds.length by omega), Bool.false_and]] at this
        exact this
      · have e0 : (xs.length : Int) ≠ 0 := by simpa using e
        refine ⟨_, rfl, a, rfl, ⟨_, SqT.of ea⟩, fun D hD => ?_⟩
        refine lc_pure (B := []) (walk_tup (xs := xs)) hD (fun _ h => nomatch h) (fun H' s' => SqT.of (s' _ _ ea)) (by omega) (fun i => ((ds.map fun d => isCol d 2).map PyData.bool)[i]?) (fun i x H' H'' Ny Nn hi s2 bk y ky kn => ?_) (fun H1 ws s1 eD hW => ?_)
        · obtain ⟨rfl, y⟩ := y
          obtain ⟨d1, fd, gd⟩ := hA.getV y
          refine ⟨rfl, lc_yes ⟨_, rfl, B, x, d1, 2, j, rfl, gd.s s2, hs d1 (List.mem_of_getElem? fd), by omega, fun H3 s3 => ?_⟩⟩
          exact ky _ _ _ (by rw [List.getElem?_map, List.getElem?_map, fd]; rfl) s3 (.bl _)
        · rw [fm_all (by simp; omega)] at hW
          refine ⟨D, _, rfl, SqL.of (by rw [eD, hW.blsV]), ?_⟩
          have := q H1 s1
          rw [show isRowsD (.tuple ds) = (ds.map fun d => isCol d 2).all id by simp only [isRowsD, decide_eq_true (show 0 < ds.length by omega), Bool.true_and, List.all_map]; rfl] at this
          exact this
    | none =>
      have tx : TyX K H v (.type "NoneType") := hv.ty
      exact ⟨_, rfl, _, _, _, _, false, rfl, .ty _, tx, kit_ty (by decide +kernel), _, rfl, iteT (iteT (q _ (Same.refl _)))⟩
    | bool b =>
      have tx : TyX K H v (.type "bool") := hv.ty
      exact ⟨_, rfl, _, _, _, _, false, rfl, .ty _, tx, kit_ty (by decide +kernel), _, rfl, iteT (iteT (q _ (Same.refl _)))⟩
    | int i =>
      have tx : TyX K H v (.type "int") := hv.ty
      exact ⟨_, rfl, _, _, _, _, false, rfl, .ty _, tx, kit_ty (by decide +kernel), _, rfl, iteT (iteT (q _ (Same.refl _)))⟩
    | str z =>
      have tx : TyX K H v (.type "str") := hv.ty
      exact ⟨_, rfl, _, _, _, _, false, rfl, .ty _, tx, kit_ty (by decide +kernel), _, rfl, iteT (iteT (q _ (Same.refl _)))⟩
    | list ds =>
      have tx : TyX K H v (.type "list") := hv.ty
      exact ⟨_, rfl, _, _, _, _, false, rfl, .ty _, tx, kit_ty (by decide +kernel), _, rfl, iteT (iteT (q _ (Same.refl _)))⟩
    | dict kvs => cases hv
def spShowsD : Sp := fun vs H Q _ => ∃ (B : List Addr) (pl tv : V) (cs : List (List Int)) (lo hi : Int) (d : PyData) (j : Nat), vs = [pl, .int lo, .int hi, tv] ∧ Dt B H pl (eP cs) ∧ Dt B H tv d ∧ Bk B H ∧ wOk cs ∧ Sh d j ∧ j ≤ 60 ∧ -1000000 ≤ hi ∧ hi ≤ 1000000 ∧ hi ≤ lo + 1000 ∧ (∀ rs, d = eR rs → rs.length ≤ 1000 ∧ ∀ r ∈ rs, -1000000 ≤ r.1 ∧ r.1 ≤ 1000000) ∧ ∀ (b : Bool) H', Same H H' → (b = true ↔ ∃ rs, d = eR rs ∧ GT cs lo hi rs) → Q (.bl b) H'
set_option maxHeartbeats 1000000 in
theorem ok_shows_table (T : Tx K mg) {k : Nat} : FnOk P w K mg base CX0 (k + 4) T.f_shows_table T.d_shows_table ["palette", "low", "high", "table"] spShowsD := by
  refine T.F_shows_table.ok sc_shows_table (fun vs H Q E h => ?_) (fun cdv A outer s H vs Q E hr h => ?_)
  · obtain ⟨B, pl, tv, cs, lo, hi, d, j, rfl, _⟩ := h
    rfl
  · obtain ⟨B, pl, tv, cs, lo, hi, d, j, rfl, hp, ht, hB, wo, shd, hj, h1, h2, h3, hbd, q⟩ := h
    have ht0 := ht
    have c1 : ∀ c ∈ cs, c.length = 1 := fun c hc => (wo.2.2 c hc).1
    refine ⟨_, (pss_cons (ps_if (pt_not (pt_val (pe_call (ok_are_rows T (k := k)) hr (by rfl) T.g_are_rows T.F_are_rows.kp T.b_are_rows .nil pass0 (pa_cons (pv 3) pa_nil)))) (pss_one (ps_ret pe_bl)) pss_nil)
      (pss_cons (ps_setLc (i := 4) (own := [("begin", 6), ("number", 7)]) (by rfl) sc_shows_table.nd rfl rfl (sw_true rfl rfl rfl (by decide +kernel)) (pi_tupK K (pv 3)) (blkOk_by (own := [("begin", 6), ("number", 7)]) (N := N_shows_table) (sc := defScope s_shows_table) (by decide +kernel)) (fun _ _ _ _ _ => (pg_tupK K (n := 2) rfl (pgs_cons (pg_name (i := 6) sc_shows_table.nd rfl (.inl rfl)) (pgs_cons (pg_name (i := 7) sc_shows_table.nd rfl (.inl rfl)) pgs_nil)))) (fun _ _ _ _ _ => pts_nil) (fun _ _ _ _ _ => (pv 6)))
      (pss_cons (ps_if (pt_not (pt_val (pe_call (ok_are_begins T (k := k)) hr (by rfl) T.g_are_begins T.F_are_begins.kp T.b_are_begins .nil pass0 (pa_cons (pv 4) (pa_cons (pv 1) (pa_cons (pv 2) pa_nil)))))) (pss_one (ps_ret pe_bl)) pss_nil)
      (pss_cons (ps_set (i := 5) sc_shows_table.nd rfl (.inl rfl) (pe_op op_cat (pe_lc (own := [("begin", 6)]) (by rfl) sc_shows_table.nd (pi_listK K (pe_slice (sl_listK K) (pv 4) (po_some pe_int) po_none)) (blkOk_by (own := [("begin", 6)]) (N := N_shows_table) (sc := defScope s_shows_table) (by decide +kernel)) (fun _ _ _ _ _ => (pg_name (i := 6) sc_shows_table.nd rfl (.inl rfl))) (fun _ _ _ _ _ => pts_nil) (fun _ _ _ _ _ => (pe_op op_sub (pv 6) pe_int))) (pe_lst (pa_cons (pv 2) pa_nil))))
      (pss_one (ps_ret (pe_callB (cr_allK K rfl) (by rfl) T.z_all (by decide +kernel) (pa_cons (pe_lc (own := [("begin", 6), ("number", 7), ("last", 8)]) (by rfl) sc_shows_table.nd (pi_zipTX K (by rfl) T.z_zip (pa_cons (pv 3) (pa_cons (pv 5) pa_nil))) (blkOk_by (own := [("begin", 6), ("number", 7), ("last", 8)]) (N := N_shows_table) (sc := defScope s_shows_table) (by decide +kernel)) (fun _ _ _ _ _ => (pg_tupK K (n := 2) rfl (pgs_cons (pg_tupK K (n := 2) rfl (pgs_cons (pg_name (i := 6) sc_shows_table.nd rfl (.inl rfl)) (pgs_cons (pg_name (i := 7) sc_shows_table.nd rfl (.inl rfl)) pgs_nil))) (pgs_cons (pg_name (i := 8) sc_shows_table.nd rfl (.inl rfl)) pgs_nil)))) (fun _ _ _ _ _ => pts_nil) (fun _ _ _ _ _ => (pe_call (ok_tells_all T (k := k)) hr (by rfl) T.g_tells_all T.F_tells_all.kp T.b_tells_all .nil pass0 (pa_cons (pv 0) (pa_cons (pv 6) (pa_cons (pv 8) (pa_cons (pv 7) pa_nil))))))) pa_nil)))))))), ?_⟩
    refine ⟨_, rfl, B, _, d, j, rfl, ht0, shd, hj, fun H1 s1 => ?_⟩
    refine ⟨_, rfl, ?_⟩
    by_cases zz : isRowsD d = true
    · rw [zz]
      refine iteF ?_
      obtain ⟨rs, rfl, z⟩ := rowsD zz
      obtain ⟨l, hb⟩ := hbd rs rfl
      have q : ∀ (b : Bool) H', Same H H' → (b = true ↔ GT cs lo hi rs) → Q (.bl b) H' := fun b H' s' hb' => q b H' s' (hb'.trans ⟨fun g => ⟨rs, rfl, g⟩, fun ⟨qs, e, g⟩ => by rw [eR_inj e]; exact g⟩)
      obtain ⟨ta, vs, rfl, na, et, hA⟩ := ht.tupI
      have lv := hA.len
      rw [List.length_map] at lv
      have et1 := s1 _ _ et
      have ne : rs ≠ [] := List.length_pos_iff.mp z
      refine ⟨_, rfl, ta, rfl, ⟨_, SqT.of et1⟩, fun D hD => ?_⟩
      refine lc_pure (B := []) (walk_tup (xs := vs)) hD (fun _ h => nomatch h) (fun H' s' => SqT.of (s' _ _ et1)) (by omega)
        (fun i => ((rs.map (·.1)).map PyData.int)[i]?) (fun i x H' H'' Ny Nn hi' t1 bk y ky kn => ?_) (fun H2 ws s2 eD hW => ?_)
      · obtain ⟨rfl, y⟩ := y
        obtain ⟨d, fd', gd⟩ := (hA.s s1).getV y
        have il : i < rs.length := by omega
        rw [List.getElem?_map, List.getElem?_eq_getElem il] at fd'
        have ed : d = enc rs[i] := (Option.some.inj fd').symm
        subst ed
        obtain ⟨xa, rfl, _, ex⟩ := (gd.s t1).col
        refine ⟨xa, [.int rs[i].1, .int rs[i].2], rfl, SqT.of ex, rfl, _, _, rfl, _, _, rfl, rfl, rfl, lc_yes ⟨_, rfl, ?_⟩⟩
        exact ky _ _ _ (by rw [List.getElem?_map, List.getElem?_map, List.getElem?_eq_getElem il]; rfl) (Same.refl _) (.int _)
      rw [fm_all (by simp; omega)] at hW
      have ew := hW.intsV
      subst ew
      have t2 := s1.trans s2
      refine ⟨_, rfl, _, rfl, _, rfl, D, rs.map (·.1), lo, hi, rfl, eD, by simpa using z, by simp; omega, fun b1 H3 s3 hb1 => ?_⟩
      have hd : (rs.map (·.1)).headD 0 = (hd2 rs).1 := by
        match rs, z with
        | r :: t, _ => rfl
      rw [hd, last_le hi rs ne, ris_ri] at hb1
      have t3 := t2.trans s3
      refine ⟨_, rfl, ?_⟩
      cases b1 with
      | false =>
        refine iteT ?_
        refine q _ _ t3 ⟨fun h => (nomatch h), fun h => ?_⟩
        have := gd_ri h.2.2
        exact absurd (hb1.mpr ⟨h.2.1, this.2, this.1⟩) (by decide)
      | true =>
        refine iteF ?_
        obtain ⟨g1, g2, g3⟩ := hb1.mp rfl
        have eD3 := s3 _ _ eD
        -- the lasts
        refine ⟨_, rfl, 1, rfl, D, _, rfl, SqL.of eD3, fun sl hsl => ?_⟩
        have s4 := sm_new (o := .lst (cutV ((rs.map (·.1)).map V.int) (some 1) none)) hsl
        have esl : (upd H3 sl (.lst (cutV ((rs.map (·.1)).map V.int) (some 1) none))) sl = some (.lst (((rs.map (·.1)).drop 1).map V.int)) := by rw [upd_same, cut1, List.map_drop]
        generalize upd H3 sl (.lst (cutV ((rs.map (·.1)).map V.int) (some 1) none)) = H4 at *
        refine ⟨sl, rfl, ⟨_, SqL.of esl⟩, fun D2 hD2 => ?_⟩
        refine lc_pure (B := []) (walk_list (xs := ((rs.map (·.1)).drop 1).map V.int)) hD2 (fun _ h => nomatch h) (fun H' s' => SqL.of (s' _ _ esl)) (by simp; omega)
          (fun i => ((((rs.map (·.1)).drop 1).map (· - 1)).map PyData.int)[i]?) (fun i x H' H'' Ny Nn hi' t1 bk y ky kn => ?_) (fun H5 ws5 s5 eD5 hW5 => ?_)
        · obtain ⟨rfl, y⟩ := y
          rw [List.length_map] at hi'
          have ex := mat hi' y
          subst ex
          refine ⟨rfl, lc_yes ⟨_, rfl, _, _, rfl, rfl, ?_⟩⟩
          exact ky _ _ _ (by rw [List.getElem?_map, List.getElem?_map, List.getElem?_eq_getElem hi']; rfl) (Same.refl _) (.int _)
        rw [fm_all (by simp)] at hW5
        have ew5 := hW5.intsV
        subst ew5
        refine ⟨_, rfl, (by show 1 ≤ sizeLine; decide), fun p6 hp6 => ?_⟩
        have s6 := sm_new (o := .lst [.int hi]) hp6
        have e6 : (upd H5 p6 (.lst [.int hi])) p6 = some (.lst [.int hi]) := upd_same
        generalize upd H5 p6 (.lst [.int hi]) = H6 at *
        refine ⟨D2, p6, _, _, rfl, rfl, s6 _ _ eD5, e6, Nat.le_of_lt (sz (by simp; omega)), fun p7 hp7 => ?_⟩
        have s7 := sm_new (o := .lst ((((rs.map (·.1)).drop 1).map (· - 1)).map V.int ++ [.int hi])) hp7
        have e7 : (upd H6 p7 (.lst ((((rs.map (·.1)).drop 1).map (· - 1)).map V.int ++ [.int hi]))) p7 = some (.lst ((lasts hi rs).map V.int)) := by
          rw [upd_same]
          unfold lasts
          rw [List.map_append]
          rfl
        generalize upd H6 p7 (.lst ((((rs.map (·.1)).drop 1).map (· - 1)).map V.int ++ [.int hi])) = H7 at *
        have t7 := (((t3.trans s4).trans s5).trans s6).trans s7
        have ll := lasts_len hi rs z
        have bl : ∀ x ∈ lasts hi rs, -10000000 ≤ x ∧ x ≤ 10000000 := fun x hx => by
          unfold lasts at hx
          rcases List.mem_append.mp hx with y | y
          · obtain ⟨u, hu, rfl⟩ := List.mem_map.mp y
            obtain ⟨r, hr', rfl⟩ := List.mem_map.mp (List.mem_of_mem_drop hu)
            have := hb r hr'
            omega
          · rw [List.mem_singleton.mp y]; omega
        have et7 := t7 _ _ et
        have hA7 := hA.s t7
        refine ⟨_, rfl, _, rfl, ta, p7, _, _, rfl, .inl ⟨SqT.of et7, SqL.of e7, fun D8 hD8 => ?_⟩⟩
        refine lc_pure (B := []) (walk_zipTL (n := rs.length) (xs := vs) (ys := (lasts hi rs).map V.int) (by omega) (by rw [List.length_map]; omega)) hD8 (fun _ h => nomatch h) (fun H' s' => ⟨SqT.of (s' _ _ et7), SqL.of (s' _ _ e7)⟩) (by omega)
          (fun i => (((rs.zip (lasts hi rs)).map fun p => decide (nf cs p.1.1 = p.1.2 ∧ nf cs p.2 = p.1.2)).map PyData.bool)[i]?) (fun i x H' H'' Ny Nn hi' t1 bk y ky kn => ?_) (fun H9 ws9 s9 eD9 hW9 => ?_)
        · obtain ⟨t, x, y, rfl, ht', rfl, e1, e2⟩ := y
          obtain ⟨d, fd', gd⟩ := hA7.getV e1
          rw [List.getElem?_map, List.getElem?_eq_getElem hi'] at fd'
          have ed : d = enc rs[i] := (Option.some.inj fd').symm
          subst ed
          have i2 : i < (lasts hi rs).length := by omega
          have x2 := mat i2 e2
          subst x2
          have st := sm_new (o := .tup [x, .int (lasts hi rs)[i]]) ht'
          obtain ⟨xa, rfl, _, ex⟩ := ((gd.s t1).s st).col
          have rb := hb _ (List.getElem_mem hi')
          have lb := bl _ (List.getElem_mem i2)
          refine ⟨t, _, rfl, SqT.of upd_same, rfl, _, _, rfl, xa, _, rfl, SqT.of ex, rfl, _, _, rfl, _, _, rfl, rfl, _, _, rfl, rfl, rfl, lc_yes ?_⟩
          generalize upd H' t (.tup [.ref xa, .int (lasts hi rs)[i]]) = H10 at *
          refine ⟨_, rfl, _, rfl, _, rfl, _, rfl, B, pl, cs, rs[i].1, (lasts hi rs)[i], rs[i].2, rfl, ((hp.s t7).s t1).s st, ((hB.go (Go.of (B := []) t7)).go (Go.of (B := []) t1)).go (Go.of (B := []) st), wo, by omega, by omega, by omega, by omega, fun b H11 s11 hb11 => ?_⟩
          refine ky _ _ (.bool b) ?_ (st.trans s11) (.bl _)
          rw [List.getElem?_map, List.getElem?_map, List.getElem?_eq_getElem (by rw [List.length_zip]; omega)]
          simp only [List.getElem_zip, Option.map_some]
          congr 2
          cases b with
          | true => exact decide_eq_true (hb11.mp rfl)
          | false => exact decide_eq_false fun h => absurd (hb11.mpr h) (by decide)
        · rw [fm_all (by rw [List.length_map, List.length_map, List.length_zip]; omega)] at hW9
          refine ⟨D8, _, rfl, SqL.of (by rw [eD9, hW9.blsV]), ?_⟩
          refine q _ _ (t7.trans s9) ?_
          rw [List.all_eq_true]
          have e := ck_all cs hi rs
          constructor
          · intro h
            refine ⟨ne, g1, gd_of (nf_cvx wo.1 c1) ne g3 g2 (e.mp fun p hp' => ?_)⟩
            have := h _ (List.mem_map.mpr ⟨p, hp', rfl⟩)
            exact (of_decide_eq_true this : nf cs p.1.1 = p.1.2 ∧ nf cs p.2 = p.1.2)
          · intro h x hx
            obtain ⟨p, hp', rfl⟩ := List.mem_map.mp hx
            exact decide_eq_true (show nf cs p.1.1 = p.1.2 ∧ nf cs p.2 = p.1.2 from e.mpr (gd_ck h.2.2) p hp')
    · have zf : isRowsD d = false := by simpa using zz
      rw [zf]
      refine iteT ?_
      refine q _ _ s1 ⟨fun h => (nomatch h), fun ⟨rs, e, g⟩ => ?_⟩
      rw [e, rowsD_of (List.length_pos_iff.mpr g.1)] at zf
      cases zf
def spWhole : Sp := fun vs H Q _ => ∃ (B : List Addr) (v : V) (d : PyData), vs = [v] ∧ Dt B H v d ∧ Q (.bl (isNum d)) H
theorem ok_l_whole (T : Tx K mg) {k : Nat} : FnOk P w K mg base CX0 (k + 1) T.f_l_whole T.d_l_whole ["_law_thing"] spWhole := by
  refine T.F_l_whole.ok sc_l_whole (fun vs H Q E h => ?_) (fun cdv A outer s H vs Q E hr h => ?_)
  · obtain ⟨B, v, d, rfl, _⟩ := h
    rfl
  · obtain ⟨B, v, d, rfl, hv, q⟩ := h
    refine ⟨_, (pss_one (ps_ret (pe_and (pe_callB (call_isiK1 K) (by rfl) T.z_isinstance (by decide +kernel) (pa_cons (pv 0) (pa_cons (pe_bltn (v := .ty "int") (by rfl) T.z_int (by decide +kernel) rfl) pa_nil))) (pe_one (pe_not (pe_callB (call_isiK1 K) (by rfl) T.z_isinstance (by decide +kernel) (pa_cons (pv 0) (pa_cons (pe_bltn (v := .ty "bool") (by rfl) T.z_bool (by decide +kernel) rfl) pa_nil)))))))), ?_⟩
    cases d with
    | none =>
      have tx : TyX K H v (.type "NoneType") := hv.ty
      exact ⟨_, rfl, _, _, _, _, false, rfl, .ty _, tx, kit_ty (by decide +kernel), _, rfl, iteF q⟩
    | bool b =>
      have tx : TyX K H v (.type "bool") := hv.ty
      exact ⟨_, rfl, _, _, _, _, true, rfl, .ty _, tx, kit_ty (by decide +kernel), _, rfl, iteT ⟨_, rfl, _, _, _, _, true, rfl, .ty _, tx, kit_ty (by decide +kernel), _, rfl, q⟩⟩
    | int i =>
      have tx : TyX K H v (.type "int") := hv.ty
      exact ⟨_, rfl, _, _, _, _, true, rfl, .ty _, tx, kit_ty (by decide +kernel), _, rfl, iteT ⟨_, rfl, _, _, _, _, false, rfl, .ty _, tx, kit_ty (by decide +kernel), _, rfl, q⟩⟩
    | str z =>
      have tx : TyX K H v (.type "str") := hv.ty
      exact ⟨_, rfl, _, _, _, _, false, rfl, .ty _, tx, kit_ty (by decide +kernel), _, rfl, iteF q⟩
    | list ds =>
      have tx : TyX K H v (.type "list") := hv.ty
      exact ⟨_, rfl, _, _, _, _, false, rfl, .ty _, tx, kit_ty (by decide +kernel), _, rfl, iteF q⟩
    | tuple ds =>
      have tx : TyX K H v (.type "tuple") := hv.ty
      exact ⟨_, rfl, _, _, _, _, false, rfl, .ty _, tx, kit_ty (by decide +kernel), _, rfl, iteF q⟩
    | dict kvs => cases hv
set_option maxHeartbeats 1000000 in
theorem ok_l_told_right (T : Tx K mg) {k : Nat} : FnOk P w K mg base CX0 (k + 3) T.f_l_told_right T.d_l_told_right ["_law_palette_here", "_law_low", "_law_high", "_law_thing"] spShowsD := by
  refine T.F_l_told_right.ok sc_l_told_right (fun vs H Q E h => ?_) (fun cdv A outer s H vs Q E hr h => ?_)
  · obtain ⟨B, pl, tv, cs, lo, hi, d, j, rfl, _⟩ := h
    rfl
  · obtain ⟨B, pl, tv, cs, lo, hi, d, j, rfl, hp, ht, hB, wo, shd, hj, h1, h2, h3, hbd, q⟩ := h
    have ht0 := ht
    have no : ∀ H', Same H H' → isRowsD d = false → Q (.bl false) H' := fun H' s' zf => q _ _ s' ⟨fun h => (nomatch h), fun ⟨rs, e, g⟩ => by
      rw [e, rowsD_of (List.length_pos_iff.mpr g.1)] at zf
      cases zf⟩
    refine ⟨_, (pss_cons (ps_if (PW.pt (pw_or (pt_not (pt_val (pe_callB (call_isiK1 K) (by rfl) T.z_isinstance (by decide +kernel) (pa_cons (pv 3) (pa_cons (pe_bltn (v := .ty "tuple") (by rfl) T.z_tuple (by decide +kernel) rfl) pa_nil))))) (pw_or1 (pt_cmpR (op_eqDK K hr.units) (pv 3) (pe_tup pa_nil) (nomark _))))) (pss_one (ps_ret pe_bl)) pss_nil)
      (pss_cons (ps_for PassesOwn.never rfl (pi_tupK K (pv 3)) (pg_name (i := 4) sc_l_told_right.nd rfl (.inl rfl)) (pss_one (ps_if (PW.pt (pw_or (pt_not (pt_val (pe_callB (call_isiK1 K) (by rfl) T.z_isinstance (by decide +kernel) (pa_cons (pv 4) (pa_cons (pe_bltn (v := .ty "tuple") (by rfl) T.z_tuple (by decide +kernel) rfl) pa_nil))))) (pw_or (pt_cmpR op_ne (pe_callB (len_K K) (by rfl) T.z_len PySem.boot_len (pa_cons (pv 4) pa_nil)) pe_int (nomark _)) (pw_or1 (pt_not (pt_val (pe_callB (cr_allK K rfl) (by rfl) T.z_all (by decide +kernel) (pa_cons (pe_lc (own := [("_law_one", 6)]) (by rfl) sc_l_told_right.nd (pi_tupK K (pv 4)) (blkOk_by (own := [("_law_one", 6)]) (N := N_l_told_right) (sc := defScope s_l_told_right) (by decide +kernel)) (fun _ _ _ _ _ => (pg_name (i := 6) sc_l_told_right.nd rfl (.inl rfl))) (fun _ _ _ _ _ => pts_nil) (fun _ _ _ _ _ => (pe_call (ok_l_whole T (k := k + 1)) hr (by rfl) T.g_l_whole T.F_l_whole.kp T.b_l_whole .nil pass0 (pa_cons (pv 6) pa_nil)))) pa_nil)))))))) (pss_one (ps_ret pe_bl)) pss_nil)))
      (pss_cons (ps_setLc (i := 5) (own := [("_law_begin", 7), ("_law_number", 8)]) (by rfl) sc_l_told_right.nd rfl rfl (sw_true rfl rfl rfl (by decide +kernel)) (pi_tupK K (pv 3)) (blkOk_by (own := [("_law_begin", 7), ("_law_number", 8)]) (N := N_l_told_right) (sc := defScope s_l_told_right) (by decide +kernel)) (fun _ _ _ _ _ => (pg_tupK K (n := 2) rfl (pgs_cons (pg_name (i := 7) sc_l_told_right.nd rfl (.inl rfl)) (pgs_cons (pg_name (i := 8) sc_l_told_right.nd rfl (.inl rfl)) pgs_nil)))) (fun _ _ _ _ _ => pts_nil) (fun _ _ _ _ _ => (pv 7)))
      (pss_cons (ps_if (PW.pt (pw_or (pt_cmpR op_ne (pe_ix (ix_listK K) (pv 5) pe_int (fun _ _ => rfl)) (pv 1) (nomark _)) (pw_or (pt_cmpR op_gt (pe_ix (ix_listK K) (pv 5) (pe_un un_neg pe_int) (fun _ _ => rfl)) (pv 2) (nomark _)) (pw_or1 (pt_not (pt_val (pe_callB (cr_allK K rfl) (by rfl) T.z_all (by decide +kernel) (pa_cons (pe_lc (own := [("_law_one", 6), ("_law_other", 9)]) (by rfl) sc_l_told_right.nd (RZ.pi_zipA (by rfl) T.z_zip (pa_cons (pv 5) (pa_cons (pe_slice (sl_listK K) (pv 5) (po_some pe_int) po_none) pa_nil))) (blkOk_by (own := [("_law_one", 6), ("_law_other", 9)]) (N := N_l_told_right) (sc := defScope s_l_told_right) (by decide +kernel)) (fun _ _ _ _ _ => (pg_tupK K (n := 2) rfl (pgs_cons (pg_name (i := 6) sc_l_told_right.nd rfl (.inl rfl)) (pgs_cons (pg_name (i := 9) sc_l_told_right.nd rfl (.inl rfl)) pgs_nil)))) (fun _ _ _ _ _ => pts_nil) (fun _ _ _ _ _ => (pe_cmpR op_lt (pv 6) (pv 9) (nomark _)))) pa_nil)))))))) (pss_one (ps_ret pe_bl)) pss_nil)
      (pss_one (ps_ret (pe_callB (cr_allK K rfl) (by rfl) T.z_all (by decide +kernel) (pa_cons (pe_lc (own := [("_law_n", 10)]) (by rfl) sc_l_told_right.nd (pi_range2 (by rfl) T.z_range (pa_cons (pv 1) (pa_cons (pe_op op_add (pv 2) pe_int) pa_nil))) (blkOk_by (own := [("_law_n", 10)]) (N := N_l_told_right) (sc := defScope s_l_told_right) (by decide +kernel)) (fun _ _ _ _ _ => (pg_name (i := 10) sc_l_told_right.nd rfl (.inl rfl))) (fun _ _ _ _ _ => pts_nil) (fun _ _ _ _ _ => (pe_cmpR op_eq (pe_call (ok_l_number_of T (k := k + 1)) hr (by rfl) T.g_l_number_of T.F_l_number_of.kp T.b_l_number_of .nil pass0 (pa_cons (pv 3) (pa_cons (pv 10) pa_nil))) (pe_call (ok_l_nearest T (k := k)) hr (by rfl) T.g_l_nearest T.F_l_nearest.kp T.b_l_nearest .nil pass0 (pa_cons (pv 0) (pa_cons (pe_tup (pa_cons (pv 10) pa_nil)) pa_nil))) (nomark _)))) pa_nil)))))))), ?_⟩
    cases d with
    | none =>
      have tx : TyX K H tv (.type "NoneType") := ht.ty
      exact ⟨_, rfl, _, _, _, _, false, rfl, .ty _, tx, kit_ty (by decide +kernel), _, rfl, iteT (iteT (no _ (Same.refl _) rfl))⟩
    | bool b =>
      have tx : TyX K H tv (.type "bool") := ht.ty
      exact ⟨_, rfl, _, _, _, _, false, rfl, .ty _, tx, kit_ty (by decide +kernel), _, rfl, iteT (iteT (no _ (Same.refl _) rfl))⟩
    | int i =>
      have tx : TyX K H tv (.type "int") := ht.ty
      exact ⟨_, rfl, _, _, _, _, false, rfl, .ty _, tx, kit_ty (by decide +kernel), _, rfl, iteT (iteT (no _ (Same.refl _) rfl))⟩
    | str z =>
      have tx : TyX K H tv (.type "str") := ht.ty
      exact ⟨_, rfl, _, _, _, _, false, rfl, .ty _, tx, kit_ty (by decide +kernel), _, rfl, iteT (iteT (no _ (Same.refl _) rfl))⟩
    | list ds =>
      have tx : TyX K H tv (.type "list") := ht.ty
      exact ⟨_, rfl, _, _, _, _, false, rfl, .ty _, tx, kit_ty (by decide +kernel), _, rfl, iteT (iteT (no _ (Same.refl _) rfl))⟩
    | dict kvs => cases ht
    | tuple ds =>
    have tx : TyX K H tv (.type "tuple") := ht.ty
    obtain ⟨ta, vs, rfl, na, et, hA⟩ := ht.tupI
    have lv := hA.len
    obtain ⟨j, rfl, hs, hl'⟩ := shd.tupI
    refine ⟨_, rfl, _, _, _, _, true, rfl, .ty _, tx, kit_ty (by decide +kernel), _, rfl, iteF ?_⟩
    refine ⟨_, rfl, Nat.zero_le _, fun z hz => ⟨.tuple ds, .tuple [], (ht0.s (sm_new hz)).dP, .tup (SqT.of upd_same) .nil, shd.sh (by omega), rfl, _, rfl, ite2 (fun e => ?_) (fun e => ?_)⟩⟩
    · have : ds = [] := by
        cases ds with
        | nil => rfl
        | cons a b => exact absurd e (by simp [PyData.eqv, PyData.eqvAll])
      exact no _ (sm_new hz) (by rw [this]; rfl)
    have ne0 : ds ≠ [] := fun z => by
      subst z
      exact absurd (show PyData.eqv (.tuple []) (.tuple []) = true by simp [PyData.eqv, PyData.eqvAll]) e
    have s1 := sm_new (o := .tup []) hz
    generalize upd H z (.tup []) = H1 at *
    have et1 := s1 _ _ et
    refine ⟨_, rfl, ta, rfl, ⟨_, SqT.of et1⟩, for_tup (xs := vs) (fun i σ H' => ∃ y4 y5 y6 y7 y8 y9 y10, σ = [some pl, some (.int lo), some (.int hi), some (.ref ta), y4, y5, y6, y7, y8, y9, y10] ∧ Same H H' ∧ (ds.take i).all (fun d => isCol d 2) = true)
      ⟨_, _, _, _, _, _, _, rfl, s1, rfl⟩ (fun i σ H' _ h => ?_) (fun i x σ H2 hx h => ?_) (fun σ H2 h => ?_)⟩
    · obtain ⟨y4, y5, y6, y7, y8, y9, y10, rfl, s2, _⟩ := h
      exact SqT.of (s2 _ _ et)
    · obtain ⟨y4, y5, y6, y7, y8, y9, y10, rfl, s2, ac⟩ := h
      obtain ⟨d, fd', gd⟩ := (hA.s s2).getV hx
      have bad : isCol d 2 = false → isRowsD (.tuple ds) = false := fun c => by
        cases r : isRowsD (.tuple ds) with
        | false => rfl
        | true =>
          simp only [isRowsD, Bool.and_eq_true] at r
          have := List.all_eq_true.mp r.2 d (List.mem_of_getElem? fd')
          rw [c] at this
          cases this
      have good : isCol d 2 = true → (ds.take (i + 1)).all (fun d => isCol d 2) = true := fun c => by
        rw [List.take_add_one, fd', List.all_append, ac]
        simp [c]
      have shd2 := hs d (List.mem_of_getElem? fd')
      cases d with
      | none =>
        have tx : TyX K H2 x (.type "NoneType") := gd.ty
        exact ⟨_, rfl, _, _, _, _, false, rfl, .ty _, tx, kit_ty (by decide +kernel), _, rfl, iteT (iteT (no _ s2 (bad rfl)))⟩
      | bool b =>
        have tx : TyX K H2 x (.type "bool") := gd.ty
        exact ⟨_, rfl, _, _, _, _, false, rfl, .ty _, tx, kit_ty (by decide +kernel), _, rfl, iteT (iteT (no _ s2 (bad rfl)))⟩
      | int b =>
        have tx : TyX K H2 x (.type "int") := gd.ty
        exact ⟨_, rfl, _, _, _, _, false, rfl, .ty _, tx, kit_ty (by decide +kernel), _, rfl, iteT (iteT (no _ s2 (bad rfl)))⟩
      | str b =>
        have tx : TyX K H2 x (.type "str") := gd.ty
        exact ⟨_, rfl, _, _, _, _, false, rfl, .ty _, tx, kit_ty (by decide +kernel), _, rfl, iteT (iteT (no _ s2 (bad rfl)))⟩
      | list b =>
        have tx : TyX K H2 x (.type "list") := gd.ty
        exact ⟨_, rfl, _, _, _, _, false, rfl, .ty _, tx, kit_ty (by decide +kernel), _, rfl, iteT (iteT (no _ s2 (bad rfl)))⟩
      | dict b => cases gd
      | tuple es =>
      obtain ⟨xa, xs, rfl, nx, ex, hX⟩ := gd.tupI
      have lx := hX.len
      obtain ⟨j', e', hs', hl2⟩ := shd2.tupI
      refine ⟨_, rfl, _, _, _, _, true, rfl, .ty _, .base (.tup ex), kit_ty (by decide +kernel), _, rfl, iteF ?_⟩
      refine ⟨_, rfl, xa, _, rfl, .inr (SqT.of ex), rfl, _, rfl, ite2 (fun e => ?_) (fun e => ?_)⟩
      · have : (es.length : Int) ≠ 2 := fun z => by
          rw [lx, z] at e
          simp at e
        exact iteT (no _ s2 (bad (isCol_no this)))
      have el : (es.length : Int) = 2 := by
        rw [lx] at e
        simpa using e
      refine ⟨_, rfl, xa, rfl, ⟨_, SqT.of ex⟩, fun D hD => ?_⟩
      refine lc_pure (B := []) (walk_tup (xs := xs)) hD (fun _ h => nomatch h) (fun H' s' => SqT.of (s' _ _ ex)) (by omega) (fun i => ((es.map isNum).map PyData.bool)[i]?) (fun l x H' H'' Ny Nn hl t1 bk y ky kn => ?_) (fun H3 ws s3 eD hW => ?_)
      · obtain ⟨rfl, y⟩ := y
        obtain ⟨d1, f1, g1⟩ := hX.getV y
        refine ⟨rfl, lc_yes ⟨_, rfl, B, x, d1, rfl, g1.s t1, ?_⟩⟩
        exact ky _ _ _ (by rw [List.getElem?_map, List.getElem?_map, f1]; rfl) (Same.refl _) (.bl _)
      · rw [fm_all (by simp; omega)] at hW
        refine ⟨D, _, rfl, SqL.of (by rw [eD, hW.blsV]), ?_⟩
        have ec : (es.map isNum).all id = isCol (.tuple es) 2 := by rw [isCol_yes el, List.all_map]; rfl
        rw [ec]
        refine ⟨_, rfl, ?_⟩
        cases hc : isCol (.tuple es) 2 with
        | false => exact iteT (no _ (s2.trans s3) (bad hc))
        | true => exact iteF ⟨_, _, _, _, _, _, _, rfl, s2.trans s3, good hc⟩
    obtain ⟨y4, y5, y6, y7, y8, y9, y10, rfl, s2, ac⟩ := h
    rw [lv, List.take_length] at ac
    obtain ⟨rs, rfl⟩ := cols2 ac
    obtain ⟨l, hb⟩ := hbd rs rfl
    have q : ∀ (b : Bool) H', Same H H' → (b = true ↔ GT cs lo hi rs) → Q (.bl b) H' := fun b H' s' hb' => q b H' s' (hb'.trans ⟨fun g => ⟨rs, rfl, g⟩, fun ⟨qs, e, g⟩ => by rw [eR_inj (rs := rs) e]; exact g⟩)
    rw [List.length_map] at lv
    have ne : rs ≠ [] := fun z => ne0 (by rw [z]; rfl)
    have z0 : 0 < rs.length := List.length_pos_iff.mpr ne
    have et2 := s2 _ _ et
    refine ⟨_, rfl, ta, rfl, ⟨_, SqT.of et2⟩, fun D hD => ?_⟩
    refine lc_pure (B := []) (walk_tup (xs := vs)) hD (fun _ h => nomatch h) (fun H' s' => SqT.of (s' _ _ et2)) (by omega)
      (fun i => ((rs.map (·.1)).map PyData.int)[i]?) (fun i x H' H'' Ny Nn hi' t1 bk y ky kn => ?_) (fun H3 ws s3 eD hW => ?_)
    · obtain ⟨rfl, y⟩ := y
      obtain ⟨d, fd', gd⟩ := (hA.s s2).getV y
      have il : i < rs.length := by omega
      rw [List.getElem?_map, List.getElem?_eq_getElem il] at fd'
      have ed : d = enc rs[i] := (Option.some.inj fd').symm
      subst ed
      obtain ⟨xa, rfl, _, ex⟩ := (gd.s t1).col
      refine ⟨xa, [.int rs[i].1, .int rs[i].2], rfl, SqT.of ex, rfl, _, _, rfl, _, _, rfl, rfl, rfl, lc_yes ⟨_, rfl, ?_⟩⟩
      exact ky _ _ _ (by rw [List.getElem?_map, List.getElem?_map, List.getElem?_eq_getElem il]; rfl) (Same.refl _) (.int _)
    rw [fm_all (by simp; omega)] at hW
    have ew := hW.intsV
    subst ew
    have t3 := s2.trans s3
    have hd0 : ((rs.map (·.1)).map V.int)[0]? = some (.int (hd2 rs).1) := by
      match rs, z0 with
      | r :: t, _ => rfl
    have hl : atI ((rs.map (·.1)).map V.int) (-1) = some (.int ((rs.map (·.1)).getLastD 0)) := by
      obtain ⟨ys, z, ez⟩ : ∃ ys z, rs.map (·.1) = ys ++ [z] := ⟨_, _, (List.dropLast_concat_getLast (by simpa using ne)).symm⟩
      rw [ez, List.map_append, List.getLastD_eq_getLast?, List.getLast?_append]
      exact atI_last _ _
    refine ⟨_, rfl, D, _, 0, _, rfl, rfl, SqL.of eD, atI_nat (j := 0) hd0, _, rfl, rfl, _, rfl, ite2 (fun e => ?_) (fun e => ?_)⟩
    · refine iteT (q _ _ t3 ⟨fun h => (nomatch h), fun h => ?_⟩)
      rw [h.2.1] at e
      simp at e
    have g1 : (hd2 rs).1 = lo := by simpa using e
    refine ⟨_, rfl, _, rfl, D, _, _, _, rfl, rfl, SqL.of eD, hl, _, rfl, _, _, rfl, rfl, _, rfl, ite2 (fun e => ?_) (fun e => ?_)⟩
    · refine iteT (q _ _ t3 ⟨fun h => (nomatch h), fun h => ?_⟩)
      have := (last_le hi rs ne).mpr (gd_ri h.2.2).2
      have := of_decide_eq_true e
      omega
    have g2 : LastLe hi rs := (last_le hi rs ne).mp (by
      have : ¬ (rs.map (·.1)).getLastD 0 > hi := fun h => e (decide_eq_true h)
      omega)
    -- rising
    refine ⟨_, rfl, _, rfl, 1, rfl, D, _, rfl, SqL.of eD, fun sl hsl => ?_⟩
    have s4 := sm_new (o := .lst (cutV ((rs.map (·.1)).map V.int) (some 1) none)) hsl
    have esl : (upd H3 sl (.lst (cutV ((rs.map (·.1)).map V.int) (some 1) none))) sl = some (.lst (((rs.map (·.1)).drop 1).map V.int)) := by rw [upd_same, cut1, List.map_drop]
    generalize upd H3 sl (.lst (cutV ((rs.map (·.1)).map V.int) (some 1) none)) = H4 at *
    have eD4 := s4 _ _ eD
    have ris := ris_ri rs
    generalize hns : rs.map (·.1) = ns at *
    have ln : ns.length = rs.length := by rw [← hns, List.length_map]
    refine ⟨D, sl, _, _, rfl, .inl ⟨SqL.of eD4, SqL.of esl, fun D2 hD2 => ?_⟩⟩
    refine lc_pure (B := []) (walk_zip (n := min ns.length (ns.drop 1).length) (xs := ns.map V.int) (ys := (ns.drop 1).map V.int) (by simp)) hD2 (fun _ h => nomatch h) (fun H' s' => ⟨SqL.of (s' _ _ eD4), SqL.of (s' _ _ esl)⟩) (by omega)
      (fun i => (((ns.zip (ns.drop 1)).map fun p => decide (p.1 < p.2)).map PyData.bool)[i]?) (fun i x H' H'' Ny Nn hi t1 bk y ky kn => ?_) (fun H5 ws5 s5 eD5 hW5 => ?_)
    · obtain ⟨t, x, y, rfl, ht, rfl, e1, e2⟩ := y
      have i1 : i < ns.length := by omega
      have i2 : i < (ns.drop 1).length := by omega
      have x1 := mat i1 e1
      have x2 := mat i2 e2
      subst x1 x2
      refine ⟨t, _, rfl, SqT.of upd_same, rfl, _, _, rfl, _, _, rfl, rfl, rfl, lc_yes ?_⟩
      refine ⟨_, rfl, _, rfl, _, _, rfl, rfl, ?_⟩
      refine ky _ _ _ ?_ (sm_new ht) (.bl _)
      rw [List.getElem?_map, List.getElem?_map, List.getElem?_eq_getElem (by rw [List.length_zip]; exact hi)]
      simp
    rw [fm_all (by simp)] at hW5
    refine ⟨D2, _, rfl, SqL.of (by rw [eD5, hW5.blsV]), ?_⟩
    have t5 := (t3.trans s4).trans s5
    have erb : ((ns.zip (ns.drop 1)).map fun p => decide (p.1 < p.2)).all id = risB ns := rfl
    rw [erb]
    refine ⟨_, rfl, ?_⟩
    cases hrb : risB ns with
    | false =>
      refine iteT (q _ _ t5 ⟨fun h => (nomatch h), fun h => ?_⟩)
      have := ris.mpr (gd_ri h.2.2).1
      rw [hrb] at this
      cases this
    | true =>
      refine iteF ?_
      have g3 : Ri rs := ris.mp hrb
      have lob := hb (hd2 rs) (List.mem_of_getElem? (hd_get z0))
      refine ⟨_, rfl, _, rfl, _, _, rfl, rfl, lo, hi + 1, rfl, ⟨by omega, by omega, by omega, by omega⟩, fun D6 hD6 => ?_⟩
      refine lc_pure (B := []) (walk_range (lo := lo) (n := (hi + 1 - lo).toNat)) hD6 (fun _ h => nomatch h) (fun _ _ => True.intro) (by omega)
        (fun i => some (.bool (decide (bt rs (lo + (i : Int)) (hd2 rs).2 = nf cs (lo + (i : Int)))))) (fun i x H' H'' Ny Nn hi' t1 bk y ky kn => ?_) (fun H7 ws7 s7 eD7 hW7 => ?_)
      · obtain ⟨rfl, rfl⟩ := y
        have t6 := t5.trans t1
        refine ⟨rfl, lc_yes ⟨_, rfl, _, rfl, B, _, rs, lo + (i : Int), rfl, ht0.s t6, z0, l, by omega, fun H8 s8 => ?_⟩⟩
        have t8 := t6.trans s8
        have B8 := hB.go (Go.of (B := []) t8)
        refine ⟨_, rfl, _, rfl, (by show 1 ≤ sizeLine; decide), fun t9 ht9 => ?_⟩
        have s9 := sm_new (o := .tup [.int (lo + (i : Int))]) ht9
        have d9 : Dt B (upd H8 t9 (.tup [.int (lo + (i : Int))])) (.ref t9) (eC [lo + (i : Int)]) := Dt.ofCol (B8.ne ht9) upd_same
        generalize upd H8 t9 (.tup [.int (lo + (i : Int))]) = H9 at *
        refine ⟨B, pl, _, cs, [lo + (i : Int)], rfl, (hp.s t8).s s9, d9, pok1 wo (by omega) (by omega), wo.1, fun H10 j s10 hj => ?_⟩
        have ej := nf_of hj
        refine ⟨rfl, ?_⟩
        refine ky _ _ (.bool _) ?_ ((s8.trans s9).trans s10) (.bl _)
        rw [ej]
        congr 2
        by_cases c : bt rs (lo + (i : Int)) (hd2 rs).2 = (j : Int)
        · rw [decide_eq_true c, c]; simp
        · rw [decide_eq_false c]; simp [c]
      · rw [fm_some] at hW7
        have er : (List.range (hi + 1 - lo).toNat).map (fun (i : Nat) => PyData.bool (decide (bt rs (lo + (i : Int)) (hd2 rs).2 = nf cs (lo + (i : Int))))) = ((List.range (hi + 1 - lo).toNat).map fun (i : Nat) => decide (bt rs (lo + (i : Int)) (hd2 rs).2 = nf cs (lo + (i : Int)))).map PyData.bool := by rw [List.map_map]; rfl
        rw [er] at hW7
        refine ⟨D6, _, rfl, SqL.of (by rw [eD7, hW7.blsV]), ?_⟩
        refine q _ _ (t5.trans s7) ?_
        rw [List.all_eq_true]
        constructor
        · intro h
          refine ⟨ne, g1, bt_gd ne g3 g2 fun n a b t0 => ?_⟩
          have := h _ (List.mem_map.mpr ⟨(n - lo).toNat, List.mem_range.mpr (by omega), rfl⟩)
          have e2 := of_decide_eq_true this
          rw [show lo + (((n - lo).toNat : Nat) : Int) = n by omega] at e2
          rw [← e2]
          match rs, z0, a with
          | r :: t, _, a => rw [bt_cons, bt_cons, if_pos (show r.1 ≤ n from a), if_pos (show r.1 ≤ n from a)]
        · intro h x hx
          obtain ⟨i, hi', rfl⟩ := List.mem_map.mp hx
          have := List.mem_range.mp hi'
          exact decide_eq_true (gd_bt h.2.2 _ _ (by omega) (by omega))
/-! ### things -/
inductive Sm : PyData → Prop
  | int {i : Int} : -1000000 ≤ i → i ≤ 1000000 → Sm (.int i)
  | non : Sm .none
  | bl {b : Bool} : Sm (.bool b)
  | str {x : Str} : Sm (.str x)
  | tup {ds : List PyData} : ds.length ≤ 1000 → (∀ d ∈ ds, Sm d) → Sm (.tuple ds)
  | lst {ds : List PyData} : (∀ d ∈ ds, Sm d) → Sm (.list ds)
theorem Sm.rows {rs : List (Int × Int)} (h : Sm (eR rs)) : rs.length ≤ 1000 ∧ ∀ r ∈ rs, -1000000 ≤ r.1 ∧ r.1 ≤ 1000000 := by
  unfold eR at h
  cases h with
  | tup l h =>
    refine ⟨by simpa using l, fun r hr => ?_⟩
    have := h _ (List.mem_map.mpr ⟨r, hr, rfl⟩)
    unfold enc eC at this
    cases this with
    | tup l2 h2 =>
      have := h2 (.int r.1) (by simp)
      cases this with
      | int a b => exact ⟨a, b⟩
structure Th (k n : Nat) (d : PyData) : Prop where
  sh : Sh d k
  sw : Shw d n
  sm : Sm d
def TD (k n : Nat) (B : List Addr) (H : Hp) (v : V) : Prop := ∃ d, Dt B H v d ∧ Th k n d
def TDs (k n : Nat) (B : List Addr) (H : Hp) (vs : List V) : Prop := ∃ ds, DtA B H vs ds ∧ ∀ d ∈ ds, Th k n d
theorem Th.mono {k n j m : Nat} {d : PyData} (h : Th k n d) (a : k ≤ j) (b : n ≤ m) : Th j m d := ⟨h.sh.mono a, h.sw.mono b, h.sm⟩
theorem TD.s {k n : Nat} {B : List Addr} {H H' : Hp} {v : V} (h : TD k n B H v) (s : Same H H') : TD k n B H' v := by
  obtain ⟨d, a, b⟩ := h
  exact ⟨d, a.s s, b⟩
theorem TD.g {k n : Nat} {B : List Addr} {H H' : Hp} {v : V} (h : TD k n B H v) (s : Go B H H') : TD k n B H' v := by
  obtain ⟨d, a, b⟩ := h
  exact ⟨d, a.g s, b⟩
theorem TD.mono {k n j m : Nat} {B : List Addr} {H : Hp} {v : V} (h : TD k n B H v) (a : k ≤ j := by omega) (b : n ≤ m := by omega) : TD j m B H v := by
  obtain ⟨d, x, y⟩ := h
  exact ⟨d, x, y.mono a b⟩
theorem TDs.s {k n : Nat} {B : List Addr} {H H' : Hp} {v : List V} (h : TDs k n B H v) (s : Same H H') : TDs k n B H' v := by
  obtain ⟨d, a, b⟩ := h
  exact ⟨d, a.s s, b⟩
theorem TDs.g {k n : Nat} {B : List Addr} {H H' : Hp} {v : List V} (h : TDs k n B H v) (s : Go B H H') : TDs k n B H' v := by
  obtain ⟨d, a, b⟩ := h
  exact ⟨d, a.g s, b⟩
theorem TDs.nil {k n : Nat} {B : List Addr} {H : Hp} : TDs k n B H [] := ⟨[], .nil, fun _ h => nomatch h⟩
theorem TDs.cons {k n : Nat} {B : List Addr} {H : Hp} {v : V} {vs : List V} (h : TD k n B H v) (t : TDs k n B H vs) : TDs k n B H (v :: vs) := by
  obtain ⟨d, a, b⟩ := h
  obtain ⟨ds, x, y⟩ := t
  exact ⟨d :: ds, .cons a x, fun e he => by
    rcases List.mem_cons.mp he with z | z
    · rw [z]; exact b
    · exact y e z⟩
theorem TDs.app {k n : Nat} {B : List Addr} {H : Hp} {vs us : List V} (h : TDs k n B H vs) (t : TDs k n B H us) : TDs k n B H (vs ++ us) := by
  obtain ⟨d, a, b⟩ := h
  obtain ⟨ds, x, y⟩ := t
  exact ⟨d ++ ds, a.app x, fun e he => by
    rcases List.mem_append.mp he with z | z
    · exact b e z
    · exact y e z⟩
theorem TDs.get {k n : Nat} {B : List Addr} {H : Hp} {vs : List V} {v : V} {i : Nat} (h : TDs k n B H vs) (e : vs[i]? = some v) : TD k n B H v := by
  obtain ⟨ds, x, y⟩ := h
  obtain ⟨d, fd, gd⟩ := x.getV e
  exact ⟨d, gd, y d (List.mem_of_getElem? fd)⟩
theorem TDs.tup {k n m : Nat} {B : List Addr} {H : Hp} {vs : List V} {a : Addr} (h : TDs k n B H vs) (l : vs.length ≤ 1000) (na : a ∉ B) (e : H a = some (.tup vs)) (b : n * vs.length + 2 * vs.length + 3 ≤ m) : TD (k + 1) m B H (.ref a) := by
  obtain ⟨ds, x, y⟩ := h
  have lv := x.len
  refine ⟨.tuple ds, .tup na e x, sh_tup (by omega) (fun d hd => (y d hd).sh), (shw_tup fun d hd => (y d hd).sw).mono (by rw [lv] at b; exact b), .tup (by omega) fun d hd => (y d hd).sm⟩
theorem TDs.lst {k n m : Nat} {B : List Addr} {H : Hp} {vs : List V} {a : Addr} (h : TDs k n B H vs) (l : vs.length ≤ 1000) (na : a ∉ B) (e : H a = some (.lst vs)) (b : n * vs.length + 2 * vs.length + 3 ≤ m) : TD (k + 1) m B H (.ref a) := by
  obtain ⟨ds, x, y⟩ := h
  have lv := x.len
  refine ⟨.list ds, .lst na e x, sh_lst (by omega) (fun d hd => (y d hd).sh), (shw_lst fun d hd => (y d hd).sw).mono (by rw [lv] at b; exact b), .lst fun d hd => (y d hd).sm⟩
theorem TD.int {i : Int} {B : List Addr} {H : Hp} (a : -1000000 ≤ i) (b : i ≤ 1000000) : TD 0 700 B H (.int i) := ⟨_, .int i, sh_int i 0, (shw_int (by omega)).mono (by omega), .int a b⟩
theorem TD.non {B : List Addr} {H : Hp} : TD 0 700 B H .non := ⟨_, .non, sh_none 0, shw_none.mono (by omega), .non⟩
theorem TD.bl {b : Bool} {B : List Addr} {H : Hp} : TD 0 700 B H (.bl b) := ⟨_, .bl b, sh_bool b 0, (shw_bool b).mono (by omega), .bl⟩
def spDeep : Sp := fun vs H Q _ => ∃ (B : List Addr) (n : Int), vs = [.int n] ∧ Bk B H ∧ 0 ≤ n ∧ n ≤ 15 ∧ ∀ (v : V) (H' : Hp), Same H H' → TD 17 7000 B H' v → Q v H'
theorem ok_l_deep (T : Tx K mg) {k : Nat} : FnOk P w K mg base CX0 (k + 1) T.f_l_deep T.d_l_deep ["_law_deep_here"] spDeep := by
  refine T.F_l_deep.ok sc_l_deep (fun vs H Q E h => ?_) (fun cdv A outer s H vs Q E hr h => ?_)
  · obtain ⟨B, n, rfl, _⟩ := h
    rfl
  · obtain ⟨B, n, rfl, hB, n0, n1, q⟩ := h
    refine ⟨_, (pss_cons (ps_set (i := 1) sc_l_deep.nd rfl (.inl rfl) (pe_tup (pa_cons (pe_tup (pa_cons pe_int (pa_cons pe_int pa_nil))) pa_nil)))
      (pss_cons (ps_for PassesOwn.never rfl (pi_range1 (by rfl) T.z_range (pa_cons (pv 0) pa_nil)) (pg_name (i := 2) sc_l_deep.nd rfl (.inl rfl)) (pss_one (ps_set (i := 1) sc_l_deep.nd rfl (.inl rfl) (pe_ix (ix_listK K) (pe_lst (pa_cons (pe_tup (pa_cons (pv 1) pa_nil)) (pa_cons (pe_lst (pa_cons (pv 1) pa_nil)) pa_nil))) (pe_op op_mod (pv 2) pe_int) (fun _ _ => rfl)))))
      (pss_one (ps_ret (pv 1))))), ?_⟩
    refine ⟨(by show 2 ≤ sizeLine; decide), fun p1 h1 => ⟨(by show 1 ≤ sizeLine; decide), fun p2 h2 => ?_⟩⟩
    have s1 := sm_new (o := .tup [.int 0, .int 0]) h1
    have t1 : TD 1 2107 B (upd H p1 (.tup [.int 0, .int 0])) (.ref p1) := TDs.tup (k := 0) (n := 700) (.cons (.int (by decide) (by decide)) (.cons (.int (by decide) (by decide)) .nil)) (by decide) (hB.ne h1) upd_same (by decide)
    have B1 := hB.go (Go.of (B := []) s1)
    generalize upd H p1 (.tup [.int 0, .int 0]) = H1 at *
    have s2 := sm_new (o := .tup [.ref p1]) h2
    have t2 : TD 2 2200 B (upd H1 p2 (.tup [.ref p1])) (.ref p2) := TDs.tup (.cons (t1.s s2) .nil) (by simp) (B1.ne h2) upd_same (by simp)
    generalize upd H1 p2 (.tup [.ref p1]) = H2 at *
    have s3 := s1.trans s2
    refine ⟨_, rfl, n, rfl, by omega, by omega, for_range (lo := 0) (n := n.toNat) (fun i σ H' => ∃ y2 v, σ = [some (.int n), some v, y2] ∧ Same H H' ∧ TD (2 + i) (2200 + 5 * i) B H' v) ⟨_, _, rfl, s3, t2⟩ (fun i σ H3 hi h3 => ?_) (fun σ H3 h3 => ?_)⟩
    · obtain ⟨y2, v, rfl, s3, t3⟩ := h3
      have B3 := hB.go (Go.of (B := []) s3)
      refine ⟨_, rfl, (by show 1 ≤ sizeLine; decide), fun p4 h4 => ⟨_, rfl, (by show 1 ≤ sizeLine; decide), fun p5 h5 => ⟨(by show 2 ≤ sizeLine; decide), fun p6 h6 => ?_⟩⟩⟩
      have s4 := sm_new (o := .tup [v]) h4
      have u4 : TD (2 + (i + 1)) (2200 + 5 * (i + 1)) B (upd H3 p4 (.tup [v])) (.ref p4) := TDs.tup (k := 2 + i) (.cons (t3.s s4) .nil) (by simp) (B3.ne h4) upd_same (by simp; omega)
      generalize upd H3 p4 (.tup [v]) = H4 at *
      have s5 := sm_new (o := .lst [v]) h5
      have u5 : TD (2 + (i + 1)) (2200 + 5 * (i + 1)) B (upd H4 p5 (.lst [v])) (.ref p5) := TDs.lst (k := 2 + i) (.cons ((t3.s s4).s s5) .nil) (by simp) ((B3.go (Go.of (B := []) s4)).ne h5) upd_same (by simp; omega)
      generalize upd H4 p5 (.lst [v]) = H5 at *
      have s6 := sm_new (o := .lst [.ref p4, .ref p5]) h6
      have e6 : (upd H5 p6 (.lst [.ref p4, .ref p5])) p6 = some (.lst [.ref p4, .ref p5]) := upd_same
      generalize upd H5 p6 (.lst [.ref p4, .ref p5]) = H6 at *
      have st := s3.trans (s4.trans (s5.trans s6))
      have h2 : (0 + (i : Int)) % 2 = 0 ∨ (0 + (i : Int)) % 2 = 1 := by omega
      refine ⟨_, rfl, _, _, rfl, rfl, md (by decide), ?_⟩
      rcases h2 with e | e
      · exact ⟨p6, _, _, .ref p4, rfl, rfl, SqL.of e6, by rw [e]; rfl, _, _, rfl, st, u4.s (s5.trans s6)⟩
      · exact ⟨p6, _, _, .ref p5, rfl, rfl, SqL.of e6, by rw [e]; rfl, _, _, rfl, st, u5.s s6⟩
    · obtain ⟨y2, v, rfl, s3, t3⟩ := h3
      exact ⟨_, rfl, q _ _ s3 t3.mono⟩
/-! ### odd things -/
def MkT (σ : L2.St) (k n : Nat) (t : TE) : Prop := ∀ (B : List Addr) (H : Hp) (Q : VK), Bk B H → (∀ v H', Same H H' → TD k n B H' v → Q v H') → t σ H Q
def MkA (σ : L2.St) (k n N : Nat) (t : TA) : Prop := ∀ (B : List Addr) (H : Hp) (Q : List V → Hp → Prop), Bk B H → (∀ vs H', Same H H' → TDs k n B H' vs → vs.length = N → Q vs H') → t σ H Q
theorem mk_nil {σ : L2.St} {k n : Nat} : MkA σ k n 0 tNil := fun B H Q _ q => q _ _ (Same.refl _) .nil rfl
theorem mk_cons {σ : L2.St} {k n N : Nat} {t : TE} {ts : TA} (h : MkT σ k n t) (hs : MkA σ k n N ts) : MkA σ k n (N + 1) (tCons t ts) := fun B H Q hB q => by
  refine h B H _ hB fun v H1 s1 d1 => hs B H1 _ (hB.go (Go.of (B := []) s1)) fun vs H2 s2 d2 l2 => ?_
  exact q _ _ (s1.trans s2) (.cons (d1.s s2) d2) (by rw [List.length_cons, l2])
theorem mk_c {σ : L2.St} {v : V} {k n : Nat} (h : ∀ B H, TD 0 700 B H v) (hn : 700 ≤ n) : MkT σ k n (tC v) := fun B H Q hB q => q _ _ (Same.refl _) ((h B H).mono (by omega) hn)
theorem mk_v {σ : L2.St} {v : V} {k n i : Nat} (e : σ[i]? = some (some v)) (h : ∀ B H, TD 0 700 B H v) (hn : 700 ≤ n) : MkT σ k n (tVar i) := fun B H Q hB q => ⟨v, e, q _ _ (Same.refl _) ((h B H).mono (by omega) hn)⟩
theorem mk_tup {σ : L2.St} {k N m : Nat} {t : TA} (hN : N ≤ 3) (b : 9 ≤ m) (h : MkA σ k (m / 3 - 3) N t) : MkT σ (k + 1) m (tTup t) := fun B H Q hB q => by
  refine h B H _ hB fun vs H1 s1 d1 l1 => ⟨sz (by omega) |> Nat.le_of_lt, fun p hp => ?_⟩
  have s2 := sm_new (o := .tup vs) hp
  refine q _ _ (s1.trans s2) ((d1.s s2).tup (by omega) ((hB.go (Go.of (B := []) s1)).ne hp) upd_same ?_)
  rw [l1]
  match N, hN with
  | 0, _ => omega
  | 1, _ => omega
  | 2, _ => omega
  | 3, _ => omega
theorem mk_lst {σ : L2.St} {k N m : Nat} {t : TA} (hN : N ≤ 3) (b : 9 ≤ m) (h : MkA σ k (m / 3 - 3) N t) : MkT σ (k + 1) m (tLst t) := fun B H Q hB q => by
  refine h B H _ hB fun vs H1 s1 d1 l1 => ⟨sz (by omega) |> Nat.le_of_lt, fun p hp => ?_⟩
  have s2 := sm_new (o := .lst vs) hp
  refine q _ _ (s1.trans s2) ((d1.s s2).lst (by omega) ((hB.go (Go.of (B := []) s1)).ne hp) upd_same ?_)
  rw [l1]
  match N, hN with
  | 0, _ => omega
  | 1, _ => omega
  | 2, _ => omega
  | 3, _ => omega
theorem mk_use {σ : L2.St} {k n N : Nat} {t : TA} {B : List Addr} {H : Hp} {Q : List V → Hp → Prop} (h : MkA σ k n N t) (hB : Bk B H) (q : ∀ vs H', Same H H' → TDs k n B H' vs → vs.length = N → Q vs H') : t σ H Q := h B H Q hB q
theorem use_lst1 {σ : L2.St} {t : TE} {ts : TA} {H : Hp} {Q : VK} (h : t σ H (fun v H1 => ts σ H1 (fun vs H2 => (v :: vs).length ≤ sizeLine ∧ ∀ p, H2 p = none → Q (.ref p) (upd H2 p (.lst (v :: vs)))))) : tLst (tCons t ts) σ H Q := h
theorem TDs.fr {k n : Nat} {B : List Addr} {H : Hp} {vs : List V} {p : Addr} (h : TDs k n B H vs) (hp : H p = none) : TDs k n (p :: B) H vs := by
  obtain ⟨d, a, b⟩ := h
  exact ⟨d, a.fr hp, b⟩
theorem TDs.un {k n : Nat} {B : List Addr} {H : Hp} {vs : List V} {p : Addr} (h : TDs k n (p :: B) H vs) : TDs k n B H vs := by
  obtain ⟨d, a, b⟩ := h
  exact ⟨d, a.un, b⟩
theorem use_seq {te : TE} {i : Nat} {rest : TS} {D : Ends} {σ : L2.St} {H : Hp} (h : te σ H (fun x H1 => (gName i) x σ H1 (fun σ' H' => rest D σ' H'))) : tSeq (tAsg te (gName i)) rest D σ H := h
theorem use_lst {σ : L2.St} {k n N : Nat} {t : TA} {B : List Addr} {H : Hp} {Q : VK} (h : MkA σ k n N t) (hN : N ≤ 1000) (hB : Bk B H) (q : ∀ vs H1 p, Same H (upd H1 p (.lst vs)) → TDs k n B (upd H1 p (.lst vs)) vs → vs.length = N → H1 p = none → H p = none → Q (.ref p) (upd H1 p (.lst vs))) : tLst t σ H Q := by
  refine h B H _ hB fun vs H1 s1 d1 l1 => ⟨sz (by omega) |> Nat.le_of_lt, fun p hp => ?_⟩
  have s2 := sm_new (o := .lst vs) hp
  exact q vs H1 p (s1.trans s2) (d1.s s2) l1 hp (s1.free hp)
theorem sh_str (s : String) (k : Nat) : Sh (.str (Str.ofString s)) k := by
  refine ⟨?_, by rw [PyData.depth]; omega, by rw [wide]⟩
  rw [PyData.canLay0]
  unfold PyData.strOk
  rw [Str.ofString_eq_toList]
  simp only [List.all_toArray, Array.all_toList, List.all_map, List.all_eq_true]
  intro x _
  have := x.valid
  simp only [Function.comp, decide_eq_true_eq]
  rcases this with h | h
  · exact Nat.lt_trans h (by decide)
  · exact h.2
theorem TD.str {s : String} {B : List Addr} {H : Hp} (h : (Str.ofString s).length ≤ 60) : TD 0 700 B H (.str (Str.ofString s)) := ⟨_, .str _, sh_str _ 0, (shw_str (cps_of s)).mono (by omega), .str⟩
theorem mk_str {σ : L2.St} {i : Int} {j k n : Nat} (e : σ[j]? = some (some (.int i))) (h1 : -1000000 ≤ i) (h2 : i ≤ 1000000) (hn : 700 ≤ n) : MkT σ k n (tCB (fun xs H Q => ∃ i, xs = [V.int i] ∧ i.natAbs.log2 < 1920 ∧ Q (V.str (Str.ofString (toString i))) H) (tCons (tVar j) tNil)) := fun B H Q hB q => by
  have h := shw_int (i := i) (by omega)
  refine ⟨_, e, i, rfl, ?_, q _ _ (Same.refl _) ((TD.str ?_).mono (by omega) hn)⟩
  · have := h.a
    rw [PyData.showable] at this
    exact of_decide_eq_true this
  · have := h.c
    rw [PyData.shown] at this
    exact this
def spOdd18 : Sp := fun vs H Q _ => ∃ (L : Addr) (B : List Addr) (n : Nat) (lo nu : Int), vs = [.ref L, .int lo, .int nu] ∧ Lf L H n ∧ L ∈ B ∧ Bk B H ∧ n < 1000000 ∧ -100000 ≤ lo ∧ lo ≤ 100000 ∧ -100000 ≤ nu ∧ nu ≤ 100000 ∧
  ∀ (v : V) (H' : Hp), Go [L] H H' → Lf L H' (n + 2) → TD 17 7000 B H' v → Q v H'
theorem ok_l_odd (T : Tx K mg) {k : Nat} : FnOk P w K mg base CX0 (k + 3) T.f_l_odd T.d_l_odd ["_law_left_here", "_law_low", "_law_number"] spOdd18 := by
  refine T.F_l_odd.ok sc_l_odd (fun vs H Q E h => ?_) (fun cdv A outer s H vs Q E hr h => ?_)
  · obtain ⟨L, B, n, lo, nu, rfl, _⟩ := h
    rfl
  · obtain ⟨L, B, n, lo, nu, rfl, hL, hLB, hB, hn, lo1, lo2, nu1, nu2, q⟩ := h
    refine ⟨_, (pss_cons (ps_set (i := 3) sc_l_odd.nd rfl (.inl rfl) (pe_lst (pa_cons pe_non (pa_cons pe_bl (pa_cons pe_bl (pa_cons pe_int (pa_cons (pe_un un_neg pe_int) (pa_cons pe_int (pa_cons pe_str (pa_cons pe_str (pa_cons (pe_tup pa_nil) (pa_cons (pe_lst pa_nil) (pa_cons (pe_tup (pa_cons (pe_tup pa_nil) pa_nil)) (pa_cons (pe_lst (pa_cons (pe_tup pa_nil) pa_nil)) (pa_cons (pe_tup (pa_cons (pv 1) pa_nil)) (pa_cons (pe_tup (pa_cons (pv 1) (pa_cons (pv 2) pa_nil))) (pa_cons (pe_lst (pa_cons (pv 1) (pa_cons (pv 2) pa_nil))) (pa_cons (pv 1) pa_nil))))))))))))))))))
      (pss_cons (ps_set (i := 3) sc_l_odd.nd rfl (.inl rfl) (pe_op op_cat (pv 3) (pe_lst (pa_cons (pe_tup (pa_cons (pv 1) (pa_cons (pv 2) (pa_cons pe_int pa_nil)))) (pa_cons (pe_tup (pa_cons (pe_tup (pa_cons (pv 1) (pa_cons (pv 2) pa_nil))) (pa_cons (pe_tup (pa_cons (pv 1) (pa_cons (pv 2) pa_nil))) pa_nil))) (pa_cons (pe_lst (pa_cons (pe_tup (pa_cons (pv 1) (pa_cons (pv 2) pa_nil))) pa_nil)) (pa_cons (pe_tup (pa_cons (pe_lst (pa_cons (pv 1) (pa_cons (pv 2) pa_nil))) pa_nil)) (pa_cons (pe_callTy call_str_int (by rfl) T.z_str (by decide +kernel) (pa_cons (pv 1) pa_nil)) pa_nil))))))))
      (pss_cons (ps_set (i := 3) sc_l_odd.nd rfl (.inl rfl) (pe_op op_cat (pv 3) (pe_lst (pa_cons (pe_call (ok_l_deep T (k := k + 1)) hr (by rfl) T.g_l_deep T.F_l_deep.kp T.b_l_deep .nil pass0 (pa_cons (pe_call (ok_l_pick T (k := k)) hr (by rfl) T.g_l_pick T.F_l_pick.kp T.b_l_pick .nil pass0 (pa_cons (pv 0) (pa_cons pe_int pa_nil))) pa_nil)) (pa_cons (pe_tup (pa_cons (pe_tup (pa_cons pe_bl (pa_cons (pv 2) pa_nil))) pa_nil)) (pa_cons (pe_tup (pa_cons (pe_tup (pa_cons (pv 1) (pa_cons pe_bl pa_nil))) pa_nil)) (pa_cons (pe_tup (pa_cons (pe_tup (pa_cons (pv 1) (pa_cons pe_non pa_nil))) pa_nil)) (pa_cons (pe_tup (pa_cons pe_str pa_nil)) pa_nil))))))))
      (pss_cons (ps_expr (pe_bm PySem.F.plainAttrs_list PySem.F.slot_list_append PySem.F.type_list_append mt_append (pv 3) (pa_cons (pe_tup (pa_cons (pe_tup (pa_cons (pv 1) (pa_cons pe_str pa_nil))) pa_nil)) pa_nil)))
      (pss_one (ps_ret (pe_ix (ix_listK K) (pv 3) (pe_call (ok_l_pick T (k := k)) hr (by rfl) T.g_l_pick T.F_l_pick.kp T.b_l_pick .nil pass0 (pa_cons (pv 0) (pa_cons (pe_callB (len_K K) (by rfl) T.z_len PySem.boot_len (pa_cons (pv 3) pa_nil)) pa_nil))) (fun _ _ => rfl)))))))), ?_⟩
    have C : ∀ {σ : L2.St} {k n : Nat} {i : Int}, -1000000 ≤ i → i ≤ 1000000 → 700 ≤ n → MkT σ k n (tC (.int i)) := fun a b hn => mk_c (fun B H => .int a b) hn
    have S : ∀ {σ : L2.St} {k n : Nat} {s : String}, (Str.ofString s).length ≤ 60 → 700 ≤ n → MkT σ k n (tC (.str (Str.ofString s))) := fun h hn => mk_c (fun B H => .str h) hn
    have V1 : ∀ {σ : L2.St} {k n : Nat}, σ[1]? = some (some (.int lo)) → 700 ≤ n → MkT σ k n (tVar 1) := fun e hn => mk_v e (fun B H => .int (i := lo) (by omega) (by omega)) hn
    have V2 : ∀ {σ : L2.St} {k n : Nat}, σ[2]? = some (some (.int nu)) → 700 ≤ n → MkT σ k n (tVar 2) := fun e hn => mk_v e (fun B H => .int (i := nu) (by omega) (by omega)) hn
    have Bo : ∀ {σ : L2.St} {k n : Nat} {b : Bool}, 700 ≤ n → MkT σ k n (tC (.bl b)) := fun hn => mk_c (fun B H => .bl) hn
    have No : ∀ {σ : L2.St} {k n : Nat}, 700 ≤ n → MkT σ k n (tC .non) := fun hn => mk_c (fun B H => .non) hn
    have M1 : ∀ {σ : L2.St} {k n : Nat}, 700 ≤ n → MkT σ k n (tUn (rU fun i => V.int (-i)) (tC (V.int 1))) := fun hn B H Q hB q => ⟨1, rfl, q _ _ (Same.refl _) (TD.mono (.int (by decide) (by decide)) (by omega) hn)⟩
    have B1 : Bk B H := hB
    refine use_seq ?_
    refine use_lst (k := 17) (n := 7000) (N := 16) (by repeat' first | exact mk_nil | refine mk_cons ?_ ?_ | refine mk_tup (N := 0) (by decide) (by decide) mk_nil | refine mk_tup (N := 1) (by decide) (by decide) (mk_cons ?_ mk_nil) | refine mk_tup (N := 2) (by decide) (by decide) (mk_cons ?_ (mk_cons ?_ mk_nil)) | refine mk_tup (N := 3) (by decide) (by decide) (mk_cons ?_ (mk_cons ?_ (mk_cons ?_ mk_nil))) | refine mk_lst (N := 0) (by decide) (by decide) mk_nil | refine mk_lst (N := 1) (by decide) (by decide) (mk_cons ?_ mk_nil) | refine mk_lst (N := 2) (by decide) (by decide) (mk_cons ?_ (mk_cons ?_ mk_nil)) | refine mk_lst (N := 3) (by decide) (by decide) (mk_cons ?_ (mk_cons ?_ (mk_cons ?_ mk_nil))) | exact V1 rfl (by decide) | exact V2 rfl (by decide) | exact No (by decide) | exact Bo (by decide) | exact M1 (by decide) | exact C (by decide) (by decide) (by decide) | exact S (by decide +kernel) (by decide) | exact mk_str rfl (by omega) (by omega) (by decide)) (by decide) B1 fun vs1 H1 p1 s1 d1 l1 hp1 fp1 => ?_
    have e1 : (upd H1 p1 (.lst vs1)) p1 = some (.lst vs1) := upd_same
    generalize upd H1 p1 (.lst vs1) = H2 at *
    have B2 := hB.go (Go.of (B := []) s1)
    refine use_seq ?_
    refine ⟨_, rfl, ?_⟩
    refine use_lst (k := 17) (n := 7000) (N := 5) (by repeat' first | exact mk_nil | refine mk_cons ?_ ?_ | refine mk_tup (N := 0) (by decide) (by decide) mk_nil | refine mk_tup (N := 1) (by decide) (by decide) (mk_cons ?_ mk_nil) | refine mk_tup (N := 2) (by decide) (by decide) (mk_cons ?_ (mk_cons ?_ mk_nil)) | refine mk_tup (N := 3) (by decide) (by decide) (mk_cons ?_ (mk_cons ?_ (mk_cons ?_ mk_nil))) | refine mk_lst (N := 0) (by decide) (by decide) mk_nil | refine mk_lst (N := 1) (by decide) (by decide) (mk_cons ?_ mk_nil) | refine mk_lst (N := 2) (by decide) (by decide) (mk_cons ?_ (mk_cons ?_ mk_nil)) | refine mk_lst (N := 3) (by decide) (by decide) (mk_cons ?_ (mk_cons ?_ (mk_cons ?_ mk_nil))) | exact V1 rfl (by decide) | exact V2 rfl (by decide) | exact No (by decide) | exact Bo (by decide) | exact M1 (by decide) | exact C (by decide) (by decide) (by decide) | exact S (by decide +kernel) (by decide) | exact mk_str rfl (by omega) (by omega) (by decide)) (by decide) B2 fun vs3 H3 p3 s3 d3 l3 hp3 fp3 => ?_
    have e3 : (upd H3 p3 (.lst vs3)) p3 = some (.lst vs3) := upd_same
    generalize upd H3 p3 (.lst vs3) = H4 at *
    refine ⟨p1, p3, _, _, rfl, rfl, s3 _ _ e1, e3, Nat.le_of_lt (sz (by omega)), fun p5 hp5 => ?_⟩
    have s5 := sm_new (o := .lst (vs1 ++ vs3)) hp5
    have e5 : (upd H4 p5 (.lst (vs1 ++ vs3))) p5 = some (.lst (vs1 ++ vs3)) := upd_same
    have t5 := s1.trans (s3.trans s5)
    have d5 : TDs 17 7000 B (upd H4 p5 (.lst (vs1 ++ vs3))) (vs1 ++ vs3) := (d1.s (s3.trans s5)).app (d3.s s5)
    generalize upd H4 p5 (.lst (vs1 ++ vs3)) = H5 at *
    refine use_seq ?_
    refine ⟨_, rfl, ?_⟩
    refine use_lst1 ?_
    have l5 := hL.same t5
    refine ⟨_, rfl, L, 15, n, rfl, l5, by omega, by decide, by decide, fun r H6 g6 l6 a6 b6 => ?_⟩
    have gB6 : Go B H5 H6 := g6.w1 (B := B) hLB
    have B6 := (hB.go (Go.of (B := []) t5)).go gB6
    refine ⟨B, r, rfl, B6, a6, by omega, fun v7 H7 s7 d7 => ?_⟩
    refine mk_use (k := 17) (n := 7000) (N := 4) (by repeat' first | exact mk_nil | refine mk_cons ?_ ?_ | refine mk_tup (N := 0) (by decide) (by decide) mk_nil | refine mk_tup (N := 1) (by decide) (by decide) (mk_cons ?_ mk_nil) | refine mk_tup (N := 2) (by decide) (by decide) (mk_cons ?_ (mk_cons ?_ mk_nil)) | refine mk_tup (N := 3) (by decide) (by decide) (mk_cons ?_ (mk_cons ?_ (mk_cons ?_ mk_nil))) | refine mk_lst (N := 0) (by decide) (by decide) mk_nil | refine mk_lst (N := 1) (by decide) (by decide) (mk_cons ?_ mk_nil) | refine mk_lst (N := 2) (by decide) (by decide) (mk_cons ?_ (mk_cons ?_ mk_nil)) | refine mk_lst (N := 3) (by decide) (by decide) (mk_cons ?_ (mk_cons ?_ (mk_cons ?_ mk_nil))) | exact V1 rfl (by decide) | exact V2 rfl (by decide) | exact No (by decide) | exact Bo (by decide) | exact M1 (by decide) | exact C (by decide) (by decide) (by decide) | exact S (by decide +kernel) (by decide) | exact mk_str rfl (by omega) (by omega) (by decide)) (B6.go (Go.of (B := []) s7)) fun vs8 H8 s8 d8 l8 => ?_
    refine ⟨sz (by simp; omega) |> Nat.le_of_lt, fun p9 hp9 => ?_⟩
    have s9 := sm_new (o := .lst (v7 :: vs8)) hp9
    have e9 : (upd H8 p9 (.lst (v7 :: vs8))) p9 = some (.lst (v7 :: vs8)) := upd_same
    have d9 : TDs 17 7000 B (upd H8 p9 (.lst (v7 :: vs8))) (v7 :: vs8) := .cons (d7.s (s8.trans s9)) (d8.s s9)
    generalize upd H8 p9 (.lst (v7 :: vs8)) = H9 at *
    have t9 := s7.trans (s8.trans s9)
    have np5 : p5 ∉ [L] := (hL.same (s1.trans s3)).bk.ne hp5
    have e59 := t9 _ _ (g6.k p5 _ np5 e5)
    refine ⟨p5, p9, _, _, rfl, rfl, e59, e9, Nat.le_of_lt (sz (by simp; omega)), fun p10 hp10 => ?_⟩
    have d10 : TDs 17 7000 (p10 :: B) H9 (vs1 ++ vs3 ++ v7 :: vs8) := (((d5.g gB6).s t9).app d9).fr hp10
    have ln : (vs1 ++ vs3 ++ v7 :: vs8).length = 26 := by simp; omega
    generalize vs1 ++ vs3 ++ v7 :: vs8 = ws at *
    have s10 := sm_new (o := .lst ws) hp10
    have e10 : (upd H9 p10 (.lst ws)) p10 = some (.lst ws) := upd_same
    have nL9 : p10 ≠ L := by simpa using (l6.same t9).bk.ne hp10
    have hH10 : H p10 = none := t5.free (g6.free (t9.free hp10))
    have d10 := d10.s s10
    have B10 : Bk (p10 :: B) (upd H9 p10 (.lst ws)) := ((B6.go (Go.of (B := []) t9)).go (Go.of (B := []) s10)).cons e10
    generalize upd H9 p10 (.lst ws) = H10 at *
    have l10 := l6.same (t9.trans s10)
    have g10 : Go [L] H H10 := ((Go.of t5).trans g6).trans (Go.of (t9.trans s10))
    refine ⟨_, rfl, .inl ⟨rfl, _, SqL.of e10⟩, ?_⟩
    refine mk_use (k := 17) (n := 7000) (N := 1) (by repeat' first | exact mk_nil | refine mk_cons ?_ ?_ | refine mk_tup (N := 0) (by decide) (by decide) mk_nil | refine mk_tup (N := 1) (by decide) (by decide) (mk_cons ?_ mk_nil) | refine mk_tup (N := 2) (by decide) (by decide) (mk_cons ?_ (mk_cons ?_ mk_nil)) | refine mk_tup (N := 3) (by decide) (by decide) (mk_cons ?_ (mk_cons ?_ (mk_cons ?_ mk_nil))) | refine mk_lst (N := 0) (by decide) (by decide) mk_nil | refine mk_lst (N := 1) (by decide) (by decide) (mk_cons ?_ mk_nil) | refine mk_lst (N := 2) (by decide) (by decide) (mk_cons ?_ (mk_cons ?_ mk_nil)) | refine mk_lst (N := 3) (by decide) (by decide) (mk_cons ?_ (mk_cons ?_ (mk_cons ?_ mk_nil))) | exact V1 rfl (by decide) | exact V2 rfl (by decide) | exact No (by decide) | exact Bo (by decide) | exact M1 (by decide) | exact C (by decide) (by decide) (by decide) | exact S (by decide +kernel) (by decide) | exact mk_str rfl (by omega) (by omega) (by decide)) B10 fun vs11 H11 s11 d11 l11 => ?_
    obtain ⟨x11, rfl⟩ : ∃ x, vs11 = [x] := List.length_eq_one_iff.mp l11
    have e11 := s11 _ _ e10
    refine ⟨p10, _, _, rfl, rfl, e11, sz (by omega), ?_⟩
    have gm : Go (p10 :: B) H11 (upd H11 p10 (.lst (ws ++ [x11]))) := Go.refl.at (by simp)
    have d12 : TDs 17 7000 B (upd H11 p10 (.lst (ws ++ [x11]))) (ws ++ [x11]) := (((d10.s s11).app d11).g gm).un
    have e12 : (upd H11 p10 (.lst (ws ++ [x11]))) p10 = some (.lst (ws ++ [x11])) := upd_same
    have l12 : Lf L (upd H11 p10 (.lst (ws ++ [x11]))) (n + 1) := (l10.same s11).up nL9
    have g12 : Go [L] H (upd H11 p10 (.lst (ws ++ [x11]))) := (g10.trans (Go.of s11)).mut hH10
    generalize upd H11 p10 (.lst (ws ++ [x11])) = H12 at *
    have ln12 : (ws ++ [x11]).length = 27 := by simp; omega
    generalize ws ++ [x11] = us at *
    refine ⟨_, rfl, _, rfl, _, rfl, p10, _, rfl, .inl (SqL.of e12), L, _, _, rfl, l12, by omega, by omega, by omega, fun r13 H13 g13 l13 a13 b13 => ?_⟩
    have np10 : p10 ∉ [L] := by simpa using nL9
    have i13 : r13.toNat < us.length := by omega
    refine ⟨p10, _, _, us[r13.toNat], rfl, rfl, SqL.of (g13.k p10 _ np10 e12), at0 a13 (List.getElem?_eq_getElem i13), ?_⟩
    exact q _ _ (g12.trans g13) l13 ((d12.g (g13.w1 hLB)).get (List.getElem?_eq_getElem i13))
/-! ### tables with odd things in them -/
theorem TDs.of {k n : Nat} {B : List Addr} {H : Hp} : ∀ {vs : List V}, (∀ x ∈ vs, TD k n B H x) → TDs k n B H vs
  | [], _ => .nil
  | v :: vs, h => .cons (h v (by simp)) (TDs.of fun x hx => h x (List.mem_cons_of_mem _ hx))
theorem TDs.mem {k n : Nat} {B : List Addr} {H : Hp} {vs : List V} (h : TDs k n B H vs) {x : V} (hx : x ∈ vs) : TD k n B H x := by
  obtain ⟨i, hi⟩ := List.mem_iff_getElem?.mp hx
  exact h.get hi
theorem TDs.set {k n : Nat} {B : List Addr} {H : Hp} {vs : List V} {v : V} (h : TDs k n B H vs) (hv : TD k n B H v) (j : Nat) : TDs k n B H (vs.set j v) := TDs.of fun x hx => by
  rcases List.mem_or_eq_of_mem_set hx with z | z
  · exact h.mem z
  · rw [z]; exact hv
theorem TDs.ins {k n : Nat} {B : List Addr} {H : Hp} {vs : List V} {v : V} (h : TDs k n B H vs) (hv : TD k n B H v) (j : Nat) : TDs k n B H (vs.take j ++ [v] ++ vs.drop j) := TDs.of fun x hx => by
  rcases List.mem_append.mp hx with z | z
  · rcases List.mem_append.mp z with y | y
    · exact h.mem (List.mem_of_mem_take y)
    · rw [List.mem_singleton.mp y]; exact hv
  · exact h.mem (List.mem_of_mem_drop z)
theorem TDs.mono {k n j m : Nat} {B : List Addr} {H : Hp} {vs : List V} (h : TDs k n B H vs) (a : k ≤ j) (b : n ≤ m) : TDs j m B H vs := by
  obtain ⟨d, x, y⟩ := h
  exact ⟨d, x, fun e he => (y e he).mono a b⟩
theorem TD.un {k n : Nat} {B : List Addr} {H : Hp} {v : V} {p : Addr} (h : TD k n (p :: B) H v) : TD k n B H v := by
  obtain ⟨d, a, b⟩ := h
  exact ⟨d, a.un, b⟩
theorem th_enc {r : Int × Int} (h : -100000 ≤ r.1 ∧ r.1 ≤ 100000 ∧ -100000 ≤ r.2 ∧ r.2 ≤ 100000) : Th 1 700 (enc r) := by
  refine ⟨sh_eC (by simp), shw_eC (fun x hx => ?_) (by simp), .tup (by simp) fun d hd => ?_⟩
  · simp only [List.mem_cons, List.not_mem_nil, or_false] at hx
    rcases hx with rfl | rfl <;> omega
  · simp only [List.map_cons, List.map_nil, List.mem_cons, List.not_mem_nil, or_false] at hd
    rcases hd with rfl | rfl
    · exact .int (by omega) (by omega)
    · exact .int (by omega) (by omega)
theorem use_asgI {r : R2} {ta tb : TE} {g : TG} {D : Ends} {σ : L2.St} {H : Hp} (h : ta σ H (fun x H1 => tb σ H1 (fun y H2 => r x y H2 (fun z H3 => g z σ H3 D.nx)))) : tAsg (tOp r ta tb) g D σ H := h
theorem ixN0 {n : Nat} {i : Int} (h0 : 0 ≤ i) (h1 : i < n) : ixN n i = some i.toNat := by
  unfold ixN
  rw [if_pos h0, if_pos h1]
def spBent18 : Sp := fun vs H Q _ => ∃ (L : Addr) (n : Nat) (tv : V) (lo : Int) (rs : List (Int × Int)), vs = [.ref L, tv, .int lo] ∧ Lf L H n ∧ n < 100000 ∧ Dt [L] H tv (eR rs) ∧ 0 < rs.length ∧ rs.length ≤ 210 ∧ -100000 ≤ lo ∧ lo ≤ 100000 ∧ (∀ r ∈ rs, -100000 ≤ r.1 ∧ r.1 ≤ 100000 ∧ -100000 ≤ r.2 ∧ r.2 ≤ 100000) ∧
  ∀ (v : V) (H' : Hp), Go [L] H H' → Lf L H' (n + 10) → TD 30 5000000 [L] H' v → Q v H'
theorem ok_l_bent (T : Tx K mg) {k : Nat} : FnOk P w K mg base CX0 (k + 4) T.f_l_bent T.d_l_bent ["_law_left_here", "_law_table", "_law_low"] spBent18 := by
  refine T.F_l_bent.ok sc_l_bent (fun vs H Q E h => ?_) (fun cdv A outer s H vs Q E hr h => ?_)
  · obtain ⟨L, n, tv, lo, rs, rfl, _⟩ := h
    rfl
  · obtain ⟨L, n, tv, lo, rs, rfl, hL, hn, ht, r0, l, lo1, lo2, hb, q⟩ := h
    obtain ⟨ta, vs, rfl, na, et, hA⟩ := ht.tupI
    have lv := hA.len
    rw [List.length_map] at lv
    refine ⟨_, (pss_cons (ps_set (i := 3) sc_l_bent.nd rfl (.inl rfl) (pe_callTy (list_K K) (by rfl) T.z_list (by decide +kernel) (pa_cons (pv 1) pa_nil)))
      (pss_cons (ps_set (i := 4) sc_l_bent.nd rfl (.inl rfl) (pe_call (ok_l_pick T (k := k + 1)) hr (by rfl) T.g_l_pick T.F_l_pick.kp T.b_l_pick .nil pass0 (pa_cons (pv 0) (pa_cons (pe_callB (len_K K) (by rfl) T.z_len PySem.boot_len (pa_cons (pv 3) pa_nil)) pa_nil))))
      (pss_cons (ps_asg (pe_ix (ix_listK K) (pv 3) (pv 4) (fun _ _ => rfl)) (pg_tupK K (n := 2) rfl (pgs_cons (pg_name (i := 5) sc_l_bent.nd rfl (.inl rfl)) (pgs_cons (pg_name (i := 6) sc_l_bent.nd rfl (.inl rfl)) pgs_nil))))
      (pss_cons (ps_set (i := 7) sc_l_bent.nd rfl (.inl rfl) (pe_call (ok_l_odd T (k := k)) hr (by rfl) T.g_l_odd T.F_l_odd.kp T.b_l_odd .nil pass0 (pa_cons (pv 0) (pa_cons (pv 2) (pa_cons (pv 6) pa_nil)))))
      (pss_cons (ps_set (i := 8) sc_l_bent.nd rfl (.inl rfl) (pe_call (ok_l_pick T (k := k + 1)) hr (by rfl) T.g_l_pick T.F_l_pick.kp T.b_l_pick .nil pass0 (pa_cons (pv 0) (pa_cons pe_int pa_nil))))
      (pss_cons (ps_if (pt_cmpR op_eq (pv 8) pe_int (nomark _)) (pss_one (ps_ret (pv 7))) pss_nil)
      (pss_cons (ps_if (pt_cmpR op_eq (pv 8) pe_int (nomark _)) (pss_one (ps_ret (pv 3))) pss_nil)
      (Evl.pss_cut (ps_if (pt_cmpR op_eq (pv 8) pe_int (nomark _)) (pss_one (ps_asg (pv 7) (pg_sub (pv 3) (pv 4) set_list))) (pss_one (ps_if (pt_cmpR op_eq (pv 8) pe_int (nomark _)) (pss_one (ps_asg (pe_tup (pa_cons (pv 7) (pa_cons (pv 6) pa_nil))) (pg_sub (pv 3) (pv 4) set_list))) (pss_one (ps_if (pt_cmpR op_eq (pv 8) pe_int (nomark _)) (pss_one (ps_asg (pe_tup (pa_cons (pv 5) (pa_cons (pv 7) pa_nil))) (pg_sub (pv 3) (pv 4) set_list))) (pss_one (ps_if (pt_cmpR op_eq (pv 8) pe_int (nomark _)) (pss_one (ps_asg (pe_ix (ix_listK K) (pe_lst (pa_cons (pe_lst (pa_cons (pv 5) (pa_cons (pv 6) pa_nil))) (pa_cons (pe_tup (pa_cons (pv 5) (pa_cons (pv 6) (pa_cons pe_int pa_nil)))) (pa_cons (pe_tup (pa_cons (pv 5) pa_nil)) pa_nil)))) (pe_call (ok_l_pick T (k := k + 1)) hr (by rfl) T.g_l_pick T.F_l_pick.kp T.b_l_pick .nil pass0 (pa_cons (pv 0) (pa_cons pe_int pa_nil))) (fun _ _ => rfl)) (pg_sub (pv 3) (pv 4) set_list))) (pss_one (ps_expr (pe_bm PySem.F.plainAttrs_list PySem.F.slot_list_insert PySem.F.type_list_insert mt_insert (pv 3) (pa_cons (pv 4) (pa_cons (pv 7) pa_nil))))))))))))
      (pss_one (ps_ret (pe_callTy (tuple_K K) (by rfl) T.z_tuple (by decide +kernel) (pa_cons (pv 3) pa_nil)))))))))))), ?_⟩
    refine ⟨_, rfl, ta, _, rfl, .inr (SqT.of et), fun R hR => ?_⟩
    have sR := sm_new (o := .lst vs) hR
    have eR0 : (upd H R (.lst vs)) R = some (.lst vs) := upd_same
    have nR : R ∉ [L] := hL.bk.ne hR
    have nRL : R ≠ L := by simpa using nR
    have hA1 : DtA [R, L] (upd H R (.lst vs)) vs (rs.map enc) := (hA.fr hR).s sR
    have l1 := hL.same sR
    generalize upd H R (.lst vs) = H1 at *
    refine ⟨_, rfl, _, rfl, R, _, rfl, .inl (SqL.of eR0), L, _, _, rfl, l1, by omega, by omega, by omega, fun a2 H2 g2 l2 a20 a21 => ?_⟩
    have eR2 := g2.k R _ nR eR0
    have hA2 := hA1.g (g2.w1 (B := [R, L]) (by simp))
    have ia : a2.toNat < rs.length := by omega
    have ba := hb _ (List.getElem_mem ia)
    obtain ⟨v4, f4, d4⟩ := hA2.get (i := a2.toNat) (d := enc rs[a2.toNat]) (by rw [List.getElem?_map, List.getElem?_eq_getElem ia]; rfl)
    have d40 := d4
    obtain ⟨xa, rfl, nxa, exa⟩ := d4.col
    refine ⟨_, rfl, _, rfl, R, _, _, _, rfl, rfl, SqL.of eR2, at0 a20 f4, xa, _, rfl, SqT.of exa, rfl, _, _, rfl, _, _, rfl, rfl, ?_⟩
    have bk2 : Bk [R, L] H2 := l2.bk.cons eR2
    refine ⟨_, rfl, _, rfl, _, rfl, L, [R, L], _, _, _, rfl, l2, by simp, bk2, by omega, lo1, lo2, ba.2.2.1, ba.2.2.2, fun ov H3 g3 l3 d3 => ?_⟩
    refine ⟨_, rfl, L, 7, _, rfl, l3, by omega, by decide, by decide, fun way H5 g5 l5 w50 w51 => ?_⟩
    have g13 := g2.trans (g3.trans g5)
    have gH5 : Go [L] H H5 := (Go.of sR).trans g13
    have eR5 := g13.k R _ nR eR0
    have dv : TDs 20 15000 [R, L] H5 vs := ⟨rs.map enc, hA1.g (g13.w1 (B := [R, L]) (by simp)), fun d hd => by
      obtain ⟨r, hr', rfl⟩ := List.mem_map.mp hd
      exact (th_enc (hb r hr')).mono (by omega) (by omega)⟩
    have d5 : TD 17 7000 [R, L] H5 ov := d3.g (g5.w1 (B := [R, L]) (by simp))
    have bk5 : Bk [R, L] H5 := l5.bk.cons eR5
    have ls : vs.length ≤ 210 := by omega
    refine ⟨_, rfl, rfl, _, rfl, ite2 (fun e => ?_) (fun e => ?_)⟩
    · exact ⟨_, rfl, q _ _ gH5 (l5.mono (by omega)) (d5.un.mono (by omega) (by omega))⟩
    refine ⟨_, rfl, rfl, _, rfl, ite2 (fun e => ?_) (fun e => ?_)⟩
    · exact ⟨_, rfl, q _ _ gH5 (l5.mono (by omega)) ((dv.un.lst (m := 5000000) (by omega) nR eR5 (by omega)).mono (by omega) (by omega))⟩
    refine ⟨fun σ' H' => ∃ y8 us, σ' = [some (.ref L), some (.ref ta), some (.int lo), some (.ref R), some (.int a2), some (.int rs[a2.toNat].1), some (.int rs[a2.toNat].2), some ov, y8] ∧ Go [L] H H' ∧ Lf L H' (n + 8) ∧ H' R = some (.lst us) ∧ TDs 20 15000 [R, L] H' us ∧ us.length ≤ 211, ?_, fun σ' H' hM => ?_⟩
    · have V1 : ∀ {i : Int} {B : List Addr} {H : Hp}, -100000 ≤ i ∧ i ≤ 100000 → TD 0 700 B H (.int i) := fun h => .int (by omega) (by omega)
      refine ⟨_, rfl, rfl, _, rfl, ite2 (fun e => ?_) (fun e => ?_)⟩
      · refine ⟨_, rfl, _, rfl, _, rfl, R, _, _, a2.toNat, rfl, rfl, eR5, ixN0 a20 (by omega), ?_⟩
        exact ⟨_, _, rfl, gH5.mut hR, (l5.up nRL).mono (by omega), upd_same, (dv.set (d5.mono (by omega) (by omega)) _).g (Go.refl.at (by simp)), by rw [List.length_set]; omega⟩
      refine ⟨_, rfl, rfl, _, rfl, ite2 (fun e => ?_) (fun e => ?_)⟩
      · refine ⟨_, rfl, _, rfl, (by show 2 ≤ sizeLine; decide), fun p hp => ?_⟩
        have s7 := sm_new (o := .tup [ov, .int rs[a2.toNat].2]) hp
        have d7 : TD 20 15000 [R, L] (upd H5 p (.tup [ov, .int rs[a2.toNat].2])) (.ref p) := (TDs.tup (k := 17) (n := 7000) (m := 15000) (.cons (d5.s s7) (.cons ((V1 ⟨ba.2.2.1, ba.2.2.2⟩).mono (by omega) (by omega)) .nil)) (by simp) (bk5.ne hp) upd_same (by simp)).mono (by omega) (by omega)
        generalize upd H5 p (.tup [ov, .int rs[a2.toNat].2]) = H7 at *
        refine ⟨_, rfl, _, rfl, R, _, _, a2.toNat, rfl, rfl, s7 _ _ eR5, ixN0 a20 (by omega), ?_⟩
        exact ⟨_, _, rfl, (gH5.trans (Go.of s7)).mut hR, ((l5.same s7).up nRL).mono (by omega), upd_same, ((dv.s s7).set d7 _).g (Go.refl.at (by simp)), by rw [List.length_set]; omega⟩
      refine ⟨_, rfl, rfl, _, rfl, ite2 (fun e => ?_) (fun e => ?_)⟩
      · refine ⟨_, rfl, _, rfl, (by show 2 ≤ sizeLine; decide), fun p hp => ?_⟩
        have s7 := sm_new (o := .tup [.int rs[a2.toNat].1, ov]) hp
        have d7 : TD 20 15000 [R, L] (upd H5 p (.tup [.int rs[a2.toNat].1, ov])) (.ref p) := (TDs.tup (k := 17) (n := 7000) (m := 15000) (.cons ((V1 ⟨ba.1, ba.2.1⟩).mono (by omega) (by omega)) (.cons (d5.s s7) .nil)) (by simp) (bk5.ne hp) upd_same (by simp)).mono (by omega) (by omega)
        generalize upd H5 p (.tup [.int rs[a2.toNat].1, ov]) = H7 at *
        refine ⟨_, rfl, _, rfl, R, _, _, a2.toNat, rfl, rfl, s7 _ _ eR5, ixN0 a20 (by omega), ?_⟩
        exact ⟨_, _, rfl, (gH5.trans (Go.of s7)).mut hR, ((l5.same s7).up nRL).mono (by omega), upd_same, ((dv.s s7).set d7 _).g (Go.refl.at (by simp)), by rw [List.length_set]; omega⟩
      refine ⟨_, rfl, rfl, _, rfl, ite2 (fun e => ?_) (fun e => ?_)⟩
      · have W1 : ∀ {σ : L2.St} {k n : Nat}, σ[5]? = some (some (.int rs[a2.toNat].1)) → 700 ≤ n → MkT σ k n (tVar 5) := fun e hn => mk_v e (fun B H => V1 ⟨ba.1, ba.2.1⟩) hn
        have W2 : ∀ {σ : L2.St} {k n : Nat}, σ[6]? = some (some (.int rs[a2.toNat].2)) → 700 ≤ n → MkT σ k n (tVar 6) := fun e hn => mk_v e (fun B H => V1 ⟨ba.2.2.1, ba.2.2.2⟩) hn
        have C : ∀ {σ : L2.St} {k n : Nat} {i : Int}, -1000000 ≤ i → i ≤ 1000000 → 700 ≤ n → MkT σ k n (tC (.int i)) := fun a b hn => mk_c (fun B H => .int a b) hn
        refine use_asgI ?_
        refine use_lst (k := 20) (n := 15000) (N := 3) (by refine mk_cons (mk_lst (N := 2) (by decide) (by decide) (mk_cons (W1 rfl (by decide)) (mk_cons (W2 rfl (by decide)) mk_nil))) (mk_cons (mk_tup (N := 3) (by decide) (by decide) (mk_cons (W1 rfl (by decide)) (mk_cons (W2 rfl (by decide)) (mk_cons (C (by decide) (by decide) (by decide)) mk_nil)))) (mk_cons (mk_tup (N := 1) (by decide) (by decide) (mk_cons (W1 rfl (by decide)) mk_nil)) mk_nil))) (by decide) bk5 fun vs7 H7 p7 s7 d7 l7 hp7 fp7 => ?_
        have e7 : (upd H7 p7 (.lst vs7)) p7 = some (.lst vs7) := upd_same
        generalize upd H7 p7 (.lst vs7) = H8 at *
        have l8 := l5.same s7
        have np7 : p7 ∉ [L] := l5.bk.ne fp7
        refine ⟨_, rfl, L, 3, _, rfl, l8, by omega, by decide, by decide, fun r9 H9 g9 l9 a9 b9 => ?_⟩
        have i9 : r9.toNat < vs7.length := by omega
        refine ⟨p7, _, _, vs7[r9.toNat], rfl, rfl, SqL.of (g9.k p7 _ np7 e7), at0 a9 (List.getElem?_eq_getElem i9), ?_⟩
        have gw : Go [R, L] H8 H9 := g9.w1 (B := [R, L]) (by simp)
        refine ⟨_, rfl, _, rfl, R, _, _, a2.toNat, rfl, rfl, g9.k R _ nR (s7 _ _ eR5), ixN0 a20 (by omega), ?_⟩
        exact ⟨_, _, rfl, ((gH5.trans (Go.of s7)).trans g9).mut hR, (l9.up nRL).mono (by omega), upd_same, ((((dv.s s7).g gw)).set ((d7.get (List.getElem?_eq_getElem i9)).g gw) _).g (Go.refl.at (by simp)), by rw [List.length_set]; omega⟩
      · refine ⟨_, rfl, .inl ⟨rfl, _, SqL.of eR5⟩, _, rfl, _, rfl, R, _, a2, ov, rfl, rfl, eR5, sz (by omega), a20, by omega, ?_⟩
        exact ⟨_, _, rfl, gH5.mut hR, (l5.up nRL).mono (by omega), upd_same, (dv.ins (d5.mono (by omega) (by omega)) _).g (Go.refl.at (by simp)), by simp; omega⟩
    · obtain ⟨y8, us, rfl, g6, l6, eR6, hU, lq⟩ := hM
      refine ⟨_, rfl, R, _, rfl, .inl ⟨SqL.of eR6, fun t ht => ?_⟩⟩
      have s7 := sm_new (o := .tup us) ht
      exact q _ _ (g6.trans (Go.new ht)) ((l6.new ht).mono (by omega)) (((hU.un.s s7).tup (m := 5000000) (by omega) (l6.bk.ne ht) upd_same (by omega)).mono (by omega) (by omega))
/-! ### what the law promises -/
def spLaw (K : PySem.W.Frag) : Sp := fun vs H Q _ => ∃ (a : Addr) (ns : List Int), vs = [.ref a] ∧ SqL K H a (ns.map V.int) ∧ ns.length ≤ 63 ∧ ∀ H', Q (.bl true) H'
/-! ### the law -/
theorem sh_eR {rs : List (Int × Int)} (h : rs.length ≤ 100000) : Sh (eR rs) 2 := sh_tup (by simpa using h) fun d hd => by
  obtain ⟨r, _, rfl⟩ := List.mem_map.mp hd
  exact sh_eC (by simp)
theorem rows_len (qs : List (Int × Int)) (low high i0 : Int) : (rowsOf qs low high i0).length ≤ qs.length + 1 := by
  unfold rowsOf
  have := List.length_filterMap_le (rowF qs low high) (List.range (qs.length - 1))
  rw [List.length_range] at this
  rw [List.length_cons]
  omega
theorem gd_in {f : Int → Int} {hi : Int} : ∀ {rs : List (Int × Int)}, Gd f hi rs → ∀ r ∈ rs, (hd2 rs).1 ≤ r.1 ∧ r.1 ≤ hi
  | [], h, _, _ => h.elim
  | [r], h, x, hx => by rw [List.mem_singleton.mp hx]; exact ⟨Int.le_refl _, h.1⟩
  | r :: s :: t, h, x, hx => by
    have ih := gd_in h.2.2
    rcases List.mem_cons.mp hx with e | e
    · have := ih s (List.mem_cons_self ..)
      have := h.1
      rw [e]
      exact ⟨Int.le_refl _, by omega⟩
    · have := ih x e
      have h1 := h.1
      have h2 : (hd2 (s :: t)).1 = s.1 := rfl
      rw [h2] at this
      exact ⟨show r.1 ≤ x.1 by omega, this.2⟩
theorem ck_in {f : Int → Int} {hi : Int} : ∀ {rs : List (Int × Int)}, Ck f hi rs → ∀ r ∈ rs, f r.1 = r.2
  | [], _, _, h => nomatch h
  | [r], h, x, hx => by rw [List.mem_singleton.mp hx]; exact h.1
  | r :: s :: t, h, x, hx => by
    rcases List.mem_cons.mp hx with e | e
    · rw [e]; exact h.1.1
    · exact ck_in h.2 x e
theorem nf_in {cs : List (List Int)} (h : 0 < cs.length) (n : Int) : 0 ≤ nf cs n ∧ nf cs n < cs.length := by
  have := (nf_near h n).1
  unfold nf
  omega
set_option maxHeartbeats 2000000 in
theorem ok_law (T : Tx K mg) {f : Addr} {fd : FuncData} (F : Fun K "law" "law" s_law f fd) {k : Nat} (hk : k ≤ 10) : FnG P w K mg base (k + 6) f fd ["_law_script"] (spLaw K) := by
  refine fn_g F sc_law (fun vs H Q E h => ?_) (fun cdv A outer s H vs Q E hA hr h => ?_)
  · obtain ⟨a, ns, rfl, _⟩ := h
    rfl
  · obtain ⟨a, ns, rfl, hS, hlen, q⟩ := h
    refine ⟨_, (pss_cons (ps_for PassesOwn.never rfl (pi_range1 (by rfl) T.z_range (pa_cons (pe_callB (call_max2 rfl) (by rfl) T.z_max (by decide +kernel) (pa_cons pe_int (pa_cons (pe_callB (call_min2 rfl) (by rfl) T.z_min (by decide +kernel) (pa_cons (pe_callB (len_K K) (by rfl) T.z_len PySem.boot_len (pa_cons (pv 0) pa_nil)) (pa_cons pe_int pa_nil))) pa_nil))) pa_nil)) (pg_name (i := 1) sc_law.nd rfl (.inl rfl)) (pss_cons (ps_set (i := 2) sc_law.nd rfl (.inl rfl) (pe_call (ok_l_left T (k := k + 4)) hr (by rfl) T.g_l_left T.F_l_left.kp T.b_l_left .nil pass0 (pa_cons (pv 0) (pa_cons (pv 1) pa_nil))))
      (pss_cons (ps_asg (pe_call (ok_l_line T (k := k)) hr (by rfl) T.g_l_line T.F_l_line.kp T.b_l_line .nil pass0 (pa_cons (pv 2) pa_nil)) (pg_tupK K (n := 3) rfl (pgs_cons (pg_name (i := 3) sc_law.nd rfl (.inl rfl)) (pgs_cons (pg_name (i := 4) sc_law.nd rfl (.inl rfl)) (pgs_cons (pg_name (i := 5) sc_law.nd rfl (.inl rfl)) pgs_nil)))))
      (pss_cons (ps_set (i := 6) sc_law.nd rfl (.inl rfl) (pe_call (ok_line_table T (k := k + 2)) hr (by rfl) T.g_line_table T.F_line_table.kp T.b_line_table .nil pass0 (pa_cons (pv 3) (pa_cons (pv 4) (pa_cons (pv 5) pa_nil)))))
      (pss_one (ps_for PassesOwn.never rfl (pi_range1 (by rfl) T.z_range (pa_cons pe_int pa_nil)) (pg_name (i := 7) sc_law.nd rfl (.inl rfl)) (pss_cons (ps_set (i := 8) sc_law.nd rfl (.inl rfl) (pe_call (ok_l_bent T (k := k + 1)) hr (by rfl) T.g_l_bent T.F_l_bent.kp T.b_l_bent .nil pass0 (pa_cons (pv 2) (pa_cons (pv 6) (pa_cons (pv 4) pa_nil)))))
      (pss_cons (ps_set (i := 9) sc_law.nd rfl (.inl rfl) (pe_callTy (cr_strV K hA hr.units) (by rfl) T.z_str (by decide +kernel) (pa_cons (pv 8) pa_nil)))
      (pss_cons (ps_set (i := 10) sc_law.nd rfl (.inl rfl) (pe_call (ok_shows_table T (k := k + 1)) hr (by rfl) T.g_shows_table T.F_shows_table.kp T.b_shows_table .nil pass0 (pa_cons (pv 3) (pa_cons (pv 4) (pa_cons (pv 5) (pa_cons (pv 8) pa_nil))))))
      (pss_one (ps_if (PW.pt (pw_or (pt_not (pt_val (pe_callB (call_isiK1 K) (by rfl) T.z_isinstance (by decide +kernel) (pa_cons (pv 10) (pa_cons (pe_bltn (v := .ty "bool") (by rfl) T.z_bool (by decide +kernel) rfl) pa_nil))))) (pw_or (pt_cmpR op_ne (pv 10) (pe_call (ok_l_told_right T (k := k + 2)) hr (by rfl) T.g_l_told_right T.F_l_told_right.kp T.b_l_told_right .nil pass0 (pa_cons (pv 3) (pa_cons (pv 4) (pa_cons (pv 5) (pa_cons (pv 8) pa_nil))))) (nomark _)) (pw_or1 (pt_cmpR op_ne (pe_callTy (cr_strV K hA hr.units) (by rfl) T.z_str (by decide +kernel) (pa_cons (pv 8) pa_nil)) (pv 9) (nomark _)))))) (pss_one (ps_ret pe_bl)) pss_nil)))))))))))
      (pss_one (ps_ret (pe_and (pe_cmpR op_isBl (pe_call (ok_shows_table T (k := k + 1)) hr (by rfl) T.g_shows_table T.F_shows_table.kp T.b_shows_table .nil pass0 (pa_cons (pe_lst (pa_cons (pe_tup (pa_cons pe_int pa_nil)) pa_nil)) (pa_cons pe_int (pa_cons pe_int (pa_cons (pe_tup (pa_cons (pe_tup (pa_cons pe_int (pa_cons pe_int pa_nil))) pa_nil)) pa_nil))))) pe_bl (nomark _)) (pe_one (pe_cmpR op_isBl (pe_call (ok_shows_table T (k := k + 1)) hr (by rfl) T.g_shows_table T.F_shows_table.kp T.b_shows_table .nil pass0 (pa_cons (pe_lst (pa_cons (pe_tup (pa_cons pe_int pa_nil)) pa_nil)) (pa_cons pe_int (pa_cons pe_int (pa_cons (pe_lst (pa_cons (pe_tup (pa_cons pe_int (pa_cons pe_int pa_nil))) pa_nil)) pa_nil))))) pe_bl (nomark _))))))), ?_⟩
    refine ⟨_, rfl, a, _, rfl, .inl hS, _, _, rfl, _, _, rfl, ?_⟩
    obtain ⟨m, hm⟩ : ∃ m : Int, m = (if (if (8 : Int) < ((ns.map V.int).length : Int) then (8 : Int) else ((ns.map V.int).length : Int)) > 4 then (if (8 : Int) < ((ns.map V.int).length : Int) then (8 : Int) else ((ns.map V.int).length : Int)) else 4) := ⟨_, rfl⟩
    have m0 : 0 ≤ m ∧ m ≤ 8 := by
      rw [hm]
      split <;> split <;> omega
    refine ⟨m, by rw [hm], by omega, by omega, for_range (lo := 0) (n := m.toNat) (fun i σ H' => ∃ y1 y2 y3 y4 y5 y6 y7 y8 y9 y10, σ = [some (.ref a), y1, y2, y3, y4, y5, y6, y7, y8, y9, y10] ∧ Same H H')
      ⟨none, none, none, none, none, none, none, none, none, none, rfl, Same.refl H⟩ (fun i σ H1 hi h1 => ?_) (fun σ H1 h1 => ?_)⟩
    · obtain ⟨y1, y2, y3, y4, y5, y6, y7, y8, y9, y10, rfl, s1⟩ := h1
      refine ⟨_, rfl, _, rfl, a, ns, _, rfl, s1.seq hS, by omega, fun L x0 y0 hL0 x0n => ?_⟩
      have lf1 : Lf L (upd H1 L (.lst [.int x0, .int y0, .int 0])) 0 := ⟨x0, y0, 0, upd_same, x0n, by omega, by omega⟩
      have s2 := sm_mut (o := .lst [.int x0, .int y0, .int 0]) s1 (s1.free hL0)
      have hLH : H L = none := s1.free hL0
      generalize upd H1 L (.lst [.int x0, .int y0, .int 0]) = H2 at *
      have nB : ∀ b ∈ [L], H b = none := fun b hb => by rw [List.mem_singleton.mp hb]; exact hLH
      refine ⟨_, rfl, L, 0, rfl, lf1, by omega, fun t pa H3 cs low high g3 l3 et d3 c0 c1 cok w1 w2 w3 w4 => ?_⟩
      refine ⟨t, [.ref pa, .int low, .int high], rfl, SqT.of et, rfl, .ref pa, _, rfl, .int low, _, rfl, .int high, _, rfl, rfl, ?_⟩
      have c1' : ∀ c ∈ cs, c.length = 1 := fun c hc => by have := (cok c hc).1; omega
      have wo : wOk cs := ⟨c0, by omega, fun c hc => ⟨c1' c hc, (cok c hc).2⟩⟩
      refine ⟨_, rfl, _, rfl, _, rfl, [L], .ref pa, cs, low, high, rfl, d3, l3.bk, wo, by omega, by omega, fun tv H4 qs i0 s4 d4 Fq n0 ql => ?_⟩
      have l4 := l3.same s4
      have gt := line_gt Fq c1' n0 w3
      have rl := rows_len qs low high (i0 : Int)
      generalize rowsOf qs low high (i0 : Int) = rs at *
      have rb : ∀ r ∈ rs, -100000 ≤ r.1 ∧ r.1 ≤ 100000 ∧ -100000 ≤ r.2 ∧ r.2 ≤ 100000 := fun r hr' => by
        have := gd_in gt.2.2 r hr'
        have := gt.2.1
        have e2 := ck_in (gd_ck gt.2.2) r hr'
        have := nf_in c0 r.1
        omega
      have r0 : 0 < rs.length := List.length_pos_iff.mpr gt.1
      have g24 : Go [L] H2 H4 := g3.trans (Go.of s4)
      have dp4 := d3.s s4
      refine ⟨10, rfl, by decide, by decide, for_range (lo := 0) (n := 10) (fun j σ H' => ∃ y1 y7 y8 y9 y10, σ = [some (.ref a), y1, some (.ref L), some (.ref pa), some (.int low), some (.int high), some tv, y7, y8, y9, y10] ∧ Go [L] H4 H' ∧ Lf L H' (2000 + 20 * j))
        ⟨_, _, _, _, _, rfl, Go.refl, l4.mono (by omega)⟩ (fun j σ H8 hj h8 => ?_) (fun σ H8 h8 => ?_)⟩
      · obtain ⟨y1, y7, y8, y9, y10, rfl, g8, l8⟩ := h8
        refine ⟨_, rfl, _, rfl, _, rfl, L, _, tv, low, rs, rfl, l8, by omega, d4.g g8, r0, by omega, by omega, by omega, rb, fun bv H9 g9 l9 d9 => ?_⟩
        obtain ⟨d, db, th⟩ := d9
        have dp9 := (dp4.g g8).g g9
        refine ⟨_, rfl, str_dt db th.sw (by decide) th.sh (by omega) ?_⟩
        have bnd : ∀ rs, d = eR rs → rs.length ≤ 1000 ∧ ∀ r ∈ rs, -1000000 ≤ r.1 ∧ r.1 ≤ 1000000 := fun rs e => by
          have := th.sm
          rw [e] at this
          exact this.rows
        refine ⟨_, rfl, _, rfl, _, rfl, _, rfl, [L], _, bv, cs, low, high, d, 30, rfl, dp9, db, l9.bk, wo, th.sh, by omega, by omega, by omega, by omega, bnd, fun b1 H12 s12 hb1 => ?_⟩
        refine ⟨_, rfl, _, _, _, _, true, rfl, .ty _, .base (.bl b1), kit_ty (by decide +kernel), _, rfl, iteF ?_⟩
        refine ⟨_, rfl, _, rfl, _, rfl, _, rfl, _, rfl, [L], _, bv, cs, low, high, d, 30, rfl, dp9.s s12, db.s s12, (l9.same s12).bk, wo, th.sh, by omega, by omega, by omega, by omega, bnd, fun b2 H13 s13 hb2 => ?_⟩
        have e12 : b1 = b2 := by
          cases b1 <;> cases b2
          · rfl
          · exact absurd (hb1.mpr (hb2.mp rfl)) (by decide)
          · exact absurd (hb2.mpr (hb1.mp rfl)) (by decide)
          · rfl
        subst e12
        refine ⟨rfl, _, rfl, iteN (by simp) ?_⟩
        have t13 := s12.trans s13
        refine ⟨_, rfl, str_dt (db.s t13) th.sw (by decide) th.sh (by omega) ?_⟩
        refine ⟨_, rfl, rfl, _, rfl, iteN (by simp) ?_⟩
        exact ⟨_, _, _, _, _, rfl, (g8.trans g9).trans (Go.of t13), (l9.same t13).mono (by omega)⟩
      · obtain ⟨y1, y7, y8, y9, y10, rfl, g8, l8⟩ := h8
        exact ⟨_, _, _, _, _, _, _, _, _, _, rfl, (g24.trans g8).sm s2 nB⟩
    · obtain ⟨y1, y2, y3, y4, y5, y6, y7, y8, y9, y10, rfl, s1⟩ := h1
      have wo : wOk [[5]] := ⟨by decide, by decide, fun c hc => by
        rw [List.mem_singleton.mp hc]
        exact ⟨rfl, fun x hx => by rw [List.mem_singleton.mp hx]; decide⟩⟩
      have gt : GT [[5]] 3 3 [(3, 0)] := ⟨by simp, rfl, by decide, fun n _ _ => by
        have := nf_in (cs := [[5]]) (by decide) n
        simp at this
        omega⟩
      have bnd : ∀ d, (d = .tuple [enc (3, 0)] ∨ d = .list [enc (3, 0)]) → ∀ rs, d = eR rs → rs.length ≤ 1000 ∧ ∀ r ∈ rs, -1000000 ≤ r.1 ∧ r.1 ≤ 1000000 := fun d hd rs e => by
        rcases hd with rfl | rfl
        · have := eR_inj (rs := [(3, 0)]) e
          subst this
          exact ⟨by decide, fun r hr' => by rw [List.mem_singleton.mp hr']; decide⟩
        · unfold eR at e
          cases e
      have sh1 : Sh (enc (3, 0)) 1 := sh_eC (by simp)
      refine ⟨(by show 1 ≤ sizeLine; decide), fun p2 h2 => ⟨(by show 1 ≤ sizeLine; decide), fun p3 h3 => ⟨(by show 2 ≤ sizeLine; decide), fun p4 h4 => ⟨(by show 1 ≤ sizeLine; decide), fun p5 h5 => ?_⟩⟩⟩⟩
      have s2 := sm_new (o := .tup [.int 5]) h2
      have d2 : Dt [] (upd H1 p2 (.tup [.int 5])) (.ref p2) (eC [5]) := Dt.ofCol (fun h => nomatch h) upd_same
      generalize upd H1 p2 (.tup [.int 5]) = H2 at *
      have s3 := sm_new (o := .lst [.ref p2]) h3
      have d3 : Dt [] (upd H2 p3 (.lst [.ref p2])) (.ref p3) (eP [[5]]) := .lst (fun h => nomatch h) upd_same (.one (d2.s s3))
      generalize upd H2 p3 (.lst [.ref p2]) = H3 at *
      have s4 := sm_new (o := .tup [.int 3, .int 0]) h4
      have d4 : Dt [] (upd H3 p4 (.tup [.int 3, .int 0])) (.ref p4) (enc (3, 0)) := Dt.ofCol (fun h => nomatch h) upd_same
      generalize upd H3 p4 (.tup [.int 3, .int 0]) = H4 at *
      have s5 := sm_new (o := .tup [.ref p4]) h5
      have d5 : Dt [] (upd H4 p5 (.tup [.ref p4])) (.ref p5) (.tuple [enc (3, 0)]) := .tup (fun h => nomatch h) upd_same (.one (d4.s s5))
      generalize upd H4 p5 (.tup [.ref p4]) = H5 at *
      refine ⟨[], .ref p3, .ref p5, [[5]], 3, 3, _, 2, rfl, (d3.s s4).s s5, d5, (fun _ h => nomatch h), wo, sh_tup (by simp) (fun d hd => by rw [List.mem_singleton.mp hd]; exact sh1), by decide, by decide, by decide, by decide, bnd _ (.inl rfl), fun b6 H6 s6 hb6 => ?_⟩
      have e6 := hb6.mpr ⟨[(3, 0)], rfl, gt⟩
      subst e6
      refine ⟨_, _, rfl, rfl, _, rfl, iteT ?_⟩
      refine ⟨(by show 1 ≤ sizeLine; decide), fun p7 h7 => ⟨(by show 1 ≤ sizeLine; decide), fun p8 h8 => ⟨(by show 2 ≤ sizeLine; decide), fun p9 h9 => ⟨(by show 1 ≤ sizeLine; decide), fun p10 h10 => ?_⟩⟩⟩⟩
      have s2 := sm_new (o := .tup [.int 5]) h7
      have d2 : Dt [] (upd H6 p7 (.tup [.int 5])) (.ref p7) (eC [5]) := Dt.ofCol (fun h => nomatch h) upd_same
      generalize upd H6 p7 (.tup [.int 5]) = H7 at *
      have s3 := sm_new (o := .lst [.ref p7]) h8
      have d3 : Dt [] (upd H7 p8 (.lst [.ref p7])) (.ref p8) (eP [[5]]) := .lst (fun h => nomatch h) upd_same (.one (d2.s s3))
      generalize upd H7 p8 (.lst [.ref p7]) = H8 at *
      have s4 := sm_new (o := .tup [.int 3, .int 0]) h9
      have d4 : Dt [] (upd H8 p9 (.tup [.int 3, .int 0])) (.ref p9) (enc (3, 0)) := Dt.ofCol (fun h => nomatch h) upd_same
      generalize upd H8 p9 (.tup [.int 3, .int 0]) = H9 at *
      have s5 := sm_new (o := .lst [.ref p9]) h10
      have d5 : Dt [] (upd H9 p10 (.lst [.ref p9])) (.ref p10) (.list [enc (3, 0)]) := .lst (fun h => nomatch h) upd_same (.one (d4.s s5))
      generalize upd H9 p10 (.lst [.ref p9]) = H10 at *
      refine ⟨[], .ref p8, .ref p10, [[5]], 3, 3, _, 2, rfl, (d3.s s4).s s5, d5, (fun _ h => nomatch h), wo, sh_lst (by simp) (fun d hd => by rw [List.mem_singleton.mp hd]; exact sh1), by decide, by decide, by decide, by decide, bnd _ (.inr rfl), fun b11 H11 s11 hb11 => ?_⟩
      have e11 : b11 = false := by
        cases b11 with
        | false => rfl
        | true =>
          obtain ⟨rs, e, _⟩ := hb11.mp rfl
          unfold eR at e
          cases e
      subst e11
      exact ⟨_, _, rfl, rfl, q _⟩

end
theorem all_mk {l : PySem.W.OpenLaw} {w : World} {K : PySem.W.Frag} {h : Heap} {mg : Str → Option Value} {fa : Addr} (X : K.In h) (G : h.Ns mainGlobals mg) (hfa : mg "law" = some (.ref fa))
    {f0 : Addr} {od0 an0 : Option Addr} {sl0 : Array (Option Value)} {oc0 kV0 dc0 pm0 cd0 ct0 : Value}
    (a0 : PySem.W.nsIn K mainGlobals "is_number" = some (some (.ref f0))) (l0 : K.lookup f0 = some ⟨oc0, od0, .func (PySem.W.fnOf "is_number" "is_number" (defArgs s_is_number) (defBody s_is_number) (defScope s_is_number) .none kV0 dc0 pm0 an0 cd0 ct0), sl0⟩) (c0 : PySem.W.codeIn K cd0 "is_number" = true) (k0 : PySem.W.keepIn K (.ref f0) = true)
    {f1 : Addr} {od1 an1 : Option Addr} {sl1 : Array (Option Value)} {oc1 kV1 dc1 pm1 cd1 ct1 : Value}
    (a1 : PySem.W.nsIn K mainGlobals "are_rising" = some (some (.ref f1))) (l1 : K.lookup f1 = some ⟨oc1, od1, .func (PySem.W.fnOf "are_rising" "are_rising" (defArgs s_are_rising) (defBody s_are_rising) (defScope s_are_rising) .none kV1 dc1 pm1 an1 cd1 ct1), sl1⟩) (c1 : PySem.W.codeIn K cd1 "are_rising" = true) (k1 : PySem.W.keepIn K (.ref f1) = true)
    {f2 : Addr} {od2 an2 : Option Addr} {sl2 : Array (Option Value)} {oc2 kV2 dc2 pm2 cd2 ct2 : Value}
    (a2 : PySem.W.nsIn K mainGlobals "is_colour" = some (some (.ref f2))) (l2 : K.lookup f2 = some ⟨oc2, od2, .func (PySem.W.fnOf "is_colour" "is_colour" (defArgs s_is_colour) (defBody s_is_colour) (defScope s_is_colour) .none kV2 dc2 pm2 an2 cd2 ct2), sl2⟩) (c2 : PySem.W.codeIn K cd2 "is_colour" = true) (k2 : PySem.W.keepIn K (.ref f2) = true)
    {f3 : Addr} {od3 an3 : Option Addr} {sl3 : Array (Option Value)} {oc3 kV3 dc3 pm3 cd3 ct3 : Value}
    (a3 : PySem.W.nsIn K mainGlobals "apart" = some (some (.ref f3))) (l3 : K.lookup f3 = some ⟨oc3, od3, .func (PySem.W.fnOf "apart" "apart" (defArgs s_apart) (defBody s_apart) (defScope s_apart) .none kV3 dc3 pm3 an3 cd3 ct3), sl3⟩) (c3 : PySem.W.codeIn K cd3 "apart" = true) (k3 : PySem.W.keepIn K (.ref f3) = true)
    {f4 : Addr} {od4 an4 : Option Addr} {sl4 : Array (Option Value)} {oc4 kV4 dc4 pm4 cd4 ct4 : Value}
    (a4 : PySem.W.nsIn K mainGlobals "nearest" = some (some (.ref f4))) (l4 : K.lookup f4 = some ⟨oc4, od4, .func (PySem.W.fnOf "nearest" "nearest" (defArgs s_nearest) (defBody s_nearest) (defScope s_nearest) .none kV4 dc4 pm4 an4 cd4 ct4), sl4⟩) (c4 : PySem.W.codeIn K cd4 "nearest" = true) (k4 : PySem.W.keepIn K (.ref f4) = true)
    {f5 : Addr} {od5 an5 : Option Addr} {sl5 : Array (Option Value)} {oc5 kV5 dc5 pm5 cd5 ct5 : Value}
    (a5 : PySem.W.nsIn K mainGlobals "are_rows" = some (some (.ref f5))) (l5 : K.lookup f5 = some ⟨oc5, od5, .func (PySem.W.fnOf "are_rows" "are_rows" (defArgs s_are_rows) (defBody s_are_rows) (defScope s_are_rows) .none kV5 dc5 pm5 an5 cd5 ct5), sl5⟩) (c5 : PySem.W.codeIn K cd5 "are_rows" = true) (k5 : PySem.W.keepIn K (.ref f5) = true)
    {f6 : Addr} {od6 an6 : Option Addr} {sl6 : Array (Option Value)} {oc6 kV6 dc6 pm6 cd6 ct6 : Value}
    (a6 : PySem.W.nsIn K mainGlobals "are_begins" = some (some (.ref f6))) (l6 : K.lookup f6 = some ⟨oc6, od6, .func (PySem.W.fnOf "are_begins" "are_begins" (defArgs s_are_begins) (defBody s_are_begins) (defScope s_are_begins) .none kV6 dc6 pm6 an6 cd6 ct6), sl6⟩) (c6 : PySem.W.codeIn K cd6 "are_begins" = true) (k6 : PySem.W.keepIn K (.ref f6) = true)
    {f7 : Addr} {od7 an7 : Option Addr} {sl7 : Array (Option Value)} {oc7 kV7 dc7 pm7 cd7 ct7 : Value}
    (a7 : PySem.W.nsIn K mainGlobals "tells_all" = some (some (.ref f7))) (l7 : K.lookup f7 = some ⟨oc7, od7, .func (PySem.W.fnOf "tells_all" "tells_all" (defArgs s_tells_all) (defBody s_tells_all) (defScope s_tells_all) .none kV7 dc7 pm7 an7 cd7 ct7), sl7⟩) (c7 : PySem.W.codeIn K cd7 "tells_all" = true) (k7 : PySem.W.keepIn K (.ref f7) = true)
    {f8 : Addr} {od8 an8 : Option Addr} {sl8 : Array (Option Value)} {oc8 kV8 dc8 pm8 cd8 ct8 : Value}
    (a8 : PySem.W.nsIn K mainGlobals "shows_table" = some (some (.ref f8))) (l8 : K.lookup f8 = some ⟨oc8, od8, .func (PySem.W.fnOf "shows_table" "shows_table" (defArgs s_shows_table) (defBody s_shows_table) (defScope s_shows_table) .none kV8 dc8 pm8 an8 cd8 ct8), sl8⟩) (c8 : PySem.W.codeIn K cd8 "shows_table" = true) (k8 : PySem.W.keepIn K (.ref f8) = true)
    {f9 : Addr} {od9 an9 : Option Addr} {sl9 : Array (Option Value)} {oc9 kV9 dc9 pm9 cd9 ct9 : Value}
    (a9 : PySem.W.nsIn K mainGlobals "first_places" = some (some (.ref f9))) (l9 : K.lookup f9 = some ⟨oc9, od9, .func (PySem.W.fnOf "first_places" "first_places" (defArgs s_first_places) (defBody s_first_places) (defScope s_first_places) .none kV9 dc9 pm9 an9 cd9 ct9), sl9⟩) (c9 : PySem.W.codeIn K cd9 "first_places" = true) (k9 : PySem.W.keepIn K (.ref f9) = true)
    {f10 : Addr} {od10 an10 : Option Addr} {sl10 : Array (Option Value)} {oc10 kV10 dc10 pm10 cd10 ct10 : Value}
    (a10 : PySem.W.nsIn K mainGlobals "begin_between" = some (some (.ref f10))) (l10 : K.lookup f10 = some ⟨oc10, od10, .func (PySem.W.fnOf "begin_between" "begin_between" (defArgs s_begin_between) (defBody s_begin_between) (defScope s_begin_between) .none kV10 dc10 pm10 an10 cd10 ct10), sl10⟩) (c10 : PySem.W.codeIn K cd10 "begin_between" = true) (k10 : PySem.W.keepIn K (.ref f10) = true)
    {f11 : Addr} {od11 an11 : Option Addr} {sl11 : Array (Option Value)} {oc11 kV11 dc11 pm11 cd11 ct11 : Value}
    (a11 : PySem.W.nsIn K mainGlobals "line_table" = some (some (.ref f11))) (l11 : K.lookup f11 = some ⟨oc11, od11, .func (PySem.W.fnOf "line_table" "line_table" (defArgs s_line_table) (defBody s_line_table) (defScope s_line_table) .none kV11 dc11 pm11 an11 cd11 ct11), sl11⟩) (c11 : PySem.W.codeIn K cd11 "line_table" = true) (k11 : PySem.W.keepIn K (.ref f11) = true)
    {f12 : Addr} {od12 an12 : Option Addr} {sl12 : Array (Option Value)} {oc12 kV12 dc12 pm12 cd12 ct12 : Value}
    (a12 : PySem.W.nsIn K mainGlobals "_law_mix" = some (some (.ref f12))) (l12 : K.lookup f12 = some ⟨oc12, od12, .func (PySem.W.fnOf "_law_mix" "_law_mix" (defArgs s_l_mix) (defBody s_l_mix) (defScope s_l_mix) .none kV12 dc12 pm12 an12 cd12 ct12), sl12⟩) (c12 : PySem.W.codeIn K cd12 "_law_mix" = true) (k12 : PySem.W.keepIn K (.ref f12) = true)
    {f13 : Addr} {od13 an13 : Option Addr} {sl13 : Array (Option Value)} {oc13 kV13 dc13 pm13 cd13 ct13 : Value}
    (a13 : PySem.W.nsIn K mainGlobals "_law_left" = some (some (.ref f13))) (l13 : K.lookup f13 = some ⟨oc13, od13, .func (PySem.W.fnOf "_law_left" "_law_left" (defArgs s_l_left) (defBody s_l_left) (defScope s_l_left) .none kV13 dc13 pm13 an13 cd13 ct13), sl13⟩) (c13 : PySem.W.codeIn K cd13 "_law_left" = true) (k13 : PySem.W.keepIn K (.ref f13) = true)
    {f14 : Addr} {od14 an14 : Option Addr} {sl14 : Array (Option Value)} {oc14 kV14 dc14 pm14 cd14 ct14 : Value}
    (a14 : PySem.W.nsIn K mainGlobals "_law_pick" = some (some (.ref f14))) (l14 : K.lookup f14 = some ⟨oc14, od14, .func (PySem.W.fnOf "_law_pick" "_law_pick" (defArgs s_l_pick) (defBody s_l_pick) (defScope s_l_pick) .none kV14 dc14 pm14 an14 cd14 ct14), sl14⟩) (c14 : PySem.W.codeIn K cd14 "_law_pick" = true) (k14 : PySem.W.keepIn K (.ref f14) = true)
    {f15 : Addr} {od15 an15 : Option Addr} {sl15 : Array (Option Value)} {oc15 kV15 dc15 pm15 cd15 ct15 : Value}
    (a15 : PySem.W.nsIn K mainGlobals "_law_colour" = some (some (.ref f15))) (l15 : K.lookup f15 = some ⟨oc15, od15, .func (PySem.W.fnOf "_law_colour" "_law_colour" (defArgs s_l_colour) (defBody s_l_colour) (defScope s_l_colour) .none kV15 dc15 pm15 an15 cd15 ct15), sl15⟩) (c15 : PySem.W.codeIn K cd15 "_law_colour" = true) (k15 : PySem.W.keepIn K (.ref f15) = true)
    {f16 : Addr} {od16 an16 : Option Addr} {sl16 : Array (Option Value)} {oc16 kV16 dc16 pm16 cd16 ct16 : Value}
    (a16 : PySem.W.nsIn K mainGlobals "_law_palette" = some (some (.ref f16))) (l16 : K.lookup f16 = some ⟨oc16, od16, .func (PySem.W.fnOf "_law_palette" "_law_palette" (defArgs s_l_palette) (defBody s_l_palette) (defScope s_l_palette) .none kV16 dc16 pm16 an16 cd16 ct16), sl16⟩) (c16 : PySem.W.codeIn K cd16 "_law_palette" = true) (k16 : PySem.W.keepIn K (.ref f16) = true)
    {f17 : Addr} {od17 an17 : Option Addr} {sl17 : Array (Option Value)} {oc17 kV17 dc17 pm17 cd17 ct17 : Value}
    (a17 : PySem.W.nsIn K mainGlobals "_law_line" = some (some (.ref f17))) (l17 : K.lookup f17 = some ⟨oc17, od17, .func (PySem.W.fnOf "_law_line" "_law_line" (defArgs s_l_line) (defBody s_l_line) (defScope s_l_line) .none kV17 dc17 pm17 an17 cd17 ct17), sl17⟩) (c17 : PySem.W.codeIn K cd17 "_law_line" = true) (k17 : PySem.W.keepIn K (.ref f17) = true)
    {f18 : Addr} {od18 an18 : Option Addr} {sl18 : Array (Option Value)} {oc18 kV18 dc18 pm18 cd18 ct18 : Value}
    (a18 : PySem.W.nsIn K mainGlobals "_law_apart" = some (some (.ref f18))) (l18 : K.lookup f18 = some ⟨oc18, od18, .func (PySem.W.fnOf "_law_apart" "_law_apart" (defArgs s_l_apart) (defBody s_l_apart) (defScope s_l_apart) .none kV18 dc18 pm18 an18 cd18 ct18), sl18⟩) (c18 : PySem.W.codeIn K cd18 "_law_apart" = true) (k18 : PySem.W.keepIn K (.ref f18) = true)
    {f19 : Addr} {od19 an19 : Option Addr} {sl19 : Array (Option Value)} {oc19 kV19 dc19 pm19 cd19 ct19 : Value}
    (a19 : PySem.W.nsIn K mainGlobals "_law_nearest" = some (some (.ref f19))) (l19 : K.lookup f19 = some ⟨oc19, od19, .func (PySem.W.fnOf "_law_nearest" "_law_nearest" (defArgs s_l_nearest) (defBody s_l_nearest) (defScope s_l_nearest) .none kV19 dc19 pm19 an19 cd19 ct19), sl19⟩) (c19 : PySem.W.codeIn K cd19 "_law_nearest" = true) (k19 : PySem.W.keepIn K (.ref f19) = true)
    {f20 : Addr} {od20 an20 : Option Addr} {sl20 : Array (Option Value)} {oc20 kV20 dc20 pm20 cd20 ct20 : Value}
    (a20 : PySem.W.nsIn K mainGlobals "_law_number_of" = some (some (.ref f20))) (l20 : K.lookup f20 = some ⟨oc20, od20, .func (PySem.W.fnOf "_law_number_of" "_law_number_of" (defArgs s_l_number_of) (defBody s_l_number_of) (defScope s_l_number_of) .none kV20 dc20 pm20 an20 cd20 ct20), sl20⟩) (c20 : PySem.W.codeIn K cd20 "_law_number_of" = true) (k20 : PySem.W.keepIn K (.ref f20) = true)
    {f21 : Addr} {od21 an21 : Option Addr} {sl21 : Array (Option Value)} {oc21 kV21 dc21 pm21 cd21 ct21 : Value}
    (a21 : PySem.W.nsIn K mainGlobals "_law_whole" = some (some (.ref f21))) (l21 : K.lookup f21 = some ⟨oc21, od21, .func (PySem.W.fnOf "_law_whole" "_law_whole" (defArgs s_l_whole) (defBody s_l_whole) (defScope s_l_whole) .none kV21 dc21 pm21 an21 cd21 ct21), sl21⟩) (c21 : PySem.W.codeIn K cd21 "_law_whole" = true) (k21 : PySem.W.keepIn K (.ref f21) = true)
    {f22 : Addr} {od22 an22 : Option Addr} {sl22 : Array (Option Value)} {oc22 kV22 dc22 pm22 cd22 ct22 : Value}
    (a22 : PySem.W.nsIn K mainGlobals "_law_told_right" = some (some (.ref f22))) (l22 : K.lookup f22 = some ⟨oc22, od22, .func (PySem.W.fnOf "_law_told_right" "_law_told_right" (defArgs s_l_told_right) (defBody s_l_told_right) (defScope s_l_told_right) .none kV22 dc22 pm22 an22 cd22 ct22), sl22⟩) (c22 : PySem.W.codeIn K cd22 "_law_told_right" = true) (k22 : PySem.W.keepIn K (.ref f22) = true)
    {f23 : Addr} {od23 an23 : Option Addr} {sl23 : Array (Option Value)} {oc23 kV23 dc23 pm23 cd23 ct23 : Value}
    (a23 : PySem.W.nsIn K mainGlobals "_law_deep" = some (some (.ref f23))) (l23 : K.lookup f23 = some ⟨oc23, od23, .func (PySem.W.fnOf "_law_deep" "_law_deep" (defArgs s_l_deep) (defBody s_l_deep) (defScope s_l_deep) .none kV23 dc23 pm23 an23 cd23 ct23), sl23⟩) (c23 : PySem.W.codeIn K cd23 "_law_deep" = true) (k23 : PySem.W.keepIn K (.ref f23) = true)
    {f24 : Addr} {od24 an24 : Option Addr} {sl24 : Array (Option Value)} {oc24 kV24 dc24 pm24 cd24 ct24 : Value}
    (a24 : PySem.W.nsIn K mainGlobals "_law_odd" = some (some (.ref f24))) (l24 : K.lookup f24 = some ⟨oc24, od24, .func (PySem.W.fnOf "_law_odd" "_law_odd" (defArgs s_l_odd) (defBody s_l_odd) (defScope s_l_odd) .none kV24 dc24 pm24 an24 cd24 ct24), sl24⟩) (c24 : PySem.W.codeIn K cd24 "_law_odd" = true) (k24 : PySem.W.keepIn K (.ref f24) = true)
    {f25 : Addr} {od25 an25 : Option Addr} {sl25 : Array (Option Value)} {oc25 kV25 dc25 pm25 cd25 ct25 : Value}
    (a25 : PySem.W.nsIn K mainGlobals "_law_bent" = some (some (.ref f25))) (l25 : K.lookup f25 = some ⟨oc25, od25, .func (PySem.W.fnOf "_law_bent" "_law_bent" (defArgs s_l_bent) (defBody s_l_bent) (defScope s_l_bent) .none kV25 dc25 pm25 an25 cd25 ct25), sl25⟩) (c25 : PySem.W.codeIn K cd25 "_law_bent" = true) (k25 : PySem.W.keepIn K (.ref f25) = true)
    {f26 : Addr} {od26 an26 : Option Addr} {sl26 : Array (Option Value)} {oc26 kV26 dc26 pm26 cd26 ct26 : Value}
    (a26 : PySem.W.nsIn K mainGlobals "law" = some (some (.ref f26))) (l26 : K.lookup f26 = some ⟨oc26, od26, .func (PySem.W.fnOf "law" "law" (defArgs s_law) (defBody s_law) (defScope s_law) .none kV26 dc26 pm26 an26 cd26 ct26), sl26⟩) (c26 : PySem.W.codeIn K cd26 "law" = true) (k26 : PySem.W.keepIn K (.ref f26) = true)
    (z_abs : PySem.W.nsIn K mainGlobals "abs" = some none)
    (z_all : PySem.W.nsIn K mainGlobals "all" = some none)
    (z_bool : PySem.W.nsIn K mainGlobals "bool" = some none)
    (z_enumerate : PySem.W.nsIn K mainGlobals "enumerate" = some none)
    (z_int : PySem.W.nsIn K mainGlobals "int" = some none)
    (z_isinstance : PySem.W.nsIn K mainGlobals "isinstance" = some none)
    (z_len : PySem.W.nsIn K mainGlobals "len" = some none)
    (z_list : PySem.W.nsIn K mainGlobals "list" = some none)
    (z_max : PySem.W.nsIn K mainGlobals "max" = some none)
    (z_min : PySem.W.nsIn K mainGlobals "min" = some none)
    (z_range : PySem.W.nsIn K mainGlobals "range" = some none)
    (z_sorted : PySem.W.nsIn K mainGlobals "sorted" = some none)
    (z_str : PySem.W.nsIn K mainGlobals "str" = some none)
    (z_sum : PySem.W.nsIn K mainGlobals "sum" = some none)
    (z_tuple : PySem.W.nsIn K mainGlobals "tuple" = some none)
    (z_zip : PySem.W.nsIn K mainGlobals "zip" = some none)
    : ∃ fd : FuncData, (∀ (s : Shared) (v : Value), BindsTo s fd ⟨[v], []⟩ [("_law_script", v)]) ∧ ∀ base : Heap, K.In base → base.Ns mainGlobals mg → FnG l.prog w K mg base 6 fa fd ["_law_script"] (spLaw K) := by
  have e := hfa.symm.trans (PySem.W.mg_of X G a26)
  cases e
  exact ⟨_, fun s v => .of_eq rfl, fun base _ _ => ok_law (k := 0) {
      f_is_number := f0, d_is_number := _, F_is_number := fun_mk (st := s_is_number) l0 c0 k0, b_is_number := (fun_mk (st := s_is_number) l0 c0 k0).binds (ps := ["thing"]) fun _ _ _ _ _ _ us hl => match us, hl with | [_], _ => rfl, g_is_number := PySem.W.mg_of X G a0,
      f_are_rising := f1, d_are_rising := _, F_are_rising := fun_mk (st := s_are_rising) l1 c1 k1, b_are_rising := (fun_mk (st := s_are_rising) l1 c1 k1).binds (ps := ["things"]) fun _ _ _ _ _ _ us hl => match us, hl with | [_], _ => rfl, g_are_rising := PySem.W.mg_of X G a1,
      f_is_colour := f2, d_is_colour := _, F_is_colour := fun_mk (st := s_is_colour) l2 c2 k2, b_is_colour := (fun_mk (st := s_is_colour) l2 c2 k2).binds (ps := ["thing", "wide"]) fun _ _ _ _ _ _ us hl => match us, hl with | [_, _], _ => rfl, g_is_colour := PySem.W.mg_of X G a2,
      f_apart := f3, d_apart := _, F_apart := fun_mk (st := s_apart) l3 c3 k3, b_apart := (fun_mk (st := s_apart) l3 c3 k3).binds (ps := ["one", "other"]) fun _ _ _ _ _ _ us hl => match us, hl with | [_, _], _ => rfl, g_apart := PySem.W.mg_of X G a3,
      f_nearest := f4, d_nearest := _, F_nearest := fun_mk (st := s_nearest) l4 c4 k4, b_nearest := (fun_mk (st := s_nearest) l4 c4 k4).binds (ps := ["palette", "colour"]) fun _ _ _ _ _ _ us hl => match us, hl with | [_, _], _ => rfl, g_nearest := PySem.W.mg_of X G a4,
      f_are_rows := f5, d_are_rows := _, F_are_rows := fun_mk (st := s_are_rows) l5 c5 k5, b_are_rows := (fun_mk (st := s_are_rows) l5 c5 k5).binds (ps := ["thing"]) fun _ _ _ _ _ _ us hl => match us, hl with | [_], _ => rfl, g_are_rows := PySem.W.mg_of X G a5,
      f_are_begins := f6, d_are_begins := _, F_are_begins := fun_mk (st := s_are_begins) l6 c6 k6, b_are_begins := (fun_mk (st := s_are_begins) l6 c6 k6).binds (ps := ["begins", "low", "high"]) fun _ _ _ _ _ _ us hl => match us, hl with | [_, _, _], _ => rfl, g_are_begins := PySem.W.mg_of X G a6,
      f_tells_all := f7, d_tells_all := _, F_tells_all := fun_mk (st := s_tells_all) l7 c7 k7, b_tells_all := (fun_mk (st := s_tells_all) l7 c7 k7).binds (ps := ["palette", "first", "last", "number"]) fun _ _ _ _ _ _ us hl => match us, hl with | [_, _, _, _], _ => rfl, g_tells_all := PySem.W.mg_of X G a7,
      f_shows_table := f8, d_shows_table := _, F_shows_table := fun_mk (st := s_shows_table) l8 c8 k8, b_shows_table := (fun_mk (st := s_shows_table) l8 c8 k8).binds (ps := ["palette", "low", "high", "table"]) fun _ _ _ _ _ _ us hl => match us, hl with | [_, _, _, _], _ => rfl, g_shows_table := PySem.W.mg_of X G a8,
      f_first_places := f9, d_first_places := _, F_first_places := fun_mk (st := s_first_places) l9 c9 k9, b_first_places := (fun_mk (st := s_first_places) l9 c9 k9).binds (ps := ["palette"]) fun _ _ _ _ _ _ us hl => match us, hl with | [_], _ => rfl, g_first_places := PySem.W.mg_of X G a9,
      f_begin_between := f10, d_begin_between := _, F_begin_between := fun_mk (st := s_begin_between) l10 c10 k10, b_begin_between := (fun_mk (st := s_begin_between) l10 c10 k10).binds (ps := ["left", "right"]) fun _ _ _ _ _ _ us hl => match us, hl with | [_, _], _ => rfl, g_begin_between := PySem.W.mg_of X G a10,
      f_line_table := f11, d_line_table := _, F_line_table := fun_mk (st := s_line_table) l11 c11 k11, b_line_table := (fun_mk (st := s_line_table) l11 c11 k11).binds (ps := ["palette", "low", "high"]) fun _ _ _ _ _ _ us hl => match us, hl with | [_, _, _], _ => rfl, g_line_table := PySem.W.mg_of X G a11,
      f_l_mix := f12, d_l_mix := _, F_l_mix := fun_mk (st := s_l_mix) l12 c12 k12, b_l_mix := (fun_mk (st := s_l_mix) l12 c12 k12).binds (ps := ["_law_cell", "_law_k"]) fun _ _ _ _ _ _ us hl => match us, hl with | [_, _], _ => rfl, g_l_mix := PySem.W.mg_of X G a12,
      f_l_left := f13, d_l_left := _, F_l_left := fun_mk (st := s_l_left) l13 c13 k13, b_l_left := (fun_mk (st := s_l_left) l13 c13 k13).binds (ps := ["_law_script", "_law_k"]) fun _ _ _ _ _ _ us hl => match us, hl with | [_, _], _ => rfl, g_l_left := PySem.W.mg_of X G a13,
      f_l_pick := f14, d_l_pick := _, F_l_pick := fun_mk (st := s_l_pick) l14 c14 k14, b_l_pick := (fun_mk (st := s_l_pick) l14 c14 k14).binds (ps := ["_law_left_here", "_law_many"]) fun _ _ _ _ _ _ us hl => match us, hl with | [_, _], _ => rfl, g_l_pick := PySem.W.mg_of X G a14,
      f_l_colour := f15, d_l_colour := _, F_l_colour := fun_mk (st := s_l_colour) l15 c15 k15, b_l_colour := (fun_mk (st := s_l_colour) l15 c15 k15).binds (ps := ["_law_left_here", "_law_kind"]) fun _ _ _ _ _ _ us hl => match us, hl with | [_, _], _ => rfl, g_l_colour := PySem.W.mg_of X G a15,
      f_l_palette := f16, d_l_palette := _, F_l_palette := fun_mk (st := s_l_palette) l16 c16 k16, b_l_palette := (fun_mk (st := s_l_palette) l16 c16 k16).binds (ps := ["_law_left_here", "_law_kind"]) fun _ _ _ _ _ _ us hl => match us, hl with | [_, _], _ => rfl, g_l_palette := PySem.W.mg_of X G a16,
      f_l_line := f17, d_l_line := _, F_l_line := fun_mk (st := s_l_line) l17 c17 k17, b_l_line := (fun_mk (st := s_l_line) l17 c17 k17).binds (ps := ["_law_left_here"]) fun _ _ _ _ _ _ us hl => match us, hl with | [_], _ => rfl, g_l_line := PySem.W.mg_of X G a17,
      f_l_apart := f18, d_l_apart := _, F_l_apart := fun_mk (st := s_l_apart) l18 c18 k18, b_l_apart := (fun_mk (st := s_l_apart) l18 c18 k18).binds (ps := ["_law_one", "_law_other"]) fun _ _ _ _ _ _ us hl => match us, hl with | [_, _], _ => rfl, g_l_apart := PySem.W.mg_of X G a18,
      f_l_nearest := f19, d_l_nearest := _, F_l_nearest := fun_mk (st := s_l_nearest) l19 c19 k19, b_l_nearest := (fun_mk (st := s_l_nearest) l19 c19 k19).binds (ps := ["_law_palette_here", "_law_colour_here"]) fun _ _ _ _ _ _ us hl => match us, hl with | [_, _], _ => rfl, g_l_nearest := PySem.W.mg_of X G a19,
      f_l_number_of := f20, d_l_number_of := _, F_l_number_of := fun_mk (st := s_l_number_of) l20 c20 k20, b_l_number_of := (fun_mk (st := s_l_number_of) l20 c20 k20).binds (ps := ["_law_table", "_law_n"]) fun _ _ _ _ _ _ us hl => match us, hl with | [_, _], _ => rfl, g_l_number_of := PySem.W.mg_of X G a20,
      f_l_whole := f21, d_l_whole := _, F_l_whole := fun_mk (st := s_l_whole) l21 c21 k21, b_l_whole := (fun_mk (st := s_l_whole) l21 c21 k21).binds (ps := ["_law_thing"]) fun _ _ _ _ _ _ us hl => match us, hl with | [_], _ => rfl, g_l_whole := PySem.W.mg_of X G a21,
      f_l_told_right := f22, d_l_told_right := _, F_l_told_right := fun_mk (st := s_l_told_right) l22 c22 k22, b_l_told_right := (fun_mk (st := s_l_told_right) l22 c22 k22).binds (ps := ["_law_palette_here", "_law_low", "_law_high", "_law_thing"]) fun _ _ _ _ _ _ us hl => match us, hl with | [_, _, _, _], _ => rfl, g_l_told_right := PySem.W.mg_of X G a22,
      f_l_deep := f23, d_l_deep := _, F_l_deep := fun_mk (st := s_l_deep) l23 c23 k23, b_l_deep := (fun_mk (st := s_l_deep) l23 c23 k23).binds (ps := ["_law_deep_here"]) fun _ _ _ _ _ _ us hl => match us, hl with | [_], _ => rfl, g_l_deep := PySem.W.mg_of X G a23,
      f_l_odd := f24, d_l_odd := _, F_l_odd := fun_mk (st := s_l_odd) l24 c24 k24, b_l_odd := (fun_mk (st := s_l_odd) l24 c24 k24).binds (ps := ["_law_left_here", "_law_low", "_law_number"]) fun _ _ _ _ _ _ us hl => match us, hl with | [_, _, _], _ => rfl, g_l_odd := PySem.W.mg_of X G a24,
      f_l_bent := f25, d_l_bent := _, F_l_bent := fun_mk (st := s_l_bent) l25 c25 k25, b_l_bent := (fun_mk (st := s_l_bent) l25 c25 k25).binds (ps := ["_law_left_here", "_law_table", "_law_low"]) fun _ _ _ _ _ _ us hl => match us, hl with | [_, _, _], _ => rfl, g_l_bent := PySem.W.mg_of X G a25,
      z_abs := PySem.W.mg_none_of X G z_abs,
      z_all := PySem.W.mg_none_of X G z_all,
      z_bool := PySem.W.mg_none_of X G z_bool,
      z_enumerate := PySem.W.mg_none_of X G z_enumerate,
      z_int := PySem.W.mg_none_of X G z_int,
      z_isinstance := PySem.W.mg_none_of X G z_isinstance,
      z_len := PySem.W.mg_none_of X G z_len,
      z_list := PySem.W.mg_none_of X G z_list,
      z_max := PySem.W.mg_none_of X G z_max,
      z_min := PySem.W.mg_none_of X G z_min,
      z_range := PySem.W.mg_none_of X G z_range,
      z_sorted := PySem.W.mg_none_of X G z_sorted,
      z_str := PySem.W.mg_none_of X G z_str,
      z_sum := PySem.W.mg_none_of X G z_sum,
      z_tuple := PySem.W.mg_none_of X G z_tuple,
      z_zip := PySem.W.mg_none_of X G z_zip } (fun_mk (st := s_law) l26 c26 k26) (by decide)⟩
end Z
open PySem PySem.W PyProof.Rows
set_option maxHeartbeats 0 in
theorem PySem.Challenge.cw_fewcolours_k18_things_that_are_no_tables_holds : PySem.Challenge.rw_fewcolours_k18_things_that_are_no_tables.Holds := by
  w_on; o_law; k_head; (case hw => w_witness2)
  k_fill
  refine Z.walk_of2 (l := PySem.Challenge.rw_fewcolours_k18_things_that_are_no_tables) (n := 63) (k := 6) (x := "_law_script") (sp := fun w => Z.spLaw _) rfl (by decide) rfl ⟨rfl, by decide, by decide⟩ (fun w h Y => PySem.W.kIn_of Y) ?F (fun _ _ a ns hl _ hS => ⟨a, ns, rfl, hS, hl, fun _ => rfl⟩)
  case F =>
    intro w mg fa h KX G hmg
    refine' Z.all_mk KX G hmg ?a0 ?l0 ?c0 ?k0 ?a1 ?l1 ?c1 ?k1 ?a2 ?l2 ?c2 ?k2 ?a3 ?l3 ?c3 ?k3 ?a4 ?l4 ?c4 ?k4 ?a5 ?l5 ?c5 ?k5 ?a6 ?l6 ?c6 ?k6 ?a7 ?l7 ?c7 ?k7 ?a8 ?l8 ?c8 ?k8 ?a9 ?l9 ?c9 ?k9 ?a10 ?l10 ?c10 ?k10 ?a11 ?l11 ?c11 ?k11 ?a12 ?l12 ?c12 ?k12 ?a13 ?l13 ?c13 ?k13 ?a14 ?l14 ?c14 ?k14 ?a15 ?l15 ?c15 ?k15 ?a16 ?l16 ?c16 ?k16 ?a17 ?l17 ?c17 ?k17 ?a18 ?l18 ?c18 ?k18 ?a19 ?l19 ?c19 ?k19 ?a20 ?l20 ?c20 ?k20 ?a21 ?l21 ?c21 ?k21 ?a22 ?l22 ?c22 ?k22 ?a23 ?l23 ?c23 ?k23 ?a24 ?l24 ?c24 ?k24 ?a25 ?l25 ?c25 ?k25 ?a26 ?l26 ?c26 ?k26 ?z_abs ?z_all ?z_bool ?z_enumerate ?z_int ?z_isinstance ?z_len ?z_list ?z_max ?z_min ?z_range ?z_sorted ?z_str ?z_sum ?z_tuple ?z_zip
    case a0 => k_is
    case l0 => k_is
    case c0 => k_is
    case k0 => k_is
    case a1 => k_is
    case l1 => k_is
    case c1 => k_is
    case k1 => k_is
    case a2 => k_is
    case l2 => k_is
    case c2 => k_is
    case k2 => k_is
    case a3 => k_is
    case l3 => k_is
    case c3 => k_is
    case k3 => k_is
    case a4 => k_is
    case l4 => k_is
    case c4 => k_is
    case k4 => k_is
    case a5 => k_is
    case l5 => k_is
    case c5 => k_is
    case k5 => k_is
    case a6 => k_is
    case l6 => k_is
    case c6 => k_is
    case k6 => k_is
    case a7 => k_is
    case l7 => k_is
    case c7 => k_is
    case k7 => k_is
    case a8 => k_is
    case l8 => k_is
    case c8 => k_is
    case k8 => k_is
    case a9 => k_is
    case l9 => k_is
    case c9 => k_is
    case k9 => k_is
    case a10 => k_is
    case l10 => k_is
    case c10 => k_is
    case k10 => k_is
    case a11 => k_is
    case l11 => k_is
    case c11 => k_is
    case k11 => k_is
    case a12 => k_is
    case l12 => k_is
    case c12 => k_is
    case k12 => k_is
    case a13 => k_is
    case l13 => k_is
    case c13 => k_is
    case k13 => k_is
    case a14 => k_is
    case l14 => k_is
    case c14 => k_is
    case k14 => k_is
    case a15 => k_is
    case l15 => k_is
    case c15 => k_is
    case k15 => k_is
    case a16 => k_is
    case l16 => k_is
    case c16 => k_is
    case k16 => k_is
    case a17 => k_is
    case l17 => k_is
    case c17 => k_is
    case k17 => k_is
    case a18 => k_is
    case l18 => k_is
    case c18 => k_is
    case k18 => k_is
    case a19 => k_is
    case l19 => k_is
    case c19 => k_is
    case k19 => k_is
    case a20 => k_is
    case l20 => k_is
    case c20 => k_is
    case k20 => k_is
    case a21 => k_is
    case l21 => k_is
    case c21 => k_is
    case k21 => k_is
    case a22 => k_is
    case l22 => k_is
    case c22 => k_is
    case k22 => k_is
    case a23 => k_is
    case l23 => k_is
    case c23 => k_is
    case k23 => k_is
    case a24 => k_is
    case l24 => k_is
    case c24 => k_is
    case k24 => k_is
    case a25 => k_is
    case l25 => k_is
    case c25 => k_is
    case k25 => k_is
    case a26 => k_is
    case l26 => k_is
    case c26 => k_is
    case k26 => k_is
    case z_abs => k_is
    case z_all => k_is
    case z_bool => k_is
    case z_enumerate => k_is
    case z_int => k_is
    case z_isinstance => k_is
    case z_len => k_is
    case z_list => k_is
    case z_max => k_is
    case z_min => k_is
    case z_range => k_is
    case z_sorted => k_is
    case z_str => k_is
    case z_sum => k_is
    case z_tuple => k_is
    case z_zip => k_is

