import PyProof.Rows.All
import Wide.All
import OpenK.AllK
import Wide.FinOn
import HandS.ForMost
import HandS.Zip
import HandS.IsInst
import HandS.TupAny
import HandS.SortRule
import HandS.Style
import HandS.Walk
import HandS.Evl
import KE.DataMinMax
import KE.GoesEnum
import KE.GoesMore
import PySem.Challenge.RW_fewcolours_k02_what_boxes_are
set_option Elab.async false
set_option linter.all false
set_option maxRecDepth 100000
namespace Z
open PySem PySem.Spec PyProof.Rows L2
/-! ### heaps but for some addresses -/
def Dom (H H' : Hp) : Prop := ∀ a, H a ≠ none → H' a ≠ none
structure Go (B : List Addr) (H H' : Hp) : Prop where
  k : ∀ a o, a ∉ B → H a = some o → H' a = some o
  d : Dom H H'
def Bk (B : List Addr) (H : Hp) : Prop := ∀ a ∈ B, H a ≠ none
section
variable {B C : List Addr} {H H' H1 H2 : Hp} {p L : Addr} {o : HO}
theorem dom_new : Dom H (upd H p o) := fun a h => by
  by_cases e : a = p
  · subst e
    rw [upd_same]
    exact fun z => nomatch z
  · rw [upd_ne e]
    exact h
theorem dom_mut (d : Dom H H') : Dom H (upd H' p o) := fun a h => dom_new a (d a h)
theorem Go.refl : Go B H H := ⟨fun _ _ _ h => h, fun _ h => h⟩
theorem Go.trans (a : Go B H H1) (b : Go B H1 H2) : Go B H H2 := ⟨fun c o n h => b.k c o n (a.k c o n h), fun c h => b.d c (a.d c h)⟩
theorem same_dom (s : Same H H') : Dom H H' := fun a h => by
  cases q : H a with
  | none => exact absurd q h
  | some o => rw [s a o q]; exact fun z => nomatch z
theorem Go.of (s : Same H H') : Go B H H' := ⟨fun a o _ h => s a o h, same_dom s⟩
theorem Go.new (h : H p = none) : Go B H (upd H p o) := ⟨fun a u _ e => by
  rw [upd_ne (ne_of_none e h)]
  exact e, dom_new⟩
theorem Go.mut (g : Go B H H') (h : H p = none) : Go B H (upd H' p o) := ⟨fun a u n e => by
  rw [upd_ne (ne_of_none e h)]
  exact g.k a u n e, dom_mut g.d⟩
theorem Go.at (g : Go B H H') (h : p ∈ B) : Go B H (upd H' p o) := ⟨fun a u n e => by
  rw [upd_ne (show a ≠ p from fun z => n (by rw [z]; exact h))]
  exact g.k a u n e, dom_mut g.d⟩
theorem Go.w (g : Go C H H') (s : ∀ a ∈ C, a ∈ B) : Go B H H' := ⟨fun a o n h => g.k a o (fun q => n (s a q)) h, g.d⟩
theorem Go.w1 (g : Go [L] H H') (s : L ∈ B) : Go B H H' := g.w fun a h => by rw [List.mem_singleton.mp h]; exact s
theorem Go.free (g : Go B H H') (h : H' p = none) : H p = none := by
  cases q : H p with
  | none => rfl
  | some o => exact absurd h (g.d p (by rw [q]; exact fun z => nomatch z))
theorem Bk.go (b : Bk B H) (g : Go C H H') : Bk B H' := fun a h => g.d a (b a h)
theorem Bk.ne (b : Bk B H) (h : H p = none) : p ∉ B := fun q => b p q h
theorem Bk.cons (b : Bk B H) (h : H p = some o) : Bk (p :: B) H := fun a q => by
  rcases List.mem_cons.mp q with e | e
  · subst e
    rw [h]
    exact fun z => nomatch z
  · exact b a e
theorem Bk.up (b : Bk B H) : Bk B (upd H p o) := fun a h => dom_new a (b a h)
theorem sm_new (h : H p = none) : Same H (upd H p o) := fun b x e => by
  rw [upd_ne (ne_of_none e h)]
  exact e
theorem sm_mut (s : Same H H') (h : H p = none) : Same H (upd H' p o) := fun b x e => by
  rw [upd_ne (ne_of_none e h)]
  exact s b x e
/-- what was new behind H, and is in B, may change -/
theorem Go.sm (g : Go B H1 H2) (s : Same H H1) (n : ∀ a ∈ B, H a = none) : Same H H2 := fun a o h => g.k a o (fun q => by rw [n a q] at h; cases h) (s a o h)
theorem Go.cons (g : Go (p :: B) H1 H2) (s : Go B H H1) (h : H p = none) : Go B H H2 := ⟨fun a o n e => g.k a o (fun q => by
  rcases List.mem_cons.mp q with z | z
  · rw [z, h] at e
    cases e
  · exact n z) (s.k a o n e), fun a e => g.d a (s.d a e)⟩
end
/-! ### the list that is drawn from -/
def Lf (L : Addr) (H : Hp) (n : Nat) : Prop := ∃ a b c : Int, H L = some (.lst [.int a, .int b, .int c]) ∧ 0 ≤ a ∧ 0 ≤ c ∧ c ≤ (n : Int)
section
variable {L p : Addr} {H H' : Hp} {n m : Nat} {o : HO} {B : List Addr}
theorem Lf.mono (h : Lf L H n) (l : n ≤ m) : Lf L H m := by
  obtain ⟨a, b, c, e, h1, h2, h3⟩ := h
  exact ⟨a, b, c, e, h1, h2, by omega⟩
theorem Lf.same (h : Lf L H n) (s : Same H H') : Lf L H' n := by
  obtain ⟨a, b, c, e, h1, h2, h3⟩ := h
  exact ⟨a, b, c, s _ _ e, h1, h2, h3⟩
theorem Lf.go (h : Lf L H n) (g : Go B H H') (i : L ∉ B) : Lf L H' n := by
  obtain ⟨a, b, c, e, h1, h2, h3⟩ := h
  exact ⟨a, b, c, g.k _ _ i e, h1, h2, h3⟩
theorem Lf.ne (h : Lf L H n) (e : H p = none) : p ≠ L := fun q => by
  obtain ⟨a, b, c, e', _⟩ := h
  rw [q, e'] at e
  cases e
theorem Lf.up (h : Lf L H n) (e : p ≠ L) : Lf L (upd H p o) n := by
  obtain ⟨a, b, c, e', h1, h2, h3⟩ := h
  refine ⟨a, b, c, ?_, h1, h2, h3⟩
  rw [upd_ne (Ne.symm e)]
  exact e'
theorem Lf.new (h : Lf L H n) (e : H p = none) : Lf L (upd H p o) n := h.up (h.ne e)
theorem Lf.bk (h : Lf L H n) : Bk [L] H := fun a q => by
  obtain ⟨_, _, _, e, _⟩ := h
  rw [List.mem_singleton.mp q, e]
  exact fun z => nomatch z
end
/-! ### data apart from some addresses -/
mutual
inductive Dt (B : List Addr) (H : Hp) : V → PyData → Prop
  | non : Dt B H .non .none
  | bl (b : Bool) : Dt B H (.bl b) (.bool b)
  | int (i : Int) : Dt B H (.int i) (.int i)
  | str (x : Str) : Dt B H (.str x) (.str x)
  | lst {a : Addr} {xs : List V} {ds : List PyData} : a ∉ B → H a = some (.lst xs) → DtA B H xs ds → Dt B H (.ref a) (.list ds)
  | tup {a : Addr} {xs : List V} {ds : List PyData} : a ∉ B → H a = some (.tup xs) → DtA B H xs ds → Dt B H (.ref a) (.tuple ds)
inductive DtA (B : List Addr) (H : Hp) : List V → List PyData → Prop
  | nil : DtA B H [] []
  | cons {v : V} {vs : List V} {d : PyData} {ds : List PyData} : Dt B H v d → DtA B H vs ds → DtA B H (v :: vs) (d :: ds)
end
section
variable {B C : List Addr} {H H' : Hp} {p L : Addr}
mutual
/-- the general way from one to another -/
theorem Dt.to (f : ∀ a o, a ∉ B → H a = some o → a ∉ C ∧ H' a = some o) : ∀ (d : PyData) (v : V), Dt B H v d → Dt C H' v d
  | .none, _, h => by cases h; exact .non
  | .bool b, _, h => by cases h; exact .bl b
  | .int i, _, h => by cases h; exact .int i
  | .str x, _, h => by cases h; exact .str x
  | .list ds, _, h => by
    cases h with
    | lst n hs ha => exact .lst (f _ _ n hs).1 (f _ _ n hs).2 (DtA.to f ds _ ha)
  | .tuple ds, _, h => by
    cases h with
    | tup n hs ha => exact .tup (f _ _ n hs).1 (f _ _ n hs).2 (DtA.to f ds _ ha)
  | .dict _, _, h => by cases h
theorem DtA.to (f : ∀ a o, a ∉ B → H a = some o → a ∉ C ∧ H' a = some o) : ∀ (ds : List PyData) (vs : List V), DtA B H vs ds → DtA C H' vs ds
  | [], _, h => by cases h; exact .nil
  | d :: ds, _, h => by
    cases h with
    | cons h1 h2 => exact .cons (Dt.to f d _ h1) (DtA.to f ds _ h2)
end
mutual
theorem Dt.dp {K : PySem.W.Frag} : ∀ (d : PyData) (v : V), Dt B H v d → Dp K H v d
  | .none, _, h => by cases h; exact .non
  | .bool b, _, h => by cases h; exact .bl b
  | .int i, _, h => by cases h; exact .int i
  | .str x, _, h => by cases h; exact .str x
  | .list ds, _, h => by
    cases h with
    | lst n hs ha => exact .lst (SqL.of hs) (DtA.dp ds _ ha)
  | .tuple ds, _, h => by
    cases h with
    | tup n hs ha => exact .tup (SqT.of hs) (DtA.dp ds _ ha)
  | .dict _, _, h => by cases h
theorem DtA.dp {K : PySem.W.Frag} : ∀ (ds : List PyData) (vs : List V), DtA B H vs ds → DpAll K H vs ds
  | [], _, h => by cases h; exact .nil
  | d :: ds, _, h => by
    cases h with
    | cons h1 h2 => exact .cons (Dt.dp d _ h1) (DtA.dp ds _ h2)
end
variable {d : PyData} {v : V} {ds : List PyData} {vs ws : List V}
theorem Dt.g (h : Dt B H v d) (g : Go B H H') : Dt B H' v d := Dt.to (fun a o n e => ⟨n, g.k a o n e⟩) d v h
theorem DtA.g (h : DtA B H vs ds) (g : Go B H H') : DtA B H' vs ds := DtA.to (fun a o n e => ⟨n, g.k a o n e⟩) ds vs h
theorem Dt.s (h : Dt B H v d) (s : Same H H') : Dt B H' v d := h.g (Go.of s)
theorem DtA.s (h : DtA B H vs ds) (s : Same H H') : DtA B H' vs ds := h.g (Go.of s)
/-- a new address may change, too -/
theorem Dt.fr (h : Dt B H v d) (e : H p = none) : Dt (p :: B) H v d := Dt.to (fun a o n q => ⟨fun z => by
  rcases List.mem_cons.mp z with y | y
  · rw [y, e] at q
    cases q
  · exact n y, q⟩) d v h
theorem DtA.fr (h : DtA B H vs ds) (e : H p = none) : DtA (p :: B) H vs ds := DtA.to (fun a o n q => ⟨fun z => by
  rcases List.mem_cons.mp z with y | y
  · rw [y, e] at q
    cases q
  · exact n y, q⟩) ds vs h
theorem Dt.un (h : Dt (p :: B) H v d) : Dt B H v d := Dt.to (fun a o n q => ⟨fun z => n (List.mem_cons_of_mem _ z), q⟩) d v h
theorem DtA.un (h : DtA (p :: B) H vs ds) : DtA B H vs ds := DtA.to (fun a o n q => ⟨fun z => n (List.mem_cons_of_mem _ z), q⟩) ds vs h
theorem Dt.sub (h : Dt B H v d) (s : ∀ a ∈ C, a ∈ B) : Dt C H v d := Dt.to (fun a o n q => ⟨fun z => n (s a z), q⟩) d v h
theorem DtA.sub (h : DtA B H vs ds) (s : ∀ a ∈ C, a ∈ B) : DtA C H vs ds := DtA.to (fun a o n q => ⟨fun z => n (s a z), q⟩) ds vs h
theorem Dt.dP {K : PySem.W.Frag} (h : Dt B H v d) : Dp K H v d := Dt.dp d v h
theorem DtA.len {vs : List V} : ∀ {ds : List PyData}, DtA B H vs ds → vs.length = ds.length := by
  induction vs with
  | nil => intro ds h; cases h; rfl
  | cons v vs ih => intro ds h; cases h with | cons h1 h2 => rw [List.length_cons, List.length_cons, ih h2]
theorem DtA.get {vs : List V} : ∀ {ds : List PyData} {i : Nat} {d : PyData}, DtA B H vs ds → ds[i]? = some d → ∃ v, vs[i]? = some v ∧ Dt B H v d := by
  induction vs with
  | nil => intro ds i d h e; cases h; simp at e
  | cons v vs ih =>
    intro ds i d h e
    cases h with
    | cons h1 h2 =>
      cases i with
      | zero => cases e; exact ⟨v, rfl, h1⟩
      | succ i => exact ih (i := i) h2 (by simpa using e)
theorem DtA.getV {vs : List V} : ∀ {ds : List PyData} {i : Nat} {v : V}, DtA B H vs ds → vs[i]? = some v → ∃ d, ds[i]? = some d ∧ Dt B H v d := by
  induction vs with
  | nil => intro ds i d h e; simp at e
  | cons v vs ih =>
    intro ds i d h e
    cases h with
    | cons h1 h2 =>
      cases i with
      | zero => cases e; exact ⟨_, rfl, h1⟩
      | succ i => exact ih (i := i) h2 (by simpa using e)
theorem DtA.app {vs ws : List V} : ∀ {ds es : List PyData}, DtA B H vs ds → DtA B H ws es → DtA B H (vs ++ ws) (ds ++ es) := by
  induction vs with
  | nil => intro ds es h h2; cases h; exact h2
  | cons v vs ih =>
    intro ds es h h2
    cases h with
    | cons h1 h3 => exact .cons h1 (ih h3 h2)
theorem DtA.one (h : Dt B H v d) : DtA B H [v] [d] := .cons h .nil
theorem DtA.ints : ∀ ns : List Int, DtA B H (ns.map V.int) (ns.map PyData.int)
  | [] => .nil
  | n :: ns => .cons (.int n) (DtA.ints ns)
theorem DtA.intsV : ∀ {ns : List Int} {vs : List V}, DtA B H vs (ns.map PyData.int) → vs = ns.map V.int
  | [], _, h => by cases h; rfl
  | n :: ns, _, h => by
    cases h with
    | cons h1 h2 =>
      cases h1
      rw [DtA.intsV h2]
      rfl
theorem DtA.blsV : ∀ {ns : List Bool} {vs : List V}, DtA B H vs (ns.map PyData.bool) → vs = ns.map V.bl
  | [], _, h => by cases h; rfl
  | n :: ns, _, h => by
    cases h with
    | cons h1 h2 =>
      cases h1
      rw [DtA.blsV h2]
      rfl
/-- a colour; a list of ints; a palette -/
def eC (ns : List Int) : PyData := .tuple (ns.map .int)
def eI (ns : List Int) : PyData := .list (ns.map .int)
def eP (cs : List (List Int)) : PyData := .list (cs.map eC)
theorem Dt.col {v : V} {ns : List Int} (h : Dt B H v (eC ns)) : ∃ a, v = .ref a ∧ a ∉ B ∧ H a = some (.tup (ns.map V.int)) := by
  cases h with
  | tup n hs ha =>
    have e := DtA.intsV ha
    subst e
    exact ⟨_, rfl, n, hs⟩
theorem Dt.ofCol {a : Addr} {ns : List Int} (n : a ∉ B) (h : H a = some (.tup (ns.map V.int))) : Dt B H (.ref a) (eC ns) := .tup n h (DtA.ints ns)
theorem Dt.ofInts {a : Addr} {ns : List Int} (n : a ∉ B) (h : H a = some (.lst (ns.map V.int))) : Dt B H (.ref a) (eI ns) := .lst n h (DtA.ints ns)
theorem Dt.ints {v : V} {ns : List Int} (h : Dt B H v (eI ns)) : ∃ a, v = .ref a ∧ a ∉ B ∧ H a = some (.lst (ns.map V.int)) := by
  cases h with
  | lst n hs ha =>
    have e := DtA.intsV ha
    subst e
    exact ⟨_, rfl, n, hs⟩
theorem Dt.tupI {v : V} {ds : List PyData} (h : Dt B H v (.tuple ds)) : ∃ a vs, v = .ref a ∧ a ∉ B ∧ H a = some (.tup vs) ∧ DtA B H vs ds := by
  cases h with
  | tup n hs ha => exact ⟨_, _, rfl, n, hs, ha⟩
theorem Dt.lstI {v : V} {ds : List PyData} (h : Dt B H v (.list ds)) : ∃ a vs, v = .ref a ∧ a ∉ B ∧ H a = some (.lst vs) ∧ DtA B H vs ds := by
  cases h with
  | lst n hs ha => exact ⟨_, _, rfl, n, hs, ha⟩
theorem Dt.pal {v : V} {cs : List (List Int)} (h : Dt B H v (eP cs)) : ∃ a vs, v = .ref a ∧ a ∉ B ∧ H a = some (.lst vs) ∧ DtA B H vs (cs.map eC) := Dt.lstI h
theorem Dt.intI {v : V} {i : Int} (h : Dt B H v (.int i)) : v = .int i := by
  cases h
  rfl
end
/-! ### the rules that speak of the written part, with it named -/
def rLenS (K : PySem.W.Frag) : List V → Hp → VK → Prop := fun xs H Q => ∃ p ys, xs = [.ref p] ∧ (SqL K H p ys ∨ SqT K H p ys) ∧ Q (.int ys.length) H
def rListOf (K : PySem.W.Frag) : List V → Hp → VK → Prop := fun xs H Q => ∃ p ys, xs = [.ref p] ∧ (SqL K H p ys ∨ SqT K H p ys) ∧ ∀ l, H l = none → Q (.ref l) (upd H l (.lst ys))
def rTupOf (K : PySem.W.Frag) : List V → Hp → VK → Prop := fun xs H Q => ∃ p ys, xs = [.ref p] ∧ ((SqL K H p ys ∧ ∀ l, H l = none → Q (.ref l) (upd H l (.tup ys))) ∨ (SqT K H p ys ∧ Q (.ref p) H))
section
variable (K : PySem.W.Frag) {X : Cx}
theorem ix_listK (h : X.K = K := by rfl) : IxR X (rIxL K) := h ▸ ix_list
theorem ix_tupK (h : X.K = K := by rfl) : IxR X (rIxT K) := h ▸ ix_tup
theorem sl_listK (h : X.K = K := by rfl) : SlR X (rSlL K) := h ▸ sl_list
theorem sl_tupAK (h : X.K = K := by rfl) : SlR X (rSlA K) := h ▸ sl_tupA
theorem op_catAK (h : X.K = K := by rfl) : OpR X (binaryOp .Add) (rCatA K) := h ▸ op_catA
theorem op_eqDK (hu : X.A.units + 64 < cLine) (h : X.K = K := by rfl) : OpR X (compareOp .Eq) (rEqD K) := h ▸ op_eqD hu
theorem op_neDK (hu : X.A.units + 64 < cLine) (h : X.K = K := by rfl) : OpR X (compareOp .NotEq) (rNeD K) := h ▸ op_neD hu
theorem len_K (h : X.K = K := by rfl) : CallR X (.builtin "len") (rLenS K) := h ▸ call_len_seq
theorem list_K (h : X.K = K := by rfl) : CallR X (.type "list") (rListOf K) := h ▸ call_list_of
theorem tuple_K (h : X.K = K := by rfl) : CallR X (.type "tuple") (rTupOf K) := h ▸ call_tuple_of
theorem cr_sumK (hc : X.calm = true) (h : X.K = K := by rfl) : CallR X (.builtin "sum") (rSum K) := h ▸ cr_sum hc
theorem cr_maxK (hc : X.calm = true) (h : X.K = K := by rfl) : CallR X (.builtin "max") (rMax K) := h ▸ cr_max hc
theorem cr_minK (hc : X.calm = true) (h : X.K = K := by rfl) : CallR X (.builtin "min") (rMin K) := h ▸ cr_min hc
theorem cr_anyK (hc : X.calm = true) (h : X.K = K := by rfl) : CallR X (.builtin "any") (rAny K) := h ▸ cr_any hc
theorem cr_allK (hc : X.calm = true) (h : X.K = K := by rfl) : CallR X (.builtin "all") (rAll K) := h ▸ cr_all hc
theorem call_isiK1 (h : X.K = K := by rfl) : CallR X (.builtin "isinstance") (rIsi K) := h ▸ call_isi
theorem call_isiTK (h : X.K = K := by rfl) : CallR X (.builtin "isinstance") (rIsiT K) := h ▸ call_isiT
theorem cr_sortedK (h : X.K = K := by rfl) : CallR X (.builtin "sorted") (rSortedPO K) := h ▸ cr_sortedPO
theorem mt_indexK (h : X.K = K := by rfl) : MtR X "list.index" (rIndex K) := h ▸ mt_index
theorem pi_listK {tg l : Expr} {tl : TE} (hl : PE X l tl) (h : X.K = K := by rfl) : PI X tg l (iList K tl) := h ▸ pi_list hl
theorem pg_tupK {pos : Pos} {es : List Expr} {kk : Nat} {t : TGs} {n : Nat} (hc : X.calm = true) (h : PGs X es t) (hn : (assignEach es X.env).length = n := by rfl) (hst : (assignEach es X.env).findIdx? (·.1) = none := by rfl) (h2 : X.K = K := by rfl) : PG X (.Tuple es kk pos) (gTup K n t) :=
  h2 ▸ pg_tup hc h hn hst
theorem pi_tupK {tg l : Expr} {tl : TE} (hl : PE X l tl) (h : X.K = K := by rfl) : PI X tg l (iTup K tl) := h ▸ pi_tup hl
end
/-! ### shapes -/
mutual
def wide : PyData → Bool
  | .none | .bool _ | .int _ | .str _ => true
  | .list xs | .tuple xs => decide (xs.length ≤ 100000) && wideAll xs
  | .dict _ => false
def wideAll : List PyData → Bool
  | [] => true
  | x :: xs => wide x && wideAll xs
end
def Sh (d : PyData) (k : Nat) : Prop := d.canLay0 = true ∧ d.depth ≤ k ∧ wide d = true
theorem sh_all : ∀ {ds : List PyData} {k : Nat}, (∀ d ∈ ds, Sh d k) → PyData.canLayAll0 ds = true ∧ PyData.depthAll ds ≤ k ∧ wideAll ds = true
  | [], _, _ => ⟨rfl, Nat.zero_le _, by rw [wideAll]⟩
  | d :: ds, k, h => by
    obtain ⟨h1, h2, h4⟩ := sh_all (ds := ds) (k := k) fun x hx => h x (List.mem_cons_of_mem _ hx)
    have h3 := h d (List.mem_cons_self ..)
    refine ⟨?_, ?_, ?_⟩
    · rw [PyData.canLayAll0, h1, h3.1]; rfl
    · rw [PyData.depthAll]
      exact Nat.max_le.mpr ⟨h3.2.1, h2⟩
    · rw [wideAll, h4, h3.2.2]; rfl
theorem sh_mem : ∀ {ds : List PyData} {k : Nat}, PyData.canLayAll0 ds = true → PyData.depthAll ds ≤ k → wideAll ds = true → ∀ d ∈ ds, Sh d k
  | [], _, _, _, _, _, h => nomatch h
  | d :: ds, k, h1, h2, h3, x, hx => by
    rw [PyData.canLayAll0] at h1
    rw [PyData.depthAll] at h2
    rw [wideAll] at h3
    have a := Bool.and_eq_true_iff.mp h1
    have b := Nat.max_le.mp h2
    have c := Bool.and_eq_true_iff.mp h3
    rcases List.mem_cons.mp hx with e | e
    · rw [e]; exact ⟨a.1, b.1, c.1⟩
    · exact sh_mem a.2 b.2 c.2 x e
theorem sh_tup {ds : List PyData} {k : Nat} (l : ds.length ≤ 100000) (h : ∀ d ∈ ds, Sh d k) : Sh (.tuple ds) (k + 1) := by
  obtain ⟨h1, h2, h3⟩ := sh_all h
  exact ⟨by rw [PyData.canLay0]; exact h1, by rw [PyData.depth]; omega, by rw [wide, h3, decide_eq_true l]; rfl⟩
theorem sh_lst {ds : List PyData} {k : Nat} (l : ds.length ≤ 100000) (h : ∀ d ∈ ds, Sh d k) : Sh (.list ds) (k + 1) := by
  obtain ⟨h1, h2, h3⟩ := sh_all h
  exact ⟨by rw [PyData.canLay0]; exact h1, by rw [PyData.depth]; omega, by rw [wide, h3, decide_eq_true l]; rfl⟩
theorem sh_int (i : Int) (k : Nat) : Sh (.int i) k := ⟨rfl, by rw [PyData.depth]; omega, by rw [wide]⟩
theorem sh_bool (i : Bool) (k : Nat) : Sh (.bool i) k := ⟨rfl, by rw [PyData.depth]; omega, by rw [wide]⟩
theorem sh_none (k : Nat) : Sh .none k := ⟨rfl, by rw [PyData.depth]; omega, by rw [wide]⟩
theorem sh_eC {ns : List Int} (l : ns.length ≤ 100000) : Sh (eC ns) 1 := sh_tup (by simpa using l) fun d hd => by
  obtain ⟨n, _, rfl⟩ := List.mem_map.mp hd
  exact sh_int n 0
theorem sh_eI {ns : List Int} (l : ns.length ≤ 100000) : Sh (eI ns) 1 := sh_lst (by simpa using l) fun d hd => by
  obtain ⟨n, _, rfl⟩ := List.mem_map.mp hd
  exact sh_int n 0
theorem sh_eP {cs : List (List Int)} (l : cs.length ≤ 100000) (h : ∀ c ∈ cs, c.length ≤ 100000) : Sh (eP cs) 2 := sh_lst (by simpa using l) fun d hd => by
  obtain ⟨n, m, rfl⟩ := List.mem_map.mp hd
  exact sh_eC (h n m)
theorem Sh.mono {d : PyData} {j k : Nat} (h : Sh d j) (l : j ≤ k) : Sh d k := ⟨h.1, Nat.le_trans h.2.1 l, h.2.2⟩
theorem Sh.sh {d : PyData} {k : Nat} (h : Sh d k) (l : k ≤ 64) : SeqAt.shaped d = true := by
  unfold SeqAt.shaped
  rw [h.1, decide_eq_true (Nat.le_trans h.2.1 l)]
  rfl
theorem Sh.tupI {ds : List PyData} {k : Nat} (h : Sh (.tuple ds) k) : ∃ j, k = j + 1 ∧ (∀ d ∈ ds, Sh d j) ∧ ds.length ≤ 100000 := by
  obtain ⟨h1, h2, h3⟩ := h
  rw [PyData.canLay0] at h1
  rw [PyData.depth] at h2
  rw [wide] at h3
  have c := Bool.and_eq_true_iff.mp h3
  exact ⟨k - 1, by omega, sh_mem h1 (by omega) c.2, of_decide_eq_true c.1⟩
theorem Sh.lstI {ds : List PyData} {k : Nat} (h : Sh (.list ds) k) : ∃ j, k = j + 1 ∧ (∀ d ∈ ds, Sh d j) ∧ ds.length ≤ 100000 := by
  obtain ⟨h1, h2, h3⟩ := h
  rw [PyData.canLay0] at h1
  rw [PyData.depth] at h2
  rw [wide] at h3
  have c := Bool.and_eq_true_iff.mp h3
  exact ⟨k - 1, by omega, sh_mem h1 (by omega) c.2, of_decide_eq_true c.1⟩
/-! ### isinstance -/
def tyn : PyData → String
  | .none => "NoneType" | .bool _ => "bool" | .int _ => "int" | .str _ => "str" | .list _ => "list" | .tuple _ => "tuple" | .dict _ => "dict"
theorem Dt.ty {K : PySem.W.Frag} {B : List Addr} {H : Hp} {v : V} {d : PyData} (h : Dt B H v d) : TyX K H v (.type (tyn d)) := by
  cases h with
  | non => exact .base .non
  | bl b => exact .base (.bl b)
  | int i => exact .base (.int i)
  | str x => exact .base (.str x)
  | lst n hs ha => exact .base (.lst hs)
  | tup n hs ha => exact .base (.tup hs)
theorem r_isi {K : PySem.W.Frag} {H : Hp} {Q : VK} {x : V} {t n : String} {b : Bool} (h : TyX K H x (.type t)) (e : kitB t n = some b) (q : Q (.bl b) H) : rIsi K [x, .ty n] H Q := ⟨x, .ty n, _, _, b, rfl, .ty n, h, kit_ty e, q⟩
theorem iteD {c A B : Prop} [Decidable c] (hc : c) (h : A) : if decide c = true then A else B := by
  rw [if_pos (decide_eq_true hc)]
  exact h
theorem iteE {A B : Prop} {c : Bool} (hc : c = true) (h : A) : if c = true then A else B := by
  rw [if_pos hc]
  exact h
theorem iteN {A B : Prop} {c : Bool} (hc : c = false) (h : B) : if c = true then A else B := by
  rw [hc, if_neg Bool.false_ne_true]
  exact h
/-! ### comprehensions -/
theorem lc_yes {te : TE} {σ : L2.St} {H : Hp} {Qy : VK} {N : Hp → Prop} (h : te σ H Qy) : tYes σ H (fun b H3 => if b = true then te σ H3 Qy else N H3) := by
  show if true = true then te σ H Qy else N H
  rw [if_pos rfl]
  exact h
theorem walk_zipT {K : PySem.W.Frag} {a b : Addr} {xs ys : List V} {n : Nat} (hn : n = min xs.length ys.length) : Walk (RZ.ItzT K a b) n (fun H => SqT K H a xs ∧ SqT K H b ys) (YPair (fun i => xs[i]?) (fun i => ys[i]?)) := by
  subst hn
  refine ⟨fun i _ hi q => ?_, fun _ q => ⟨xs, ys, q.1, q.2, by omega⟩, fun i H v H' _ q y => ?_⟩
  · have h1 : i < xs.length := by omega
    have h2 : i < ys.length := by omega
    exact ⟨xs, ys, xs[i], ys[i], q.1, q.2, by simp [h1], by simp [h2]⟩
  · obtain ⟨T, x, z, h1, h2, h3, h4, h5⟩ := y
    exact ⟨T, x, z, h1, h2, h3, h4 xs q.1, h5 ys q.2⟩
theorem sz {n : Nat} (h : n ≤ 100000) : n < sizeLine := Nat.lt_of_le_of_lt h (by decide)
/-- a comprehension that leaves all as it was: what it makes, item by item -/
theorem lc_pure {J : It} {n : Nat} {G : Hp → Prop} {Y : Nat → Hp → V → Hp → Prop} (w : Walk J n G Y) {g : TG} {tt : TT} {te : TE} {vs : List Nat} {σ : L2.St} {H1 : Hp} {D : Addr} {Qd : Hp → Prop} {B : List Addr}
    (hD : H1 D = none) (hB : Bk B H1) (hG : ∀ H', Same H1 H' → G H') (hn : n ≤ 100000) (e : Nat → Option PyData)
    (hs : ∀ (i : Nat) (x : V) (H' H'' : Hp) (Ny : V → Hp → Prop) (Nn : Hp → Prop), i < n → Same H1 H' → Bk (D :: B) H' → Y i H' x H'' → (∀ y H4 d, e i = some d → Same H' H4 → Dt (D :: B) H4 y d → Ny y H4) → (∀ H3, e i = none → Same H' H3 → Nn H3) →
      g x (wipe σ vs) H'' fun σ2 H2 => wipe σ2 vs = wipe σ vs ∧ tt σ2 H2 fun b H3 => if b = true then te σ2 H3 Ny else Nn H3)
    (hd : ∀ (H' : Hp) (ws : List V), Same H1 H' → H' D = some (.lst ws) → DtA (D :: B) H' ws ((List.range n).filterMap e) → Qd H') :
    ∃ W : Nat → Nat → Hp → Prop, (∃ m, W 0 m (upd H1 D (.lst []))) ∧ ∀ i m H, W i m H →
      (J.stop i H ∧ Qd H) ∨ (J.go i H ∧ ∃ Nx : Hp → Prop, (∀ H', Nx H' → ∃ m', m' < m ∧ W (i + 1) m' H') ∧ ∀ x H', J.yld i H x H' → g x (wipe σ vs) H' fun σ2 H2 => wipe σ2 vs = wipe σ vs ∧ tt σ2 H2 fun b H3 =>
        if b = true then te σ2 H3 fun y H4 => ∃ acc, H4 D = some (.lst acc) ∧ acc.length < sizeLine ∧ Nx (upd H4 D (.lst (acc ++ [y]))) else Nx H3) := by
  refine lc_it w (fun i H' => Same H1 H' ∧ ∃ ws, H' D = some (.lst ws) ∧ DtA (D :: B) H' ws ((List.range i).filterMap e) ∧ ws.length ≤ i) ⟨sm_new hD, [], upd_same, .nil, Nat.le_refl _⟩ (fun i H' _ h => hG H' h.1) (fun i x H' H'' hi h y => ?_) (fun H' h => ?_)
  · obtain ⟨s1, ws, eD, hA, hl⟩ := h
    have hb : Bk (D :: B) H' := (hB.go (Go.of (B := B) s1)).cons eD
    refine hs i x H' H'' _ _ hi s1 hb y (fun y H4 d ed s4 hy => ?_) (fun H3 ed s3 => ?_)
    · refine ⟨ws, s4 _ _ eD, sz (by omega), sm_mut (s1.trans s4) hD, ws ++ [y], upd_same, ?_, by simp; omega⟩
      rw [List.range_succ, List.filterMap_append]
      have g4 : Go (D :: B) H4 (upd H4 D (.lst (ws ++ [y]))) := Go.refl.at (List.mem_cons_self ..)
      refine DtA.app ((hA.s s4).g g4) ?_
      simp only [List.filterMap_cons, List.filterMap_nil, ed]
      exact .one (hy.g g4)
    · refine ⟨s1.trans s3, ws, s3 _ _ eD, ?_, by omega⟩
      rw [List.range_succ, List.filterMap_append]
      simp only [List.filterMap_cons, List.filterMap_nil, ed, List.append_nil]
      exact hA.s s3
  · obtain ⟨s1, ws, eD, hA, hl⟩ := h
    exact hd H' ws s1 eD hA
theorem fm_take {α : Type} (ys : List α) : ∀ n, (List.range n).filterMap (fun i => ys[i]?) = ys.take n
  | 0 => by simp
  | n + 1 => by
    rw [List.range_succ, List.filterMap_append, fm_take ys n, List.take_add_one]
    cases h : ys[n]? <;> simp [h]
theorem fm_all {α : Type} {ys : List α} {n : Nat} (h : ys.length = n) : (List.range n).filterMap (fun i => ys[i]?) = ys := by
  rw [fm_take, ← h, List.take_length]
theorem at0 {α : Type} {xs : List α} {i : Int} {v : α} (h : 0 ≤ i) (e : xs[i.toNat]? = some v) : atI xs i = some v := by
  have := atI_nat e
  rw [Int.toNat_of_nonneg h] at this
  exact this
theorem bit_ok (b : Bool) : (-(2 ^ 64) : Int) < (if b = true then 1 else 0) ∧ (if b = true then 1 else 0 : Int) < 2 ^ 64 := by cases b <;> decide
theorem md {j : Int} (h : 0 < j) : 0 < j := h
theorem at_in {xs : List V} {r : Int} (h0 : 0 ≤ r) (h1 : r < xs.length) : ∃ v, v ∈ xs ∧ atI xs r = some v := by
  have h : r.toNat < xs.length := by omega
  exact ⟨xs[r.toNat], List.getElem_mem h, at0 h0 (List.getElem?_eq_getElem h)⟩
theorem at_int {ns : List Int} {r : Int} (h0 : 0 ≤ r) (h1 : r < ns.length) : ∃ z, z ∈ ns ∧ atI (ns.map V.int) r = some (.int z) := by
  have h : r.toNat < ns.length := by omega
  exact ⟨ns[r.toNat], List.getElem_mem h, at0 h0 (by rw [List.getElem?_map, List.getElem?_eq_getElem h]; rfl)⟩
theorem at2 (x y : V) (b : Bool) : atI [x, y] (if b = true then 1 else 0) = some (if b = true then y else x) := by cases b <;> rfl
/-- numbers within bounds -/
def cIn (lo hi : Int) (ns : List Int) : Prop := ∀ x ∈ ns, lo ≤ x ∧ x ≤ hi
theorem cIn.app {lo hi x : Int} {ns : List Int} (h : cIn lo hi ns) (h1 : lo ≤ x) (h2 : x ≤ hi) : cIn lo hi (ns ++ [x]) := fun y hy => by
  rcases List.mem_append.mp hy with q | q
  · exact h y q
  · rw [List.mem_singleton.mp q]
    exact ⟨h1, h2⟩
theorem cIn.nil {lo hi : Int} : cIn lo hi [] := fun _ h => nomatch h
theorem cIn.mono {lo hi lo' hi' : Int} {ns : List Int} (h : cIn lo hi ns) (h1 : lo' ≤ lo) (h2 : hi ≤ hi') : cIn lo' hi' ns := fun x hx => by
  have := h x hx
  omega
/-- a comprehension of drawn numbers -/
theorem lc_ints {J : It} {n : Nat} {G : Hp → Prop} {Y : Nat → Hp → V → Hp → Prop} (w : Walk J n G Y) {g : TG} {tt : TT} {te : TE} {vs : List Nat} {σ : L2.St} {H1 : Hp} {D L : Addr} {Qd : Hp → Prop} (N u : Nat) (lo hi : Int)
    (hD : H1 D = none) (hL : Lf L H1 N) (hG : ∀ H', Go [L] H1 H' → G H') (hn : n ≤ 100000)
    (hs : ∀ (i : Nat) (x : V) (H' H'' : Hp) (Ny : V → Hp → Prop) (Nn : Hp → Prop), i < n → Go [L] H1 H' → Lf L H' (N + u * i) → Y i H' x H'' → (∀ (z : Int) H4, Go [L] H' H4 → Lf L H4 (N + u * i + u) → lo ≤ z → z ≤ hi → Ny (.int z) H4) →
      g x (wipe σ vs) H'' fun σ2 H2 => wipe σ2 vs = wipe σ vs ∧ tt σ2 H2 fun b H3 => if b = true then te σ2 H3 Ny else Nn H3)
    (hd : ∀ (H' : Hp) (ns : List Int), Go [L] H1 H' → Lf L H' (N + u * n) → H' D = some (.lst (ns.map V.int)) → ns.length = n → cIn lo hi ns → Qd H') :
    ∃ W : Nat → Nat → Hp → Prop, (∃ m, W 0 m (upd H1 D (.lst []))) ∧ ∀ i m H, W i m H →
      (J.stop i H ∧ Qd H) ∨ (J.go i H ∧ ∃ Nx : Hp → Prop, (∀ H', Nx H' → ∃ m', m' < m ∧ W (i + 1) m' H') ∧ ∀ x H', J.yld i H x H' → g x (wipe σ vs) H' fun σ2 H2 => wipe σ2 vs = wipe σ vs ∧ tt σ2 H2 fun b H3 =>
        if b = true then te σ2 H3 fun y H4 => ∃ acc, H4 D = some (.lst acc) ∧ acc.length < sizeLine ∧ Nx (upd H4 D (.lst (acc ++ [y]))) else Nx H3) := by
  have nD : D ∉ [L] := hL.bk.ne hD
  refine lc_it w (fun i H' => Go [L] H1 H' ∧ Lf L H' (N + u * i) ∧ ∃ ns : List Int, H' D = some (.lst (ns.map V.int)) ∧ ns.length = i ∧ cIn lo hi ns) ⟨Go.new hD, hL.new hD, [], upd_same, rfl, cIn.nil⟩ (fun i H' _ h => hG H' h.1) (fun i x H' H'' hi h y => ?_) (fun H' h => ?_)
  · obtain ⟨g1, l1, ns, eD, en, cn⟩ := h
    refine hs i x H' H'' _ _ hi g1 l1 y (fun z H4 g4 l4 z0 z1 => ?_)
    refine ⟨ns.map V.int, g4.k D _ nD eD, sz (by rw [List.length_map]; omega), (g1.trans g4).mut hD, (l4.up (hL.ne hD)).mono (by rw [Nat.mul_succ]; omega), ns ++ [z], ?_, by simp; omega, cn.app z0 z1⟩
    rw [upd_same, List.map_append]
    rfl
  · obtain ⟨g1, l1, ns, eD, en, cn⟩ := h
    exact hd H' ns g1 l1 eD en cn
theorem mat {a : List Int} {i : Nat} {x : V} (h : i < a.length) (e : (a.map V.int)[i]? = some x) : x = .int a[i] := by
  rw [List.getElem?_map, List.getElem?_eq_getElem h] at e
  exact (Option.some.inj e).symm
end Z

set_option Elab.async false
set_option linter.all false
set_option maxRecDepth 100000
namespace Z
open PySem PySem.Spec PyProof.Rows L2
open PySem.W (dataLt minD alike alikeAll dataLt_tuple dataLt_all_yes dataLt_all_no dataLt_int min_list_data readsAll_at reads_keeps AlikeAll)
/-! ### the least of pairs -/
def enc (p : Int × Int) : PyData := eC [p.1, p.2]
theorem enc_inj {p q : Int × Int} (h : enc p = enc q) : p = q := by
  have h1 : [PyData.int p.1, PyData.int p.2] = [PyData.int q.1, PyData.int q.2] := by
    unfold enc eC at h
    exact PyData.tuple.inj h
  have h2 := (List.cons.inj h1)
  have h3 := (List.cons.inj h2.2)
  exact Prod.ext (PyData.int.inj h2.1) (PyData.int.inj h3.1)
theorem lt_enc (p q : Int × Int) : dataLt (enc p) (enc q) = SrtO.lexB p q := by
  unfold enc eC
  rw [dataLt_tuple]
  simp only [List.map_cons, List.map_nil]
  unfold SrtO.lexB
  by_cases h : p.1 = q.1
  · rw [if_pos h, dataLt_all_yes (by rfl) (by simp [PyData.eqv, h])]
    by_cases h2 : p.2 = q.2
    · rw [dataLt_all_yes (by rfl) (by simp [PyData.eqv, h2]), decide_eq_false (by omega)]
      rfl
    · rw [dataLt_all_no (by rfl) (by simp [PyData.eqv, h2]), dataLt_int]
  · rw [if_neg h, dataLt_all_no (by rfl) (by simp [PyData.eqv, h]), dataLt_int]
def minP (p : Int × Int) (ps : List (Int × Int)) : Int × Int := ps.foldl (fun a y => if SrtO.lexB y a then y else a) p
theorem minD_enc (p : Int × Int) (ps : List (Int × Int)) : minD (enc p) (ps.map enc) = enc (minP p ps) := by
  unfold minD minP
  induction ps generalizing p with
  | nil => rfl
  | cons x r ih =>
    rw [List.map_cons, List.foldl_cons, List.foldl_cons, lt_enc]
    by_cases h : SrtO.lexB x p = true
    · rw [if_pos h, if_pos h]; exact ih x
    · rw [if_neg h, if_neg h]; exact ih p
theorem minP_le (p : Int × Int) (ps : List (Int × Int)) : ∀ q ∈ p :: ps, SrtO.lexB q (minP p ps) = false := by
  unfold minP
  induction ps generalizing p with
  | nil =>
    intro q hq
    rw [List.mem_singleton.mp hq]
    exact SrtO.lexB_no.mpr (by simp only [List.foldl_nil]; omega)
  | cons x r ih =>
    intro q hq
    rw [List.foldl_cons]
    by_cases h : SrtO.lexB x p = true
    · rw [if_pos h]
      rcases List.mem_cons.mp hq with e | e
      · have i1 := SrtO.lexB_no.mp (ih x x (List.mem_cons_self ..))
        have i2 := SrtO.lexB_iff.mp h
        rw [e]
        exact SrtO.lexB_no.mpr (by omega)
      · exact ih x q e
    · rw [if_neg h]
      rcases List.mem_cons.mp hq with e | e
      · exact ih p q (by rw [e]; exact List.mem_cons_self ..)
      · rcases List.mem_cons.mp e with e | e
        · have i1 := SrtO.lexB_no.mp (ih p p (List.mem_cons_self ..))
          have i2 := SrtO.lexB_no.mp (Bool.eq_false_iff.mpr h)
          rw [e]
          exact SrtO.lexB_no.mpr (by omega)
        · exact ih p q (List.mem_cons_of_mem _ e)
theorem alike_enc (p q : Int × Int) : alike (enc p) (enc q) = true := by
  unfold enc eC
  simp [alike, alikeAll]
theorem dep_enc : ∀ ps : List (Int × Int), PyData.depthAll (ps.map enc) ≤ 1
  | [] => Nat.zero_le _
  | p :: ps => by
    rw [List.map_cons, PyData.depthAll]
    exact Nat.max_le.mpr ⟨(sh_eC (ns := [p.1, p.2]) (by simp)).2.1, dep_enc ps⟩
/-- min(xs), xs a list of pairs of ints: one of the least -/
def rMinP (K : PySem.W.Frag) : List V → Hp → VK → Prop := fun vs H Q => ∃ (a : Addr) (xs : List V) (p : Int × Int) (ps : List (Int × Int)), vs = [V.ref a] ∧ SqL K H a xs ∧ DpAll K H xs ((p :: ps).map enc) ∧
  ∀ (i : Nat) (x : V), xs[i]? = some x → (p :: ps)[i]? = some (minP p ps) → Q x H
theorem cr_minP (K : PySem.W.Frag) {X : Cx} (hc : X.calm = true) (hu : X.A.units + 64 < cLine) (hK : X.K = K := by rfl) : CallR X (.builtin "min") (rMinP K) := by
  subst hK
  intro pins s σ H vs us Q I r h
  obtain ⟨a, xs, p, ps, rfl, hs, hd, q⟩ := h
  obtain ⟨its, rv, hl, hz⟩ := I.list hs
  obtain ⟨u, rfl, ru⟩ := vals1 r
  obtain rfl : u = Value.ref a := ru
  obtain ⟨as, hr⟩ := Dp.readsAll I _ xs its hd rv
  rw [List.map_cons] at hr
  have hdep := dep_enc (p :: ps)
  rw [List.map_cons] at hdep
  refine min_list_data (x := enc p) (xs := ps.map enc) (I.ok.hd hc) hl.isList (by simpa using hr) ⟨fun x hx y hy => ?_, fun x hx => ?_⟩ (by omega) fun i v h' tk bs hv rd hk => ?_
  · rw [← List.map_cons] at hx hy
    obtain ⟨x, _, rfl⟩ := List.mem_map.mp hx
    obtain ⟨y, _, rfl⟩ := List.mem_map.mp hy
    exact alike_enc x y
  · rw [← List.map_cons] at hx
    obtain ⟨x, _, rfl⟩ := List.mem_map.mp hx
    intro z
    unfold enc eC at z
    cases z
  · have hv2 : its[i]? = some v := by simpa using hv
    have hi : i < its.length := (List.getElem?_eq_some_iff.mp hv2).1
    have hi2 : i < xs.length := by rw [rv.length]; exact hi
    obtain ⟨w, hw, rw1⟩ := rv.get (List.getElem?_eq_getElem hi2)
    have ew : w = v := Option.some.inj (hw.symm.trans hv2)
    subst ew
    obtain ⟨cs, r1, l1, m1, _⟩ := readsAll_at hr i w hv2
    rw [← List.map_cons] at l1 m1 r1
    rw [List.length_map] at l1
    have eg : ((p :: ps).map enc).getD i .none = enc (p :: ps)[i] := by
      rw [List.getD_eq_getElem?_getD, List.getElem?_map, List.getElem?_eq_getElem l1]
      rfl
    rw [eg] at r1
    rw [minD_enc] at rd
    have ee := SeqAt.Reads.unique _ _ _ _ _ (sh_eC (ns := [((p :: ps)[i]).1, ((p :: ps)[i]).2]) (by simp)).1 (reads_keeps hk r1) rd
    have ep : (p :: ps)[i] = minP p ps := enc_inj ee
    exact ⟨xs[i], H, I.kept (t' := tk) hk, rw1, q i _ (List.getElem?_eq_getElem hi2) (by rw [List.getElem?_eq_getElem l1, ep])⟩
theorem DtA.rev {B : List Addr} {H : Hp} : ∀ {vs : List V} {ds : List PyData}, DtA B H vs ds → DtA B H vs.reverse ds.reverse
  | [], _, h => by
    cases h
    exact .nil
  | v :: vs, _, h => by
    cases h with
    | cons h1 h2 =>
      rw [List.reverse_cons, List.reverse_cons]
      exact (DtA.rev h2).app (.one h1)
theorem DtA.dP {K : PySem.W.Frag} {B : List Addr} {H : Hp} {vs : List V} {ds : List PyData} (h : DtA B H vs ds) : DpAll K H vs ds := DtA.dp ds vs h
/-- a comprehension of drawn data -/
theorem lc_dtsB {J : It} {n : Nat} {G : Hp → Prop} {Y : Nat → Hp → V → Hp → Prop} (w : Walk J n G Y) {g : TG} {tt : TT} {te : TE} {vs : List Nat} {σ : L2.St} {H1 : Hp} {D L : Addr} {B : List Addr} {Qd : Hp → Prop} (N u : Nat) (Pd : PyData → Prop)
    (hD : H1 D = none) (hL : Lf L H1 N) (LB : L ∈ B) (hB : Bk B H1) (hG : ∀ H', Go [L] H1 H' → G H') (hn : n ≤ 100000)
    (hs : ∀ (i : Nat) (x : V) (H' H'' : Hp) (Ny : V → Hp → Prop) (Nn : Hp → Prop), i < n → Go [L] H1 H' → Lf L H' (N + u * i) → Bk (D :: B) H' → Y i H' x H'' → (∀ (v : V) (d : PyData) H4, Go [L] H' H4 → Lf L H4 (N + u * i + u) → Dt (D :: B) H4 v d → Pd d → Ny v H4) →
      g x (wipe σ vs) H'' fun σ2 H2 => wipe σ2 vs = wipe σ vs ∧ tt σ2 H2 fun b H3 => if b = true then te σ2 H3 Ny else Nn H3)
    (hd : ∀ (H' : Hp) (ws : List V) (ds : List PyData), Go [L] H1 H' → Lf L H' (N + u * n) → H' D = some (.lst ws) → DtA (D :: B) H' ws ds → ds.length = n → (∀ d ∈ ds, Pd d) → Qd H') :
    ∃ W : Nat → Nat → Hp → Prop, (∃ m, W 0 m (upd H1 D (.lst []))) ∧ ∀ i m H, W i m H →
      (J.stop i H ∧ Qd H) ∨ (J.go i H ∧ ∃ Nx : Hp → Prop, (∀ H', Nx H' → ∃ m', m' < m ∧ W (i + 1) m' H') ∧ ∀ x H', J.yld i H x H' → g x (wipe σ vs) H' fun σ2 H2 => wipe σ2 vs = wipe σ vs ∧ tt σ2 H2 fun b H3 =>
        if b = true then te σ2 H3 fun y H4 => ∃ acc, H4 D = some (.lst acc) ∧ acc.length < sizeLine ∧ Nx (upd H4 D (.lst (acc ++ [y]))) else Nx H3) := by
  have nD : D ∉ [L] := hL.bk.ne hD
  refine lc_it w (fun i H' => Go [L] H1 H' ∧ Lf L H' (N + u * i) ∧ ∃ ws ds, H' D = some (.lst ws) ∧ DtA (D :: B) H' ws ds ∧ ds.length = i ∧ ∀ d ∈ ds, Pd d) ⟨Go.new hD, hL.new hD, [], [], upd_same, .nil, rfl, fun _ h => (nomatch h)⟩ (fun i H' _ h => hG H' h.1) (fun i x H' H'' hi h y => ?_) (fun H' h => ?_)
  · obtain ⟨g1, l1, ws, ds, eD, hA, en, hp⟩ := h
    refine hs i x H' H'' _ _ hi g1 l1 ((hB.go g1).cons eD) y (fun z d H4 g4 l4 dz pd => ?_)
    have gm : Go (D :: B) H4 (upd H4 D (.lst (ws ++ [z]))) := Go.refl.at (List.mem_cons_self ..)
    have lw := hA.len
    refine ⟨ws, g4.k D _ nD eD, sz (by omega), (g1.trans g4).mut hD, (l4.up (hL.ne hD)).mono (by rw [Nat.mul_succ]; omega), ws ++ [z], ds ++ [d], upd_same, ((hA.g (g4.w1 (List.mem_cons_of_mem _ LB))).g gm).app (.one (dz.g gm)), by simp; omega, fun e he => ?_⟩
    rcases List.mem_append.mp he with he | he
    · exact hp e he
    · rw [List.mem_singleton.mp he]
      exact pd
  · obtain ⟨g1, l1, ws, ds, eD, hA, en, hp⟩ := h
    exact hd H' ws ds g1 l1 eD hA en hp
/-- a part of a list -/
def cutL {α : Type} (xs : List α) (lo hi : Option Int) : List α := (xs.drop (HT.sIx xs.length 0 lo)).take (HT.sIx xs.length xs.length hi - HT.sIx xs.length 0 lo)
theorem cutL_sub {α : Type} {xs : List α} {lo hi : Option Int} {x : α} (h : x ∈ cutL xs lo hi) : x ∈ xs := List.mem_of_mem_drop (List.mem_of_mem_take h)
theorem cutL_len {α : Type} (xs : List α) (lo hi : Option Int) : (cutL xs lo hi).length ≤ xs.length := by
  unfold cutL
  rw [List.length_take, List.length_drop]
  omega
theorem DtA.drop {B : List Addr} {H : Hp} : ∀ (n : Nat) {vs : List V} {ds : List PyData}, DtA B H vs ds → DtA B H (vs.drop n) (ds.drop n)
  | 0, _, _, h => h
  | n + 1, [], _, h => by cases h; exact .nil
  | n + 1, v :: vs, _, h => by
    cases h with
    | cons h1 h2 => exact DtA.drop n h2
theorem DtA.take {B : List Addr} {H : Hp} : ∀ (n : Nat) {vs : List V} {ds : List PyData}, DtA B H vs ds → DtA B H (vs.take n) (ds.take n)
  | 0, _, _, h => .nil
  | n + 1, [], _, h => by cases h; exact .nil
  | n + 1, v :: vs, _, h => by
    cases h with
    | cons h1 h2 => exact .cons h1 (DtA.take n h2)
theorem DtA.cut {B : List Addr} {H : Hp} {vs : List V} {ds : List PyData} (h : DtA B H vs ds) (lo hi : Option Int) : DtA B H (cutV vs lo hi) (cutL ds lo hi) := by
  unfold cutV cutL
  rw [h.len]
  exact DtA.take _ (DtA.drop _ h)
theorem slice_dt {K : PySem.W.Frag} {B : List Addr} {H : Hp} {x : V} {ds : List PyData} {lo hi : Option Int} {Q : VK} (hx : Dt B H x (.tuple ds)) (hB : Bk B H) (q : ∀ v H', Same H H' → Dt B H' v (.tuple (cutL ds lo hi)) → Q v H') : rSlA K x lo hi H Q := by
  obtain ⟨a, vs, rfl, na, ha, hA⟩ := hx.tupI
  refine ⟨a, vs, rfl, SqT.of ha, fun h => q _ H (Same.refl _) ?_, fun _ p hp => q _ _ (sm_new hp) (.tup (hB.ne hp) upd_same ((hA.cut lo hi).s (sm_new hp)))⟩
  have e : cutL ds lo hi = ds := by
    unfold cutL
    rw [← hA.len, h.1, h.2, List.drop_zero, Nat.sub_zero, hA.len, List.take_length]
  rw [e]
  exact hx
theorem cat_dt {K : PySem.W.Frag} {B : List Addr} {H : Hp} {x y : V} {xs ys : List PyData} {Q : VK} (hx : Dt B H x (.tuple xs)) (hy : Dt B H y (.tuple ys)) (hB : Bk B H) (l : xs.length + ys.length ≤ 100000) (q : ∀ v H', Same H H' → Dt B H' v (.tuple (xs ++ ys)) → Q v H') : rCatA K x y H Q := by
  obtain ⟨a, vs, rfl, na, ha, hA⟩ := hx.tupI
  obtain ⟨b, ws, rfl, nb, hb, hC⟩ := hy.tupI
  have l1 := hA.len
  have l2 := hC.len
  refine ⟨a, b, vs, ws, rfl, rfl, SqT.of ha, SqT.of hb, Nat.le_of_lt (sz (by omega)), fun e => ?_, fun _ e => ?_, fun _ _ p hp => q _ _ (sm_new hp) (.tup (hB.ne hp) upd_same ((hA.app hC).s (sm_new hp)))⟩
  · subst e
    have : xs = [] := List.eq_nil_of_length_eq_zero (by rw [← l1]; rfl)
    subst this
    exact q _ H (Same.refl _) hy
  · subst e
    have : ys = [] := List.eq_nil_of_length_eq_zero (by rw [← l2]; rfl)
    subst this
    exact q _ H (Same.refl _) (by rw [List.append_nil]; exact hx)
theorem sh_cut {ds : List PyData} {k : Nat} {lo hi : Option Int} (h : Sh (.tuple ds) k) : Sh (.tuple (cutL ds lo hi)) k := by
  obtain ⟨j, rfl, h1, h2⟩ := h.tupI
  exact sh_tup (Nat.le_trans (cutL_len _ _ _) h2) fun d hd => h1 d (cutL_sub hd)
theorem sh_cat {xs ys : List PyData} {k : Nat} (h1 : Sh (.tuple xs) k) (h2 : Sh (.tuple ys) k) (l : xs.length + ys.length ≤ 100000) : Sh (.tuple (xs ++ ys)) k := by
  obtain ⟨j, rfl, a1, a2⟩ := h1.tupI
  obtain ⟨j', e, b1, b2⟩ := h2.tupI
  have : j = j' := by omega
  subst this
  exact sh_tup (by simpa using l) fun d hd => by
    rcases List.mem_append.mp hd with h | h
    · exact a1 d h
    · exact b1 d h
end Z

set_option Elab.async false
set_option linter.all false
set_option maxRecDepth 100000
namespace Z
open PySem PySem.Spec PyProof.Rows L2
/-! ### zip of three tuples -/
def It3 (K : PySem.W.Frag) (a b c : Addr) : It where
  go := fun i H => ∃ (xs ys ts : List V) (x y t : V), (SqT K H a xs ∧ SqT K H b ys ∧ SqT K H c ts) ∧ xs[i]? = some x ∧ ys[i]? = some y ∧ ts[i]? = some t
  yld := fun i H v H' => ∃ (T : Addr) (x y t : V), v = .ref T ∧ H T = none ∧ H' = upd H T (.tup [x, y, t]) ∧ (∀ l, SqT K H a l → l[i]? = some x) ∧ (∀ l, SqT K H b l → l[i]? = some y) ∧ ∀ l, SqT K H c l → l[i]? = some t
  stop := fun i H => ∃ xs ys ts : List V, (SqT K H a xs ∧ SqT K H b ys ∧ SqT K H c ts) ∧ i ≤ xs.length ∧ i ≤ ys.length ∧ i ≤ ts.length ∧ (i = xs.length ∨ i = ys.length ∨ i = ts.length)
def own3 (z TI TO i1 i2 i3 : Addr) : List Addr := [z, TI, TO, i1, i2, i3]
def at3 (a b c z TI TO i1 i2 i3 : Addr) (i : Nat) (h : Heap) : Prop :=
  IsZip h z TI TO .none ∧ IsTupOf3 h TI (.ref i1) (.ref i2) (.ref i3) ∧ (∃ x y t, IsTupOf3 h TO x y t) ∧ h.IsTupleIter i1 a i ∧ h.IsTupleIter i2 b i ∧ h.IsTupleIter i3 c i
theorem six {z TI TO i1 i2 i3 q : Addr} (h : q ∈ own3 z TI TO i1 i2 i3) : q = z ∨ q = TI ∨ q = TO ∨ q = i1 ∨ q = i2 ∨ q = i3 := by
  simpa [own3] using h
theorem ne_it {h : Heap} {t it l : Addr} {items : Array Value} {i : Nat} (p : h.IsTuple t items) (q : h.IsTupleIter it l i) : t ≠ it := fun e => by
  obtain ⟨o, ho, hcl, _⟩ := p
  obtain ⟨o', ho', hcl', _⟩ := q
  rw [e, ho'] at ho
  have eo := Option.some.inj ho
  rw [eo, hcl] at hcl'
  exact absurd (Value.type.inj hcl') (by decide)
set_option maxHeartbeats 1000000 in
theorem turn3 {P : Program} {w : World} {K : PySem.W.Frag} {elts : List Expr} {kk : Nat} {tpos : Pos} {a b c z TI TO i1 i2 i3 : Addr} (D : ZipSep3 z TI TO i1 i2 i3 [i1, a] [i2, b] [i3, c]) :
    Turn P w K (.Tuple elts kk tpos) (It3 K a b c) (own3 z TI TO i1 i2 i3) z (at3 a b c z TI TO i1 i2 i3) := by
  refine ⟨by simp [own3], fun i h st q hq => ?_, fun i h h' st k => ?_, ?_, ?_, fun A i s Q E st h => wpAny_pyIter_zip st.1 h⟩
  · obtain ⟨hz, hTI, ⟨x, y, t, hTO⟩, ⟨o1, e1, _, d1⟩, ⟨o2, e2, _, d2⟩, ⟨o3, e3, _, d3⟩⟩ := st
    rcases six hq with rfl | rfl | rfl | rfl | rfl | rfl
    · exact ⟨_, hz, fun v q => nomatch q⟩
    · exact ⟨_, hTI, fun v q => nomatch q⟩
    · exact ⟨_, hTO, fun v q => nomatch q⟩
    · exact ⟨o1, e1, fun v q => by rw [d1] at q; cases q⟩
    · exact ⟨o2, e2, fun v q => by rw [d2] at q; cases q⟩
    · exact ⟨o3, e3, fun v q => by rw [d3] at q; cases q⟩
  · obtain ⟨hz, hTI, ⟨x, y, t, hTO⟩, h1, h2, h3⟩ := st
    exact ⟨k z (by simp [own3]) _ hz, k TI (by simp [own3]) _ hTI, ⟨x, y, t, k TO (by simp [own3]) _ hTO⟩, h1.at fun o q => k i1 (by simp [own3]) o q, h2.at fun o q => k i2 (by simp [own3]) o q, h3.at fun o q => k i3 (by simp [own3]) o q⟩
  · intro X hP hw hK hc i pins s σ H E I hf st hg
    subst hP hw hK
    obtain ⟨hz, hTI, ⟨x0, y0, t0, hTO⟩, h1, h2, h3⟩ := st
    obtain ⟨xs, ys, ts, x, y, t, ⟨qx, qy, qt⟩, fx, fy, ft⟩ := hg
    obtain ⟨js1, r1, p1, _⟩ := I.tuple qx
    obtain ⟨js2, r2, p2, _⟩ := I.tuple qy
    obtain ⟨js3, r3, p3, _⟩ := I.tuple qt
    obtain ⟨u1, f1, m1⟩ := r1.get fx
    obtain ⟨u2, f2, m2⟩ := r2.get fy
    obtain ⟨u3, f3, m3⟩ := r3.get ft
    have lz : z < s.heap.objs.size := Heap.lt_size hz
    have hd := I.ok.hd hc
    have n1 : a ≠ i1 := ne_it p1 h1
    have n2 : b ≠ i2 := ne_it p2 h2
    have n3 : c ≠ i3 := ne_it p3 h3
    have k1 : i < js1.toArray.size := by have := (List.getElem?_eq_some_iff.mp f1).1; simpa using this
    have k2 : i < js2.toArray.size := by have := (List.getElem?_eq_some_iff.mp f2).1; simpa using this
    have k3 : i < js3.toArray.size := by have := (List.getElem?_eq_some_iff.mp f3).1; simpa using this
    refine wpAny_pyNext_zipD3_item D (Draws.tuple (A := X.A.in1) hd i1 a n1 js1.toArray) (Draws.tuple (A := X.A.in1) hd i2 b n2 js2.toArray) (Draws.tuple (A := X.A.in1) hd i3 c n3 js3.toArray) hz hTI hTO ⟨h1, p1⟩ ⟨h2, p2⟩ ⟨h3, p3⟩ k1 k2 k3 fun x1 x2 x3 h' tk e1 e2 e3 z' TO' st1 st2 st3 hT hsz hk => ?_
    have w1 : x1 = u1 := Option.some.inj (e1.symm.trans (by simpa using f1))
    have w2 : x2 = u2 := Option.some.inj (e2.symm.trans (by simpa using f2))
    have w3 : x3 = u3 := Option.some.inj (e3.symm.trans (by simpa using f3))
    subst w1 w2 w3
    refine ⟨_, rfl, wpAny_letOwnedTupleGo_zip (s := { s with heap := h', toks := tk }) z' fun h'' z'' sb => ?_⟩
    have up : ∀ q o, q ≠ z → h'.get? q = some o → h''.get? q = some o := fun q o n e => (sb.2 q n).trans e
    have hT2 := up _ _ (Nat.ne_of_gt lz) hT
    have fresh : H s.heap.objs.size = none := I.hok.fresh (Nat.le_refl _)
    have new : ObjOk X.prog X.w (upd H s.heap.objs.size (.tup [x, y, t])) h'' s.heap.objs.size (.tup [x, y, t]) :=
      ⟨by show 3 ≤ sizeLine; decide, [x1, x2, x3], .cons m1 (.cons m2 (.cons m3 .nil)), ⟨_, hT2, rfl, _, rfl⟩⟩
    have kp : ∀ q o, q ∉ own3 z TI TO i1 i2 i3 → s.heap.get? q = some o → h''.get? q = some o := fun q o nq e => by
      have nz : q ≠ z := fun y => nq (by simp [own3, y])
      refine up q o nz (hk q o nz (fun y => nq (by simp [own3, y])) (fun y => nq (by simp [own3, y])) (fun y => nq (by simp [own3, y])) (fun y => nq (by simp [own3, y])) e)
    have zi : ∀ {j : Addr} {fp : List Addr}, j ∈ fp → z ∉ fp → j ≠ z := fun hj hz e => hz (by rw [← e]; exact hj)
    refine ⟨.ref s.heap.objs.size, _, I.turnedNew (t' := tk) (ch := own3 z TI TO i1 i2 i3) kp hf (Nat.le_refl _) new, rfl, ⟨_, x, y, t, rfl, fresh, rfl, fun l hl => by rw [I.tuple_inj hl qx]; exact fx, fun l hl => by rw [I.tuple_inj hl qy]; exact fy, fun l hl => by rw [I.tuple_inj hl qt]; exact ft⟩, ⟨z'', ?_, ⟨x1, x2, x3, up _ _ D.TOz TO'⟩, ?_, ?_, ?_⟩, fun q hq => ?_⟩
    · exact up _ _ D.TIz (hk _ _ D.TIz D.TITO D.TIi1 D.TIi2 D.TIi3 hTI)
    · exact st1.1.at fun o e => up _ _ (zi D.mem1 D.zf1) e
    · exact st2.1.at fun o e => up _ _ (zi D.mem2 D.zf2) e
    · exact st3.1.at fun o e => up _ _ (zi D.mem3 D.zf3) e
    · have lq : q < s.heap.objs.size := by
        rcases six hq with rfl | rfl | rfl | rfl | rfl | rfl
        · exact lz
        · exact Heap.lt_size hTI
        · exact Heap.lt_size hTO
        · obtain ⟨_, e, _⟩ := h1; exact Heap.lt_size e
        · obtain ⟨_, e, _⟩ := h2; exact Heap.lt_size e
        · obtain ⟨_, e, _⟩ := h3; exact Heap.lt_size e
      rw [upd_ne (Nat.ne_of_lt lq)]
      exact (hf q hq).1
  · intro X hP hw hK hc i pins s σ H E I hf st hg
    subst hP hw hK
    obtain ⟨hz, hTI, ⟨x0, y0, t0, hTO⟩, h1, h2, h3⟩ := st
    obtain ⟨xs, ys, ts, ⟨qx, qy, qt⟩, b1, b2, b3, hend⟩ := hg
    obtain ⟨js1, r1, p1, _⟩ := I.tuple qx
    obtain ⟨js2, r2, p2, _⟩ := I.tuple qy
    obtain ⟨js3, r3, p3, _⟩ := I.tuple qt
    have hd := I.ok.hd hc
    have l1 := r1.length
    have l2 := r2.length
    have l3 := r3.length
    have n1 : a ≠ i1 := ne_it p1 h1
    have n2 : b ≠ i2 := ne_it p2 h2
    have n3 : c ≠ i3 := ne_it p3 h3
    refine wpAny_pyNext_zipD3_end D (Draws.tuple (A := X.A.in1) hd i1 a n1 js1.toArray) (Draws.tuple (A := X.A.in1) hd i2 b n2 js2.toArray) (Draws.tuple (A := X.A.in1) hd i3 c n3 js3.toArray) hz hTI hTO ⟨h1, p1⟩ ⟨h2, p2⟩ ⟨h3, p3⟩ (by simp; omega) (by simp; omega) (by simp; omega) (by simp; omega) fun h' tk hk => ?_
    exact ⟨rfl, I.turnedL (t' := tk) (ch := own3 z TI TO i1 i2 i3) (fun q o nq e => hk q o (fun y => nq (by simp [own3, y])) (fun y => nq (by simp [own3, y])) (fun y => nq (by simp [own3, y])) (fun y => nq (by simp [own3, y])) (fun y => nq (by simp [own3, y])) e) hf⟩
set_option maxHeartbeats 400000
def iZip3 (K : PySem.W.Frag) (ta : TA) : TI := fun σ H R => ta σ H fun vs H1 => ∃ a b c xs ys ts, vs = [.ref a, .ref b, .ref c] ∧ SqT K H1 a xs ∧ SqT K H1 b ys ∧ SqT K H1 c ts ∧ R (It3 K a b c) H1
theorem own_le {N y : Nat} (hy : y ∈ own3 (N + 5) (N + 3) (N + 4) N (N + 1) (N + 2)) : N ≤ y := by
  rcases six hy with z | z | z | z | z | z <;> rw [z]
  · exact Nat.le_add_right _ _
  · exact Nat.le_add_right _ _
  · exact Nat.le_add_right _ _
  · exact Nat.le_refl _
  · exact Nat.le_add_right _ _
  · exact Nat.le_add_right _ _
theorem zip3_end {X : Cx} {pins : List (Addr × Obj)} {σ : L2.St} {H1 : Hp} {s1 : Shared} {R : It → Hp → Prop} {a b c : Addr} {xs ys ts : List V} {elts : List Expr} {kk : Nat} {tpos : Pos} (I1 : Inv X pins σ H1 s1) (qx : SqT X.K H1 a xs) (qy : SqT X.K H1 b ys) (qt : SqT X.K H1 c ts) (q : R (It3 X.K a b c) H1) :
    wpAny (model X.prog X.w) X.A (call (.type "zip") [.ref a, .ref b, .ref c]) (fun v s2 => wpAny (model X.prog X.w) X.A (pyIter v) (PIE X pins σ (.Tuple elts kk tpos) R) X.xe s2) X.xe s1 := by
  obtain ⟨js1, m1, p1, _⟩ := I1.tuple qx
  obtain ⟨js2, m2, p2, _⟩ := I1.tuple qy
  obtain ⟨js3, m3, p3, _⟩ := I1.tuple qt
  have la : a < s1.heap.objs.size := by obtain ⟨_, o, _⟩ := p1; exact Heap.lt_size o
  have lb : b < s1.heap.objs.size := by obtain ⟨_, o, _⟩ := p2; exact Heap.lt_size o
  have lc : c < s1.heap.objs.size := by obtain ⟨_, o, _⟩ := p3; exact Heap.lt_size o
  refine zip_begins3 (begins_tuple a js1.toArray) (begins_tuple b js2.toArray) (begins_tuple c js3.toArray) p1 p2 p3 fun h' hz hTI hTO g1 g2 g3 hsz hk => wpAny_pyIter_zip hz ?_
  have one : ∀ {x : Addr}, x < s1.heap.objs.size → ∀ y ∈ [x], y < s1.heap.objs.size := fun hx y hy => by rw [List.mem_singleton.mp hy]; exact hx
  have I2 : Inv X pins σ H1 { s1 with heap := h' } := I1.kept (t' := s1.toks) hk
  have fr : ∀ y, s1.heap.objs.size ≤ y → FpOk X pins H1 y := fun y hle => I1.fpOk hle (I1.hok.fresh hle)
  have sp := zip_sep3 (one la) (one lb) (one lc)
  generalize s1.heap.objs.size = N at *
  exact ⟨N + 5, own3 (N + 5) (N + 3) (N + 4) N (N + 1) (N + 2), at3 a b c (N + 5) (N + 3) (N + 4) N (N + 1) (N + 2), It3 X.K a b c, H1, rfl, I2, turn3 sp, ⟨hz, hTI, ⟨_, _, _, hTO⟩, ⟨_, g1, rfl, rfl⟩, ⟨_, g2, rfl, rfl⟩, ⟨_, g3, rfl, rfl⟩⟩, fun y hy => fr y (own_le hy), q⟩
theorem pi_zip3 (K : PySem.W.Frag) {X : Cx} {e e2 e3 : Expr} {ta : TA} {p pos tpos : Pos} {elts : List Expr} {kk : Nat} (hg : Gl X "zip") (hm : X.mg "zip" = none) (ha : PA X [e, e2, e3] ta)
    (hs : starEach [e, e2, e3] X.env = (false, eval e X.env) :: starEach [e2, e3] X.env := by rfl) (hpl : (backTo pos (starEach [e2, e3] X.env)).any (·.1) = false := by rfl) (hK : X.K = K := by rfl) :
    PI X (.Tuple elts kk tpos) (.Call (.Name "zip" p) [e, e2, e3] [] pos) (iZip3 K ta) := by
  subst hK
  refine ⟨fun pins s σ H R I h => ?_⟩
  refine Call_ (ld_blt I hg hm PyProof.Rows.boot_zip (PyProof.Rows.callWith_type1 (thn (ha.run pos pins s σ H _ I h) fun us s1 ⟨vs, H1, I1, r1, q1⟩ => ?_) hs hpl))
  obtain ⟨a, b, c, xs, ys, ts, rfl, qx, qy, qt, q⟩ := q1
  obtain ⟨u1, us, rfl, ra, r1⟩ : ∃ u1 vs', us = u1 :: vs' ∧ RelV (.ref a) u1 ∧ Vals [.ref b, .ref c] vs' := by
    cases r1 with
    | cons x y => exact ⟨_, _, rfl, x, y⟩
  obtain ⟨u2, us, rfl, rb, r1⟩ : ∃ u1 vs', us = u1 :: vs' ∧ RelV (.ref b) u1 ∧ Vals [.ref c] vs' := by
    cases r1 with
    | cons x y => exact ⟨_, _, rfl, x, y⟩
  obtain ⟨u3, rfl, rc⟩ := vals1 r1
  cases (show u1 = Value.ref a from ra)
  cases (show u2 = Value.ref b from rb)
  cases (show u3 = Value.ref c from rc)
  exact zip3_end I1 qx qy qt q
def YTri (xs ys ts : List V) : Nat → Hp → V → Hp → Prop := fun i H v H' => ∃ T x y t, v = .ref T ∧ H T = none ∧ H' = upd H T (.tup [x, y, t]) ∧ xs[i]? = some x ∧ ys[i]? = some y ∧ ts[i]? = some t
theorem walk_zip3 {K : PySem.W.Frag} {a b c : Addr} {xs ys ts : List V} (h1 : ys.length = xs.length) (h2 : ts.length = xs.length) : Walk (It3 K a b c) xs.length (fun H => SqT K H a xs ∧ SqT K H b ys ∧ SqT K H c ts) (YTri xs ys ts) := by
  refine ⟨fun i H hi q => ⟨xs, ys, ts, xs[i], ys[i]'(by omega), ts[i]'(by omega), q, by simp [hi], by simp, by simp⟩, fun H q => ⟨xs, ys, ts, q, by omega, by omega, by omega, .inl rfl⟩, fun i H v H' _ q y => ?_⟩
  obtain ⟨T, x, z, t, e1, e2, e3, e4, e5, e6⟩ := y
  exact ⟨T, x, z, t, e1, e2, e3, e4 xs q.1, e5 ys q.2.1, e6 ts q.2.2⟩
end Z

set_option Elab.async false
set_option linter.all false
set_option maxRecDepth 100000
namespace Z
open PySem PySem.Spec PyProof.Rows L2
def topS (i : Nat) : Stmt := PySem.Challenge.pw_fewcolours_k02_what_boxes_are.main.body.getD i (.Pass ⟨0, 0, 0, 0⟩)
abbrev s_is_number : Stmt := topS 1
abbrev N_is_number : List Str := ["thing"]
theorem sc_is_number : FnScope N_is_number ["thing"] (defScope s_is_number) := ⟨rfl, rfl, rfl, by decide +kernel, rfl, by decide +kernel, by decide +kernel⟩
abbrev s_is_colour : Stmt := topS 2
abbrev N_is_colour : List Str := ["thing", "wide", "number"]
theorem sc_is_colour : FnScope N_is_colour ["thing", "wide"] (defScope s_is_colour) := ⟨rfl, rfl, rfl, by decide +kernel, rfl, by decide +kernel, by decide +kernel⟩
abbrev s_is_box : Stmt := topS 4
abbrev N_is_box : List Str := ["thing", "wide", "low", "high", "a", "b"]
theorem sc_is_box : FnScope N_is_box ["thing", "wide"] (defScope s_is_box) := ⟨rfl, rfl, rfl, by decide +kernel, rfl, by decide +kernel, by decide +kernel⟩
abbrev s_holds : Stmt := topS 5
abbrev N_holds : List Str := ["box", "colour", "low", "high", "a", "n", "b"]
theorem sc_holds : FnScope N_holds ["box", "colour"] (defScope s_holds) := ⟨rfl, rfl, rfl, by decide +kernel, rfl, by decide +kernel, by decide +kernel⟩
abbrev s_l_mix : Stmt := topS 7
abbrev N_l_mix : List Str := ["_law_cell", "_law_k", "_law_m"]
theorem sc_l_mix : FnScope N_l_mix ["_law_cell", "_law_k"] (defScope s_l_mix) := ⟨rfl, rfl, rfl, by decide +kernel, rfl, by decide +kernel, by decide +kernel⟩
abbrev s_l_left : Stmt := topS 8
abbrev N_l_left : List Str := ["_law_script", "_law_k", "_law_cell"]
theorem sc_l_left : FnScope N_l_left ["_law_script", "_law_k"] (defScope s_l_left) := ⟨rfl, rfl, rfl, by decide +kernel, rfl, by decide +kernel, by decide +kernel⟩
abbrev s_l_pick : Stmt := topS 9
abbrev N_l_pick : List Str := ["_law_left_here", "_law_many", "_law_digit"]
theorem sc_l_pick : FnScope N_l_pick ["_law_left_here", "_law_many"] (defScope s_l_pick) := ⟨rfl, rfl, rfl, by decide +kernel, rfl, by decide +kernel, by decide +kernel⟩
abbrev s_l_kind : Stmt := topS 10
abbrev N_l_kind : List Str := ["_law_left_here"]
theorem sc_l_kind : FnScope N_l_kind ["_law_left_here"] (defScope s_l_kind) := ⟨rfl, rfl, rfl, by decide +kernel, rfl, by decide +kernel, by decide +kernel⟩
abbrev s_l_colour : Stmt := topS 11
abbrev N_l_colour : List Str := ["_law_left_here", "_law_kind_here", "_law_wide", "_law_span", "_law_place"]
theorem sc_l_colour : FnScope N_l_colour ["_law_left_here", "_law_kind_here"] (defScope s_l_colour) := ⟨rfl, rfl, rfl, by decide +kernel, rfl, by decide +kernel, by decide +kernel⟩
abbrev s_l_same : Stmt := topS 12
abbrev N_l_same : List Str := ["_law_found", "_law_due", "_law_one", "_law_other"]
theorem sc_l_same : FnScope N_l_same ["_law_found", "_law_due"] (defScope s_l_same) := ⟨rfl, rfl, rfl, by decide +kernel, rfl, by decide +kernel, by decide +kernel⟩
abbrev s_l_odd : Stmt := topS 13
abbrev N_l_odd : List Str := ["_law_left_here", "_law_deep", "_law_way", "_law_some", "_law_inner", "_law_k"]
theorem sc_l_odd : FnScope N_l_odd ["_law_left_here", "_law_deep"] (defScope s_l_odd) := ⟨rfl, rfl, rfl, by decide +kernel, rfl, by decide +kernel, by decide +kernel⟩
abbrev s_l_is_number : Stmt := topS 14
abbrev N_l_is_number : List Str := ["_law_thing"]
theorem sc_l_is_number : FnScope N_l_is_number ["_law_thing"] (defScope s_l_is_number) := ⟨rfl, rfl, rfl, by decide +kernel, rfl, by decide +kernel, by decide +kernel⟩
abbrev s_l_is_colour : Stmt := topS 15
abbrev N_l_is_colour : List Str := ["_law_thing", "_law_wide", "_law_one"]
theorem sc_l_is_colour : FnScope N_l_is_colour ["_law_thing", "_law_wide"] (defScope s_l_is_colour) := ⟨rfl, rfl, rfl, by decide +kernel, rfl, by decide +kernel, by decide +kernel⟩
abbrev s_l_put_at : Stmt := topS 16
abbrev N_l_put_at : List Str := ["_law_row", "_law_k", "_law_thing"]
theorem sc_l_put_at : FnScope N_l_put_at ["_law_row", "_law_k", "_law_thing"] (defScope s_l_put_at) := ⟨rfl, rfl, rfl, by decide +kernel, rfl, by decide +kernel, by decide +kernel⟩
abbrev s_l_ends : Stmt := topS 17
abbrev N_l_ends : List Str := ["_law_left_here", "_law_kind_here", "_law_one", "_law_other", "_law_k", "_law_a", "_law_b"]
theorem sc_l_ends : FnScope N_l_ends ["_law_left_here", "_law_kind_here"] (defScope s_l_ends) := ⟨rfl, rfl, rfl, by decide +kernel, rfl, by decide +kernel, by decide +kernel⟩
abbrev s_l_is_box : Stmt := topS 18
abbrev N_l_is_box : List Str := ["_law_thing", "_law_wide", "_law_k"]
theorem sc_l_is_box : FnScope N_l_is_box ["_law_thing", "_law_wide"] (defScope s_l_is_box) := ⟨rfl, rfl, rfl, by decide +kernel, rfl, by decide +kernel, by decide +kernel⟩
abbrev s_l_things : Stmt := topS 19
abbrev N_l_things : List Str := ["_law_left_here", "_law_box", "_law_low", "_law_high", "_law_odd_here", "_law_k", "_law_some"]
theorem sc_l_things : FnScope N_l_things ["_law_left_here", "_law_box"] (defScope s_l_things) := ⟨rfl, rfl, rfl, by decide +kernel, rfl, by decide +kernel, by decide +kernel⟩
abbrev s_l_beside : Stmt := topS 20
abbrev N_l_beside : List Str := ["_law_left_here", "_law_box", "_law_some", "_law_low", "_law_high"]
theorem sc_l_beside : FnScope N_l_beside ["_law_left_here", "_law_box"] (defScope s_l_beside) := ⟨rfl, rfl, rfl, by decide +kernel, rfl, by decide +kernel, by decide +kernel⟩
abbrev s_law : Stmt := topS 21
abbrev N_law : List Str := ["_law_script", "_law_k", "_law_left_here", "_law_kind_here", "_law_box", "_law_thing", "_law_wide", "_law_turn", "_law_colour_here", "_law_due", "_law_place"]
theorem sc_law : FnScope N_law ["_law_script"] (defScope s_law) := ⟨rfl, rfl, rfl, by decide +kernel, rfl, by decide +kernel, by decide +kernel⟩
structure Tx (K : PySem.W.Frag) (mg : Str → Option Value) where
  f_is_number : Addr
  d_is_number : FuncData
  F_is_number : Fun K "is_number" "is_number" s_is_number f_is_number d_is_number
  b_is_number : Binds K d_is_number ["thing"] []
  g_is_number : mg "is_number" = some (.ref f_is_number)
  f_is_colour : Addr
  d_is_colour : FuncData
  F_is_colour : Fun K "is_colour" "is_colour" s_is_colour f_is_colour d_is_colour
  b_is_colour : Binds K d_is_colour ["thing", "wide"] []
  g_is_colour : mg "is_colour" = some (.ref f_is_colour)
  f_is_box : Addr
  d_is_box : FuncData
  F_is_box : Fun K "is_box" "is_box" s_is_box f_is_box d_is_box
  b_is_box : Binds K d_is_box ["thing", "wide"] []
  g_is_box : mg "is_box" = some (.ref f_is_box)
  f_holds : Addr
  d_holds : FuncData
  F_holds : Fun K "holds" "holds" s_holds f_holds d_holds
  b_holds : Binds K d_holds ["box", "colour"] []
  g_holds : mg "holds" = some (.ref f_holds)
  f_l_mix : Addr
  d_l_mix : FuncData
  F_l_mix : Fun K "_law_mix" "_law_mix" s_l_mix f_l_mix d_l_mix
  b_l_mix : Binds K d_l_mix ["_law_cell", "_law_k"] []
  g_l_mix : mg "_law_mix" = some (.ref f_l_mix)
  f_l_left : Addr
  d_l_left : FuncData
  F_l_left : Fun K "_law_left" "_law_left" s_l_left f_l_left d_l_left
  b_l_left : Binds K d_l_left ["_law_script", "_law_k"] []
  g_l_left : mg "_law_left" = some (.ref f_l_left)
  f_l_pick : Addr
  d_l_pick : FuncData
  F_l_pick : Fun K "_law_pick" "_law_pick" s_l_pick f_l_pick d_l_pick
  b_l_pick : Binds K d_l_pick ["_law_left_here", "_law_many"] []
  g_l_pick : mg "_law_pick" = some (.ref f_l_pick)
  f_l_kind : Addr
  d_l_kind : FuncData
  F_l_kind : Fun K "_law_kind" "_law_kind" s_l_kind f_l_kind d_l_kind
  b_l_kind : Binds K d_l_kind ["_law_left_here"] []
  g_l_kind : mg "_law_kind" = some (.ref f_l_kind)
  f_l_colour : Addr
  d_l_colour : FuncData
  F_l_colour : Fun K "_law_colour" "_law_colour" s_l_colour f_l_colour d_l_colour
  b_l_colour : Binds K d_l_colour ["_law_left_here", "_law_kind_here"] []
  g_l_colour : mg "_law_colour" = some (.ref f_l_colour)
  f_l_same : Addr
  d_l_same : FuncData
  F_l_same : Fun K "_law_same" "_law_same" s_l_same f_l_same d_l_same
  b_l_same : Binds K d_l_same ["_law_found", "_law_due"] []
  g_l_same : mg "_law_same" = some (.ref f_l_same)
  f_l_odd : Addr
  d_l_odd : FuncData
  F_l_odd : Fun K "_law_odd" "_law_odd" s_l_odd f_l_odd d_l_odd
  b_l_odd : Binds K d_l_odd ["_law_left_here", "_law_deep"] []
  g_l_odd : mg "_law_odd" = some (.ref f_l_odd)
  f_l_is_number : Addr
  d_l_is_number : FuncData
  F_l_is_number : Fun K "_law_is_number" "_law_is_number" s_l_is_number f_l_is_number d_l_is_number
  b_l_is_number : Binds K d_l_is_number ["_law_thing"] []
  g_l_is_number : mg "_law_is_number" = some (.ref f_l_is_number)
  f_l_is_colour : Addr
  d_l_is_colour : FuncData
  F_l_is_colour : Fun K "_law_is_colour" "_law_is_colour" s_l_is_colour f_l_is_colour d_l_is_colour
  b_l_is_colour : Binds K d_l_is_colour ["_law_thing", "_law_wide"] []
  g_l_is_colour : mg "_law_is_colour" = some (.ref f_l_is_colour)
  f_l_put_at : Addr
  d_l_put_at : FuncData
  F_l_put_at : Fun K "_law_put_at" "_law_put_at" s_l_put_at f_l_put_at d_l_put_at
  b_l_put_at : Binds K d_l_put_at ["_law_row", "_law_k", "_law_thing"] []
  g_l_put_at : mg "_law_put_at" = some (.ref f_l_put_at)
  f_l_ends : Addr
  d_l_ends : FuncData
  F_l_ends : Fun K "_law_ends" "_law_ends" s_l_ends f_l_ends d_l_ends
  b_l_ends : Binds K d_l_ends ["_law_left_here", "_law_kind_here"] []
  g_l_ends : mg "_law_ends" = some (.ref f_l_ends)
  f_l_is_box : Addr
  d_l_is_box : FuncData
  F_l_is_box : Fun K "_law_is_box" "_law_is_box" s_l_is_box f_l_is_box d_l_is_box
  b_l_is_box : Binds K d_l_is_box ["_law_thing", "_law_wide"] []
  g_l_is_box : mg "_law_is_box" = some (.ref f_l_is_box)
  f_l_things : Addr
  d_l_things : FuncData
  F_l_things : Fun K "_law_things" "_law_things" s_l_things f_l_things d_l_things
  b_l_things : Binds K d_l_things ["_law_left_here", "_law_box"] []
  g_l_things : mg "_law_things" = some (.ref f_l_things)
  f_l_beside : Addr
  d_l_beside : FuncData
  F_l_beside : Fun K "_law_beside" "_law_beside" s_l_beside f_l_beside d_l_beside
  b_l_beside : Binds K d_l_beside ["_law_left_here", "_law_box"] []
  g_l_beside : mg "_law_beside" = some (.ref f_l_beside)
  z_abs : mg "abs" = none
  z_all : mg "all" = none
  z_bool : mg "bool" = none
  z_int : mg "int" = none
  z_isinstance : mg "isinstance" = none
  z_len : mg "len" = none
  z_list : mg "list" = none
  z_max : mg "max" = none
  z_min : mg "min" = none
  z_range : mg "range" = none
  z_str : mg "str" = none
  z_tuple : mg "tuple" = none
  z_zip : mg "zip" = none
section
variable {P : Program} {w : World} {K : PySem.W.Frag} {mg : Str → Option Value} {base : Heap}
/-! ### mix -/
def spMix : Sp := fun vs H Q _ => ∃ c n : Int, vs = [.int c, .int n] ∧ 0 ≤ n ∧ n < 2000000000 ∧ ∀ r : Int, 0 ≤ r → r < 1999999973 → Q (.int r) H
theorem ok_l_mix (T : Tx K mg) {k : Nat} : FnOk P w K mg base CX0 (k + 1) T.f_l_mix T.d_l_mix ["_law_cell", "_law_k"] spMix := by
  refine T.F_l_mix.ok sc_l_mix (fun vs H Q E h => ?_) (fun cdv A outer s H vs Q E hr h => ?_)
  · obtain ⟨c, n, rfl, _⟩ := h
    rfl
  · obtain ⟨c, n, rfl, h1, h2, q⟩ := h
    refine ⟨_, (pss_cons (ps_set (i := 2) sc_l_mix.nd rfl (.inl rfl) (pe_op op_mod (pe_op op_mul (pe_op op_add (pe_op op_add (pe_op op_mod (pv 0) pe_int) (pe_op op_mul (pe_op op_mul (pv 1) (pv 1)) pe_int)) pe_int) pe_int) pe_int))
      (pss_one (ps_ret (pe_op op_mod (pe_op op_mul (pv 2) (pv 2)) pe_int)))), ?_⟩
    refine ⟨.int c, rfl, _, _, rfl, rfl, md (by decide), .int n, rfl, .int n, rfl, _, _, rfl, rfl, .inl ⟨by omega, by omega⟩, _, _, rfl, rfl, .inr ⟨by decide, by decide⟩, _, _, rfl, rfl, _, _, rfl, rfl, _, _, rfl, rfl, .inr ⟨by decide, by decide⟩, _, _, rfl, rfl, md (by decide), ?_⟩
    refine ⟨_, rfl, _, rfl, _, _, rfl, rfl, .inl ⟨?_, ?_⟩, _, _, rfl, rfl, md (by decide), ?_⟩
    · omega
    · omega
    · exact q _ (Int.emod_nonneg _ (by decide)) (Int.emod_lt_of_pos _ (by decide))
/-! ### left -/
def spLeft (K : PySem.W.Frag) : Sp := fun vs H Q _ => ∃ (a : Addr) (ns : List Int) (n : Int), vs = [.ref a, .int n] ∧ SqL K H a (ns.map V.int) ∧ 0 ≤ n ∧ ∀ (p : Addr) (x y : Int), H p = none → 0 ≤ x → Q (.ref p) (upd H p (.lst [.int x, .int y, .int 0]))
theorem left_end {c n : Int} {H : Hp} {Q : VK} (q : ∀ (p : Addr) (x y : Int), H p = none → 0 ≤ x → Q (.ref p) (upd H p (.lst [.int x, .int y, .int 0]))) (p : Addr) (hp : H p = none) (b : Bool) :
    Q (.ref p) (upd H p (.lst [.int ((if c < 0 then -c else c) * (if b = true then 1 else 0)), .int (c + 1000003 * n), .int 0])) := by
  refine q p _ _ hp ?_
  cases b <;> simp <;> split <;> omega
theorem ok_l_left (T : Tx K mg) {k : Nat} : FnOk P w K mg base CX0 (k + 1) T.f_l_left T.d_l_left ["_law_script", "_law_k"] (spLeft K) := by
  refine T.F_l_left.ok sc_l_left (fun vs H Q E h => ?_) (fun cdv A outer s H vs Q E hr h => ?_)
  · obtain ⟨a, ns, n, rfl, _⟩ := h
    rfl
  · obtain ⟨a, ns, n, rfl, hS, h1, q⟩ := h
    refine ⟨_, (pss_cons (ps_set (i := 2) sc_l_left.nd rfl (.inl rfl) (pe_ifExp (pt_cmpR op_lt (pv 1) (pe_callB (len_K K) (by rfl) T.z_len PySem.boot_len (pa_cons (pv 0) pa_nil)) (nomark _)) (pe_ix (ix_listK K) (pv 0) (pv 1) (fun _ _ => rfl)) pe_int))
      (pss_one (ps_ret (pe_lst (pa_cons (pe_op op_mul (pe_callB call_abs (by rfl) T.z_abs (by decide +kernel) (pa_cons (pv 2) pa_nil)) (pe_callTy call_int1 (by rfl) T.z_int (by decide +kernel) (pa_cons (pe_cmpR op_ge (pe_callB call_abs (by rfl) T.z_abs (by decide +kernel) (pa_cons (pv 2) pa_nil)) (pe_op op_pow pe_int pe_int) (nomark _)) pa_nil))) (pa_cons (pe_op op_add (pv 2) (pe_op op_mul pe_int (pv 1))) (pa_cons pe_int pa_nil))))))), ?_⟩
    refine ⟨_, rfl, _, rfl, a, _, rfl, .inl hS, _, _, rfl, rfl, _, rfl, ite2 (fun e => ?_) (fun e => ?_)⟩
    · have e1 : n < (ns.map V.int).length := of_decide_eq_true e
      rw [List.length_map] at e1
      have g : atI (ns.map V.int) n = some (.int (ns[n.toNat]'(by omega))) := at0 h1 (by rw [List.getElem?_map, List.getElem?_eq_getElem]; rfl)
      refine ⟨_, rfl, _, rfl, a, _, _, _, rfl, rfl, hS, g, ?_⟩
      exact ⟨_, rfl, _, rfl, _, rfl, _, rfl, _, _, rfl, rfl, ⟨by decide, by decide, by decide⟩, _, _, rfl, rfl, .inr ⟨_, rfl, _, _, rfl, rfl, .inr (bit_ok _), _, rfl, _, rfl, _, _, rfl, rfl, .inl ⟨by decide, by decide⟩, _, _, rfl, rfl, (by show 3 ≤ sizeLine; decide), fun p hp => left_end q p hp _⟩⟩
    · exact ⟨_, rfl, _, rfl, _, rfl, _, rfl, _, _, rfl, rfl, ⟨by decide, by decide, by decide⟩, _, _, rfl, rfl, .inr ⟨_, rfl, _, _, rfl, rfl, .inr (bit_ok _), _, rfl, _, rfl, _, _, rfl, rfl, .inl ⟨by decide, by decide⟩, _, _, rfl, rfl, (by show 3 ≤ sizeLine; decide), fun p hp => left_end q p hp _⟩⟩
/-! ### pick -/
def spPick : Sp := fun vs H Q _ => ∃ (L : Addr) (m : Int) (n : Nat), vs = [.ref L, .int m] ∧ Lf L H n ∧ n < 1000000000 ∧ 0 < m ∧ m < 1073741824 ∧ ∀ (r : Int) (H' : Hp), Go [L] H H' → Lf L H' (n + 1) → 0 ≤ r → r < m → Q (.int r) H'
theorem ok_l_pick (T : Tx K mg) {k : Nat} : FnOk P w K mg base CX0 (k + 2) T.f_l_pick T.d_l_pick ["_law_left_here", "_law_many"] spPick := by
  refine T.F_l_pick.ok sc_l_pick (fun vs H Q E h => ?_) (fun cdv A outer s H vs Q E hr h => ?_)
  · obtain ⟨L, m, n, rfl, _⟩ := h
    rfl
  · obtain ⟨L, m, n, rfl, ⟨a, b, c, hL, a0, c0, cn⟩, hn, m0, m1, q⟩ := h
    refine ⟨_, (pss_cons (ps_asg (pe_op op_add (pe_ix (ix_listK K) (pv 0) pe_int (fun _ _ => rfl)) pe_int) (pg_sub (pv 0) pe_int set_list))
      (pss_cons (ps_if (pt_cmpR op_gt (pe_ix (ix_listK K) (pv 0) pe_int (fun _ _ => rfl)) pe_int (nomark _)) (pss_cons (ps_set (i := 2) sc_l_pick.nd rfl (.inl rfl) (pe_op op_mod (pe_ix (ix_listK K) (pv 0) pe_int (fun _ _ => rfl)) (pv 1)))
      (pss_cons (ps_asg (pe_op op_fdiv (pe_ix (ix_listK K) (pv 0) pe_int (fun _ _ => rfl)) (pv 1)) (pg_sub (pv 0) pe_int set_list))
      (pss_one (ps_ret (pv 2))))) pss_nil)
      (pss_one (ps_ret (pe_op op_mod (pe_op op_fdiv (pe_call (ok_l_mix T (k := k)) hr (by rfl) T.g_l_mix T.F_l_mix.kp T.b_l_mix .nil pass0 (pa_cons (pe_call (ok_l_mix T (k := k)) hr (by rfl) T.g_l_mix T.F_l_mix.kp T.b_l_mix .nil pass0 (pa_cons (pe_ix (ix_listK K) (pv 0) pe_int (fun _ _ => rfl)) (pa_cons (pe_ix (ix_listK K) (pv 0) pe_int (fun _ _ => rfl)) pa_nil))) (pa_cons (pe_op op_add (pe_ix (ix_listK K) (pv 0) pe_int (fun _ _ => rfl)) pe_int) pa_nil))) pe_int) (pv 1)))))), ?_⟩
    refine ⟨_, rfl, L, _, 2, .int c, rfl, rfl, SqL.of hL, rfl, _, _, rfl, rfl, _, rfl, L, _, _, 2, rfl, rfl, hL, rfl, ?_⟩
    generalize hH : upd H L (.lst (List.set [V.int a, V.int b, V.int c] 2 (V.int (c + 1)))) = H1
    have hL1 : H1 L = some (.lst [.int a, .int b, .int (c + 1)]) := by rw [← hH]; exact upd_same
    have g1 : Go [L] H H1 := by rw [← hH]; exact Go.refl.at (List.mem_singleton.mpr rfl)
    refine ⟨_, rfl, L, _, 0, .int a, rfl, rfl, SqL.of hL1, rfl, _, _, rfl, rfl, _, rfl, ite2 (fun e => ?_) (fun e => ?_)⟩
    · have e1 : 0 < a := of_decide_eq_true e
      refine ⟨_, rfl, L, _, 0, .int a, rfl, rfl, SqL.of hL1, rfl, _, rfl, _, _, rfl, rfl, md m0, ?_⟩
      refine ⟨_, rfl, L, _, 0, .int a, rfl, rfl, SqL.of hL1, rfl, _, rfl, _, _, rfl, rfl, ⟨m0, m1⟩, _, rfl, L, _, _, 0, rfl, rfl, hL1, rfl, ?_⟩
      refine ⟨_, rfl, ?_⟩
      exact q _ _ (g1.at (List.mem_singleton.mpr rfl)) ⟨a / m, b, c + 1, upd_same, Int.ediv_nonneg a0 (by omega), by omega, by omega⟩ (Int.emod_nonneg _ (by omega)) (Int.emod_lt_of_pos _ m0)
    · refine ⟨_, rfl, L, _, 1, .int b, rfl, rfl, SqL.of hL1, rfl, _, rfl, L, _, 2, .int (c + 1), rfl, rfl, SqL.of hL1, rfl, _, _, rfl, by omega, by omega, fun r1 _ _ => ?_⟩
      refine ⟨_, rfl, L, _, 2, .int (c + 1), rfl, rfl, SqL.of hL1, rfl, _, _, rfl, rfl, _, _, rfl, by omega, by omega, fun r2 _ _ => ?_⟩
      refine ⟨_, _, rfl, rfl, ⟨by decide, by decide⟩, _, rfl, _, _, rfl, rfl, md m0, ?_⟩
      exact q _ _ g1 ⟨a, b, c + 1, hL1, a0, by omega, by omega⟩ (Int.emod_nonneg _ (by omega)) (Int.emod_lt_of_pos _ m0)
/-! ### kind -/
def spKind : Sp := fun vs H Q _ => ∃ (L : Addr) (n : Nat), vs = [.ref L] ∧ Lf L H n ∧ n < 100000000 ∧ ∀ (v : V) (H' : Hp) (wd sp : Int), Go [L] H H' → Lf L H' (n + 2) → 1 ≤ wd → wd ≤ 5 → 3 ≤ sp → sp ≤ 1000 → Dt [L] H' v (eC [wd, sp]) → Q v H'
theorem ok_l_kind (T : Tx K mg) {k : Nat} : FnOk P w K mg base CX0 (k + 3) T.f_l_kind T.d_l_kind ["_law_left_here"] spKind := by
  refine T.F_l_kind.ok sc_l_kind (fun vs H Q E h => ?_) (fun cdv A outer s H vs Q E hr h => ?_)
  · obtain ⟨L, n, rfl, _⟩ := h
    rfl
  · obtain ⟨L, n, rfl, hL, hn, q⟩ := h
    refine ⟨_, (pss_one (ps_ret (pe_tup (pa_cons (pe_ix (ix_listK K) (pe_lst (pa_cons pe_int (pa_cons pe_int (pa_cons pe_int (pa_cons pe_int (pa_cons pe_int (pa_cons pe_int (pa_cons pe_int (pa_cons pe_int pa_nil))))))))) (pe_call (ok_l_pick T (k := k)) hr (by rfl) T.g_l_pick T.F_l_pick.kp T.b_l_pick .nil pass0 (pa_cons (pv 0) (pa_cons pe_int pa_nil))) (fun _ _ => rfl)) (pa_cons (pe_ix (ix_listK K) (pe_lst (pa_cons pe_int (pa_cons pe_int (pa_cons pe_int (pa_cons pe_int (pa_cons pe_int (pa_cons pe_int pa_nil))))))) (pe_call (ok_l_pick T (k := k)) hr (by rfl) T.g_l_pick T.F_l_pick.kp T.b_l_pick .nil pass0 (pa_cons (pv 0) (pa_cons pe_int pa_nil))) (fun _ _ => rfl)) pa_nil))))), ?_⟩
    refine ⟨(by show 8 ≤ sizeLine; decide), fun p hp => ?_⟩
    refine ⟨_, rfl, L, 8, n, rfl, hL.new hp, by omega, by decide, by decide, fun r1 H1 g1 l1 a1 b1 => ?_⟩
    have e1 : H1 p = some (.lst ([1, 2, 3, 3, 3, 4, 5, 2].map V.int)) := g1.k p _ (hL.bk.ne hp) upd_same
    obtain ⟨wd, mw, ew⟩ := at_int (ns := [1, 2, 3, 3, 3, 4, 5, 2]) a1 b1
    refine ⟨p, _, r1, .int wd, rfl, rfl, SqL.of e1, ew, (by show 6 ≤ sizeLine; decide), fun p2 hp2 => ?_⟩
    refine ⟨_, rfl, L, 6, n + 1, rfl, l1.new hp2, by omega, by decide, by decide, fun r2 H2 g2 l2 a2 b2 => ?_⟩
    have e2 : H2 p2 = some (.lst ([3, 6, 20, 256, 1000, 10].map V.int)) := g2.k p2 _ (l1.bk.ne hp2) upd_same
    obtain ⟨sp, ms, es⟩ := at_int (ns := [3, 6, 20, 256, 1000, 10]) a2 b2
    refine ⟨p2, _, r2, .int sp, rfl, rfl, SqL.of e2, es, (by show 2 ≤ sizeLine; decide), fun p3 hp3 => ?_⟩
    simp at mw ms
    refine q _ _ wd sp (((((Go.new hp).trans g1).trans (Go.new hp2)).trans g2).trans (Go.new hp3)) (l2.new hp3) (by omega) (by omega) (by omega) (by omega) (Dt.ofCol (l2.bk.ne hp3) upd_same)
/-! ### colour -/
def spColour : Sp := fun vs H Q _ => ∃ (L : Addr) (B : List Addr) (n : Nat) (kv : V) (wd sp : Int), vs = [.ref L, kv] ∧ Lf L H n ∧ L ∈ B ∧ Bk B H ∧ n < 100000000 ∧ Dt [L] H kv (eC [wd, sp]) ∧ 0 ≤ wd ∧ wd ≤ 5 ∧ 1 ≤ sp ∧ sp ≤ 1000 ∧
  ∀ (v : V) (H' : Hp) (ns : List Int), Go [L] H H' → Lf L H' (n + 10) → Dt B H' v (eC ns) → (ns.length : Int) = wd → cIn 0 999 ns → Q v H'
theorem ok_l_colour (T : Tx K mg) {k : Nat} : FnOk P w K mg base CX0 (k + 3) T.f_l_colour T.d_l_colour ["_law_left_here", "_law_kind_here"] spColour := by
  refine T.F_l_colour.ok sc_l_colour (fun vs H Q E h => ?_) (fun cdv A outer s H vs Q E hr h => ?_)
  · obtain ⟨L, B, n, kv, wd, sp, rfl, _⟩ := h
    rfl
  · obtain ⟨L, B, n, kv, wd, sp, rfl, hL, LB, hB, hn, hk, w0, w1, s0, s1, q⟩ := h
    obtain ⟨ka, rfl, nk, hkT⟩ := hk.col
    refine ⟨_, (pss_cons (ps_asg (pv 1) (pg_tupK K (n := 2) rfl (pgs_cons (pg_name (i := 2) sc_l_colour.nd rfl (.inl rfl)) (pgs_cons (pg_name (i := 3) sc_l_colour.nd rfl (.inr rfl)) pgs_nil))))
      (pss_one (ps_ret (pe_callTy (tuple_K K) (by rfl) T.z_tuple (by decide +kernel) (pa_cons (pe_lc (own := [("_law_place", 4)]) (by rfl) sc_l_colour.nd (pi_range1 (by rfl) T.z_range (pa_cons (pv 2) pa_nil)) (blkOk_by (own := [("_law_place", 4)]) (N := N_l_colour) (sc := defScope s_l_colour) (by decide +kernel)) (fun _ _ _ _ _ => (pg_name (i := 4) sc_l_colour.nd rfl (.inl rfl))) (fun _ _ _ _ _ => pts_nil) (fun _ _ _ _ _ => (pe_ix (ix_listK K) (pe_lst (pa_cons (pe_call (ok_l_pick T (k := k)) hr (by rfl) T.g_l_pick T.F_l_pick.kp T.b_l_pick .nil pass0 (pa_cons (pv 0) (pa_cons (pv 3) pa_nil))) (pa_cons pe_int pa_nil))) (pe_callTy call_int1 (by rfl) T.z_int (by decide +kernel) (pa_cons (pe_cmpR op_eq (pe_call (ok_l_pick T (k := k)) hr (by rfl) T.g_l_pick T.F_l_pick.kp T.b_l_pick .nil pass0 (pa_cons (pv 0) (pa_cons pe_int pa_nil))) pe_int (nomark _)) pa_nil)) (fun _ _ => rfl)))) pa_nil))))), ?_⟩
    refine ⟨_, rfl, ka, [.int wd, .int sp], rfl, SqT.of hkT, rfl, .int wd, _, rfl, .int sp, _, rfl, rfl, ?_⟩
    refine ⟨_, rfl, wd, rfl, by omega, by omega, fun D hD => ?_⟩
    refine lc_range (lo := 0) (n := wd.toNat) (fun i H' => ∃ ns : List Int, ns.length = i ∧ cIn 0 999 ns ∧ Go [L] H H' ∧ Lf L H' (n + 2 * i) ∧ H' D = some (.lst (ns.map V.int)))
      ⟨[], rfl, cIn.nil, Go.new hD, hL.new hD, upd_same⟩ (fun i H1 hi h1 => ?_) (fun H1 h1 => ?_)
    · obtain ⟨ns, en, cn, g, l, eD⟩ := h1
      have nD : D ∉ [L] := hL.bk.ne hD
      refine ⟨rfl, lc_yes ?_⟩
      refine ⟨_, rfl, _, rfl, L, sp, n + 2 * i, rfl, l, by omega, by omega, by omega, fun r1 H2 g2 l2 a1 b1 => ?_⟩
      refine ⟨(by show 2 ≤ sizeLine; decide), fun p hp => ?_⟩
      refine ⟨_, rfl, L, 8, n + 2 * i + 1, rfl, l2.new hp, by omega, by decide, by decide, fun r2 H3 g3 l3 a2 b2 => ?_⟩
      have e3 : H3 p = some (.lst [.int r1, .int 999]) := g3.k p _ (l2.bk.ne hp) upd_same
      refine ⟨rfl, .inr ⟨_, rfl, p, _, _, _, rfl, rfl, SqL.of e3, at2 _ _ _, ns.map V.int, ?_⟩⟩
      have gg : Go [L] H1 H3 := (g2.trans (Go.new hp)).trans g3
      obtain ⟨x, ex, x0, x1⟩ : ∃ x : Int, (if decide (V.int r2 = V.int 0) = true then V.int 999 else V.int r1) = .int x ∧ 0 ≤ x ∧ x ≤ 999 := by
        by_cases hb : decide (V.int r2 = V.int 0) = true
        · rw [if_pos hb]
          exact ⟨999, rfl, by decide, by decide⟩
        · rw [if_neg hb]
          exact ⟨r1, rfl, by omega, by omega⟩
      refine ⟨gg.k D _ nD eD, sz (by rw [List.length_map]; omega), ns ++ [x], ?_, cn.app x0 x1, (g.trans gg).mut hD, (l3.up (hL.ne hD)).mono (by omega), ?_⟩
      · rw [List.length_append]
        simp
        omega
      · rw [upd_same, List.map_append, ex]
        rfl
    · obtain ⟨ns, en, cn, g, l, eD⟩ := h1
      refine ⟨D, _, rfl, .inl ⟨SqL.of eD, fun t ht => ?_⟩⟩
      exact q _ _ ns (g.trans (Go.new ht)) ((l.new ht).mono (by omega)) (Dt.ofCol ((hB.go g).ne ht) upd_same) (by omega) cn
/-! ### same -/
def spSame : Nat → Sp
  | 0 => fun _ _ _ _ => False
  | k + 1 => fun vs H Q _ => ∃ (B : List Addr) (x y : V) (d : PyData), vs = [x, y] ∧ Dt B H x d ∧ Dt B H y d ∧ Sh d k ∧ k ≤ 60 ∧ ∀ H', Same H H' → Q (.bl true) H'
theorem kT {K : PySem.W.Frag} : PySem.W.kitAny K (.type "tuple") [.type "list", .type "tuple"] = some true := kitAny_cons (b := false) (kit_ty (by decide +kernel)) (fun _ => kitAny_cons (b := true) (kit_ty (by decide +kernel)) (fun h => Bool.noConfusion h) (fun _ => rfl)) (fun h => Bool.noConfusion h)
theorem kL {K : PySem.W.Frag} : PySem.W.kitAny K (.type "list") [.type "list", .type "tuple"] = some true := kitAny_cons (b := true) (kit_ty (by decide +kernel)) (fun h => Bool.noConfusion h) (fun _ => rfl)
theorem kF {K : PySem.W.Frag} {t : String} (h1 : kitB t "list" = some false) (h2 : kitB t "tuple" = some false) : PySem.W.kitAny K (.type t) [.type "list", .type "tuple"] = some false :=
  kitAny_cons (kit_ty (b := "list") h1) (fun _ => kitAny_cons (kit_ty (b := "tuple") h2) (fun _ => kitAny_nil) (fun h => nomatch h)) (fun h => nomatch h)
theorem eqv_sh {d : PyData} {k : Nat} (h : Sh d k) : PyData.eqv d d = true := SeqAt.eqv_refl d h.1
theorem allT : ∀ n : Nat, (List.range n).filterMap (fun _ => some (PyData.bool true)) = (List.replicate n true).map PyData.bool
  | 0 => rfl
  | n + 1 => by
    rw [List.range_succ, List.filterMap_append, allT n, List.replicate_succ', List.map_append]
    rfl
theorem same_all (T : Tx K mg) (k : Nat) : FnOk P w K mg base CX0 k T.f_l_same T.d_l_same ["_law_found", "_law_due"] (spSame k) := by
  induction k with
  | zero => exact ⟨fun _ _ _ _ h => h.elim, fun _ _ _ _ _ _ _ _ _ _ _ _ _ h => h.elim⟩
  | succ k GS =>
    refine T.F_l_same.ok sc_l_same (fun vs H Q E h => ?_) (fun cdv A outer s H vs Q E hr h => ?_)
    · obtain ⟨B, x, y, d, rfl, _⟩ := h
      rfl
    · obtain ⟨B, x, y, d, rfl, hx, hy, hd, k60, q⟩ := h
      have hrS := hr
      refine ⟨_, (pss_cons (ps_if (pt_val (pe_callB (call_isiTK K) (by rfl) T.z_isinstance (by decide +kernel) (pa_cons (pv 1) (pa_cons (pe_tup (pa_cons (pe_bltn (v := .ty "list") (by rfl) T.z_list (by decide +kernel) rfl) (pa_cons (pe_bltn (v := .ty "tuple") (by rfl) T.z_tuple (by decide +kernel) rfl) pa_nil))) pa_nil)))) (pss_cons (ps_if (PW.pt (pw_or (pt_cmpR op_ne (pe_callB (call_isiK1 K) (by rfl) T.z_isinstance (by decide +kernel) (pa_cons (pv 0) (pa_cons (pe_bltn (v := .ty "list") (by rfl) T.z_list (by decide +kernel) rfl) pa_nil))) (pe_callB (call_isiK1 K) (by rfl) T.z_isinstance (by decide +kernel) (pa_cons (pv 1) (pa_cons (pe_bltn (v := .ty "list") (by rfl) T.z_list (by decide +kernel) rfl) pa_nil))) (nomark _)) (pw_or1 (pt_cmpR op_ne (pe_callB (call_isiK1 K) (by rfl) T.z_isinstance (by decide +kernel) (pa_cons (pv 0) (pa_cons (pe_bltn (v := .ty "tuple") (by rfl) T.z_tuple (by decide +kernel) rfl) pa_nil))) (pe_callB (call_isiK1 K) (by rfl) T.z_isinstance (by decide +kernel) (pa_cons (pv 1) (pa_cons (pe_bltn (v := .ty "tuple") (by rfl) T.z_tuple (by decide +kernel) rfl) pa_nil))) (nomark _))))) (pss_one (ps_ret pe_bl)) pss_nil)
      (pss_one (ps_ret (pe_and (pe_cmpR op_eq (pe_callB (len_K K) (by rfl) T.z_len PySem.boot_len (pa_cons (pv 0) pa_nil)) (pe_callB (len_K K) (by rfl) T.z_len PySem.boot_len (pa_cons (pv 1) pa_nil)) (nomark _)) (pe_one (pe_callB (cr_allK K rfl) (by rfl) T.z_all (by decide +kernel) (pa_cons (pe_lc (own := [("_law_one", 2), ("_law_other", 3)]) (by rfl) sc_l_same.nd (RZ.pi_zipA (by rfl) T.z_zip (pa_cons (pv 0) (pa_cons (pv 1) pa_nil))) (blkOk_by (own := [("_law_one", 2), ("_law_other", 3)]) (N := N_l_same) (sc := defScope s_l_same) (by decide +kernel)) (fun _ _ _ _ _ => (pg_tupK K (n := 2) rfl (pgs_cons (pg_name (i := 2) sc_l_same.nd rfl (.inl rfl)) (pgs_cons (pg_name (i := 3) sc_l_same.nd rfl (.inl rfl)) pgs_nil)))) (fun _ _ _ _ _ => pts_nil) (fun _ _ _ _ _ => (pe_call GS hrS (by rfl) T.g_l_same T.F_l_same.kp T.b_l_same .nil pass0 (pa_cons (pv 2) (pa_cons (pv 3) pa_nil))))) pa_nil))))))) pss_nil)
      (pss_cons (ps_if (PW.pt (pw_or (pt_cmpR op_isN (pv 1) pe_non (nomark _)) (pw_or1 (pt_val (pe_callB (call_isiK1 K) (by rfl) T.z_isinstance (by decide +kernel) (pa_cons (pv 1) (pa_cons (pe_bltn (v := .ty "str") (by rfl) T.z_str (by decide +kernel) rfl) pa_nil))))))) (pss_one (ps_ret (pe_and (pe_cmpR (op_eqDK K hr.units) (pv 0) (pv 1) (nomark _)) (pe_one (pe_cmpR op_eq (pe_callB (call_isiK1 K) (by rfl) T.z_isinstance (by decide +kernel) (pa_cons (pv 0) (pa_cons (pe_bltn (v := .ty "str") (by rfl) T.z_str (by decide +kernel) rfl) pa_nil))) (pe_callB (call_isiK1 K) (by rfl) T.z_isinstance (by decide +kernel) (pa_cons (pv 1) (pa_cons (pe_bltn (v := .ty "str") (by rfl) T.z_str (by decide +kernel) rfl) pa_nil))) (nomark _)))))) pss_nil)
      (pss_cons (ps_if (pt_val (pe_callB (call_isiK1 K) (by rfl) T.z_isinstance (by decide +kernel) (pa_cons (pv 1) (pa_cons (pe_bltn (v := .ty "bool") (by rfl) T.z_bool (by decide +kernel) rfl) pa_nil)))) (pss_one (ps_ret (pe_and (pe_callB (call_isiK1 K) (by rfl) T.z_isinstance (by decide +kernel) (pa_cons (pv 0) (pa_cons (pe_bltn (v := .ty "bool") (by rfl) T.z_bool (by decide +kernel) rfl) pa_nil))) (pe_one (pe_cmpR (op_eqDK K hr.units) (pv 0) (pv 1) (nomark _)))))) pss_nil)
      (pss_one (ps_ret (pe_and (pe_callB (call_isiK1 K) (by rfl) T.z_isinstance (by decide +kernel) (pa_cons (pv 0) (pa_cons (pe_bltn (v := .ty "int") (by rfl) T.z_int (by decide +kernel) rfl) pa_nil))) (pe_and (pe_not (pe_callB (call_isiK1 K) (by rfl) T.z_isinstance (by decide +kernel) (pa_cons (pv 0) (pa_cons (pe_bltn (v := .ty "bool") (by rfl) T.z_bool (by decide +kernel) rfl) pa_nil)))) (pe_one (pe_cmpR (op_eqDK K hr.units) (pv 0) (pv 1) (nomark _)))))))))), ?_⟩
      refine ⟨_, rfl, (by show 2 ≤ sizeLine; decide), fun tp htp => ?_⟩
      have s1 : Same H (upd H tp (.tup [.ty "list", .ty "tuple"])) := sm_new htp
      have hx1 := hx.s s1
      have hy1 := hy.s s1
      have hT : (upd H tp (.tup [.ty "list", .ty "tuple"])) tp = some (.tup [.ty "list", .ty "tuple"]) := upd_same
      generalize upd H tp (.tup [.ty "list", .ty "tuple"]) = H1 at *
      cases d with
      | list ds =>
        have tx : TyX K H1 x (.type "list") := hx1.ty
        have ty : TyX K H1 y (.type "list") := hy1.ty
        refine ⟨y, tp, _, _, [.type "list", .type "tuple"], true, rfl, hT, .cons (.ty _) (.cons (.ty _) .nil), ty, kL, true, rfl, iteT ?_⟩
        refine ⟨_, rfl, _, _, _, _, true, rfl, .ty _, tx, kit_ty (by decide +kernel), _, rfl, _, _, _, _, true, rfl, .ty _, ty, kit_ty (by decide +kernel), rfl, _, rfl, iteNS rfl ?_⟩
        refine ⟨_, rfl, _, _, _, _, false, rfl, .ty _, tx, kit_ty (by decide +kernel), _, rfl, _, _, _, _, false, rfl, .ty _, ty, kit_ty (by decide +kernel), rfl, _, rfl, iteNS rfl ?_⟩
        obtain ⟨a, xs, rfl, na, ha, hA⟩ := hx1.lstI
        obtain ⟨b, ys, rfl, nb, hb, hB⟩ := hy1.lstI
        have l1 := hA.len
        have l2 := hB.len
        refine ⟨_, rfl, a, _, rfl, .inl (SqL.of ha), _, rfl, b, _, rfl, .inl (SqL.of hb), rfl, _, rfl, iteD (by rw [l1, l2]) ?_⟩
        refine ⟨_, rfl, _, rfl, a, b, _, _, rfl, .inl ⟨SqL.of ha, SqL.of hb, fun D hD => ?_⟩⟩
        obtain ⟨j, rfl, hs, hl⟩ := hd.lstI
        refine lc_pure (B := []) (walk_zip (n := ds.length) (xs := xs) (ys := ys) (by rw [l1, l2, Nat.min_self])) hD (fun _ h => nomatch h) (fun H' s' => ⟨SqL.of (s' _ _ ha), SqL.of (s' _ _ hb)⟩) hl
          (fun i => some (.bool true)) (fun i x H' H'' Ny Nn hi s2 bk y ky kn => ?_) (fun H' ws s2 eD hW => ?_)
        · obtain ⟨t, x, y, rfl, ht, rfl, e1, e2⟩ := y
          obtain ⟨d1, f1, g1⟩ := hA.getV e1
          obtain ⟨d2, f2, g2⟩ := hB.getV e2
          have ed : d1 = d2 := Option.some.inj (f1.symm.trans f2)
          subst ed
          refine ⟨t, [x, y], rfl, SqT.of upd_same, rfl, x, _, rfl, y, _, rfl, rfl, rfl, lc_yes ?_⟩
          refine ⟨_, rfl, _, rfl, B, x, y, d1, rfl, (g1.s s2).s (sm_new ht), (g2.s s2).s (sm_new ht), hs _ (List.mem_of_getElem? f1), by omega, fun H3 s3 => ?_⟩
          exact ky _ _ _ rfl ((sm_new ht).trans s3) (.bl _)
        · rw [allT] at hW
          refine ⟨D, _, rfl, SqL.of (by rw [eD, hW.blsV]), ?_⟩
          rw [show (List.replicate ds.length true).all id = true by simp]
          exact q _ (s1.trans s2)
      | tuple ds =>
        have tx : TyX K H1 x (.type "tuple") := hx1.ty
        have ty : TyX K H1 y (.type "tuple") := hy1.ty
        refine ⟨y, tp, _, _, [.type "list", .type "tuple"], true, rfl, hT, .cons (.ty _) (.cons (.ty _) .nil), ty, kT, true, rfl, iteT ?_⟩
        refine ⟨_, rfl, _, _, _, _, false, rfl, .ty _, tx, kit_ty (by decide +kernel), _, rfl, _, _, _, _, false, rfl, .ty _, ty, kit_ty (by decide +kernel), rfl, _, rfl, iteNS rfl ?_⟩
        refine ⟨_, rfl, _, _, _, _, true, rfl, .ty _, tx, kit_ty (by decide +kernel), _, rfl, _, _, _, _, true, rfl, .ty _, ty, kit_ty (by decide +kernel), rfl, _, rfl, iteNS rfl ?_⟩
        obtain ⟨a, xs, rfl, na, ha, hA⟩ := hx1.tupI
        obtain ⟨b, ys, rfl, nb, hb, hB⟩ := hy1.tupI
        have l1 := hA.len
        have l2 := hB.len
        refine ⟨_, rfl, a, _, rfl, .inr (SqT.of ha), _, rfl, b, _, rfl, .inr (SqT.of hb), rfl, _, rfl, iteD (by rw [l1, l2]) ?_⟩
        refine ⟨_, rfl, _, rfl, a, b, _, _, rfl, .inr ⟨SqT.of ha, SqT.of hb, fun D hD => ?_⟩⟩
        obtain ⟨j, rfl, hs, hl⟩ := hd.tupI
        refine lc_pure (B := []) (walk_zipT (n := ds.length) (xs := xs) (ys := ys) (by rw [l1, l2, Nat.min_self])) hD (fun _ h => nomatch h) (fun H' s' => ⟨SqT.of (s' _ _ ha), SqT.of (s' _ _ hb)⟩) hl
          (fun i => some (.bool true)) (fun i x H' H'' Ny Nn hi s2 bk y ky kn => ?_) (fun H' ws s2 eD hW => ?_)
        · obtain ⟨t, x, y, rfl, ht, rfl, e1, e2⟩ := y
          obtain ⟨d1, f1, g1⟩ := hA.getV e1
          obtain ⟨d2, f2, g2⟩ := hB.getV e2
          have ed : d1 = d2 := Option.some.inj (f1.symm.trans f2)
          subst ed
          refine ⟨t, [x, y], rfl, SqT.of upd_same, rfl, x, _, rfl, y, _, rfl, rfl, rfl, lc_yes ?_⟩
          refine ⟨_, rfl, _, rfl, B, x, y, d1, rfl, (g1.s s2).s (sm_new ht), (g2.s s2).s (sm_new ht), hs _ (List.mem_of_getElem? f1), by omega, fun H3 s3 => ?_⟩
          exact ky _ _ _ rfl ((sm_new ht).trans s3) (.bl _)
        · rw [allT] at hW
          refine ⟨D, _, rfl, SqL.of (by rw [eD, hW.blsV]), ?_⟩
          rw [show (List.replicate ds.length true).all id = true by simp]
          exact q _ (s1.trans s2)
      | none =>
        have tx : TyX K H1 x (.type "NoneType") := hx1.ty
        have ty : TyX K H1 y (.type "NoneType") := hy1.ty
        refine ⟨y, tp, _, _, [.type "list", .type "tuple"], false, rfl, hT, .cons (.ty _) (.cons (.ty _) .nil), ty, kF (by decide +kernel) (by decide +kernel), false, rfl, iteF ?_⟩
        have ey : y = .non := by cases hy1; rfl
        subst ey
        refine ⟨_, rfl, rfl, _, rfl, iteD rfl ?_⟩
        refine iteT ?_
        refine ⟨_, rfl, _, rfl, _, _, hx1.dP, hy1.dP, hd.sh (by omega), hd.sh (by omega), _, rfl, iteE (eqv_sh hd) ?_⟩
        refine ⟨_, rfl, _, _, _, _, false, rfl, .ty _, tx, kit_ty (by decide +kernel), _, rfl, _, _, _, _, false, rfl, .ty _, ty, kit_ty (by decide +kernel), rfl, ?_⟩
        exact q _ s1
      | bool b =>
        have tx : TyX K H1 x (.type "bool") := hx1.ty
        have ty : TyX K H1 y (.type "bool") := hy1.ty
        refine ⟨y, tp, _, _, [.type "list", .type "tuple"], false, rfl, hT, .cons (.ty _) (.cons (.ty _) .nil), ty, kF (by decide +kernel) (by decide +kernel), false, rfl, iteF ?_⟩
        have ey : y = .bl b := by cases hy1; rfl
        subst ey
        refine ⟨_, rfl, rfl, _, rfl, iteN (decide_eq_false (fun h => nomatch h)) ?_⟩
        refine ⟨_, rfl, _, _, _, _, false, rfl, .ty _, ty, kit_ty (by decide +kernel), _, rfl, iteF ?_⟩
        refine ⟨_, rfl, _, _, _, _, true, rfl, .ty _, ty, kit_ty (by decide +kernel), _, rfl, iteT ?_⟩
        refine ⟨_, rfl, _, _, _, _, true, rfl, .ty _, tx, kit_ty (by decide +kernel), _, rfl, iteT ?_⟩
        refine ⟨_, rfl, _, rfl, _, _, hx1.dP, hy1.dP, hd.sh (by omega), hd.sh (by omega), ?_⟩
        rw [eqv_sh hd]
        exact q _ s1
      | int i =>
        have tx : TyX K H1 x (.type "int") := hx1.ty
        have ty : TyX K H1 y (.type "int") := hy1.ty
        refine ⟨y, tp, _, _, [.type "list", .type "tuple"], false, rfl, hT, .cons (.ty _) (.cons (.ty _) .nil), ty, kF (by decide +kernel) (by decide +kernel), false, rfl, iteF ?_⟩
        have ey := hy1.intI
        subst ey
        refine ⟨_, rfl, rfl, _, rfl, iteN (decide_eq_false (fun h => nomatch h)) ?_⟩
        refine ⟨_, rfl, _, _, _, _, false, rfl, .ty _, ty, kit_ty (by decide +kernel), _, rfl, iteF ?_⟩
        refine ⟨_, rfl, _, _, _, _, false, rfl, .ty _, ty, kit_ty (by decide +kernel), _, rfl, iteF ?_⟩
        refine ⟨_, rfl, _, _, _, _, true, rfl, .ty _, tx, kit_ty (by decide +kernel), _, rfl, iteT ?_⟩
        refine ⟨_, rfl, _, _, _, _, false, rfl, .ty _, tx, kit_ty (by decide +kernel), _, rfl, _, rfl, iteT ?_⟩
        refine ⟨_, rfl, _, rfl, _, _, hx1.dP, hy1.dP, hd.sh (by omega), hd.sh (by omega), ?_⟩
        rw [eqv_sh hd]
        exact q _ s1
      | str z =>
        have tx : TyX K H1 x (.type "str") := hx1.ty
        have ty : TyX K H1 y (.type "str") := hy1.ty
        refine ⟨y, tp, _, _, [.type "list", .type "tuple"], false, rfl, hT, .cons (.ty _) (.cons (.ty _) .nil), ty, kF (by decide +kernel) (by decide +kernel), false, rfl, iteF ?_⟩
        have ey : y = .str z := by cases hy1; rfl
        subst ey
        refine ⟨_, rfl, rfl, _, rfl, iteN (decide_eq_false (fun h => nomatch h)) ?_⟩
        refine ⟨_, rfl, _, _, _, _, true, rfl, .ty _, ty, kit_ty (by decide +kernel), _, rfl, iteT ?_⟩
        refine ⟨_, rfl, _, rfl, _, _, hx1.dP, hy1.dP, hd.sh (by omega), hd.sh (by omega), _, rfl, iteE (eqv_sh hd) ?_⟩
        refine ⟨_, rfl, _, _, _, _, true, rfl, .ty _, tx, kit_ty (by decide +kernel), _, rfl, _, _, _, _, true, rfl, .ty _, ty, kit_ty (by decide +kernel), rfl, ?_⟩
        exact q _ s1
      | dict kvs => cases hx
theorem ok_l_same (T : Tx K mg) {k : Nat} : FnOk P w K mg base CX0 (k + 1) T.f_l_same T.d_l_same ["_law_found", "_law_due"] (spSame (k + 1)) := same_all T (k + 1)
/-! ### numbers and colours of any data -/
def isNum : PyData → Bool
  | .int _ => true
  | _ => false
def isCol (d : PyData) (n : Int) : Bool := match d with
  | .tuple ds => decide ((ds.length : Int) = n) && ds.all isNum
  | _ => false
def spNum : Sp := fun vs H Q _ => ∃ (B : List Addr) (v : V) (d : PyData), vs = [v] ∧ Dt B H v d ∧ Q (.bl (isNum d)) H
def spIsCol : Sp := fun vs H Q _ => ∃ (B : List Addr) (v : V) (d : PyData) (n : Int) (j : Nat), vs = [v, .int n] ∧ Dt B H v d ∧ Sh d j ∧ j ≤ 60 ∧ ∀ H', Same H H' → Q (.bl (isCol d n)) H'
theorem fm_bind {α β : Type} (ds : List α) (f : α → Option β) : (List.range ds.length).filterMap (fun i => (ds[i]?).bind f) = ds.filterMap f := by
  have h := List.filterMap_filterMap (f := fun i : Nat => ds[i]?) (g := f) (l := List.range ds.length)
  rw [fm_all rfl] at h
  exact h.symm
theorem isCol_no {ds : List PyData} {n : Int} (h : (ds.length : Int) ≠ n) : isCol (.tuple ds) n = false := by
  unfold isCol
  simp [h]
theorem isCol_yes {ds : List PyData} {n : Int} (h : (ds.length : Int) = n) : isCol (.tuple ds) n = ds.all isNum := by
  unfold isCol
  simp [h]
theorem ok_is_number (T : Tx K mg) {k : Nat} : FnOk P w K mg base CX0 (k + 1) T.f_is_number T.d_is_number ["thing"] spNum := by
  refine T.F_is_number.ok sc_is_number (fun vs H Q E h => ?_) (fun cdv A outer s H vs Q E hr h => ?_)
  · obtain ⟨B, v, d, rfl, _⟩ := h
    rfl
  · obtain ⟨B, v, d, rfl, hv, q⟩ := h
    refine ⟨_, (pss_one (ps_ret (pe_and (pe_callB (call_isiK1 K) (by rfl) T.z_isinstance (by decide +kernel) (pa_cons (pv 0) (pa_cons (pe_bltn (v := .ty "int") (by rfl) T.z_int (by decide +kernel) rfl) pa_nil))) (pe_one (pe_not (pe_callB (call_isiK1 K) (by rfl) T.z_isinstance (by decide +kernel) (pa_cons (pv 0) (pa_cons (pe_bltn (v := .ty "bool") (by rfl) T.z_bool (by decide +kernel) rfl) pa_nil)))))))), ?_⟩
    cases d with
    | none =>
      have tx : TyX K H v (.type "NoneType") := hv.ty
      exact ⟨_, rfl, _, _, _, _, false, rfl, .ty _, tx, kit_ty (by decide +kernel), _, rfl, iteF q⟩
    | bool b =>
      have tx : TyX K H v (.type "bool") := hv.ty
      exact ⟨_, rfl, _, _, _, _, true, rfl, .ty _, tx, kit_ty (by decide +kernel), _, rfl, iteT ⟨_, rfl, _, _, _, _, true, rfl, .ty _, tx, kit_ty (by decide +kernel), _, rfl, q⟩⟩
    | int i =>
      have tx : TyX K H v (.type "int") := hv.ty
      exact ⟨_, rfl, _, _, _, _, true, rfl, .ty _, tx, kit_ty (by decide +kernel), _, rfl, iteT ⟨_, rfl, _, _, _, _, false, rfl, .ty _, tx, kit_ty (by decide +kernel), _, rfl, q⟩⟩
    | str z =>
      have tx : TyX K H v (.type "str") := hv.ty
      exact ⟨_, rfl, _, _, _, _, false, rfl, .ty _, tx, kit_ty (by decide +kernel), _, rfl, iteF q⟩
    | list ds =>
      have tx : TyX K H v (.type "list") := hv.ty
      exact ⟨_, rfl, _, _, _, _, false, rfl, .ty _, tx, kit_ty (by decide +kernel), _, rfl, iteF q⟩
    | tuple ds =>
      have tx : TyX K H v (.type "tuple") := hv.ty
      exact ⟨_, rfl, _, _, _, _, false, rfl, .ty _, tx, kit_ty (by decide +kernel), _, rfl, iteF q⟩
    | dict kvs => cases hv
theorem ok_is_colour (T : Tx K mg) {k : Nat} : FnOk P w K mg base CX0 (k + 2) T.f_is_colour T.d_is_colour ["thing", "wide"] spIsCol := by
  refine T.F_is_colour.ok sc_is_colour (fun vs H Q E h => ?_) (fun cdv A outer s H vs Q E hr h => ?_)
  · obtain ⟨B, v, d, n, j, rfl, _⟩ := h
    rfl
  · obtain ⟨B, v, d, n, j, rfl, hv, hd, hj, q⟩ := h
    refine ⟨_, (pss_cons (ps_if (PW.pt (pw_or (pt_not (pt_val (pe_callB (call_isiK1 K) (by rfl) T.z_isinstance (by decide +kernel) (pa_cons (pv 0) (pa_cons (pe_bltn (v := .ty "tuple") (by rfl) T.z_tuple (by decide +kernel) rfl) pa_nil))))) (pw_or1 (pt_cmpR op_ne (pe_callB (len_K K) (by rfl) T.z_len PySem.boot_len (pa_cons (pv 0) pa_nil)) (pv 1) (nomark _))))) (pss_one (ps_ret pe_bl)) pss_nil)
      (pss_one (ps_ret (pe_callB (cr_allK K rfl) (by rfl) T.z_all (by decide +kernel) (pa_cons (pe_lc (own := [("number", 2)]) (by rfl) sc_is_colour.nd (pi_tupK K (pv 0)) (blkOk_by (own := [("number", 2)]) (N := N_is_colour) (sc := defScope s_is_colour) (by decide +kernel)) (fun _ _ _ _ _ => (pg_name (i := 2) sc_is_colour.nd rfl (.inl rfl))) (fun _ _ _ _ _ => pts_nil) (fun _ _ _ _ _ => (pe_call (ok_is_number T (k := k)) hr (by rfl) T.g_is_number T.F_is_number.kp T.b_is_number .nil pass0 (pa_cons (pv 2) pa_nil)))) pa_nil))))), ?_⟩
    cases d with
    | tuple ds =>
      have tx : TyX K H v (.type "tuple") := hv.ty
      obtain ⟨a, xs, rfl, na, ha, hA⟩ := hv.tupI
      have l1 := hA.len
      obtain ⟨j, rfl, hs, hl⟩ := hd.tupI
      refine ⟨_, rfl, _, _, _, _, true, rfl, .ty _, tx, kit_ty (by decide +kernel), _, rfl, iteF ?_⟩
      refine ⟨_, rfl, a, _, rfl, .inr (SqT.of ha), _, rfl, rfl, _, rfl, ite2 (fun e => ?_) (fun e => ?_)⟩
      · have e1 : (ds.length : Int) ≠ n := fun z => by
          rw [l1, z] at e
          simp at e
        have := q _ (Same.refl _)
        rw [isCol_no e1] at this
        exact this
      have el : (ds.length : Int) = n := by
        rw [l1] at e
        simpa using e
      refine ⟨_, rfl, a, rfl, ⟨_, SqT.of ha⟩, fun D hD => ?_⟩
      refine lc_pure (B := []) (walk_tup (xs := xs)) hD (fun _ h => nomatch h) (fun H' s' => SqT.of (s' _ _ ha)) (by omega)
        (fun i => (ds.map fun d => PyData.bool (isNum d))[i]?) (fun i x H' H'' Ny Nn hi t1 bk y ky kn => ?_) (fun H8 ws s8 eS hW => ?_)
      · obtain ⟨rfl, y⟩ := y
        obtain ⟨d1, f1, h1⟩ := hA.getV y
        refine ⟨rfl, lc_yes ⟨_, rfl, B, x, d1, rfl, h1.s t1, ?_⟩⟩
        exact ky _ _ _ (by rw [List.getElem?_map, f1]; rfl) (Same.refl _) (.bl _)
      · rw [fm_all (by simp; omega)] at hW
        have hW2 : DtA [D] H8 ws ((ds.map isNum).map PyData.bool) := by rw [List.map_map]; exact hW
        refine ⟨D, _, rfl, SqL.of (by rw [eS, hW2.blsV]), ?_⟩
        rw [show (ds.map isNum).all id = isCol (.tuple ds) n by rw [isCol_yes el, List.all_map]; rfl]
        exact q _ s8
    | none =>
      have tx : TyX K H v (.type "NoneType") := hv.ty
      exact ⟨_, rfl, _, _, _, _, false, rfl, .ty _, tx, kit_ty (by decide +kernel), _, rfl, iteT (iteT (q _ (Same.refl _)))⟩
    | bool b =>
      have tx : TyX K H v (.type "bool") := hv.ty
      exact ⟨_, rfl, _, _, _, _, false, rfl, .ty _, tx, kit_ty (by decide +kernel), _, rfl, iteT (iteT (q _ (Same.refl _)))⟩
    | int i =>
      have tx : TyX K H v (.type "int") := hv.ty
      exact ⟨_, rfl, _, _, _, _, false, rfl, .ty _, tx, kit_ty (by decide +kernel), _, rfl, iteT (iteT (q _ (Same.refl _)))⟩
    | str z =>
      have tx : TyX K H v (.type "str") := hv.ty
      exact ⟨_, rfl, _, _, _, _, false, rfl, .ty _, tx, kit_ty (by decide +kernel), _, rfl, iteT (iteT (q _ (Same.refl _)))⟩
    | list ds =>
      have tx : TyX K H v (.type "list") := hv.ty
      exact ⟨_, rfl, _, _, _, _, false, rfl, .ty _, tx, kit_ty (by decide +kernel), _, rfl, iteT (iteT (q _ (Same.refl _)))⟩
    | dict kvs => cases hv
theorem nn_all : ∀ ds : List PyData, PyData.eqv (.list (ds.filterMap fun d => if isNum d = true then none else some d)) (.list []) = ds.all isNum
  | [] => by simp [PyData.eqv, PyData.eqvAll]
  | d :: ds => by
    rw [List.filterMap_cons, List.all_cons]
    by_cases h : isNum d = true
    · simp only [h, if_true, Bool.true_and]
      exact nn_all ds
    · have h2 : isNum d = false := Bool.eq_false_iff.mpr h
      simp [h2, PyData.eqv, PyData.eqvAll]
theorem ok_l_is_number (T : Tx K mg) {k : Nat} : FnOk P w K mg base CX0 (k + 1) T.f_l_is_number T.d_l_is_number ["_law_thing"] spNum := by
  refine T.F_l_is_number.ok sc_l_is_number (fun vs H Q E h => ?_) (fun cdv A outer s H vs Q E hr h => ?_)
  · obtain ⟨B, v, d, rfl, _⟩ := h
    rfl
  · obtain ⟨B, v, d, rfl, hv, q⟩ := h
    refine ⟨_, (pss_one (ps_ret (pe_and (pe_callB (call_isiK1 K) (by rfl) T.z_isinstance (by decide +kernel) (pa_cons (pv 0) (pa_cons (pe_bltn (v := .ty "int") (by rfl) T.z_int (by decide +kernel) rfl) pa_nil))) (pe_one (pe_not (pe_callB (call_isiK1 K) (by rfl) T.z_isinstance (by decide +kernel) (pa_cons (pv 0) (pa_cons (pe_bltn (v := .ty "bool") (by rfl) T.z_bool (by decide +kernel) rfl) pa_nil)))))))), ?_⟩
    cases d with
    | none =>
      have tx : TyX K H v (.type "NoneType") := hv.ty
      exact ⟨_, rfl, _, _, _, _, false, rfl, .ty _, tx, kit_ty (by decide +kernel), _, rfl, iteF q⟩
    | bool b =>
      have tx : TyX K H v (.type "bool") := hv.ty
      exact ⟨_, rfl, _, _, _, _, true, rfl, .ty _, tx, kit_ty (by decide +kernel), _, rfl, iteT ⟨_, rfl, _, _, _, _, true, rfl, .ty _, tx, kit_ty (by decide +kernel), _, rfl, q⟩⟩
    | int i =>
      have tx : TyX K H v (.type "int") := hv.ty
      exact ⟨_, rfl, _, _, _, _, true, rfl, .ty _, tx, kit_ty (by decide +kernel), _, rfl, iteT ⟨_, rfl, _, _, _, _, false, rfl, .ty _, tx, kit_ty (by decide +kernel), _, rfl, q⟩⟩
    | str z =>
      have tx : TyX K H v (.type "str") := hv.ty
      exact ⟨_, rfl, _, _, _, _, false, rfl, .ty _, tx, kit_ty (by decide +kernel), _, rfl, iteF q⟩
    | list ds =>
      have tx : TyX K H v (.type "list") := hv.ty
      exact ⟨_, rfl, _, _, _, _, false, rfl, .ty _, tx, kit_ty (by decide +kernel), _, rfl, iteF q⟩
    | tuple ds =>
      have tx : TyX K H v (.type "tuple") := hv.ty
      exact ⟨_, rfl, _, _, _, _, false, rfl, .ty _, tx, kit_ty (by decide +kernel), _, rfl, iteF q⟩
    | dict kvs => cases hv
theorem ok_l_is_colour (T : Tx K mg) {k : Nat} : FnOk P w K mg base CX0 (k + 2) T.f_l_is_colour T.d_l_is_colour ["_law_thing", "_law_wide"] spIsCol := by
  refine T.F_l_is_colour.ok sc_l_is_colour (fun vs H Q E h => ?_) (fun cdv A outer s H vs Q E hr h => ?_)
  · obtain ⟨B, v, d, n, j, rfl, _⟩ := h
    rfl
  · obtain ⟨B, v, d, n, j, rfl, hv, hd, hj, q⟩ := h
    refine ⟨_, (pss_cons (ps_if (PW.pt (pw_or (pt_not (pt_val (pe_callB (call_isiK1 K) (by rfl) T.z_isinstance (by decide +kernel) (pa_cons (pv 0) (pa_cons (pe_bltn (v := .ty "tuple") (by rfl) T.z_tuple (by decide +kernel) rfl) pa_nil))))) (pw_or1 (pt_cmpR op_ne (pe_callB (len_K K) (by rfl) T.z_len PySem.boot_len (pa_cons (pv 0) pa_nil)) (pv 1) (nomark _))))) (pss_one (ps_ret pe_bl)) pss_nil)
      (pss_one (ps_ret (pe_cmpR (op_eqDK K hr.units) (pe_lc (own := [("_law_one", 2)]) (by rfl) sc_l_is_colour.nd (pi_tupK K (pv 0)) (blkOk_by (own := [("_law_one", 2)]) (N := N_l_is_colour) (sc := defScope s_l_is_colour) (by decide +kernel)) (fun _ _ _ _ _ => (pg_name (i := 2) sc_l_is_colour.nd rfl (.inl rfl))) (fun _ _ _ _ _ => pts_one (pt_not (pt_val (pe_call (ok_l_is_number T (k := k)) hr (by rfl) T.g_l_is_number T.F_l_is_number.kp T.b_l_is_number .nil pass0 (pa_cons (pv 2) pa_nil))))) (fun _ _ _ _ _ => (pv 2))) (pe_lst pa_nil) (nomark _))))), ?_⟩
    cases d with
    | tuple ds =>
      have tx : TyX K H v (.type "tuple") := hv.ty
      obtain ⟨a, xs, rfl, na, ha, hA⟩ := hv.tupI
      have l1 := hA.len
      obtain ⟨j, rfl, hs, hl⟩ := hd.tupI
      refine ⟨_, rfl, _, _, _, _, true, rfl, .ty _, tx, kit_ty (by decide +kernel), _, rfl, iteF ?_⟩
      refine ⟨_, rfl, a, _, rfl, .inr (SqT.of ha), _, rfl, rfl, _, rfl, ite2 (fun e => ?_) (fun e => ?_)⟩
      · have e1 : (ds.length : Int) ≠ n := fun z => by
          rw [l1, z] at e
          simp at e
        have := q _ (Same.refl _)
        rw [isCol_no e1] at this
        exact this
      have el : (ds.length : Int) = n := by
        rw [l1] at e
        simpa using e
      refine ⟨_, rfl, a, rfl, ⟨_, SqT.of ha⟩, fun D hD => ?_⟩
      refine lc_pure (B := []) (walk_tup (xs := xs)) hD (fun _ h => nomatch h) (fun H' s' => SqT.of (s' _ _ ha)) (by omega)
        (fun i => (ds[i]?).bind fun d => if isNum d = true then none else some d) (fun i x H' H'' Ny Nn hi t1 bk y ky kn => ?_) (fun H8 ws s8 eS hW => ?_)
      · obtain ⟨rfl, y⟩ := y
        obtain ⟨d1, f1, h1⟩ := hA.getV y
        refine ⟨rfl, ⟨_, rfl, B, x, d1, rfl, h1.s t1, _, rfl, ite2 (fun e => ?_) (fun e => ?_)⟩⟩
        · refine ⟨_, rfl, ky _ _ d1 ?_ (Same.refl _) (((h1.sub (C := []) (fun a h => nomatch h)).fr hD).s t1)⟩
          have e2 : isNum d1 = false := by simpa using e
          rw [f1]
          simp [e2]
        · refine kn _ ?_ (Same.refl _)
          have e2 : isNum d1 = true := by simpa using e
          rw [f1]
          simp [e2]
      · rw [l1, fm_bind] at hW
        refine ⟨Nat.zero_le _, fun p hp => ?_⟩
        have shl : Sh (.list (ds.filterMap fun d => if isNum d = true then none else some d)) (j + 1) := sh_lst (Nat.le_trans (List.length_filterMap_le _ _) hl) fun d hd => by
          obtain ⟨e, he, h2⟩ := List.mem_filterMap.mp hd
          by_cases hn : isNum e = true
          · rw [if_pos hn] at h2; cases h2
          · rw [if_neg hn] at h2
            rw [← Option.some.inj h2]
            exact hs e he
        refine ⟨_, .list [], ((Dt.lst (B := []) (fun h => nomatch h) eS hW.un).s (sm_new hp)).dP, .lst (SqL.of upd_same) .nil, shl.sh (by omega), rfl, ?_⟩
        rw [show PyData.eqv (.list (ds.filterMap fun d => if isNum d = true then none else some d)) (.list []) = isCol (.tuple ds) n by rw [isCol_yes el]; exact nn_all ds]
        exact q _ (s8.trans (sm_new hp))
    | none =>
      have tx : TyX K H v (.type "NoneType") := hv.ty
      exact ⟨_, rfl, _, _, _, _, false, rfl, .ty _, tx, kit_ty (by decide +kernel), _, rfl, iteT (iteT (q _ (Same.refl _)))⟩
    | bool b =>
      have tx : TyX K H v (.type "bool") := hv.ty
      exact ⟨_, rfl, _, _, _, _, false, rfl, .ty _, tx, kit_ty (by decide +kernel), _, rfl, iteT (iteT (q _ (Same.refl _)))⟩
    | int i =>
      have tx : TyX K H v (.type "int") := hv.ty
      exact ⟨_, rfl, _, _, _, _, false, rfl, .ty _, tx, kit_ty (by decide +kernel), _, rfl, iteT (iteT (q _ (Same.refl _)))⟩
    | str z =>
      have tx : TyX K H v (.type "str") := hv.ty
      exact ⟨_, rfl, _, _, _, _, false, rfl, .ty _, tx, kit_ty (by decide +kernel), _, rfl, iteT (iteT (q _ (Same.refl _)))⟩
    | list ds =>
      have tx : TyX K H v (.type "list") := hv.ty
      exact ⟨_, rfl, _, _, _, _, false, rfl, .ty _, tx, kit_ty (by decide +kernel), _, rfl, iteT (iteT (q _ (Same.refl _)))⟩
    | dict kvs => cases hv
/-! ### boxes of any data -/
def leL (a b : List Int) : Bool := (a.zip b).all fun p => decide (p.1 ≤ p.2)
def leD : PyData → PyData → Bool
  | .tuple ls, .tuple hs => (ls.zip hs).all fun p => match p with
    | (.int x, .int y) => decide (x ≤ y)
    | _ => false
  | _, _ => false
def isBox (d : PyData) (n : Int) : Bool := match d with
  | .tuple [l, h] => isCol l n && (isCol h n && leD l h)
  | _ => false
theorem isBox_eq (l h : PyData) (n : Int) : isBox (.tuple [l, h]) n = (isCol l n && (isCol h n && leD l h)) := rfl
theorem leD_eC : ∀ a b : List Int, leD (eC a) (eC b) = leL a b := by
  intro a b
  unfold leD eC leL
  simp only [List.zip_map, List.all_map]
  rfl
theorem isCol_inv {d : PyData} {n : Int} (h : isCol d n = true) : ∃ ns : List Int, d = eC ns ∧ (ns.length : Int) = n := by
  cases d with
  | tuple ds =>
    unfold isCol at h
    have h1 := Bool.and_eq_true_iff.mp h
    have h2 : (ds.length : Int) = n := of_decide_eq_true h1.1
    obtain ⟨ns, e⟩ : ∃ ns : List Int, ds = ns.map PyData.int := by
      clear h h2
      replace h1 := h1.2
      induction ds with
      | nil => exact ⟨[], rfl⟩
      | cons d ds ih =>
        rw [List.all_cons] at h1
        have h3 := Bool.and_eq_true_iff.mp h1
        obtain ⟨ns, e⟩ := ih h3.2
        cases d with
        | int i => exact ⟨i :: ns, by rw [List.map_cons, ← e]⟩
        | _ => exact absurd h3.1 (by simp [isNum])
    subst e
    rw [List.length_map] at h2
    exact ⟨ns, rfl, h2⟩
  | _ => exact absurd h (by simp [isCol])
theorem isBox_len {ds : List PyData} {n : Int} (h : ds.length ≠ 2) : isBox (.tuple ds) n = false := by
  match ds, h with
  | [], _ => rfl
  | [_], _ => rfl
  | [_, _], h => exact absurd rfl h
  | _ :: _ :: _ :: _, _ => rfl
theorem two_of {ds : List PyData} (h : ds.length = 2) : ∃ l u, ds = [l, u] := by
  match ds, h with
  | [l, u], _ => exact ⟨l, u, rfl⟩
theorem DtA.two {B : List Addr} {H : Hp} {vs : List V} {l u : PyData} (h : DtA B H vs [l, u]) : ∃ x y, vs = [x, y] ∧ Dt B H x l ∧ Dt B H y u := by
  cases h with
  | cons h1 h2 =>
    cases h2 with
    | cons h3 h4 =>
      cases h4
      exact ⟨_, _, rfl, h1, h3⟩
theorem leL_iff : ∀ {a b : List Int}, a.length = b.length → (leL a b = true ↔ ∀ (i : Nat) (x y : Int), a[i]? = some x → b[i]? = some y → x ≤ y)
  | [], [], _ => ⟨fun _ i x y h => by simp at h, fun _ => rfl⟩
  | x :: a, y :: b, h => by
    have ih := leL_iff (a := a) (b := b) (by simpa using h)
    unfold leL at ih ⊢
    rw [List.zip_cons_cons, List.all_cons, Bool.and_eq_true_iff, ih]
    constructor
    · rintro ⟨h1, h2⟩ i u v hu hv
      cases i with
      | zero =>
        cases hu
        cases hv
        exact of_decide_eq_true h1
      | succ i => exact h2 i u v hu hv
    · intro h1
      exact ⟨decide_eq_true (h1 0 x y rfl rfl), fun i u v hu hv => h1 (i + 1) u v hu hv⟩
def spIsBox : Sp := fun vs H Q _ => ∃ (B : List Addr) (v : V) (d : PyData) (n : Int) (j : Nat), vs = [v, .int n] ∧ Dt B H v d ∧ Sh d j ∧ j ≤ 60 ∧ n ≤ 1000 ∧ ∀ H', Same H H' → Q (.bl (isBox d n)) H'
theorem ok_is_box (T : Tx K mg) {k : Nat} : FnOk P w K mg base CX0 (k + 3) T.f_is_box T.d_is_box ["thing", "wide"] spIsBox := by
  refine T.F_is_box.ok sc_is_box (fun vs H Q E h => ?_) (fun cdv A outer s H vs Q E hr h => ?_)
  · obtain ⟨B, v, d, n, j, rfl, _⟩ := h
    rfl
  · obtain ⟨B, v, d, n, j, rfl, hv, hd, hj, hn, q⟩ := h
    refine ⟨_, (pss_cons (ps_if (PW.pt (pw_or (pt_not (pt_val (pe_callB (call_isiK1 K) (by rfl) T.z_isinstance (by decide +kernel) (pa_cons (pv 0) (pa_cons (pe_bltn (v := .ty "tuple") (by rfl) T.z_tuple (by decide +kernel) rfl) pa_nil))))) (pw_or1 (pt_cmpR op_ne (pe_callB (len_K K) (by rfl) T.z_len PySem.boot_len (pa_cons (pv 0) pa_nil)) pe_int (nomark _))))) (pss_one (ps_ret pe_bl)) pss_nil)
      (pss_cons (ps_asg (pv 0) (pg_tupK K (n := 2) rfl (pgs_cons (pg_name (i := 2) sc_is_box.nd rfl (.inl rfl)) (pgs_cons (pg_name (i := 3) sc_is_box.nd rfl (.inl rfl)) pgs_nil))))
      (pss_cons (ps_if (PW.pt (pw_or (pt_not (pt_val (pe_call (ok_is_colour T (k := k)) hr (by rfl) T.g_is_colour T.F_is_colour.kp T.b_is_colour .nil pass0 (pa_cons (pv 2) (pa_cons (pv 1) pa_nil))))) (pw_or1 (pt_not (pt_val (pe_call (ok_is_colour T (k := k)) hr (by rfl) T.g_is_colour T.F_is_colour.kp T.b_is_colour .nil pass0 (pa_cons (pv 3) (pa_cons (pv 1) pa_nil)))))))) (pss_one (ps_ret pe_bl)) pss_nil)
      (pss_one (ps_ret (pe_callB (cr_allK K rfl) (by rfl) T.z_all (by decide +kernel) (pa_cons (pe_lc (own := [("a", 4), ("b", 5)]) (by rfl) sc_is_box.nd (RZ.pi_zipA (by rfl) T.z_zip (pa_cons (pv 2) (pa_cons (pv 3) pa_nil))) (blkOk_by (own := [("a", 4), ("b", 5)]) (N := N_is_box) (sc := defScope s_is_box) (by decide +kernel)) (fun _ _ _ _ _ => (pg_tupK K (n := 2) rfl (pgs_cons (pg_name (i := 4) sc_is_box.nd rfl (.inl rfl)) (pgs_cons (pg_name (i := 5) sc_is_box.nd rfl (.inl rfl)) pgs_nil)))) (fun _ _ _ _ _ => pts_nil) (fun _ _ _ _ _ => (pe_cmpR op_le (pv 4) (pv 5) (nomark _)))) pa_nil))))))), ?_⟩
    cases d with
    | tuple ds =>
      have tx : TyX K H v (.type "tuple") := hv.ty
      obtain ⟨a, xs, rfl, na, ha, hA⟩ := hv.tupI
      have l1 := hA.len
      obtain ⟨j, rfl, hs, hl⟩ := hd.tupI
      refine ⟨_, rfl, _, _, _, _, true, rfl, .ty _, tx, kit_ty (by decide +kernel), _, rfl, iteF ?_⟩
      refine ⟨_, rfl, a, _, rfl, .inr (SqT.of ha), rfl, _, rfl, ite2 (fun e => ?_) (fun e => ?_)⟩
      · have e1 : ds.length ≠ 2 := fun z => by
          rw [l1, z] at e
          exact absurd e (by decide)
        have := q _ (Same.refl _)
        rw [isBox_len e1] at this
        exact this
      have el : ds.length = 2 := by
        rw [l1] at e
        have : ((ds.length : Nat) : Int) = 2 := by simpa using e
        omega
      obtain ⟨dl, dh, rfl⟩ := two_of el
      obtain ⟨lv, hv2, rfl, dlo, dhi⟩ := hA.two
      refine ⟨_, rfl, a, _, rfl, SqT.of ha, rfl, _, _, rfl, _, _, rfl, rfl, ?_⟩
      refine ⟨_, rfl, _, rfl, B, lv, dl, n, j, rfl, dlo, hs _ (by simp), by omega, fun H1 s1 => ?_⟩
      refine ⟨_, rfl, ?_⟩
      cases c1 : isCol dl n with
      | false => exact iteT (iteT (by
          have := q _ s1
          rw [show isBox (.tuple [dl, dh]) n = false by rw [isBox_eq, c1]; rfl] at this
          exact this))
      | true =>
        refine iteF ?_
        refine ⟨_, rfl, _, rfl, B, hv2, dh, n, j, rfl, dhi.s s1, hs _ (by simp), by omega, fun H2 s2 => ?_⟩
        refine ⟨_, rfl, ?_⟩
        have t2 := s1.trans s2
        cases c2 : isCol dh n with
        | false => exact iteT (by
            have := q _ t2
            rw [show isBox (.tuple [dl, dh]) n = false by rw [isBox_eq, c1, c2]; rfl] at this
            exact this)
        | true =>
          refine iteF ?_
          obtain ⟨lo, rfl, n1⟩ := isCol_inv c1
          obtain ⟨hi, rfl, n2⟩ := isCol_inv c2
          obtain ⟨la, rfl, _, ela⟩ := (dlo.s t2).col
          obtain ⟨ua, rfl, _, eua⟩ := (dhi.s t2).col
          refine ⟨_, rfl, _, rfl, la, ua, _, _, rfl, .inr ⟨SqT.of ela, SqT.of eua, fun D hD => ?_⟩⟩
          refine lc_pure (B := []) (walk_zipT (n := lo.length) (xs := lo.map V.int) (ys := hi.map V.int) (by simp; omega)) hD (fun _ h => nomatch h) (fun H' s' => ⟨SqT.of (s' _ _ ela), SqT.of (s' _ _ eua)⟩) (by omega)
            (fun i => ((lo.zip hi).map fun p => PyData.bool (decide (p.1 ≤ p.2)))[i]?) (fun i x H' H'' Ny Nn hi' t1 bk y ky kn => ?_) (fun H8 ws s8 eS hW => ?_)
          · obtain ⟨t, x, y, rfl, ht, rfl, e1, e2⟩ := y
            have i2 : i < hi.length := by omega
            have x1 := mat hi' e1
            have x2 := mat i2 e2
            refine ⟨t, [x, y], rfl, SqT.of upd_same, rfl, x, _, rfl, y, _, rfl, rfl, rfl, lc_yes ?_⟩
            refine ⟨_, rfl, _, rfl, _, _, x1, x2, ?_⟩
            refine ky _ _ _ ?_ (sm_new ht) (.bl _)
            rw [List.getElem?_map, List.getElem?_eq_getElem (by simp; omega)]
            simp
          · rw [fm_all (by simp; omega)] at hW
            have hW2 : DtA [D] H8 ws (((lo.zip hi).map fun p => decide (p.1 ≤ p.2)).map PyData.bool) := by rw [List.map_map]; exact hW
            refine ⟨D, _, rfl, SqL.of (by rw [eS, hW2.blsV]), ?_⟩
            rw [show ((lo.zip hi).map fun p => decide (p.1 ≤ p.2)).all id = isBox (.tuple [eC lo, eC hi]) n by
              rw [isBox_eq, c1, c2, leD_eC, List.all_map]
              rfl]
            exact q _ (t2.trans s8)
    | none =>
      have tx : TyX K H v (.type "NoneType") := hv.ty
      exact ⟨_, rfl, _, _, _, _, false, rfl, .ty _, tx, kit_ty (by decide +kernel), _, rfl, iteT (iteT (q _ (Same.refl _)))⟩
    | bool b =>
      have tx : TyX K H v (.type "bool") := hv.ty
      exact ⟨_, rfl, _, _, _, _, false, rfl, .ty _, tx, kit_ty (by decide +kernel), _, rfl, iteT (iteT (q _ (Same.refl _)))⟩
    | int i =>
      have tx : TyX K H v (.type "int") := hv.ty
      exact ⟨_, rfl, _, _, _, _, false, rfl, .ty _, tx, kit_ty (by decide +kernel), _, rfl, iteT (iteT (q _ (Same.refl _)))⟩
    | str z =>
      have tx : TyX K H v (.type "str") := hv.ty
      exact ⟨_, rfl, _, _, _, _, false, rfl, .ty _, tx, kit_ty (by decide +kernel), _, rfl, iteT (iteT (q _ (Same.refl _)))⟩
    | list ds =>
      have tx : TyX K H v (.type "list") := hv.ty
      exact ⟨_, rfl, _, _, _, _, false, rfl, .ty _, tx, kit_ty (by decide +kernel), _, rfl, iteT (iteT (q _ (Same.refl _)))⟩
    | dict kvs => cases hv
def gtF (lo hi : List Int) (i : Nat) : Option PyData := (lo[i]?).bind fun x => (hi[i]?).bind fun y => if y < x then some (PyData.int (i : Int)) else none
theorem emp_list (xs : List PyData) : PyData.eqv (.list xs) (.list []) = xs.isEmpty := by
  cases xs <;> simp [PyData.eqv, PyData.eqvAll]
theorem ok_l_is_box (T : Tx K mg) {k : Nat} : FnOk P w K mg base CX0 (k + 3) T.f_l_is_box T.d_l_is_box ["_law_thing", "_law_wide"] spIsBox := by
  refine T.F_l_is_box.ok sc_l_is_box (fun vs H Q E h => ?_) (fun cdv A outer s H vs Q E hr h => ?_)
  · obtain ⟨B, v, d, n, j, rfl, _⟩ := h
    rfl
  · obtain ⟨B, v, d, n, j, rfl, hv, hd, hj, hn, q⟩ := h
    refine ⟨_, (pss_cons (ps_if (PW.pt (pw_or (pt_not (pt_val (pe_callB (call_isiK1 K) (by rfl) T.z_isinstance (by decide +kernel) (pa_cons (pv 0) (pa_cons (pe_bltn (v := .ty "tuple") (by rfl) T.z_tuple (by decide +kernel) rfl) pa_nil))))) (pw_or1 (pt_cmpR op_ne (pe_callB (len_K K) (by rfl) T.z_len PySem.boot_len (pa_cons (pv 0) pa_nil)) pe_int (nomark _))))) (pss_one (ps_ret pe_bl)) pss_nil)
      (pss_cons (ps_if (PW.pt (pw_or (pt_not (pt_val (pe_call (ok_l_is_colour T (k := k)) hr (by rfl) T.g_l_is_colour T.F_l_is_colour.kp T.b_l_is_colour .nil pass0 (pa_cons (pe_ix (ix_tupK K) (pv 0) pe_int (fun _ _ => rfl)) (pa_cons (pv 1) pa_nil))))) (pw_or1 (pt_not (pt_val (pe_call (ok_l_is_colour T (k := k)) hr (by rfl) T.g_l_is_colour T.F_l_is_colour.kp T.b_l_is_colour .nil pass0 (pa_cons (pe_ix (ix_tupK K) (pv 0) pe_int (fun _ _ => rfl)) (pa_cons (pv 1) pa_nil)))))))) (pss_one (ps_ret pe_bl)) pss_nil)
      (pss_one (ps_ret (pe_cmpR (op_eqDK K hr.units) (pe_lc (own := [("_law_k", 2)]) (by rfl) sc_l_is_box.nd (pi_range1 (by rfl) T.z_range (pa_cons (pv 1) pa_nil)) (blkOk_by (own := [("_law_k", 2)]) (N := N_l_is_box) (sc := defScope s_l_is_box) (by decide +kernel)) (fun _ _ _ _ _ => (pg_name (i := 2) sc_l_is_box.nd rfl (.inl rfl))) (fun _ _ _ _ _ => pts_one (pt_cmpR op_gt (pe_ix (ix_tupK K) (pe_ix (ix_tupK K) (pv 0) pe_int (fun _ _ => rfl)) (pv 2) (fun _ _ => rfl)) (pe_ix (ix_tupK K) (pe_ix (ix_tupK K) (pv 0) pe_int (fun _ _ => rfl)) (pv 2) (fun _ _ => rfl)) (nomark _))) (fun _ _ _ _ _ => (pv 2))) (pe_lst pa_nil) (nomark _)))))), ?_⟩
    cases d with
    | tuple ds =>
      have tx : TyX K H v (.type "tuple") := hv.ty
      obtain ⟨a, xs, rfl, na, ha, hA⟩ := hv.tupI
      have l1 := hA.len
      obtain ⟨j, rfl, hs, hl⟩ := hd.tupI
      refine ⟨_, rfl, _, _, _, _, true, rfl, .ty _, tx, kit_ty (by decide +kernel), _, rfl, iteF ?_⟩
      refine ⟨_, rfl, a, _, rfl, .inr (SqT.of ha), rfl, _, rfl, ite2 (fun e => ?_) (fun e => ?_)⟩
      · have e1 : ds.length ≠ 2 := fun z => by
          rw [l1, z] at e
          exact absurd e (by decide)
        have := q _ (Same.refl _)
        rw [isBox_len e1] at this
        exact this
      have el : ds.length = 2 := by
        rw [l1] at e
        have : ((ds.length : Nat) : Int) = 2 := by simpa using e
        omega
      obtain ⟨dl, dh, rfl⟩ := two_of el
      obtain ⟨lv, hv2, rfl, dlo, dhi⟩ := hA.two
      refine ⟨_, rfl, a, _, 0, lv, rfl, rfl, SqT.of ha, rfl, _, rfl, B, lv, dl, n, j, rfl, dlo, hs _ (by simp), by omega, fun H1 s1 => ?_⟩
      refine ⟨_, rfl, ?_⟩
      cases c1 : isCol dl n with
      | false => exact iteT (iteT (by
          have := q _ s1
          rw [show isBox (.tuple [dl, dh]) n = false by rw [isBox_eq, c1]; rfl] at this
          exact this))
      | true =>
        refine iteF ?_
        refine ⟨_, rfl, a, _, 1, hv2, rfl, rfl, SqT.of (s1 _ _ ha), rfl, _, rfl, B, hv2, dh, n, j, rfl, dhi.s s1, hs _ (by simp), by omega, fun H2 s2 => ?_⟩
        refine ⟨_, rfl, ?_⟩
        have t2 := s1.trans s2
        cases c2 : isCol dh n with
        | false => exact iteT (by
            have := q _ t2
            rw [show isBox (.tuple [dl, dh]) n = false by rw [isBox_eq, c1, c2]; rfl] at this
            exact this)
        | true =>
          refine iteF ?_
          obtain ⟨lo, rfl, n1⟩ := isCol_inv c1
          obtain ⟨hi, rfl, n2⟩ := isCol_inv c2
          obtain ⟨la, rfl, _, ela⟩ := (dlo.s t2).col
          obtain ⟨ua, rfl, _, eua⟩ := (dhi.s t2).col
          have ha2 := t2 _ _ ha
          refine ⟨_, rfl, n, rfl, by omega, by omega, fun D hD => ?_⟩
          refine lc_pure (B := []) (walk_range (lo := 0) (n := n.toNat)) hD (fun _ h => nomatch h) (fun H' s' => True.intro) (by omega)
            (gtF lo hi) (fun i x H' H'' Ny Nn hi' t1 bk y ky kn => ?_) (fun H8 ws s8 eS hW => ?_)
          · obtain ⟨rfl, rfl⟩ := y
            have i1 : i < lo.length := by omega
            have i2 : i < hi.length := by omega
            have g1 : atI (lo.map V.int) ((0 : Int) + (i : Int)) = some (.int lo[i]) := at0 (by omega) (by rw [show ((0 : Int) + (i : Int)).toNat = i by omega, List.getElem?_map, List.getElem?_eq_getElem i1]; rfl)
            have g2 : atI (hi.map V.int) ((0 : Int) + (i : Int)) = some (.int hi[i]) := at0 (by omega) (by rw [show ((0 : Int) + (i : Int)).toNat = i by omega, List.getElem?_map, List.getElem?_eq_getElem i2]; rfl)
            refine ⟨rfl, ?_⟩
            refine ⟨_, rfl, a, _, 0, .ref la, rfl, rfl, SqT.of (t1 _ _ ha2), rfl, _, rfl, la, _, _, _, rfl, rfl, SqT.of (t1 _ _ ela), g1, _, rfl, a, _, 1, .ref ua, rfl, rfl, SqT.of (t1 _ _ ha2), rfl, _, rfl, ua, _, _, _, rfl, rfl, SqT.of (t1 _ _ eua), g2, _, _, rfl, rfl, _, rfl, ite2 (fun e => ?_) (fun e => ?_)⟩
            · have e1 : hi[i] < lo[i] := of_decide_eq_true e
              refine ⟨_, rfl, ky _ _ (.int (i : Int)) ?_ (Same.refl _) (by show Dt _ _ (.int ((0 : Int) + (i : Int))) _; rw [Int.zero_add]; exact .int _)⟩
              unfold gtF
              rw [List.getElem?_eq_getElem i1, List.getElem?_eq_getElem i2]
              simp [e1]
            · have e1 : ¬ hi[i] < lo[i] := fun h => e (decide_eq_true h)
              refine kn _ ?_ (Same.refl _)
              unfold gtF
              rw [List.getElem?_eq_getElem i1, List.getElem?_eq_getElem i2]
              simp [e1]
          · refine ⟨Nat.zero_le _, fun p hp => ?_⟩
            have shl : Sh (.list ((List.range n.toNat).filterMap (gtF lo hi))) 1 := sh_lst (Nat.le_trans (List.length_filterMap_le _ _) (by rw [List.length_range]; omega)) fun d hd => by
              obtain ⟨i, _, h2⟩ := List.mem_filterMap.mp hd
              unfold gtF at h2
              cases h3 : lo[i]? with
              | none => rw [h3] at h2; cases h2
              | some x =>
                cases h4 : hi[i]? with
                | none => rw [h3, h4] at h2; cases h2
                | some y =>
                  rw [h3, h4] at h2
                  simp only [Option.bind_some] at h2
                  split at h2
                  · rw [← Option.some.inj h2]; exact sh_int _ _
                  · cases h2
            refine ⟨_, .list [], ((Dt.lst (B := []) (fun h => nomatch h) eS hW.un).s (sm_new hp)).dP, .lst (SqL.of upd_same) .nil, shl.sh (by omega), rfl, ?_⟩
            rw [emp_list, show ((List.range n.toNat).filterMap (gtF lo hi)).isEmpty = isBox (.tuple [eC lo, eC hi]) n by
              rw [isBox_eq, c1, c2, leD_eC]
              simp only [Bool.true_and]
              rw [Bool.eq_iff_iff, leL_iff (by omega), List.isEmpty_iff, List.filterMap_eq_nil_iff]
              constructor
              · intro h i x y hx hy
                have hi3 := (List.getElem?_eq_some_iff.mp hx).1
                have := h i (List.mem_range.mpr (by omega))
                unfold gtF at this
                rw [hx, hy] at this
                simp only [Option.bind_some] at this
                split at this
                · cases this
                · omega
              · intro h i _
                unfold gtF
                cases h3 : lo[i]? with
                | none => rfl
                | some x =>
                  cases h4 : hi[i]? with
                  | none => rfl
                  | some y =>
                    have := h i x y h3 h4
                    simp only [Option.bind_some]
                    rw [if_neg (by omega)]]
            exact q _ ((t2.trans s8).trans (sm_new hp))
    | none =>
      have tx : TyX K H v (.type "NoneType") := hv.ty
      exact ⟨_, rfl, _, _, _, _, false, rfl, .ty _, tx, kit_ty (by decide +kernel), _, rfl, iteT (iteT (q _ (Same.refl _)))⟩
    | bool b =>
      have tx : TyX K H v (.type "bool") := hv.ty
      exact ⟨_, rfl, _, _, _, _, false, rfl, .ty _, tx, kit_ty (by decide +kernel), _, rfl, iteT (iteT (q _ (Same.refl _)))⟩
    | int i =>
      have tx : TyX K H v (.type "int") := hv.ty
      exact ⟨_, rfl, _, _, _, _, false, rfl, .ty _, tx, kit_ty (by decide +kernel), _, rfl, iteT (iteT (q _ (Same.refl _)))⟩
    | str z =>
      have tx : TyX K H v (.type "str") := hv.ty
      exact ⟨_, rfl, _, _, _, _, false, rfl, .ty _, tx, kit_ty (by decide +kernel), _, rfl, iteT (iteT (q _ (Same.refl _)))⟩
    | list ds =>
      have tx : TyX K H v (.type "list") := hv.ty
      exact ⟨_, rfl, _, _, _, _, false, rfl, .ty _, tx, kit_ty (by decide +kernel), _, rfl, iteT (iteT (q _ (Same.refl _)))⟩
    | dict kvs => cases hv
/-! ### things of any kind -/
def oddD : List PyData := [.none, .bool true, .bool false, .str "", .str "a", .int 0, .int 1, .int (-1), .int 999, .int 1000000, .tuple [], .list [], .tuple [.bool true], .tuple [.int 1, .str "a"], .tuple [.int 1, .int 2, .none]]
theorem oddD_sh : ∀ d ∈ oddD, Sh d 1 := by
  have s0 : Sh (.str "") 1 := ⟨by decide +kernel, by rw [PyData.depth]; omega, by rw [wide]⟩
  have s1 : ∀ k, Sh (.str "a") k := fun k => ⟨by decide +kernel, by rw [PyData.depth]; omega, by rw [wide]⟩
  intro d hd
  simp only [oddD, List.mem_cons, List.not_mem_nil, or_false] at hd
  rcases hd with rfl | rfl | rfl | rfl | rfl | rfl | rfl | rfl | rfl | rfl | rfl | rfl | rfl | rfl | rfl
  · exact sh_none 1
  · exact sh_bool _ 1
  · exact sh_bool _ 1
  · exact s0
  · exact s1 1
  · exact sh_int _ 1
  · exact sh_int _ 1
  · exact sh_int _ 1
  · exact sh_int _ 1
  · exact sh_int _ 1
  · exact sh_tup (by simp) fun d h => nomatch h
  · exact sh_lst (by simp) fun d h => nomatch h
  · exact sh_tup (by simp) fun d h => by
      rw [List.mem_singleton.mp h]
      exact sh_bool _ 0
  · exact sh_tup (by simp) fun d h => by
      simp only [List.mem_cons, List.not_mem_nil, or_false] at h
      rcases h with rfl | rfl
      · exact sh_int _ 0
      · exact s1 0
  · exact sh_tup (by simp) fun d h => by
      simp only [List.mem_cons, List.not_mem_nil, or_false] at h
      rcases h with rfl | rfl | rfl
      · exact sh_int _ 0
      · exact sh_int _ 0
      · exact sh_none 0
def nO : Nat → Nat
  | 0 => 4
  | j + 1 => 4 + 2 * nO j
def spOdd (j : Nat) : Sp := fun vs H Q _ => ∃ (L : Addr) (B : List Addr) (n : Nat) (dp : Int), vs = [.ref L, .int dp] ∧ Lf L H n ∧ L ∈ B ∧ Bk B H ∧ 0 ≤ dp ∧ dp ≤ (j : Int) ∧ n + nO j < 100000000 ∧
  ∀ (v : V) (H' : Hp) (d : PyData), Go [L] H H' → Lf L H' (n + nO j) → Dt B H' v d → Sh d (j + 1) → Q v H'
def spOddS : Nat → Sp
  | 0 => fun _ _ _ _ => False
  | j + 1 => spOdd j
theorem odd_step (T : Tx K mg) {k : Nat} (GS : FnOk P w K mg base CX0 (k + 2) T.f_l_odd T.d_l_odd ["_law_left_here", "_law_deep"] (spOddS k)) :
    FnOk P w K mg base CX0 (k + 3) T.f_l_odd T.d_l_odd ["_law_left_here", "_law_deep"] (spOdd k) := by
  refine T.F_l_odd.ok sc_l_odd (fun vs H Q E h => ?_) (fun cdv A outer s H vs Q E hr h => ?_)
  · obtain ⟨L, B, n, dp, rfl, _⟩ := h
    rfl
  · obtain ⟨L, B, n, dp, rfl, hL, LB, hB, dp0, dpk, hn, q⟩ := h
    have hrS := hr
    have hO : 4 ≤ nO k := by cases k <;> unfold nO <;> omega
    refine ⟨_, (pss_cons (ps_set (i := 2) sc_l_odd.nd rfl (.inl rfl) (pe_call (ok_l_pick T (k := k)) hr (by rfl) T.g_l_pick T.F_l_pick.kp T.b_l_pick .nil pass0 (pa_cons (pv 0) (pa_cons pe_int pa_nil))))
      (pss_cons (ps_set (i := 3) sc_l_odd.nd rfl (.inl rfl) (pe_lst (pa_cons pe_non (pa_cons pe_bl (pa_cons pe_bl (pa_cons pe_str (pa_cons pe_str (pa_cons pe_int (pa_cons pe_int (pa_cons (pe_un un_neg pe_int) (pa_cons pe_int (pa_cons (pe_op op_pow pe_int pe_int) (pa_cons (pe_tup pa_nil) (pa_cons (pe_lst pa_nil) (pa_cons (pe_tup (pa_cons pe_bl pa_nil)) (pa_cons (pe_tup (pa_cons pe_int (pa_cons pe_str pa_nil))) (pa_cons (pe_tup (pa_cons pe_int (pa_cons pe_int (pa_cons pe_non pa_nil)))) pa_nil)))))))))))))))))
      (pss_cons (ps_if (PW.pt (pw_or (pt_cmpR op_lt (pv 2) pe_int (nomark _)) (pw_or1 (pt_cmpR op_eq (pv 1) pe_int (nomark _))))) (pss_one (ps_ret (pe_ix (ix_listK K) (pv 3) (pe_op op_mod (pv 2) pe_int) (fun _ _ => rfl)))) pss_nil)
      (pss_cons (ps_setLc (i := 4) (own := [("_law_k", 5)]) (by rfl) sc_l_odd.nd rfl rfl (sw_true rfl rfl rfl (by decide +kernel)) (pi_range1 (by rfl) T.z_range (pa_cons (pe_op op_add pe_int (pe_op op_mul (pe_call (ok_l_pick T (k := k)) hr (by rfl) T.g_l_pick T.F_l_pick.kp T.b_l_pick .nil pass0 (pa_cons (pv 0) (pa_cons pe_int pa_nil))) (pe_callTy call_int1 (by rfl) T.z_int (by decide +kernel) (pa_cons (pe_cmpR op_gt (pv 1) pe_int (nomark _)) pa_nil)))) pa_nil)) (blkOk_by (own := [("_law_k", 5)]) (N := N_l_odd) (sc := defScope s_l_odd) (by decide +kernel)) (fun _ _ _ _ _ => (pg_name (i := 5) sc_l_odd.nd rfl (.inl rfl))) (fun _ _ _ _ _ => pts_nil) (fun _ _ _ _ _ => (pe_call GS hrS (by rfl) T.g_l_odd T.F_l_odd.kp T.b_l_odd .nil pass0 (pa_cons (pv 0) (pa_cons (pe_op op_sub (pv 1) pe_int) pa_nil)))))
      (pss_one (ps_ret (pe_ix (ix_listK K) (pe_lst (pa_cons (pv 4) (pa_cons (pe_callTy (tuple_K K) (by rfl) T.z_tuple (by decide +kernel) (pa_cons (pv 4) pa_nil)) pa_nil))) (pe_call (ok_l_pick T (k := k)) hr (by rfl) T.g_l_pick T.F_l_pick.kp T.b_l_pick .nil pass0 (pa_cons (pv 0) (pa_cons pe_int pa_nil))) (fun _ _ => rfl)))))))), ?_⟩
    refine ⟨_, rfl, L, 16, n, rfl, hL, by omega, by decide, by decide, fun wy H0 g0 l0 a0 b0 => ?_⟩
    have B0 := hB.go g0
    refine ⟨_, rfl, _, _, rfl, rfl, ⟨by decide, by decide, by decide⟩, Nat.zero_le _, fun p1 h1 => ⟨Nat.zero_le _, fun p2 h2 => ⟨(by show 1 ≤ sizeLine; decide), fun p3 h3 => ⟨(by show 2 ≤ sizeLine; decide), fun p4 h4 => ⟨(by show 3 ≤ sizeLine; decide), fun p5 h5 => ⟨(by show 15 ≤ sizeLine; decide), fun p6 h6 => ?_⟩⟩⟩⟩⟩⟩
    obtain ⟨H6, e6, s6, hA⟩ : ∃ H6, H6 = upd (upd (upd (upd (upd (upd H0 p1 (.tup [])) p2 (.lst [])) p3 (.tup [.bl true])) p4 (.tup [.int 1, .str "a"])) p5 (.tup [.int 1, .int 2, .non])) p6 (.lst [.non, .bl true, .bl false, .str "", .str "a", .int 0, .int 1, .int (-1), .int 999, .int 1000000, .ref p1, .ref p2, .ref p3, .ref p4, .ref p5]) ∧ Same H0 H6 ∧ DtA B H6 [.non, .bl true, .bl false, .str "", .str "a", .int 0, .int 1, .int (-1), .int 999, .int 1000000, .ref p1, .ref p2, .ref p3, .ref p4, .ref p5] oddD := by
      refine ⟨_, rfl, ?_, ?_⟩
      · exact ((((((sm_new h1).trans (sm_new h2)).trans (sm_new h3)).trans (sm_new h4)).trans (sm_new h5)).trans (sm_new h6))
      · have d1 : Dt B (upd H0 p1 (.tup [])) (.ref p1) (.tuple []) := .tup (B0.ne h1) upd_same .nil
        have d2 : Dt B (upd (upd H0 p1 (.tup [])) p2 (.lst [])) (.ref p2) (.list []) := .lst (B0.up.ne h2) upd_same .nil
        have d3 : Dt B (upd (upd (upd H0 p1 (.tup [])) p2 (.lst [])) p3 (.tup [.bl true])) (.ref p3) (.tuple [.bool true]) := .tup (B0.up.up.ne h3) upd_same (.one (.bl true))
        have d4 : Dt B (upd (upd (upd (upd H0 p1 (.tup [])) p2 (.lst [])) p3 (.tup [.bl true])) p4 (.tup [.int 1, .str "a"])) (.ref p4) (.tuple [.int 1, .str "a"]) := .tup (B0.up.up.up.ne h4) upd_same (.cons (.int 1) (.one (.str "a")))
        have d5 : Dt B (upd (upd (upd (upd (upd H0 p1 (.tup [])) p2 (.lst [])) p3 (.tup [.bl true])) p4 (.tup [.int 1, .str "a"])) p5 (.tup [.int 1, .int 2, .non])) (.ref p5) (.tuple [.int 1, .int 2, .none]) := .tup (B0.up.up.up.up.ne h5) upd_same (.cons (.int 1) (.cons (.int 2) (.one .non)))
        exact .cons .non (.cons (.bl true) (.cons (.bl false) (.cons (.str "") (.cons (.str "a") (.cons (.int 0) (.cons (.int 1) (.cons (.int (-1)) (.cons (.int 999) (.cons (.int 1000000) (.cons (((((d1.s (sm_new h2)).s (sm_new h3)).s (sm_new h4)).s (sm_new h5)).s (sm_new h6)) (.cons ((((d2.s (sm_new h3)).s (sm_new h4)).s (sm_new h5)).s (sm_new h6)) (.cons (((d3.s (sm_new h4)).s (sm_new h5)).s (sm_new h6)) (.cons ((d4.s (sm_new h5)).s (sm_new h6)) (.one (d5.s (sm_new h6))))))))))))))))
    have e66 : H6 p6 = some (.lst [.non, .bl true, .bl false, .str "", .str "a", .int 0, .int 1, .int (-1), .int 999, .int 1000000, .ref p1, .ref p2, .ref p3, .ref p4, .ref p5]) := by rw [e6]; exact upd_same
    show gName 3 (.ref p6) _ (upd (upd (upd (upd (upd (upd H0 p1 (.tup [])) p2 (.lst [])) p3 (.tup [.bl true])) p4 (.tup [.int 1, .str "a"])) p5 (.tup [.int 1, .int 2, .non])) p6 (.lst [.non, .bl true, .bl false, .str "", .str "a", .int 0, .int 1, .int (-1), .int 999, .int 1000000, .ref p1, .ref p2, .ref p3, .ref p4, .ref p5])) _
    rw [← e6]
    clear e6
    have l6 := l0.same s6
    have g6 : Go [L] H H6 := g0.trans (Go.of s6)
    have lk : ∃ v d, atI [.non, .bl true, .bl false, .str "", .str "a", .int 0, .int 1, .int (-1), .int 999, .int 1000000, .ref p1, .ref p2, .ref p3, .ref p4, .ref p5] (wy % 15) = some v ∧ Dt B H6 v d ∧ Sh d 1 := by
      have m0 : 0 ≤ wy % 15 := Int.emod_nonneg _ (by decide)
      have m1 : wy % 15 < 15 := Int.emod_lt_of_pos _ (by decide)
      have hi : (wy % 15).toNat < oddD.length := by
        show (wy % 15).toNat < 15
        omega
      obtain ⟨v, fv, dv⟩ := hA.get (List.getElem?_eq_getElem hi)
      exact ⟨v, _, at0 m0 fv, dv, oddD_sh _ (List.getElem_mem hi)⟩
    obtain ⟨vv, dd, ev, dv, sv⟩ := lk
    refine ⟨_, rfl, _, _, rfl, rfl, _, rfl, ite2 (fun e => ?_) (fun e => ?_)⟩
    · refine iteT ⟨_, rfl, _, rfl, _, _, rfl, rfl, md (by decide), p6, _, _, _, rfl, rfl, SqL.of e66, ev, ?_⟩
      exact q _ _ dd g6 (l6.mono (by omega)) dv (sv.mono (by omega))
    refine ⟨_, rfl, rfl, _, rfl, ite2 (fun e => ?_) (fun e => ?_)⟩
    · refine ⟨_, rfl, _, rfl, _, _, rfl, rfl, md (by decide), p6, _, _, _, rfl, rfl, SqL.of e66, ev, ?_⟩
      exact q _ _ dd g6 (l6.mono (by omega)) dv (sv.mono (by omega))
    have e1 : dp ≠ 0 := fun z => by
      subst z
      simp at e
    cases k with
    | zero => omega
    | succ j =>
      have eO : nO (j + 1) = 4 + 2 * nO j := rfl
      refine ⟨_, rfl, L, 2, n + 1, rfl, l6, by omega, by decide, by decide, fun r7 H7 g7 l7 a7 b7 => ?_⟩
      refine ⟨_, rfl, _, _, rfl, rfl, .inr ⟨_, rfl, _, _, rfl, rfl, .inr (bit_ok _), _, _, rfl, rfl, ?_⟩⟩
      obtain ⟨m, hm, m1, m2⟩ : ∃ m : Int, m = 1 + r7 * (if decide ((13 : Int) < dp) = true then 1 else 0) ∧ 1 ≤ m ∧ m ≤ 2 := ⟨_, rfl, by split <;> omega, by split <;> omega⟩
      refine ⟨m, by rw [hm], by omega, by omega, fun D hD => ?_⟩
      have g67 : Go [L] H H7 := g6.trans g7
      refine lc_dtsB (walk_range (lo := 0) (n := m.toNat)) (n + 2) (nO j) (fun d => Sh d (j + 1)) hD l7 LB (hB.go g67) (fun H' g' => True.intro) (by omega) (fun i x H8 H9 Ny Nn hi g8 l8 bk8 y ky => ?_) (fun H8 ws ds g8 l8 eD hW en hp => ?_)
      · obtain ⟨rfl, rfl⟩ := y
        have hi1 : i ≤ 1 := by omega
        have hu : nO j * i ≤ nO j := by
          have := Nat.mul_le_mul_left (nO j) hi1
          omega
        refine ⟨rfl, lc_yes ⟨_, rfl, _, rfl, _, _, rfl, rfl, L, D :: B, n + 2 + nO j * i, _, rfl, l8, List.mem_cons_of_mem _ LB, bk8, by omega, by omega, by omega, fun v H10 d g10 l10 d10 s10 => ?_⟩⟩
        exact ky _ d _ g10 l10 d10 s10
      · have hu : nO j * m.toNat ≤ 2 * nO j := by
          have : m.toNat ≤ 2 := by omega
          have := Nat.mul_le_mul_left (nO j) this
          omega
        have lw := hW.len
        have g78 : Go [L] H H8 := g67.trans g8
        have hD0 : H D = none := g67.free hD
        refine ⟨_, rfl, _, rfl, D, _, rfl, .inl ⟨SqL.of eD, fun tt htt => ⟨(by show 2 ≤ sizeLine; decide), fun p hp9 => ?_⟩⟩⟩
        have B8 := hB.go g78
        have nDB : D ∉ B := hB.ne hD0
        have dW : DtA B H8 ws ds := hW.un
        have s8 : Same H8 (upd H8 tt (.tup ws)) := sm_new htt
        have t8 : Dt B (upd H8 tt (.tup ws)) (.ref tt) (.tuple ds) := .tup (B8.ne htt) upd_same (dW.s s8)
        have i8 : Dt B (upd H8 tt (.tup ws)) (.ref D) (.list ds) := .lst nDB (s8 _ _ eD) (dW.s s8)
        refine ⟨_, rfl, L, 2, n + 2 + nO j * m.toNat, rfl, ((l8.new htt).new hp9), by omega, by decide, by decide, fun r10 H10 g10 l10 a10 b10 => ?_⟩
        have gx : Go [L] (upd H8 tt (.tup ws)) H10 := (Go.new hp9).trans g10
        have e10 : H10 p = some (.lst [.ref D, .ref tt]) := g10.k p _ ((l8.new htt).bk.ne hp9) upd_same
        have t10 := t8.g (gx.w1 LB)
        have i10 := i8.g (gx.w1 LB)
        have shd : Sh (.list ds) (j + 2) := sh_lst (by omega) hp
        have sht : Sh (.tuple ds) (j + 2) := sh_tup (by omega) hp
        have gg : Go [L] H H10 := (g78.trans (Go.new htt)).trans gx
        by_cases hr0 : r10 = 0
        · subst hr0
          refine ⟨p, _, _, .ref D, rfl, rfl, SqL.of e10, rfl, ?_⟩
          exact q _ _ _ gg (l10.mono (by omega)) i10 shd
        · have : r10 = 1 := by omega
          subst this
          refine ⟨p, _, _, .ref tt, rfl, rfl, SqL.of e10, rfl, ?_⟩
          exact q _ _ _ gg (l10.mono (by omega)) t10 sht
theorem odd_all (T : Tx K mg) (k : Nat) : FnOk P w K mg base CX0 (k + 3) T.f_l_odd T.d_l_odd ["_law_left_here", "_law_deep"] (spOdd k) := by
  induction k with
  | zero => exact odd_step T (k := 0) ⟨fun _ _ _ _ h => h.elim, fun _ _ _ _ _ _ _ _ _ _ _ _ _ h => h.elim⟩
  | succ k ih => exact odd_step T (k := k + 1) ih
theorem ok_l_odd (T : Tx K mg) {k : Nat} : FnOk P w K mg base CX0 (k + 19) T.f_l_odd T.d_l_odd ["_law_left_here", "_law_deep"] (spOdd 16) := (odd_all T 16).mono (by omega)
/-! ### one thing put otherwise -/
def spPut : Sp := fun vs H Q _ => ∃ (B : List Addr) (rv tv : V) (ds : List PyData) (d : PyData) (n : Int) (j : Nat), vs = [rv, .int n, tv] ∧ Dt B H rv (.tuple ds) ∧ Dt B H tv d ∧ Bk B H ∧ Sh (.tuple ds) (j + 1) ∧ Sh d j ∧ ds.length ≤ 1000 ∧
  ∀ v H', Same H H' → Dt B H' v (.tuple (cutL ds none (some n) ++ [d] ++ cutL ds (some (n + 1)) none)) → Sh (.tuple (cutL ds none (some n) ++ [d] ++ cutL ds (some (n + 1)) none)) (j + 1) → Q v H'
theorem ok_l_put_at (T : Tx K mg) {k : Nat} : FnOk P w K mg base CX0 (k + 1) T.f_l_put_at T.d_l_put_at ["_law_row", "_law_k", "_law_thing"] spPut := by
  refine T.F_l_put_at.ok sc_l_put_at (fun vs H Q E h => ?_) (fun cdv A outer s H vs Q E hr h => ?_)
  · obtain ⟨B, rv, tv, ds, d, n, j, rfl, _⟩ := h
    rfl
  · obtain ⟨B, rv, tv, ds, d, n, j, rfl, hr1, ht1, hB, sr, sd, hl, q⟩ := h
    refine ⟨_, (pss_one (ps_ret (pe_op (op_catAK K) (pe_op (op_catAK K) (pe_slice (sl_tupAK K) (pv 0) po_none (po_some (pv 1))) (pe_tup (pa_cons (pv 2) pa_nil))) (pe_slice (sl_tupAK K) (pv 0) (po_some (pe_op op_add (pv 1) pe_int)) po_none)))), ?_⟩
    have c1 := cutL_len ds none (some n)
    have c2 := cutL_len ds (some (n + 1)) none
    refine ⟨_, rfl, _, rfl, n, rfl, ?_⟩
    refine slice_dt hr1 hB fun v1 H1 s1 d1 => ?_
    refine ⟨_, rfl, (by show 1 ≤ sizeLine; decide), fun p hp => ?_⟩
    have B1 := hB.go (Go.of (B := B) s1)
    have s2 := sm_new (o := .tup [tv]) hp
    have dt2 : Dt B (upd H1 p (.tup [tv])) (.ref p) (.tuple [d]) := .tup (B1.ne hp) upd_same (.one ((ht1.s s1).s s2))
    refine cat_dt (d1.s s2) dt2 B1.up (by simp; omega) fun v3 H3 s3 d3 => ?_
    have B3 := B1.up.go (Go.of (B := B) s3)
    refine ⟨_, rfl, _, rfl, _, _, rfl, rfl, n + 1, rfl, ?_⟩
    show rSlA K rv (some (n + 1)) none H3 (fun y H2 => rCatA K v3 y H2 Q)
    refine slice_dt (((hr1.s s1).s s2).s s3) B3 fun v4 H4 s4 d4 => ?_
    have B4 := B3.go (Go.of (B := B) s4)
    refine cat_dt (d3.s s4) d4 B4 (by simp; omega) fun v5 H5 s5 d5 => ?_
    refine q _ _ ((((s1.trans s2).trans s3).trans s4).trans s5) d5 ?_
    have sh1 : Sh (.tuple [d]) (j + 1) := sh_tup (by simp) fun x hx => by rw [List.mem_singleton.mp hx]; exact sd
    exact sh_cat (sh_cat (sh_cut sr) sh1 (by simp; omega)) (sh_cut sr) (by simp; omega)
/-! ### the things of law 2 -/
def spThings : Sp := fun vs H Q _ => ∃ (L : Addr) (n : Nat) (bv : V) (lo hi : List Int), vs = [.ref L, bv] ∧ Lf L H n ∧ n < 10000000 ∧ Dt [L] H bv (.tuple [eC lo, eC hi]) ∧ 0 < lo.length ∧ lo.length ≤ 100 ∧ hi.length = lo.length ∧
  ∀ (v : V) (H' : Hp) (ds : List PyData), Go [L] H H' → Lf L H' (n + nO 16 + 1) → Dt [L] H' v (.list ds) → (∀ d ∈ ds, Sh d 22) → ds.length ≤ 100 → Q v H'
theorem ok_l_things (T : Tx K mg) {k : Nat} : FnOk P w K mg base CX0 (k + 20) T.f_l_things T.d_l_things ["_law_left_here", "_law_box"] spThings := by
  refine T.F_l_things.ok sc_l_things (fun vs H Q E h => ?_) (fun cdv A outer s H vs Q E hr h => ?_)
  · obtain ⟨L, n, bv, lo, hi, rfl, _⟩ := h
    rfl
  · obtain ⟨L, n, bv, lo, hi, rfl, hL, hn, hb, l0, l100, hl, q⟩ := h
    have eO : nO 16 = 524284 := by decide
    obtain ⟨ba, bvs, rfl, nba, ebx, hbA⟩ := hb.tupI
    obtain ⟨lv, hv, rfl, dlo, dhi⟩ := hbA.two
    obtain ⟨la, rfl, nla, elo⟩ := dlo.col
    obtain ⟨ha, rfl, nha, ehi⟩ := dhi.col
    refine ⟨_, (pss_cons (ps_asg (pv 1) (pg_tupK K (n := 2) rfl (pgs_cons (pg_name (i := 2) sc_l_things.nd rfl (.inl rfl)) (pgs_cons (pg_name (i := 3) sc_l_things.nd rfl (.inl rfl)) pgs_nil))))
      (pss_cons (ps_set (i := 4) sc_l_things.nd rfl (.inl rfl) (pe_call (ok_l_odd T (k := k)) hr (by rfl) T.g_l_odd T.F_l_odd.kp T.b_l_odd .nil pass0 (pa_cons (pv 0) (pa_cons pe_int pa_nil))))
      (pss_cons (ps_set (i := 5) sc_l_things.nd rfl (.inl rfl) (pe_call (ok_l_pick T (k := k + 17)) hr (by rfl) T.g_l_pick T.F_l_pick.kp T.b_l_pick .nil pass0 (pa_cons (pv 0) (pa_cons (pe_callB (len_K K) (by rfl) T.z_len PySem.boot_len (pa_cons (pv 2) pa_nil)) pa_nil))))
      (pss_cons (ps_set (i := 6) sc_l_things.nd rfl (.inl rfl) (pe_lst (pa_cons (pv 4) (pa_cons (pv 1) (pa_cons (pe_tup (pa_cons (pv 3) (pa_cons (pv 2) pa_nil))) (pa_cons (pe_callTy (list_K K) (by rfl) T.z_list (by decide +kernel) (pa_cons (pv 1) pa_nil)) (pa_cons (pe_tup (pa_cons (pv 2) pa_nil)) (pa_cons (pe_tup (pa_cons (pv 2) (pa_cons (pv 3) (pa_cons (pv 3) pa_nil)))) (pa_cons (pe_tup (pa_cons (pe_callTy (list_K K) (by rfl) T.z_list (by decide +kernel) (pa_cons (pv 2) pa_nil)) (pa_cons (pv 3) pa_nil))) (pa_cons (pe_tup (pa_cons (pv 2) (pa_cons (pe_callTy (list_K K) (by rfl) T.z_list (by decide +kernel) (pa_cons (pv 3) pa_nil)) pa_nil))) pa_nil))))))))))
      (pss_cons (ps_set (i := 6) sc_l_things.nd rfl (.inl rfl) (pe_op op_cat (pv 6) (pe_lst (pa_cons (pe_tup (pa_cons (pe_call (ok_l_put_at T (k := k + 18)) hr (by rfl) T.g_l_put_at T.F_l_put_at.kp T.b_l_put_at .nil pass0 (pa_cons (pv 2) (pa_cons (pv 5) (pa_cons (pe_op op_add (pe_ix (ix_tupK K) (pv 3) (pv 5) (fun _ _ => rfl)) pe_int) pa_nil)))) (pa_cons (pv 3) pa_nil))) (pa_cons (pe_tup (pa_cons (pv 2) (pa_cons (pe_call (ok_l_put_at T (k := k + 18)) hr (by rfl) T.g_l_put_at T.F_l_put_at.kp T.b_l_put_at .nil pass0 (pa_cons (pv 3) (pa_cons (pv 5) (pa_cons (pe_ix (ix_tupK K) (pv 2) (pv 5) (fun _ _ => rfl)) pa_nil)))) pa_nil))) (pa_cons (pe_tup (pa_cons (pv 2) (pa_cons (pv 2) pa_nil))) pa_nil))))))
      (pss_cons (ps_set (i := 6) sc_l_things.nd rfl (.inl rfl) (pe_op op_cat (pv 6) (pe_lst (pa_cons (pe_tup (pa_cons (pv 2) (pa_cons (pe_op (op_catAK K) (pv 3) (pe_tup (pa_cons pe_int pa_nil))) pa_nil))) (pa_cons (pe_tup (pa_cons (pe_slice (sl_tupAK K) (pv 2) po_none (po_some (pe_un un_neg pe_int))) (pa_cons (pe_slice (sl_tupAK K) (pv 3) po_none (po_some (pe_un un_neg pe_int))) pa_nil))) (pa_cons (pe_tup (pa_cons (pe_call (ok_l_put_at T (k := k + 18)) hr (by rfl) T.g_l_put_at T.F_l_put_at.kp T.b_l_put_at .nil pass0 (pa_cons (pv 2) (pa_cons (pv 5) (pa_cons (pv 4) pa_nil)))) (pa_cons (pv 3) pa_nil))) (pa_cons (pe_tup (pa_cons (pv 4) (pa_cons (pv 3) pa_nil))) pa_nil)))))))
      (pss_one (ps_ret (pe_op op_cat (pv 6) (pe_lst (pa_cons (pe_tup (pa_cons (pv 2) (pa_cons (pv 4) pa_nil))) (pa_cons (pe_tup (pa_cons (pe_call (ok_l_put_at T (k := k + 18)) hr (by rfl) T.g_l_put_at T.F_l_put_at.kp T.b_l_put_at .nil pass0 (pa_cons (pv 2) (pa_cons (pv 5) (pa_cons pe_bl pa_nil)))) (pa_cons (pv 3) pa_nil))) (pa_cons (pe_tup (pa_cons (pv 2) (pa_cons (pe_call (ok_l_put_at T (k := k + 18)) hr (by rfl) T.g_l_put_at T.F_l_put_at.kp T.b_l_put_at .nil pass0 (pa_cons (pv 3) (pa_cons (pv 5) (pa_cons pe_non pa_nil)))) pa_nil))) (pa_cons (pe_op (op_catAK K) (pv 2) (pv 3)) pa_nil)))))))))))))), ?_⟩
    refine ⟨_, rfl, ba, _, rfl, SqT.of ebx, rfl, _, _, rfl, _, _, rfl, rfl, ?_⟩
    refine ⟨_, rfl, L, [L], n, _, rfl, hL, by simp, hL.bk, by decide, by decide, by omega, fun ov H1 od g1 l1 dod0 so0 => ?_⟩
    have elo1 := g1.k _ _ nla elo
    refine ⟨_, rfl, _, rfl, la, _, rfl, .inr (SqT.of elo1), L, _, n + nO 16, rfl, l1, by omega, by simp; omega, by simp; omega, fun r H2 g2 l2 a2 b2 => ?_⟩
    have gg := g1.trans g2
    have rl : r < (lo.length : Int) := by simpa using b2
    have sod : Sh od 17 := so0
    have sod18 : Sh od 18 := so0.mono (by omega)
    have dod := dod0.g g2
    have dlo := dlo.g gg
    have dhi := dhi.g gg
    have dbx := hb.g gg
    have elo := g2.k _ _ nla elo1
    have ehi := gg.k _ _ nha ehi
    have ebx := gg.k _ _ nba ebx
    obtain ⟨lk, _, alk⟩ := at_int (ns := lo) a2 rl
    obtain ⟨hk, _, ahk⟩ := at_int (ns := hi) a2 (by omega)
    have slo : Sh (eC lo) 1 := sh_eC (by omega)
    have shi : Sh (eC hi) 1 := sh_eC (by omega)
    have sil : Sh (eI lo) 1 := sh_eI (by omega)
    have sih : Sh (eI hi) 1 := sh_eI (by omega)
    have scl : Sh (.tuple (lo.map PyData.int)) 19 := slo.mono (by omega)
    have sch : Sh (.tuple (hi.map PyData.int)) 19 := shi.mono (by omega)
    have sbx : Sh (.tuple [eC lo, eC hi]) 2 := sh_tup (by simp) fun x hx => by
      simp only [List.mem_cons, List.not_mem_nil, or_false] at hx
      rcases hx with rfl | rfl
      · exact slo
      · exact shi
    have slb : Sh (.list [eC lo, eC hi]) 2 := sh_lst (by simp) fun x hx => by
      simp only [List.mem_cons, List.not_mem_nil, or_false] at hx
      rcases hx with rfl | rfl
      · exact slo
      · exact shi
    have tt := Same.refl H2
    refine ⟨_, rfl, _, rfl, _, rfl, _, rfl, (by show 2 ≤ sizeLine; decide), fun p1 h2 => ?_⟩
    have s3 := sm_new (o := .tup [.ref ha, .ref la]) h2
    have d4 : Dt [L] (upd H2 p1 (.tup [.ref ha, .ref la])) (.ref p1) (PyData.tuple [eC hi, eC lo]) := .tup (l2.bk.ne h2) upd_same (.cons (dhi.s s3) (.cons (dlo.s s3) .nil))
    have e6 : (upd H2 p1 (.tup [.ref ha, .ref la])) p1 = some (.tup [.ref ha, .ref la]) := upd_same
    have dlo := dlo.s s3
    have dhi := dhi.s s3
    have dbx := dbx.s s3
    have dod := dod.s s3
    have elo := s3 _ _ elo
    have ehi := s3 _ _ ehi
    have ebx := s3 _ _ ebx
    have l7 := l2.same s3
    have tt := tt.trans s3
    generalize upd H2 p1 (.tup [.ref ha, .ref la]) = H5 at *
    have sh8 : Sh (PyData.tuple [eC hi, eC lo]) 20 := sh_tup (k := 19) (by simp) fun x hx => by
      simp only [List.mem_cons, List.not_mem_nil, or_false] at hx
      rcases hx with rfl | rfl
      · exact shi.mono (by omega)
      · exact slo.mono (by omega)
    refine ⟨_, rfl, ba, _, rfl, .inr (SqT.of ebx), fun p9 h10 => ?_⟩
    have s11 := sm_new (o := .lst [.ref la, .ref ha]) h10
    have d12 : Dt [L] (upd H5 p9 (.lst [.ref la, .ref ha])) (.ref p9) (PyData.list [eC lo, eC hi]) := .lst (l7.bk.ne h10) upd_same ((DtA.cons dlo (.one dhi)).s s11)
    have dlo := dlo.s s11
    have dhi := dhi.s s11
    have dbx := dbx.s s11
    have dod := dod.s s11
    have d4 := d4.s s11
    have elo := s11 _ _ elo
    have ehi := s11 _ _ ehi
    have ebx := s11 _ _ ebx
    have l14 := l7.same s11
    have tt := tt.trans s11
    generalize upd H5 p9 (.lst [.ref la, .ref ha]) = H13 at *
    refine ⟨_, rfl, (by show 1 ≤ sizeLine; decide), fun p15 h16 => ?_⟩
    have s17 := sm_new (o := .tup [.ref la]) h16
    have d18 : Dt [L] (upd H13 p15 (.tup [.ref la])) (.ref p15) (PyData.tuple [eC lo]) := .tup (l14.bk.ne h16) upd_same (.cons (dlo.s s17) .nil)
    have e20 : (upd H13 p15 (.tup [.ref la])) p15 = some (.tup [.ref la]) := upd_same
    have dlo := dlo.s s17
    have dhi := dhi.s s17
    have dbx := dbx.s s17
    have dod := dod.s s17
    have d4 := d4.s s17
    have d12 := d12.s s17
    have elo := s17 _ _ elo
    have ehi := s17 _ _ ehi
    have ebx := s17 _ _ ebx
    have l21 := l14.same s17
    have tt := tt.trans s17
    generalize upd H13 p15 (.tup [.ref la]) = H19 at *
    have sh22 : Sh (PyData.tuple [eC lo]) 20 := sh_tup (k := 19) (by simp) fun x hx => by
      simp only [List.mem_cons, List.not_mem_nil, or_false] at hx
      subst hx
      exact slo.mono (by omega)
    refine ⟨_, rfl, _, rfl, _, rfl, (by show 3 ≤ sizeLine; decide), fun p23 h24 => ?_⟩
    have s25 := sm_new (o := .tup [.ref la, .ref ha, .ref ha]) h24
    have d26 : Dt [L] (upd H19 p23 (.tup [.ref la, .ref ha, .ref ha])) (.ref p23) (PyData.tuple [eC lo, eC hi, eC hi]) := .tup (l21.bk.ne h24) upd_same (.cons (dlo.s s25) (.cons (dhi.s s25) (.cons (dhi.s s25) .nil)))
    have e28 : (upd H19 p23 (.tup [.ref la, .ref ha, .ref ha])) p23 = some (.tup [.ref la, .ref ha, .ref ha]) := upd_same
    have dlo := dlo.s s25
    have dhi := dhi.s s25
    have dbx := dbx.s s25
    have dod := dod.s s25
    have d4 := d4.s s25
    have d12 := d12.s s25
    have d18 := d18.s s25
    have elo := s25 _ _ elo
    have ehi := s25 _ _ ehi
    have ebx := s25 _ _ ebx
    have l29 := l21.same s25
    have tt := tt.trans s25
    generalize upd H19 p23 (.tup [.ref la, .ref ha, .ref ha]) = H27 at *
    have sh30 : Sh (PyData.tuple [eC lo, eC hi, eC hi]) 20 := sh_tup (k := 19) (by simp) fun x hx => by
      simp only [List.mem_cons, List.not_mem_nil, or_false] at hx
      rcases hx with rfl | rfl | rfl
      · exact slo.mono (by omega)
      · exact shi.mono (by omega)
      · exact shi.mono (by omega)
    refine ⟨_, rfl, la, _, rfl, .inr (SqT.of elo), fun p31 h32 => ?_⟩
    have s33 := sm_new (o := .lst (lo.map V.int)) h32
    have d34 : Dt [L] (upd H27 p31 (.lst (lo.map V.int))) (.ref p31) (eI lo) := .lst (l29.bk.ne h32) upd_same ((DtA.ints lo).s s33)
    have dlo := dlo.s s33
    have dhi := dhi.s s33
    have dbx := dbx.s s33
    have dod := dod.s s33
    have d4 := d4.s s33
    have d12 := d12.s s33
    have d18 := d18.s s33
    have d26 := d26.s s33
    have elo := s33 _ _ elo
    have ehi := s33 _ _ ehi
    have ebx := s33 _ _ ebx
    have l36 := l29.same s33
    have tt := tt.trans s33
    generalize upd H27 p31 (.lst (lo.map V.int)) = H35 at *
    refine ⟨_, rfl, (by show 2 ≤ sizeLine; decide), fun p37 h38 => ?_⟩
    have s39 := sm_new (o := .tup [.ref p31, .ref ha]) h38
    have d40 : Dt [L] (upd H35 p37 (.tup [.ref p31, .ref ha])) (.ref p37) (PyData.tuple [eI lo, eC hi]) := .tup (l36.bk.ne h38) upd_same (.cons (d34.s s39) (.cons (dhi.s s39) .nil))
    have e42 : (upd H35 p37 (.tup [.ref p31, .ref ha])) p37 = some (.tup [.ref p31, .ref ha]) := upd_same
    have dlo := dlo.s s39
    have dhi := dhi.s s39
    have dbx := dbx.s s39
    have dod := dod.s s39
    have d4 := d4.s s39
    have d12 := d12.s s39
    have d18 := d18.s s39
    have d26 := d26.s s39
    have d34 := d34.s s39
    have elo := s39 _ _ elo
    have ehi := s39 _ _ ehi
    have ebx := s39 _ _ ebx
    have l43 := l36.same s39
    have tt := tt.trans s39
    generalize upd H35 p37 (.tup [.ref p31, .ref ha]) = H41 at *
    have sh44 : Sh (PyData.tuple [eI lo, eC hi]) 20 := sh_tup (k := 19) (by simp) fun x hx => by
      simp only [List.mem_cons, List.not_mem_nil, or_false] at hx
      rcases hx with rfl | rfl
      · exact sil.mono (by omega)
      · exact shi.mono (by omega)
    refine ⟨_, rfl, _, rfl, ha, _, rfl, .inr (SqT.of ehi), fun p45 h46 => ?_⟩
    have s47 := sm_new (o := .lst (hi.map V.int)) h46
    have d48 : Dt [L] (upd H41 p45 (.lst (hi.map V.int))) (.ref p45) (eI hi) := .lst (l43.bk.ne h46) upd_same ((DtA.ints hi).s s47)
    have dlo := dlo.s s47
    have dhi := dhi.s s47
    have dbx := dbx.s s47
    have dod := dod.s s47
    have d4 := d4.s s47
    have d12 := d12.s s47
    have d18 := d18.s s47
    have d26 := d26.s s47
    have d34 := d34.s s47
    have d40 := d40.s s47
    have elo := s47 _ _ elo
    have ehi := s47 _ _ ehi
    have ebx := s47 _ _ ebx
    have l50 := l43.same s47
    have tt := tt.trans s47
    generalize upd H41 p45 (.lst (hi.map V.int)) = H49 at *
    refine ⟨(by show 2 ≤ sizeLine; decide), fun p51 h52 => ?_⟩
    have s53 := sm_new (o := .tup [.ref la, .ref p45]) h52
    have d54 : Dt [L] (upd H49 p51 (.tup [.ref la, .ref p45])) (.ref p51) (PyData.tuple [eC lo, eI hi]) := .tup (l50.bk.ne h52) upd_same (.cons (dlo.s s53) (.cons (d48.s s53) .nil))
    have e56 : (upd H49 p51 (.tup [.ref la, .ref p45])) p51 = some (.tup [.ref la, .ref p45]) := upd_same
    have dlo := dlo.s s53
    have dhi := dhi.s s53
    have dbx := dbx.s s53
    have dod := dod.s s53
    have d4 := d4.s s53
    have d12 := d12.s s53
    have d18 := d18.s s53
    have d26 := d26.s s53
    have d34 := d34.s s53
    have d40 := d40.s s53
    have d48 := d48.s s53
    have elo := s53 _ _ elo
    have ehi := s53 _ _ ehi
    have ebx := s53 _ _ ebx
    have l57 := l50.same s53
    have tt := tt.trans s53
    generalize upd H49 p51 (.tup [.ref la, .ref p45]) = H55 at *
    have sh58 : Sh (PyData.tuple [eC lo, eI hi]) 20 := sh_tup (k := 19) (by simp) fun x hx => by
      simp only [List.mem_cons, List.not_mem_nil, or_false] at hx
      rcases hx with rfl | rfl
      · exact slo.mono (by omega)
      · exact sih.mono (by omega)
    refine ⟨(by show 8 ≤ sizeLine; decide), fun p59 h60 => ?_⟩
    have s61 := sm_new (o := .lst [ov, .ref ba, .ref p1, .ref p9, .ref p15, .ref p23, .ref p37, .ref p51]) h60
    have d62 : Dt [L] (upd H55 p59 (.lst [ov, .ref ba, .ref p1, .ref p9, .ref p15, .ref p23, .ref p37, .ref p51])) (.ref p59) (PyData.list [od, .tuple [eC lo, eC hi], PyData.tuple [eC hi, eC lo], PyData.list [eC lo, eC hi], PyData.tuple [eC lo], PyData.tuple [eC lo, eC hi, eC hi], PyData.tuple [eI lo, eC hi], PyData.tuple [eC lo, eI hi]]) := .lst (l57.bk.ne h60) upd_same (.cons (dod.s s61) (.cons (dbx.s s61) (.cons (d4.s s61) (.cons (d12.s s61) (.cons (d18.s s61) (.cons (d26.s s61) (.cons (d40.s s61) (.cons (d54.s s61) .nil))))))))
    have e64 : (upd H55 p59 (.lst [ov, .ref ba, .ref p1, .ref p9, .ref p15, .ref p23, .ref p37, .ref p51])) p59 = some (.lst [ov, .ref ba, .ref p1, .ref p9, .ref p15, .ref p23, .ref p37, .ref p51]) := upd_same
    have dlo := dlo.s s61
    have dhi := dhi.s s61
    have dbx := dbx.s s61
    have dod := dod.s s61
    have d4 := d4.s s61
    have d12 := d12.s s61
    have d18 := d18.s s61
    have d26 := d26.s s61
    have d34 := d34.s s61
    have d40 := d40.s s61
    have d48 := d48.s s61
    have d54 := d54.s s61
    have elo := s61 _ _ elo
    have ehi := s61 _ _ ehi
    have ebx := s61 _ _ ebx
    have l65 := l57.same s61
    have tt := tt.trans s61
    generalize upd H55 p59 (.lst [ov, .ref ba, .ref p1, .ref p9, .ref p15, .ref p23, .ref p37, .ref p51]) = H63 at *
    refine ⟨_, rfl, _, rfl, _, rfl, _, rfl, _, rfl, ha, _, _, .int hk, rfl, rfl, SqT.of ehi, ahk, _, _, rfl, rfl, [L], _, _, lo.map .int, PyData.int (hk + 1), r, 18, rfl, dlo, (.int (hk + 1)), l65.bk, scl, (sh_int _ _), by simp; omega, fun v67 H68 s69 d70 sd71 => ?_⟩
    have dlo := dlo.s s69
    have dhi := dhi.s s69
    have dbx := dbx.s s69
    have dod := dod.s s69
    have d4 := d4.s s69
    have d12 := d12.s s69
    have d18 := d18.s s69
    have d26 := d26.s s69
    have d34 := d34.s s69
    have d40 := d40.s s69
    have d48 := d48.s s69
    have d54 := d54.s s69
    have d62 := d62.s s69
    have elo := s69 _ _ elo
    have ehi := s69 _ _ ehi
    have ebx := s69 _ _ ebx
    have e64 := s69 _ _ e64
    have l72 := l65.same s69
    have tt := tt.trans s69
    refine ⟨_, rfl, (by show 2 ≤ sizeLine; decide), fun p73 h74 => ?_⟩
    have s75 := sm_new (o := .tup [v67, .ref ha]) h74
    have d76 : Dt [L] (upd H68 p73 (.tup [v67, .ref ha])) (.ref p73) (PyData.tuple [PyData.tuple (cutL (lo.map PyData.int) none (some r) ++ [PyData.int (hk + 1)] ++ cutL (lo.map PyData.int) (some (r + 1)) none), eC hi]) := .tup (l72.bk.ne h74) upd_same (.cons (d70.s s75) (.cons (dhi.s s75) .nil))
    have e78 : (upd H68 p73 (.tup [v67, .ref ha])) p73 = some (.tup [v67, .ref ha]) := upd_same
    have dlo := dlo.s s75
    have dhi := dhi.s s75
    have dbx := dbx.s s75
    have dod := dod.s s75
    have d4 := d4.s s75
    have d12 := d12.s s75
    have d18 := d18.s s75
    have d26 := d26.s s75
    have d34 := d34.s s75
    have d40 := d40.s s75
    have d48 := d48.s s75
    have d54 := d54.s s75
    have d62 := d62.s s75
    have d70 := d70.s s75
    have elo := s75 _ _ elo
    have ehi := s75 _ _ ehi
    have ebx := s75 _ _ ebx
    have e64 := s75 _ _ e64
    have l79 := l72.same s75
    have tt := tt.trans s75
    generalize upd H68 p73 (.tup [v67, .ref ha]) = H77 at *
    have sh80 : Sh (PyData.tuple [PyData.tuple (cutL (lo.map PyData.int) none (some r) ++ [PyData.int (hk + 1)] ++ cutL (lo.map PyData.int) (some (r + 1)) none), eC hi]) 20 := sh_tup (k := 19) (by simp) fun x hx => by
      simp only [List.mem_cons, List.not_mem_nil, or_false] at hx
      rcases hx with rfl | rfl
      · exact sd71.mono (by omega)
      · exact shi.mono (by omega)
    refine ⟨_, rfl, _, rfl, _, rfl, _, rfl, _, rfl, la, _, _, .int lk, rfl, rfl, SqT.of elo, alk, [L], _, _, hi.map .int, PyData.int lk, r, 18, rfl, dhi, (.int lk), l79.bk, sch, (sh_int _ _), by simp; omega, fun v81 H82 s83 d84 sd85 => ?_⟩
    have dlo := dlo.s s83
    have dhi := dhi.s s83
    have dbx := dbx.s s83
    have dod := dod.s s83
    have d4 := d4.s s83
    have d12 := d12.s s83
    have d18 := d18.s s83
    have d26 := d26.s s83
    have d34 := d34.s s83
    have d40 := d40.s s83
    have d48 := d48.s s83
    have d54 := d54.s s83
    have d62 := d62.s s83
    have d70 := d70.s s83
    have d76 := d76.s s83
    have elo := s83 _ _ elo
    have ehi := s83 _ _ ehi
    have ebx := s83 _ _ ebx
    have e64 := s83 _ _ e64
    have l86 := l79.same s83
    have tt := tt.trans s83
    refine ⟨(by show 2 ≤ sizeLine; decide), fun p87 h88 => ?_⟩
    have s89 := sm_new (o := .tup [.ref la, v81]) h88
    have d90 : Dt [L] (upd H82 p87 (.tup [.ref la, v81])) (.ref p87) (PyData.tuple [eC lo, PyData.tuple (cutL (hi.map PyData.int) none (some r) ++ [PyData.int lk] ++ cutL (hi.map PyData.int) (some (r + 1)) none)]) := .tup (l86.bk.ne h88) upd_same (.cons (dlo.s s89) (.cons (d84.s s89) .nil))
    have e92 : (upd H82 p87 (.tup [.ref la, v81])) p87 = some (.tup [.ref la, v81]) := upd_same
    have dlo := dlo.s s89
    have dhi := dhi.s s89
    have dbx := dbx.s s89
    have dod := dod.s s89
    have d4 := d4.s s89
    have d12 := d12.s s89
    have d18 := d18.s s89
    have d26 := d26.s s89
    have d34 := d34.s s89
    have d40 := d40.s s89
    have d48 := d48.s s89
    have d54 := d54.s s89
    have d62 := d62.s s89
    have d70 := d70.s s89
    have d76 := d76.s s89
    have d84 := d84.s s89
    have elo := s89 _ _ elo
    have ehi := s89 _ _ ehi
    have ebx := s89 _ _ ebx
    have e64 := s89 _ _ e64
    have l93 := l86.same s89
    have tt := tt.trans s89
    generalize upd H82 p87 (.tup [.ref la, v81]) = H91 at *
    have sh94 : Sh (PyData.tuple [eC lo, PyData.tuple (cutL (hi.map PyData.int) none (some r) ++ [PyData.int lk] ++ cutL (hi.map PyData.int) (some (r + 1)) none)]) 20 := sh_tup (k := 19) (by simp) fun x hx => by
      simp only [List.mem_cons, List.not_mem_nil, or_false] at hx
      rcases hx with rfl | rfl
      · exact slo.mono (by omega)
      · exact sd85.mono (by omega)
    refine ⟨_, rfl, _, rfl, (by show 2 ≤ sizeLine; decide), fun p95 h96 => ?_⟩
    have s97 := sm_new (o := .tup [.ref la, .ref la]) h96
    have d98 : Dt [L] (upd H91 p95 (.tup [.ref la, .ref la])) (.ref p95) (PyData.tuple [eC lo, eC lo]) := .tup (l93.bk.ne h96) upd_same (.cons (dlo.s s97) (.cons (dlo.s s97) .nil))
    have e100 : (upd H91 p95 (.tup [.ref la, .ref la])) p95 = some (.tup [.ref la, .ref la]) := upd_same
    have dlo := dlo.s s97
    have dhi := dhi.s s97
    have dbx := dbx.s s97
    have dod := dod.s s97
    have d4 := d4.s s97
    have d12 := d12.s s97
    have d18 := d18.s s97
    have d26 := d26.s s97
    have d34 := d34.s s97
    have d40 := d40.s s97
    have d48 := d48.s s97
    have d54 := d54.s s97
    have d62 := d62.s s97
    have d70 := d70.s s97
    have d76 := d76.s s97
    have d84 := d84.s s97
    have d90 := d90.s s97
    have elo := s97 _ _ elo
    have ehi := s97 _ _ ehi
    have ebx := s97 _ _ ebx
    have e64 := s97 _ _ e64
    have l101 := l93.same s97
    have tt := tt.trans s97
    generalize upd H91 p95 (.tup [.ref la, .ref la]) = H99 at *
    have sh102 : Sh (PyData.tuple [eC lo, eC lo]) 20 := sh_tup (k := 19) (by simp) fun x hx => by
      simp only [List.mem_cons, List.not_mem_nil, or_false] at hx
      rcases hx with rfl | rfl
      · exact slo.mono (by omega)
      · exact slo.mono (by omega)
    refine ⟨(by show 3 ≤ sizeLine; decide), fun p103 h104 => ?_⟩
    have s105 := sm_new (o := .lst [.ref p73, .ref p87, .ref p95]) h104
    have d106 : Dt [L] (upd H99 p103 (.lst [.ref p73, .ref p87, .ref p95])) (.ref p103) (PyData.list [PyData.tuple [PyData.tuple (cutL (lo.map PyData.int) none (some r) ++ [PyData.int (hk + 1)] ++ cutL (lo.map PyData.int) (some (r + 1)) none), eC hi], PyData.tuple [eC lo, PyData.tuple (cutL (hi.map PyData.int) none (some r) ++ [PyData.int lk] ++ cutL (hi.map PyData.int) (some (r + 1)) none)], PyData.tuple [eC lo, eC lo]]) := .lst (l101.bk.ne h104) upd_same (.cons (d76.s s105) (.cons (d90.s s105) (.cons (d98.s s105) .nil)))
    have e108 : (upd H99 p103 (.lst [.ref p73, .ref p87, .ref p95])) p103 = some (.lst [.ref p73, .ref p87, .ref p95]) := upd_same
    have dlo := dlo.s s105
    have dhi := dhi.s s105
    have dbx := dbx.s s105
    have dod := dod.s s105
    have d4 := d4.s s105
    have d12 := d12.s s105
    have d18 := d18.s s105
    have d26 := d26.s s105
    have d34 := d34.s s105
    have d40 := d40.s s105
    have d48 := d48.s s105
    have d54 := d54.s s105
    have d62 := d62.s s105
    have d70 := d70.s s105
    have d76 := d76.s s105
    have d84 := d84.s s105
    have d90 := d90.s s105
    have d98 := d98.s s105
    have elo := s105 _ _ elo
    have ehi := s105 _ _ ehi
    have ebx := s105 _ _ ebx
    have e64 := s105 _ _ e64
    have l109 := l101.same s105
    have tt := tt.trans s105
    generalize upd H99 p103 (.lst [.ref p73, .ref p87, .ref p95]) = H107 at *
    refine ⟨p59, p103, _, _, rfl, rfl, e64, e108, (by show 11 ≤ sizeLine; decide), fun p111 h112 => ?_⟩
    have s113 := sm_new (o := .lst [ov, .ref ba, .ref p1, .ref p9, .ref p15, .ref p23, .ref p37, .ref p51, .ref p73, .ref p87, .ref p95]) h112
    have e116 : (upd H107 p111 (.lst [ov, .ref ba, .ref p1, .ref p9, .ref p15, .ref p23, .ref p37, .ref p51, .ref p73, .ref p87, .ref p95])) p111 = some (.lst [ov, .ref ba, .ref p1, .ref p9, .ref p15, .ref p23, .ref p37, .ref p51, .ref p73, .ref p87, .ref p95]) := upd_same
    have dlo := dlo.s s113
    have dhi := dhi.s s113
    have dbx := dbx.s s113
    have dod := dod.s s113
    have d4 := d4.s s113
    have d12 := d12.s s113
    have d18 := d18.s s113
    have d26 := d26.s s113
    have d34 := d34.s s113
    have d40 := d40.s s113
    have d48 := d48.s s113
    have d54 := d54.s s113
    have d62 := d62.s s113
    have d70 := d70.s s113
    have d76 := d76.s s113
    have d84 := d84.s s113
    have d90 := d90.s s113
    have d98 := d98.s s113
    have d106 := d106.s s113
    have elo := s113 _ _ elo
    have ehi := s113 _ _ ehi
    have ebx := s113 _ _ ebx
    have e64 := s113 _ _ e64
    have e108 := s113 _ _ e108
    have l117 := l109.same s113
    have tt := tt.trans s113
    show gName 6 (.ref p111) _ (upd H107 p111 (.lst [ov, .ref ba, .ref p1, .ref p9, .ref p15, .ref p23, .ref p37, .ref p51, .ref p73, .ref p87, .ref p95])) _
    generalize upd H107 p111 (.lst [ov, .ref ba, .ref p1, .ref p9, .ref p15, .ref p23, .ref p37, .ref p51, .ref p73, .ref p87, .ref p95]) = H115 at *
    refine ⟨_, rfl, _, rfl, _, rfl, (by show 1 ≤ sizeLine; decide), fun p118 h119 => ?_⟩
    have s120 := sm_new (o := .tup [.int 1000]) h119
    have dth : Dt [L] (upd H115 p118 (.tup [.int 1000])) (.ref p118) (.tuple [.int 1000]) := .tup (l117.bk.ne h119) upd_same (.one (.int 1000))
    have dlo := dlo.s s120
    have dhi := dhi.s s120
    have dbx := dbx.s s120
    have dod := dod.s s120
    have d4 := d4.s s120
    have d12 := d12.s s120
    have d18 := d18.s s120
    have d26 := d26.s s120
    have d34 := d34.s s120
    have d40 := d40.s s120
    have d48 := d48.s s120
    have d54 := d54.s s120
    have d62 := d62.s s120
    have d70 := d70.s s120
    have d76 := d76.s s120
    have d84 := d84.s s120
    have d90 := d90.s s120
    have d98 := d98.s s120
    have d106 := d106.s s120
    have elo := s120 _ _ elo
    have ehi := s120 _ _ ehi
    have ebx := s120 _ _ ebx
    have e116 := s120 _ _ e116
    have l122 := l117.same s120
    have tt := tt.trans s120
    generalize upd H115 p118 (.tup [.int 1000]) = H121 at *
    refine cat_dt dhi dth l122.bk (by simp; omega) fun v123 H124 s125 d126 => ?_
    have dlo := dlo.s s125
    have dhi := dhi.s s125
    have dbx := dbx.s s125
    have dod := dod.s s125
    have d4 := d4.s s125
    have d12 := d12.s s125
    have d18 := d18.s s125
    have d26 := d26.s s125
    have d34 := d34.s s125
    have d40 := d40.s s125
    have d48 := d48.s s125
    have d54 := d54.s s125
    have d62 := d62.s s125
    have d70 := d70.s s125
    have d76 := d76.s s125
    have d84 := d84.s s125
    have d90 := d90.s s125
    have d98 := d98.s s125
    have d106 := d106.s s125
    have elo := s125 _ _ elo
    have ehi := s125 _ _ ehi
    have ebx := s125 _ _ ebx
    have e116 := s125 _ _ e116
    have l127 := l122.same s125
    have tt := tt.trans s125
    have sct : Sh (.tuple (hi.map PyData.int ++ [PyData.int 1000])) 19 := sh_cat sch (sh_tup (by simp) fun x hx => by rw [List.mem_singleton.mp hx]; exact sh_int _ _) (by simp; omega)
    refine ⟨(by show 2 ≤ sizeLine; decide), fun p128 h129 => ?_⟩
    have s130 := sm_new (o := .tup [.ref la, v123]) h129
    have d131 : Dt [L] (upd H124 p128 (.tup [.ref la, v123])) (.ref p128) (PyData.tuple [eC lo, PyData.tuple (hi.map PyData.int ++ [PyData.int 1000])]) := .tup (l127.bk.ne h129) upd_same (.cons (dlo.s s130) (.cons (d126.s s130) .nil))
    have e133 : (upd H124 p128 (.tup [.ref la, v123])) p128 = some (.tup [.ref la, v123]) := upd_same
    have dlo := dlo.s s130
    have dhi := dhi.s s130
    have dbx := dbx.s s130
    have dod := dod.s s130
    have d4 := d4.s s130
    have d12 := d12.s s130
    have d18 := d18.s s130
    have d26 := d26.s s130
    have d34 := d34.s s130
    have d40 := d40.s s130
    have d48 := d48.s s130
    have d54 := d54.s s130
    have d62 := d62.s s130
    have d70 := d70.s s130
    have d76 := d76.s s130
    have d84 := d84.s s130
    have d90 := d90.s s130
    have d98 := d98.s s130
    have d106 := d106.s s130
    have d126 := d126.s s130
    have elo := s130 _ _ elo
    have ehi := s130 _ _ ehi
    have ebx := s130 _ _ ebx
    have e116 := s130 _ _ e116
    have l134 := l127.same s130
    have tt := tt.trans s130
    generalize upd H124 p128 (.tup [.ref la, v123]) = H132 at *
    have sh135 : Sh (PyData.tuple [eC lo, PyData.tuple (hi.map PyData.int ++ [PyData.int 1000])]) 20 := sh_tup (k := 19) (by simp) fun x hx => by
      simp only [List.mem_cons, List.not_mem_nil, or_false] at hx
      rcases hx with rfl | rfl
      · exact slo.mono (by omega)
      · exact sct.mono (by omega)
    refine ⟨_, rfl, _, rfl, _, rfl, ?_⟩
    refine slice_dt dlo l134.bk fun v136 H137 s138 d139 => ?_
    have dlo := dlo.s s138
    have dhi := dhi.s s138
    have dbx := dbx.s s138
    have dod := dod.s s138
    have d4 := d4.s s138
    have d12 := d12.s s138
    have d18 := d18.s s138
    have d26 := d26.s s138
    have d34 := d34.s s138
    have d40 := d40.s s138
    have d48 := d48.s s138
    have d54 := d54.s s138
    have d62 := d62.s s138
    have d70 := d70.s s138
    have d76 := d76.s s138
    have d84 := d84.s s138
    have d90 := d90.s s138
    have d98 := d98.s s138
    have d106 := d106.s s138
    have d126 := d126.s s138
    have d131 := d131.s s138
    have elo := s138 _ _ elo
    have ehi := s138 _ _ ehi
    have ebx := s138 _ _ ebx
    have e116 := s138 _ _ e116
    have l140 := l134.same s138
    have tt := tt.trans s138
    refine ⟨_, rfl, _, rfl, _, rfl, ?_⟩
    refine slice_dt dhi l140.bk fun v141 H142 s143 d144 => ?_
    have dlo := dlo.s s143
    have dhi := dhi.s s143
    have dbx := dbx.s s143
    have dod := dod.s s143
    have d4 := d4.s s143
    have d12 := d12.s s143
    have d18 := d18.s s143
    have d26 := d26.s s143
    have d34 := d34.s s143
    have d40 := d40.s s143
    have d48 := d48.s s143
    have d54 := d54.s s143
    have d62 := d62.s s143
    have d70 := d70.s s143
    have d76 := d76.s s143
    have d84 := d84.s s143
    have d90 := d90.s s143
    have d98 := d98.s s143
    have d106 := d106.s s143
    have d126 := d126.s s143
    have d131 := d131.s s143
    have d139 := d139.s s143
    have elo := s143 _ _ elo
    have ehi := s143 _ _ ehi
    have ebx := s143 _ _ ebx
    have e116 := s143 _ _ e116
    have l145 := l140.same s143
    have tt := tt.trans s143
    refine ⟨(by show 2 ≤ sizeLine; decide), fun p146 h147 => ?_⟩
    have s148 := sm_new (o := .tup [v136, v141]) h147
    have d149 : Dt [L] (upd H142 p146 (.tup [v136, v141])) (.ref p146) (PyData.tuple [PyData.tuple (cutL (lo.map PyData.int) none (some (-1))), PyData.tuple (cutL (hi.map PyData.int) none (some (-1)))]) := .tup (l145.bk.ne h147) upd_same (.cons (d139.s s148) (.cons (d144.s s148) .nil))
    have e151 : (upd H142 p146 (.tup [v136, v141])) p146 = some (.tup [v136, v141]) := upd_same
    have dlo := dlo.s s148
    have dhi := dhi.s s148
    have dbx := dbx.s s148
    have dod := dod.s s148
    have d4 := d4.s s148
    have d12 := d12.s s148
    have d18 := d18.s s148
    have d26 := d26.s s148
    have d34 := d34.s s148
    have d40 := d40.s s148
    have d48 := d48.s s148
    have d54 := d54.s s148
    have d62 := d62.s s148
    have d70 := d70.s s148
    have d76 := d76.s s148
    have d84 := d84.s s148
    have d90 := d90.s s148
    have d98 := d98.s s148
    have d106 := d106.s s148
    have d126 := d126.s s148
    have d131 := d131.s s148
    have d139 := d139.s s148
    have d144 := d144.s s148
    have elo := s148 _ _ elo
    have ehi := s148 _ _ ehi
    have ebx := s148 _ _ ebx
    have e116 := s148 _ _ e116
    have l152 := l145.same s148
    have tt := tt.trans s148
    generalize upd H142 p146 (.tup [v136, v141]) = H150 at *
    have sh153 : Sh (PyData.tuple [PyData.tuple (cutL (lo.map PyData.int) none (some (-1))), PyData.tuple (cutL (hi.map PyData.int) none (some (-1)))]) 20 := sh_tup (k := 19) (by simp) fun x hx => by
      simp only [List.mem_cons, List.not_mem_nil, or_false] at hx
      rcases hx with rfl | rfl
      · exact (sh_cut scl).mono (by omega)
      · exact (sh_cut sch).mono (by omega)
    refine ⟨_, rfl, _, rfl, _, rfl, [L], _, _, lo.map .int, od, r, 18, rfl, dlo, dod, l152.bk, scl, sod18, by simp; omega, fun v154 H155 s156 d157 sd158 => ?_⟩
    have dlo := dlo.s s156
    have dhi := dhi.s s156
    have dbx := dbx.s s156
    have dod := dod.s s156
    have d4 := d4.s s156
    have d12 := d12.s s156
    have d18 := d18.s s156
    have d26 := d26.s s156
    have d34 := d34.s s156
    have d40 := d40.s s156
    have d48 := d48.s s156
    have d54 := d54.s s156
    have d62 := d62.s s156
    have d70 := d70.s s156
    have d76 := d76.s s156
    have d84 := d84.s s156
    have d90 := d90.s s156
    have d98 := d98.s s156
    have d106 := d106.s s156
    have d126 := d126.s s156
    have d131 := d131.s s156
    have d139 := d139.s s156
    have d144 := d144.s s156
    have d149 := d149.s s156
    have elo := s156 _ _ elo
    have ehi := s156 _ _ ehi
    have ebx := s156 _ _ ebx
    have e116 := s156 _ _ e116
    have l159 := l152.same s156
    have tt := tt.trans s156
    refine ⟨_, rfl, (by show 2 ≤ sizeLine; decide), fun p160 h161 => ?_⟩
    have s162 := sm_new (o := .tup [v154, .ref ha]) h161
    have d163 : Dt [L] (upd H155 p160 (.tup [v154, .ref ha])) (.ref p160) (PyData.tuple [PyData.tuple (cutL (lo.map PyData.int) none (some r) ++ [od] ++ cutL (lo.map PyData.int) (some (r + 1)) none), eC hi]) := .tup (l159.bk.ne h161) upd_same (.cons (d157.s s162) (.cons (dhi.s s162) .nil))
    have e165 : (upd H155 p160 (.tup [v154, .ref ha])) p160 = some (.tup [v154, .ref ha]) := upd_same
    have dlo := dlo.s s162
    have dhi := dhi.s s162
    have dbx := dbx.s s162
    have dod := dod.s s162
    have d4 := d4.s s162
    have d12 := d12.s s162
    have d18 := d18.s s162
    have d26 := d26.s s162
    have d34 := d34.s s162
    have d40 := d40.s s162
    have d48 := d48.s s162
    have d54 := d54.s s162
    have d62 := d62.s s162
    have d70 := d70.s s162
    have d76 := d76.s s162
    have d84 := d84.s s162
    have d90 := d90.s s162
    have d98 := d98.s s162
    have d106 := d106.s s162
    have d126 := d126.s s162
    have d131 := d131.s s162
    have d139 := d139.s s162
    have d144 := d144.s s162
    have d149 := d149.s s162
    have d157 := d157.s s162
    have elo := s162 _ _ elo
    have ehi := s162 _ _ ehi
    have ebx := s162 _ _ ebx
    have e116 := s162 _ _ e116
    have l166 := l159.same s162
    have tt := tt.trans s162
    generalize upd H155 p160 (.tup [v154, .ref ha]) = H164 at *
    have sh167 : Sh (PyData.tuple [PyData.tuple (cutL (lo.map PyData.int) none (some r) ++ [od] ++ cutL (lo.map PyData.int) (some (r + 1)) none), eC hi]) 20 := sh_tup (k := 19) (by simp) fun x hx => by
      simp only [List.mem_cons, List.not_mem_nil, or_false] at hx
      rcases hx with rfl | rfl
      · exact sd158.mono (by omega)
      · exact shi.mono (by omega)
    refine ⟨_, rfl, _, rfl, (by show 2 ≤ sizeLine; decide), fun p168 h169 => ?_⟩
    have s170 := sm_new (o := .tup [ov, .ref ha]) h169
    have d171 : Dt [L] (upd H164 p168 (.tup [ov, .ref ha])) (.ref p168) (PyData.tuple [od, eC hi]) := .tup (l166.bk.ne h169) upd_same (.cons (dod.s s170) (.cons (dhi.s s170) .nil))
    have e173 : (upd H164 p168 (.tup [ov, .ref ha])) p168 = some (.tup [ov, .ref ha]) := upd_same
    have dlo := dlo.s s170
    have dhi := dhi.s s170
    have dbx := dbx.s s170
    have dod := dod.s s170
    have d4 := d4.s s170
    have d12 := d12.s s170
    have d18 := d18.s s170
    have d26 := d26.s s170
    have d34 := d34.s s170
    have d40 := d40.s s170
    have d48 := d48.s s170
    have d54 := d54.s s170
    have d62 := d62.s s170
    have d70 := d70.s s170
    have d76 := d76.s s170
    have d84 := d84.s s170
    have d90 := d90.s s170
    have d98 := d98.s s170
    have d106 := d106.s s170
    have d126 := d126.s s170
    have d131 := d131.s s170
    have d139 := d139.s s170
    have d144 := d144.s s170
    have d149 := d149.s s170
    have d157 := d157.s s170
    have d163 := d163.s s170
    have elo := s170 _ _ elo
    have ehi := s170 _ _ ehi
    have ebx := s170 _ _ ebx
    have e116 := s170 _ _ e116
    have l174 := l166.same s170
    have tt := tt.trans s170
    generalize upd H164 p168 (.tup [ov, .ref ha]) = H172 at *
    have sh175 : Sh (PyData.tuple [od, eC hi]) 20 := sh_tup (k := 19) (by simp) fun x hx => by
      simp only [List.mem_cons, List.not_mem_nil, or_false] at hx
      rcases hx with rfl | rfl
      · exact sod.mono (by omega)
      · exact shi.mono (by omega)
    refine ⟨(by show 4 ≤ sizeLine; decide), fun p176 h177 => ?_⟩
    have s178 := sm_new (o := .lst [.ref p128, .ref p146, .ref p160, .ref p168]) h177
    have d179 : Dt [L] (upd H172 p176 (.lst [.ref p128, .ref p146, .ref p160, .ref p168])) (.ref p176) (PyData.list [PyData.tuple [eC lo, PyData.tuple (hi.map PyData.int ++ [PyData.int 1000])], PyData.tuple [PyData.tuple (cutL (lo.map PyData.int) none (some (-1))), PyData.tuple (cutL (hi.map PyData.int) none (some (-1)))], PyData.tuple [PyData.tuple (cutL (lo.map PyData.int) none (some r) ++ [od] ++ cutL (lo.map PyData.int) (some (r + 1)) none), eC hi], PyData.tuple [od, eC hi]]) := .lst (l174.bk.ne h177) upd_same (.cons (d131.s s178) (.cons (d149.s s178) (.cons (d163.s s178) (.cons (d171.s s178) .nil))))
    have e181 : (upd H172 p176 (.lst [.ref p128, .ref p146, .ref p160, .ref p168])) p176 = some (.lst [.ref p128, .ref p146, .ref p160, .ref p168]) := upd_same
    have dlo := dlo.s s178
    have dhi := dhi.s s178
    have dbx := dbx.s s178
    have dod := dod.s s178
    have d4 := d4.s s178
    have d12 := d12.s s178
    have d18 := d18.s s178
    have d26 := d26.s s178
    have d34 := d34.s s178
    have d40 := d40.s s178
    have d48 := d48.s s178
    have d54 := d54.s s178
    have d62 := d62.s s178
    have d70 := d70.s s178
    have d76 := d76.s s178
    have d84 := d84.s s178
    have d90 := d90.s s178
    have d98 := d98.s s178
    have d106 := d106.s s178
    have d126 := d126.s s178
    have d131 := d131.s s178
    have d139 := d139.s s178
    have d144 := d144.s s178
    have d149 := d149.s s178
    have d157 := d157.s s178
    have d163 := d163.s s178
    have d171 := d171.s s178
    have elo := s178 _ _ elo
    have ehi := s178 _ _ ehi
    have ebx := s178 _ _ ebx
    have e116 := s178 _ _ e116
    have l182 := l174.same s178
    have tt := tt.trans s178
    generalize upd H172 p176 (.lst [.ref p128, .ref p146, .ref p160, .ref p168]) = H180 at *
    refine ⟨p111, p176, _, _, rfl, rfl, e116, e181, (by show 15 ≤ sizeLine; decide), fun p184 h185 => ?_⟩
    have s186 := sm_new (o := .lst [ov, .ref ba, .ref p1, .ref p9, .ref p15, .ref p23, .ref p37, .ref p51, .ref p73, .ref p87, .ref p95, .ref p128, .ref p146, .ref p160, .ref p168]) h185
    have e189 : (upd H180 p184 (.lst [ov, .ref ba, .ref p1, .ref p9, .ref p15, .ref p23, .ref p37, .ref p51, .ref p73, .ref p87, .ref p95, .ref p128, .ref p146, .ref p160, .ref p168])) p184 = some (.lst [ov, .ref ba, .ref p1, .ref p9, .ref p15, .ref p23, .ref p37, .ref p51, .ref p73, .ref p87, .ref p95, .ref p128, .ref p146, .ref p160, .ref p168]) := upd_same
    have dlo := dlo.s s186
    have dhi := dhi.s s186
    have dbx := dbx.s s186
    have dod := dod.s s186
    have d4 := d4.s s186
    have d12 := d12.s s186
    have d18 := d18.s s186
    have d26 := d26.s s186
    have d34 := d34.s s186
    have d40 := d40.s s186
    have d48 := d48.s s186
    have d54 := d54.s s186
    have d62 := d62.s s186
    have d70 := d70.s s186
    have d76 := d76.s s186
    have d84 := d84.s s186
    have d90 := d90.s s186
    have d98 := d98.s s186
    have d106 := d106.s s186
    have d126 := d126.s s186
    have d131 := d131.s s186
    have d139 := d139.s s186
    have d144 := d144.s s186
    have d149 := d149.s s186
    have d157 := d157.s s186
    have d163 := d163.s s186
    have d171 := d171.s s186
    have d179 := d179.s s186
    have elo := s186 _ _ elo
    have ehi := s186 _ _ ehi
    have ebx := s186 _ _ ebx
    have e116 := s186 _ _ e116
    have e181 := s186 _ _ e181
    have l190 := l182.same s186
    have tt := tt.trans s186
    show gName 6 (.ref p184) _ (upd H180 p184 (.lst [ov, .ref ba, .ref p1, .ref p9, .ref p15, .ref p23, .ref p37, .ref p51, .ref p73, .ref p87, .ref p95, .ref p128, .ref p146, .ref p160, .ref p168])) _
    generalize upd H180 p184 (.lst [ov, .ref ba, .ref p1, .ref p9, .ref p15, .ref p23, .ref p37, .ref p51, .ref p73, .ref p87, .ref p95, .ref p128, .ref p146, .ref p160, .ref p168]) = H188 at *
    refine ⟨_, rfl, _, rfl, _, rfl, (by show 2 ≤ sizeLine; decide), fun p191 h192 => ?_⟩
    have s193 := sm_new (o := .tup [.ref la, ov]) h192
    have d194 : Dt [L] (upd H188 p191 (.tup [.ref la, ov])) (.ref p191) (PyData.tuple [eC lo, od]) := .tup (l190.bk.ne h192) upd_same (.cons (dlo.s s193) (.cons (dod.s s193) .nil))
    have e196 : (upd H188 p191 (.tup [.ref la, ov])) p191 = some (.tup [.ref la, ov]) := upd_same
    have dlo := dlo.s s193
    have dhi := dhi.s s193
    have dbx := dbx.s s193
    have dod := dod.s s193
    have d4 := d4.s s193
    have d12 := d12.s s193
    have d18 := d18.s s193
    have d26 := d26.s s193
    have d34 := d34.s s193
    have d40 := d40.s s193
    have d48 := d48.s s193
    have d54 := d54.s s193
    have d62 := d62.s s193
    have d70 := d70.s s193
    have d76 := d76.s s193
    have d84 := d84.s s193
    have d90 := d90.s s193
    have d98 := d98.s s193
    have d106 := d106.s s193
    have d126 := d126.s s193
    have d131 := d131.s s193
    have d139 := d139.s s193
    have d144 := d144.s s193
    have d149 := d149.s s193
    have d157 := d157.s s193
    have d163 := d163.s s193
    have d171 := d171.s s193
    have d179 := d179.s s193
    have elo := s193 _ _ elo
    have ehi := s193 _ _ ehi
    have ebx := s193 _ _ ebx
    have e189 := s193 _ _ e189
    have l197 := l190.same s193
    have tt := tt.trans s193
    generalize upd H188 p191 (.tup [.ref la, ov]) = H195 at *
    have sh198 : Sh (PyData.tuple [eC lo, od]) 20 := sh_tup (k := 19) (by simp) fun x hx => by
      simp only [List.mem_cons, List.not_mem_nil, or_false] at hx
      rcases hx with rfl | rfl
      · exact slo.mono (by omega)
      · exact sod.mono (by omega)
    refine ⟨_, rfl, _, rfl, [L], _, _, lo.map .int, PyData.bool false, r, 18, rfl, dlo, (.bl false), l197.bk, scl, (sh_bool _ _), by simp; omega, fun v199 H200 s201 d202 sd203 => ?_⟩
    have dlo := dlo.s s201
    have dhi := dhi.s s201
    have dbx := dbx.s s201
    have dod := dod.s s201
    have d4 := d4.s s201
    have d12 := d12.s s201
    have d18 := d18.s s201
    have d26 := d26.s s201
    have d34 := d34.s s201
    have d40 := d40.s s201
    have d48 := d48.s s201
    have d54 := d54.s s201
    have d62 := d62.s s201
    have d70 := d70.s s201
    have d76 := d76.s s201
    have d84 := d84.s s201
    have d90 := d90.s s201
    have d98 := d98.s s201
    have d106 := d106.s s201
    have d126 := d126.s s201
    have d131 := d131.s s201
    have d139 := d139.s s201
    have d144 := d144.s s201
    have d149 := d149.s s201
    have d157 := d157.s s201
    have d163 := d163.s s201
    have d171 := d171.s s201
    have d179 := d179.s s201
    have d194 := d194.s s201
    have elo := s201 _ _ elo
    have ehi := s201 _ _ ehi
    have ebx := s201 _ _ ebx
    have e189 := s201 _ _ e189
    have l204 := l197.same s201
    have tt := tt.trans s201
    refine ⟨_, rfl, (by show 2 ≤ sizeLine; decide), fun p205 h206 => ?_⟩
    have s207 := sm_new (o := .tup [v199, .ref ha]) h206
    have d208 : Dt [L] (upd H200 p205 (.tup [v199, .ref ha])) (.ref p205) (PyData.tuple [PyData.tuple (cutL (lo.map PyData.int) none (some r) ++ [PyData.bool false] ++ cutL (lo.map PyData.int) (some (r + 1)) none), eC hi]) := .tup (l204.bk.ne h206) upd_same (.cons (d202.s s207) (.cons (dhi.s s207) .nil))
    have e210 : (upd H200 p205 (.tup [v199, .ref ha])) p205 = some (.tup [v199, .ref ha]) := upd_same
    have dlo := dlo.s s207
    have dhi := dhi.s s207
    have dbx := dbx.s s207
    have dod := dod.s s207
    have d4 := d4.s s207
    have d12 := d12.s s207
    have d18 := d18.s s207
    have d26 := d26.s s207
    have d34 := d34.s s207
    have d40 := d40.s s207
    have d48 := d48.s s207
    have d54 := d54.s s207
    have d62 := d62.s s207
    have d70 := d70.s s207
    have d76 := d76.s s207
    have d84 := d84.s s207
    have d90 := d90.s s207
    have d98 := d98.s s207
    have d106 := d106.s s207
    have d126 := d126.s s207
    have d131 := d131.s s207
    have d139 := d139.s s207
    have d144 := d144.s s207
    have d149 := d149.s s207
    have d157 := d157.s s207
    have d163 := d163.s s207
    have d171 := d171.s s207
    have d179 := d179.s s207
    have d194 := d194.s s207
    have d202 := d202.s s207
    have elo := s207 _ _ elo
    have ehi := s207 _ _ ehi
    have ebx := s207 _ _ ebx
    have e189 := s207 _ _ e189
    have l211 := l204.same s207
    have tt := tt.trans s207
    generalize upd H200 p205 (.tup [v199, .ref ha]) = H209 at *
    have sh212 : Sh (PyData.tuple [PyData.tuple (cutL (lo.map PyData.int) none (some r) ++ [PyData.bool false] ++ cutL (lo.map PyData.int) (some (r + 1)) none), eC hi]) 20 := sh_tup (k := 19) (by simp) fun x hx => by
      simp only [List.mem_cons, List.not_mem_nil, or_false] at hx
      rcases hx with rfl | rfl
      · exact sd203.mono (by omega)
      · exact shi.mono (by omega)
    refine ⟨_, rfl, _, rfl, _, rfl, [L], _, _, hi.map .int, PyData.none, r, 18, rfl, dhi, .non, l211.bk, sch, (sh_none _), by simp; omega, fun v213 H214 s215 d216 sd217 => ?_⟩
    have dlo := dlo.s s215
    have dhi := dhi.s s215
    have dbx := dbx.s s215
    have dod := dod.s s215
    have d4 := d4.s s215
    have d12 := d12.s s215
    have d18 := d18.s s215
    have d26 := d26.s s215
    have d34 := d34.s s215
    have d40 := d40.s s215
    have d48 := d48.s s215
    have d54 := d54.s s215
    have d62 := d62.s s215
    have d70 := d70.s s215
    have d76 := d76.s s215
    have d84 := d84.s s215
    have d90 := d90.s s215
    have d98 := d98.s s215
    have d106 := d106.s s215
    have d126 := d126.s s215
    have d131 := d131.s s215
    have d139 := d139.s s215
    have d144 := d144.s s215
    have d149 := d149.s s215
    have d157 := d157.s s215
    have d163 := d163.s s215
    have d171 := d171.s s215
    have d179 := d179.s s215
    have d194 := d194.s s215
    have d202 := d202.s s215
    have d208 := d208.s s215
    have elo := s215 _ _ elo
    have ehi := s215 _ _ ehi
    have ebx := s215 _ _ ebx
    have e189 := s215 _ _ e189
    have l218 := l211.same s215
    have tt := tt.trans s215
    refine ⟨(by show 2 ≤ sizeLine; decide), fun p219 h220 => ?_⟩
    have s221 := sm_new (o := .tup [.ref la, v213]) h220
    have d222 : Dt [L] (upd H214 p219 (.tup [.ref la, v213])) (.ref p219) (PyData.tuple [eC lo, PyData.tuple (cutL (hi.map PyData.int) none (some r) ++ [PyData.none] ++ cutL (hi.map PyData.int) (some (r + 1)) none)]) := .tup (l218.bk.ne h220) upd_same (.cons (dlo.s s221) (.cons (d216.s s221) .nil))
    have e224 : (upd H214 p219 (.tup [.ref la, v213])) p219 = some (.tup [.ref la, v213]) := upd_same
    have dlo := dlo.s s221
    have dhi := dhi.s s221
    have dbx := dbx.s s221
    have dod := dod.s s221
    have d4 := d4.s s221
    have d12 := d12.s s221
    have d18 := d18.s s221
    have d26 := d26.s s221
    have d34 := d34.s s221
    have d40 := d40.s s221
    have d48 := d48.s s221
    have d54 := d54.s s221
    have d62 := d62.s s221
    have d70 := d70.s s221
    have d76 := d76.s s221
    have d84 := d84.s s221
    have d90 := d90.s s221
    have d98 := d98.s s221
    have d106 := d106.s s221
    have d126 := d126.s s221
    have d131 := d131.s s221
    have d139 := d139.s s221
    have d144 := d144.s s221
    have d149 := d149.s s221
    have d157 := d157.s s221
    have d163 := d163.s s221
    have d171 := d171.s s221
    have d179 := d179.s s221
    have d194 := d194.s s221
    have d202 := d202.s s221
    have d208 := d208.s s221
    have d216 := d216.s s221
    have elo := s221 _ _ elo
    have ehi := s221 _ _ ehi
    have ebx := s221 _ _ ebx
    have e189 := s221 _ _ e189
    have l225 := l218.same s221
    have tt := tt.trans s221
    generalize upd H214 p219 (.tup [.ref la, v213]) = H223 at *
    have sh226 : Sh (PyData.tuple [eC lo, PyData.tuple (cutL (hi.map PyData.int) none (some r) ++ [PyData.none] ++ cutL (hi.map PyData.int) (some (r + 1)) none)]) 20 := sh_tup (k := 19) (by simp) fun x hx => by
      simp only [List.mem_cons, List.not_mem_nil, or_false] at hx
      rcases hx with rfl | rfl
      · exact slo.mono (by omega)
      · exact sd217.mono (by omega)
    refine ⟨_, rfl, _, rfl, ?_⟩
    refine cat_dt dlo dhi l225.bk (by simp; omega) fun v227 H228 s229 d230 => ?_
    have dlo := dlo.s s229
    have dhi := dhi.s s229
    have dbx := dbx.s s229
    have dod := dod.s s229
    have d4 := d4.s s229
    have d12 := d12.s s229
    have d18 := d18.s s229
    have d26 := d26.s s229
    have d34 := d34.s s229
    have d40 := d40.s s229
    have d48 := d48.s s229
    have d54 := d54.s s229
    have d62 := d62.s s229
    have d70 := d70.s s229
    have d76 := d76.s s229
    have d84 := d84.s s229
    have d90 := d90.s s229
    have d98 := d98.s s229
    have d106 := d106.s s229
    have d126 := d126.s s229
    have d131 := d131.s s229
    have d139 := d139.s s229
    have d144 := d144.s s229
    have d149 := d149.s s229
    have d157 := d157.s s229
    have d163 := d163.s s229
    have d171 := d171.s s229
    have d179 := d179.s s229
    have d194 := d194.s s229
    have d202 := d202.s s229
    have d208 := d208.s s229
    have d216 := d216.s s229
    have d222 := d222.s s229
    have elo := s229 _ _ elo
    have ehi := s229 _ _ ehi
    have ebx := s229 _ _ ebx
    have e189 := s229 _ _ e189
    have l231 := l225.same s229
    have tt := tt.trans s229
    have scc : Sh (.tuple (lo.map PyData.int ++ hi.map PyData.int)) 19 := sh_cat scl sch (by simp; omega)
    refine ⟨(by show 4 ≤ sizeLine; decide), fun p232 h233 => ?_⟩
    have s234 := sm_new (o := .lst [.ref p191, .ref p205, .ref p219, v227]) h233
    have d235 : Dt [L] (upd H228 p232 (.lst [.ref p191, .ref p205, .ref p219, v227])) (.ref p232) (PyData.list [PyData.tuple [eC lo, od], PyData.tuple [PyData.tuple (cutL (lo.map PyData.int) none (some r) ++ [PyData.bool false] ++ cutL (lo.map PyData.int) (some (r + 1)) none), eC hi], PyData.tuple [eC lo, PyData.tuple (cutL (hi.map PyData.int) none (some r) ++ [PyData.none] ++ cutL (hi.map PyData.int) (some (r + 1)) none)], PyData.tuple (lo.map PyData.int ++ hi.map PyData.int)]) := .lst (l231.bk.ne h233) upd_same (.cons (d194.s s234) (.cons (d208.s s234) (.cons (d222.s s234) (.cons (d230.s s234) .nil))))
    have e237 : (upd H228 p232 (.lst [.ref p191, .ref p205, .ref p219, v227])) p232 = some (.lst [.ref p191, .ref p205, .ref p219, v227]) := upd_same
    have dlo := dlo.s s234
    have dhi := dhi.s s234
    have dbx := dbx.s s234
    have dod := dod.s s234
    have d4 := d4.s s234
    have d12 := d12.s s234
    have d18 := d18.s s234
    have d26 := d26.s s234
    have d34 := d34.s s234
    have d40 := d40.s s234
    have d48 := d48.s s234
    have d54 := d54.s s234
    have d62 := d62.s s234
    have d70 := d70.s s234
    have d76 := d76.s s234
    have d84 := d84.s s234
    have d90 := d90.s s234
    have d98 := d98.s s234
    have d106 := d106.s s234
    have d126 := d126.s s234
    have d131 := d131.s s234
    have d139 := d139.s s234
    have d144 := d144.s s234
    have d149 := d149.s s234
    have d157 := d157.s s234
    have d163 := d163.s s234
    have d171 := d171.s s234
    have d179 := d179.s s234
    have d194 := d194.s s234
    have d202 := d202.s s234
    have d208 := d208.s s234
    have d216 := d216.s s234
    have d222 := d222.s s234
    have d230 := d230.s s234
    have elo := s234 _ _ elo
    have ehi := s234 _ _ ehi
    have ebx := s234 _ _ ebx
    have e189 := s234 _ _ e189
    have l238 := l231.same s234
    have tt := tt.trans s234
    generalize upd H228 p232 (.lst [.ref p191, .ref p205, .ref p219, v227]) = H236 at *
    refine ⟨p184, p232, _, _, rfl, rfl, e189, e237, (by show 19 ≤ sizeLine; decide), fun p240 h241 => ?_⟩
    have s242 := sm_new (o := .lst [ov, .ref ba, .ref p1, .ref p9, .ref p15, .ref p23, .ref p37, .ref p51, .ref p73, .ref p87, .ref p95, .ref p128, .ref p146, .ref p160, .ref p168, .ref p191, .ref p205, .ref p219, v227]) h241
    have dlo := dlo.s s242
    have dhi := dhi.s s242
    have dbx := dbx.s s242
    have dod := dod.s s242
    have d4 := d4.s s242
    have d12 := d12.s s242
    have d18 := d18.s s242
    have d26 := d26.s s242
    have d34 := d34.s s242
    have d40 := d40.s s242
    have d48 := d48.s s242
    have d54 := d54.s s242
    have d62 := d62.s s242
    have d70 := d70.s s242
    have d76 := d76.s s242
    have d84 := d84.s s242
    have d90 := d90.s s242
    have d98 := d98.s s242
    have d106 := d106.s s242
    have d126 := d126.s s242
    have d131 := d131.s s242
    have d139 := d139.s s242
    have d144 := d144.s s242
    have d149 := d149.s s242
    have d157 := d157.s s242
    have d163 := d163.s s242
    have d171 := d171.s s242
    have d179 := d179.s s242
    have d194 := d194.s s242
    have d202 := d202.s s242
    have d208 := d208.s s242
    have d216 := d216.s s242
    have d222 := d222.s s242
    have d230 := d230.s s242
    have d235 := d235.s s242
    have elo := s242 _ _ elo
    have ehi := s242 _ _ ehi
    have ebx := s242 _ _ ebx
    have e189 := s242 _ _ e189
    have e237 := s242 _ _ e237
    have l246 := l238.same s242
    have ttp := tt
    have tt := tt.trans s242
    show Q (.ref p240) (upd H236 p240 (.lst [ov, .ref ba, .ref p1, .ref p9, .ref p15, .ref p23, .ref p37, .ref p51, .ref p73, .ref p87, .ref p95, .ref p128, .ref p146, .ref p160, .ref p168, .ref p191, .ref p205, .ref p219, v227]))
    refine q _ _ [od, .tuple [eC lo, eC hi], PyData.tuple [eC hi, eC lo], PyData.list [eC lo, eC hi], PyData.tuple [eC lo], PyData.tuple [eC lo, eC hi, eC hi], PyData.tuple [eI lo, eC hi], PyData.tuple [eC lo, eI hi], PyData.tuple [PyData.tuple (cutL (lo.map PyData.int) none (some r) ++ [PyData.int (hk + 1)] ++ cutL (lo.map PyData.int) (some (r + 1)) none), eC hi], PyData.tuple [eC lo, PyData.tuple (cutL (hi.map PyData.int) none (some r) ++ [PyData.int lk] ++ cutL (hi.map PyData.int) (some (r + 1)) none)], PyData.tuple [eC lo, eC lo], PyData.tuple [eC lo, PyData.tuple (hi.map PyData.int ++ [PyData.int 1000])], PyData.tuple [PyData.tuple (cutL (lo.map PyData.int) none (some (-1))), PyData.tuple (cutL (hi.map PyData.int) none (some (-1)))], PyData.tuple [PyData.tuple (cutL (lo.map PyData.int) none (some r) ++ [od] ++ cutL (lo.map PyData.int) (some (r + 1)) none), eC hi], PyData.tuple [od, eC hi], PyData.tuple [eC lo, od], PyData.tuple [PyData.tuple (cutL (lo.map PyData.int) none (some r) ++ [PyData.bool false] ++ cutL (lo.map PyData.int) (some (r + 1)) none), eC hi], PyData.tuple [eC lo, PyData.tuple (cutL (hi.map PyData.int) none (some r) ++ [PyData.none] ++ cutL (hi.map PyData.int) (some (r + 1)) none)], PyData.tuple (lo.map PyData.int ++ hi.map PyData.int)] (gg.trans (Go.of tt)) l246 (.lst (fun z => ?_) upd_same (.cons dod (.cons dbx (.cons d4 (.cons d12 (.cons d18 (.cons d26 (.cons d40 (.cons d54 (.cons d76 (.cons d90 (.cons d98 (.cons d131 (.cons d149 (.cons d163 (.cons d171 (.cons d194 (.cons d208 (.cons d222 (.cons d230 .nil)))))))))))))))))))) (fun d hd => ?_) (by simp)
    · rw [List.mem_singleton.mp z] at h241; obtain ⟨_, _, _, e, _⟩ := l2.same ttp; rw [e] at h241; cases h241
    simp only [List.mem_cons, List.not_mem_nil, or_false] at hd
    rcases hd with rfl | rfl | rfl | rfl | rfl | rfl | rfl | rfl | rfl | rfl | rfl | rfl | rfl | rfl | rfl | rfl | rfl | rfl | rfl
    · exact sod.mono (by omega)
    · exact sbx.mono (by omega)
    · exact sh8.mono (by omega)
    · exact slb.mono (by omega)
    · exact sh22.mono (by omega)
    · exact sh30.mono (by omega)
    · exact sh44.mono (by omega)
    · exact sh58.mono (by omega)
    · exact sh80.mono (by omega)
    · exact sh94.mono (by omega)
    · exact sh102.mono (by omega)
    · exact sh135.mono (by omega)
    · exact sh153.mono (by omega)
    · exact sh167.mono (by omega)
    · exact sh175.mono (by omega)
    · exact sh198.mono (by omega)
    · exact sh212.mono (by omega)
    · exact sh226.mono (by omega)
    · exact scc.mono (by omega)
/-! ### holds -/
def hF (lo c hi : List Int) (i : Nat) : Bool := decide (lo.getD i 0 ≤ c.getD i 0) && decide (c.getD i 0 ≤ hi.getD i 0)
def hol (lo c hi : List Int) : Bool := (List.range c.length).all (hF lo c hi)
theorem getD_of {ns : List Int} {i : Nat} (h : i < ns.length) : ns.getD i 0 = ns[i] := by
  rw [List.getD_eq_getElem?_getD, List.getElem?_eq_getElem h]
  rfl
theorem fm_some {α : Type} (f : Nat → α) : ∀ n : Nat, (List.range n).filterMap (fun i => some (f i)) = (List.range n).map f := fun n => by
  rw [← List.filterMap_eq_map]
  rfl
def spHolds : Sp := fun vs H Q _ => ∃ (B : List Addr) (bv cv : V) (lo hi c : List Int), vs = [bv, cv] ∧ Dt B H bv (.tuple [eC lo, eC hi]) ∧ Dt B H cv (eC c) ∧ lo.length = c.length ∧ hi.length = c.length ∧ c.length ≤ 100 ∧ ∀ H', Same H H' → Q (.bl (hol lo c hi)) H'
theorem ok_holds (T : Tx K mg) {k : Nat} : FnOk P w K mg base CX0 (k + 1) T.f_holds T.d_holds ["box", "colour"] spHolds := by
  refine T.F_holds.ok sc_holds (fun vs H Q E h => ?_) (fun cdv A outer s H vs Q E hr h => ?_)
  · obtain ⟨B, bv, cv, lo, hi, c, rfl, _⟩ := h
    rfl
  · obtain ⟨B, bv, cv, lo, hi, c, rfl, hb, hc, l1, l2, lz, q⟩ := h
    obtain ⟨ba, bvs, rfl, nba, ebx, hbA⟩ := hb.tupI
    obtain ⟨lv, hv, rfl, dlo, dhi⟩ := hbA.two
    obtain ⟨la, rfl, nla, elo⟩ := dlo.col
    obtain ⟨ha, rfl, nha, ehi⟩ := dhi.col
    obtain ⟨ca, rfl, nca, ec⟩ := hc.col
    refine ⟨_, (pss_cons (ps_asg (pv 0) (pg_tupK K (n := 2) rfl (pgs_cons (pg_name (i := 2) sc_holds.nd rfl (.inl rfl)) (pgs_cons (pg_name (i := 3) sc_holds.nd rfl (.inl rfl)) pgs_nil))))
      (pss_one (ps_ret (pe_callB (cr_allK K rfl) (by rfl) T.z_all (by decide +kernel) (pa_cons (pe_lc (own := [("a", 4), ("n", 5), ("b", 6)]) (by rfl) sc_holds.nd (pi_zip3 K (by rfl) T.z_zip (pa_cons (pv 2) (pa_cons (pv 1) (pa_cons (pv 3) pa_nil)))) (blkOk_by (own := [("a", 4), ("n", 5), ("b", 6)]) (N := N_holds) (sc := defScope s_holds) (by decide +kernel)) (fun _ _ _ _ _ => (pg_tupK K (n := 3) rfl (pgs_cons (pg_name (i := 4) sc_holds.nd rfl (.inl rfl)) (pgs_cons (pg_name (i := 5) sc_holds.nd rfl (.inl rfl)) (pgs_cons (pg_name (i := 6) sc_holds.nd rfl (.inl rfl)) pgs_nil))))) (fun _ _ _ _ _ => pts_nil) (fun _ _ _ _ _ => (pe_chain op_le op_le (pv 4) (pv 5) (pv 6)))) pa_nil))))), ?_⟩
    refine ⟨_, rfl, ba, _, rfl, SqT.of ebx, rfl, _, _, rfl, _, _, rfl, rfl, ?_⟩
    refine ⟨_, rfl, _, rfl, _, rfl, la, ca, ha, _, _, _, rfl, SqT.of elo, SqT.of ec, SqT.of ehi, fun D hD => ?_⟩
    refine lc_pure (B := []) (walk_zip3 (xs := lo.map V.int) (ys := c.map V.int) (ts := hi.map V.int) (by simp; omega) (by simp; omega)) hD (fun _ h => nomatch h) (fun H' s' => ⟨SqT.of (s' _ _ elo), SqT.of (s' _ _ ec), SqT.of (s' _ _ ehi)⟩) (by rw [List.length_map]; omega)
      (fun i => some (PyData.bool (hF lo c hi i))) (fun i x H' H'' Ny Nn hi' t1 bk y ky kn => ?_) (fun H8 ws s8 eS hW => ?_)
    · obtain ⟨t, x, y, z, rfl, ht, rfl, e1, e2, e3⟩ := y
      rw [List.length_map] at hi'
      have i2 : i < c.length := by omega
      have i3 : i < hi.length := by omega
      have x1 := mat hi' e1
      have x2 := mat i2 e2
      have x3 := mat i3 e3
      have ef : hF lo c hi i = (decide (lo[i] ≤ c[i]) && decide (c[i] ≤ hi[i])) := by
        unfold hF
        rw [getD_of hi', getD_of i2, getD_of i3]
      refine ⟨t, [x, y, z], rfl, SqT.of upd_same, rfl, x, _, rfl, y, _, rfl, z, _, rfl, rfl, rfl, lc_yes ?_⟩
      refine ⟨_, rfl, _, rfl, _, _, x1, x2, _, rfl, ite2 (fun e => ?_) (fun e => ?_)⟩
      · refine ⟨_, rfl, _, _, x2, x3, ?_⟩
        refine ky _ _ _ rfl (sm_new ht) ?_
        rw [ef, e]
        exact .bl _
      · refine ky _ _ _ rfl (sm_new ht) ?_
        rw [ef, Bool.eq_false_iff.mpr e]
        exact .bl _
    · rw [List.length_map, fm_some] at hW
      have hW2 : DtA [D] H8 ws (((List.range lo.length).map (hF lo c hi)).map PyData.bool) := by rw [List.map_map]; exact hW
      refine ⟨D, _, rfl, SqL.of (by rw [eS, hW2.blsV]), ?_⟩
      rw [show ((List.range lo.length).map (hF lo c hi)).all id = hol lo c hi by unfold hol; rw [List.all_map, l1]; rfl]
      exact q _ s8
/-! ### the ends of a drawn box -/
theorem cutL_map {α β : Type} (f : α → β) (xs : List α) (lo hi : Option Int) : cutL (xs.map f) lo hi = (cutL xs lo hi).map f := by
  unfold cutL
  rw [List.length_map, List.map_take, List.map_drop]
theorem cut_to {α : Type} (xs : List α) {n : Int} (h0 : 0 ≤ n) (h1 : n < xs.length) : cutL xs none (some n) = xs.take n.toNat := by
  unfold cutL
  have e : HT.sIx xs.length xs.length (some n) = n.toNat := by
    show (if n < 0 then (n + (xs.length : Int)).toNat else min n.toNat xs.length) = n.toNat
    rw [if_neg (by omega)]
    omega
  rw [e]
  rfl
theorem cut_from {α : Type} (xs : List α) {n : Int} (h0 : 0 ≤ n) (h1 : n ≤ xs.length) : cutL xs (some n) none = xs.drop n.toNat := by
  unfold cutL
  have e : HT.sIx xs.length 0 (some n) = n.toNat := by
    show (if n < 0 then (n + (xs.length : Int)).toNat else min n.toNat xs.length) = n.toNat
    rw [if_neg (by omega)]
    omega
  have e2 : HT.sIx xs.length xs.length none = xs.length := rfl
  rw [e, e2, List.take_of_length_le]
  rw [List.length_drop]
  omega
theorem put_eC (c : List Int) (x n : Int) (h0 : 0 ≤ n) (h1 : n < c.length) : PyData.tuple (cutL (c.map PyData.int) none (some n) ++ [PyData.int x] ++ cutL (c.map PyData.int) (some (n + 1)) none) = eC (c.take n.toNat ++ [x] ++ c.drop (n + 1).toNat) := by
  rw [cutL_map, cutL_map, cut_to c h0 h1, cut_from c (by omega) (by omega)]
  unfold eC
  rw [List.map_append, List.map_append]
  rfl
def spEnds : Sp := fun vs H Q _ => ∃ (L : Addr) (n : Nat) (kv : V) (wd sp : Int), vs = [.ref L, kv] ∧ Lf L H n ∧ n < 10000000 ∧ Dt [L] H kv (eC [wd, sp]) ∧ 1 ≤ wd ∧ wd ≤ 5 ∧ 1 ≤ sp ∧ sp ≤ 1000 ∧
  ∀ (v : V) (H' : Hp) (lo hi : List Int), Go [L] H H' → Lf L H' (n + 30) → Dt [L] H' v (.tuple [eC lo, eC hi]) → (lo.length : Int) = wd → (hi.length : Int) = wd → cIn 0 999 lo → cIn 0 999 hi → Q v H'
theorem ok_l_ends (T : Tx K mg) {k : Nat} : FnOk P w K mg base CX0 (k + 4) T.f_l_ends T.d_l_ends ["_law_left_here", "_law_kind_here"] spEnds := by
  refine T.F_l_ends.ok sc_l_ends (fun vs H Q E h => ?_) (fun cdv A outer s H vs Q E hr h => ?_)
  · obtain ⟨L, n, kv, wd, sp, rfl, _⟩ := h
    rfl
  · obtain ⟨L, n, kv, wd, sp, rfl, hL, hn, hk, w0, w1, p0, p1, q⟩ := h
    refine ⟨_, (pss_cons (ps_par (i := 2) (j := 3) (by rfl) sc_l_ends.nd rfl rfl (by decide) rfl rfl (pa_cons (pe_call (ok_l_colour T (k := k)) hr (by rfl) T.g_l_colour T.F_l_colour.kp T.b_l_colour .nil pass0 (pa_cons (pv 0) (pa_cons (pv 1) pa_nil))) (pa_cons (pe_call (ok_l_colour T (k := k)) hr (by rfl) T.g_l_colour T.F_l_colour.kp T.b_l_colour .nil pass0 (pa_cons (pv 0) (pa_cons (pv 1) pa_nil))) pa_nil)) (by rfl))
      (Evl.pss_cut (ps_if (pt_cmpR op_eq (pe_call (ok_l_pick T (k := k + 1)) hr (by rfl) T.g_l_pick T.F_l_pick.kp T.b_l_pick .nil pass0 (pa_cons (pv 0) (pa_cons pe_int pa_nil))) pe_int (nomark _)) (pss_cons (ps_set (i := 4) sc_l_ends.nd rfl (.inl rfl) (pe_call (ok_l_pick T (k := k + 1)) hr (by rfl) T.g_l_pick T.F_l_pick.kp T.b_l_pick .nil pass0 (pa_cons (pv 0) (pa_cons (pe_ix (ix_tupK K) (pv 1) pe_int (fun _ _ => rfl)) pa_nil))))
      (pss_one (ps_set (i := 3) sc_l_ends.nd rfl (.inl rfl) (pe_call (ok_l_put_at T (k := k + 2)) hr (by rfl) T.g_l_put_at T.F_l_put_at.kp T.b_l_put_at .nil pass0 (pa_cons (pv 3) (pa_cons (pv 4) (pa_cons (pe_ix (ix_tupK K) (pv 2) (pv 4) (fun _ _ => rfl)) pa_nil))))))) pss_nil)
      (pss_one (ps_ret (pe_tup (pa_cons (pe_callTy (tuple_K K) (by rfl) T.z_tuple (by decide +kernel) (pa_cons (pe_lc (own := [("_law_a", 5), ("_law_b", 6)]) (by rfl) sc_l_ends.nd (RZ.pi_zipA (by rfl) T.z_zip (pa_cons (pv 2) (pa_cons (pv 3) pa_nil))) (blkOk_by (own := [("_law_a", 5), ("_law_b", 6)]) (N := N_l_ends) (sc := defScope s_l_ends) (by decide +kernel)) (fun _ _ _ _ _ => (pg_tupK K (n := 2) rfl (pgs_cons (pg_name (i := 5) sc_l_ends.nd rfl (.inl rfl)) (pgs_cons (pg_name (i := 6) sc_l_ends.nd rfl (.inl rfl)) pgs_nil)))) (fun _ _ _ _ _ => pts_nil) (fun _ _ _ _ _ => (pe_callB (call_min2 rfl) (by rfl) T.z_min (by decide +kernel) (pa_cons (pv 5) (pa_cons (pv 6) pa_nil))))) pa_nil)) (pa_cons (pe_callTy (tuple_K K) (by rfl) T.z_tuple (by decide +kernel) (pa_cons (pe_lc (own := [("_law_a", 5), ("_law_b", 6)]) (by rfl) sc_l_ends.nd (RZ.pi_zipA (by rfl) T.z_zip (pa_cons (pv 2) (pa_cons (pv 3) pa_nil))) (blkOk_by (own := [("_law_a", 5), ("_law_b", 6)]) (N := N_l_ends) (sc := defScope s_l_ends) (by decide +kernel)) (fun _ _ _ _ _ => (pg_tupK K (n := 2) rfl (pgs_cons (pg_name (i := 5) sc_l_ends.nd rfl (.inl rfl)) (pgs_cons (pg_name (i := 6) sc_l_ends.nd rfl (.inl rfl)) pgs_nil)))) (fun _ _ _ _ _ => pts_nil) (fun _ _ _ _ _ => (pe_callB (call_max2 rfl) (by rfl) T.z_max (by decide +kernel) (pa_cons (pv 5) (pa_cons (pv 6) pa_nil))))) pa_nil)) pa_nil))))))), ?_⟩
    refine ⟨_, rfl, _, rfl, L, [L], n, kv, wd, sp, rfl, hL, by simp, hL.bk, by omega, hk, by omega, w1, p0, p1, fun v1 H1 c1 g1 l1 d1 n1 r1 => ?_⟩
    refine ⟨_, rfl, _, rfl, L, [L], n + 10, kv, wd, sp, rfl, l1, by simp, l1.bk, by omega, hk.g g1, by omega, w1, p0, p1, fun v2 H2 c2 g2 l2 d2 n2 r2 => ?_⟩
    refine ⟨_, _, rfl, ?_⟩
    have gg := g1.trans g2
    have d1 := d1.g g2
    refine ⟨fun σ' H' => ∃ v3 c3 y4 y5 y6, σ' = [some (.ref L), some kv, some v1, some v3, y4, y5, y6] ∧ Go [L] H H' ∧ Lf L H' (n + 22) ∧ Dt [L] H' v1 (eC c1) ∧ Dt [L] H' v3 (eC c3) ∧ (c3.length : Int) = wd ∧ cIn 0 999 c3, ?_, fun σ' H' hM => ?_⟩
    · refine ⟨_, rfl, L, 3, n + 20, rfl, l2, by omega, by decide, by decide, fun r3 H3 g3 l3 a3 b3 => ?_⟩
      have gg3 := gg.trans g3
      refine ⟨rfl, _, rfl, ite2 (fun e => ?_) (fun e => ?_)⟩
      · obtain ⟨ka, rfl, nk, ek⟩ := (hk.g gg3).col
        refine ⟨_, rfl, _, rfl, ka, _, 0, .int wd, rfl, rfl, SqT.of ek, rfl, L, wd, n + 21, rfl, l3, by omega, by omega, by omega, fun r4 H4 g4 l4 a4 b4 => ?_⟩
        have d1' := (d1.g g3).g g4
        have d2' := (d2.g g3).g g4
        obtain ⟨a1, rfl, na1, e1⟩ := d1'.col
        obtain ⟨x, mx, ax⟩ := at_int (ns := c1) a4 (by omega)
        have rx := r1 x mx
        refine ⟨_, rfl, _, rfl, _, rfl, _, rfl, a1, _, _, .int x, rfl, rfl, SqT.of e1, ax, [L], v2, .int x, c2.map .int, .int x, r4, 0, rfl, d2', .int x, l4.bk, sh_eC (by omega), sh_int _ _, by simp; omega, fun v5 H5 s5 d5 _ => ?_⟩
        rw [put_eC c2 x r4 a4 (by omega)] at d5
        refine ⟨v5, _, _, _, _, rfl, (gg3.trans g4).trans (Go.of s5), l4.same s5, d1'.s s5, d5, ?_, fun z hz => ?_⟩
        · simp only [List.length_append, List.length_take, List.length_drop, List.length_singleton]
          omega
        · rcases List.mem_append.mp hz with hz | hz
          · rcases List.mem_append.mp hz with hz | hz
            · exact r2 z (List.mem_of_mem_take hz)
            · rw [List.mem_singleton.mp hz]
              exact rx
          · exact r2 z (List.mem_of_mem_drop hz)
      · exact ⟨v2, c2, _, _, _, rfl, gg3, l3.mono (by omega), d1.g g3, d2.g g3, n2, r2⟩
    · obtain ⟨v3, c3, y4, y5, y6, rfl, g4, l4, e1, e3, n3, r3⟩ := hM
      obtain ⟨a1, rfl, na1, u1⟩ := e1.col
      obtain ⟨a3, rfl, na3, u3⟩ := e3.col
      refine ⟨_, rfl, _, rfl, a1, a3, _, _, rfl, .inr ⟨SqT.of u1, SqT.of u3, fun D hD => ?_⟩⟩
      refine lc_pure (B := []) (walk_zipT (n := c1.length) (xs := c1.map V.int) (ys := c3.map V.int) (by simp; omega)) hD (fun _ h => nomatch h) (fun H' s' => ⟨SqT.of (s' _ _ u1), SqT.of (s' _ _ u3)⟩) (by omega)
        (fun i => ((c1.zip c3).map fun p => PyData.int (if p.2 < p.1 then p.2 else p.1))[i]?) (fun i x H' H'' Ny Nn hi t1 bk y ky kn => ?_) (fun H5 ws s5 eD hW => ?_)
      · obtain ⟨t, x, y, rfl, ht, rfl, f1, f2⟩ := y
        have i2 : i < c3.length := by omega
        have x1 := mat hi f1
        have x2 := mat i2 f2
        subst x1 x2
        refine ⟨t, _, rfl, SqT.of upd_same, rfl, _, _, rfl, _, _, rfl, rfl, rfl, lc_yes ?_⟩
        refine ⟨_, rfl, _, rfl, _, _, rfl, ?_⟩
        refine ky _ _ _ ?_ (sm_new ht) (.int _)
        rw [List.getElem?_map, List.getElem?_eq_getElem (by simp; omega)]
        simp
      rw [fm_all (by simp; omega)] at hW
      have hW2 : DtA [D] H5 ws (((c1.zip c3).map fun p => (if p.2 < p.1 then p.2 else p.1)).map PyData.int) := by rw [List.map_map]; exact hW
      have ew := hW2.intsV
      subst ew
      refine ⟨D, _, rfl, .inl ⟨SqL.of eD, fun t5 ht5 => ?_⟩⟩
      have s6 := s5.trans (sm_new (o := .tup (((c1.zip c3).map fun p => (if p.2 < p.1 then p.2 else p.1)).map V.int)) ht5)
      have l6 := l4.same s6
      have dlo : Dt [L] (upd H5 t5 (.tup (((c1.zip c3).map fun p => (if p.2 < p.1 then p.2 else p.1)).map V.int))) (.ref t5) (eC ((c1.zip c3).map fun p => (if p.2 < p.1 then p.2 else p.1))) := Dt.ofCol ((l4.same s5).bk.ne ht5) upd_same
      have u1 := s6 _ _ u1
      have u3 := s6 _ _ u3
      generalize upd H5 t5 (.tup (((c1.zip c3).map fun p => (if p.2 < p.1 then p.2 else p.1)).map V.int)) = H6 at *
      refine ⟨_, rfl, _, rfl, a1, a3, _, _, rfl, .inr ⟨SqT.of u1, SqT.of u3, fun D hD => ?_⟩⟩
      refine lc_pure (B := []) (walk_zipT (n := c1.length) (xs := c1.map V.int) (ys := c3.map V.int) (by simp; omega)) hD (fun _ h => nomatch h) (fun H' s' => ⟨SqT.of (s' _ _ u1), SqT.of (s' _ _ u3)⟩) (by omega)
        (fun i => ((c1.zip c3).map fun p => PyData.int (if p.2 > p.1 then p.2 else p.1))[i]?) (fun i x H' H'' Ny Nn hi t1 bk y ky kn => ?_) (fun H7 ws s7 eD hW => ?_)
      · obtain ⟨t, x, y, rfl, ht, rfl, f1, f2⟩ := y
        have i2 : i < c3.length := by omega
        have x1 := mat hi f1
        have x2 := mat i2 f2
        subst x1 x2
        refine ⟨t, _, rfl, SqT.of upd_same, rfl, _, _, rfl, _, _, rfl, rfl, rfl, lc_yes ?_⟩
        refine ⟨_, rfl, _, rfl, _, _, rfl, ?_⟩
        refine ky _ _ _ ?_ (sm_new ht) (.int _)
        rw [List.getElem?_map, List.getElem?_eq_getElem (by simp; omega)]
        simp
      rw [fm_all (by simp; omega)] at hW
      have hW2 : DtA [D] H7 ws (((c1.zip c3).map fun p => (if p.2 > p.1 then p.2 else p.1)).map PyData.int) := by rw [List.map_map]; exact hW
      have ew := hW2.intsV
      subst ew
      refine ⟨D, _, rfl, .inl ⟨SqL.of eD, fun t7 ht7 => ?_⟩⟩
      have s8 := s7.trans (sm_new (o := .tup (((c1.zip c3).map fun p => (if p.2 > p.1 then p.2 else p.1)).map V.int)) ht7)
      have l8 := l6.same s8
      have dhi : Dt [L] (upd H7 t7 (.tup (((c1.zip c3).map fun p => (if p.2 > p.1 then p.2 else p.1)).map V.int))) (.ref t7) (eC ((c1.zip c3).map fun p => (if p.2 > p.1 then p.2 else p.1))) := Dt.ofCol ((l6.same s7).bk.ne ht7) upd_same
      have dlo := dlo.s s8
      generalize upd H7 t7 (.tup (((c1.zip c3).map fun p => (if p.2 > p.1 then p.2 else p.1)).map V.int)) = H8 at *
      refine ⟨(by show 2 ≤ sizeLine; decide), fun t9 ht9 => ?_⟩
      have s9 := sm_new (o := .tup [.ref t5, .ref t7]) ht9
      have bnd : ∀ p ∈ c1.zip c3, (0 ≤ p.1 ∧ p.1 ≤ 999) ∧ 0 ≤ p.2 ∧ p.2 ≤ 999 := fun p hp => ⟨r1 _ (List.of_mem_zip hp).1, r3 _ (List.of_mem_zip hp).2⟩
      refine q _ _ _ _ ((g4.trans (Go.of s6)).trans ((Go.of s8).trans (Go.of s9))) ((l8.same s9).mono (by omega)) (.tup (l8.bk.ne ht9) upd_same (.cons (dlo.s s9) (.one (dhi.s s9)))) (by simp; omega) (by simp; omega) (fun z hz => ?_) (fun z hz => ?_)
      · obtain ⟨p, hp, rfl⟩ := List.mem_map.mp hz
        have := bnd p hp
        split <;> omega
      · obtain ⟨p, hp, rfl⟩ := List.mem_map.mp hz
        have := bnd p hp
        split <;> omega
/-! ### a colour beside a box -/
def spBeside : Sp := fun vs H Q _ => ∃ (L : Addr) (n : Nat) (bv : V) (lo hi : List Int), vs = [.ref L, bv] ∧ Lf L H n ∧ n < 10000000 ∧ Dt [L] H bv (.tuple [eC lo, eC hi]) ∧ lo.length ≤ 5 ∧ hi.length = lo.length ∧
  ∀ (v : V) (H' : Hp) (c : List Int), Go [L] H H' → Lf L H' (n + 5) → Dt [L] H' v (eC c) → c.length = lo.length → Q v H'
theorem ok_l_beside (T : Tx K mg) {k : Nat} : FnOk P w K mg base CX0 (k + 3) T.f_l_beside T.d_l_beside ["_law_left_here", "_law_box"] spBeside := by
  refine T.F_l_beside.ok sc_l_beside (fun vs H Q E h => ?_) (fun cdv A outer s H vs Q E hr h => ?_)
  · obtain ⟨L, n, bv, lo, hi, rfl, _⟩ := h
    rfl
  · obtain ⟨L, n, bv, lo, hi, rfl, hL, hn, hb, l5, hl, q⟩ := h
    obtain ⟨ba, bvs, rfl, nba, ebx, hbA⟩ := hb.tupI
    obtain ⟨lv, hv, rfl, dlo, dhi⟩ := hbA.two
    obtain ⟨la, rfl, nla, elo⟩ := dlo.col
    obtain ⟨ha, rfl, nha, ehi⟩ := dhi.col
    refine ⟨_, (pss_cons (ps_set (i := 2) sc_l_beside.nd rfl (.inl rfl) (pe_lst pa_nil))
      (pss_cons (ps_for PassesOwn.never rfl (RZ.pi_zipA (by rfl) T.z_zip (pa_cons (pe_ix (ix_tupK K) (pv 1) pe_int (fun _ _ => rfl)) (pa_cons (pe_ix (ix_tupK K) (pv 1) pe_int (fun _ _ => rfl)) pa_nil))) (pg_tupK K (n := 2) rfl (pgs_cons (pg_name (i := 3) sc_l_beside.nd rfl (.inl rfl)) (pgs_cons (pg_name (i := 4) sc_l_beside.nd rfl (.inl rfl)) pgs_nil))) (pss_one (ps_expr (pe_bm PySem.F.plainAttrs_list PySem.F.slot_list_append PySem.F.type_list_append mt_append (pv 2) (pa_cons (pe_ix (ix_listK K) (pe_lst (pa_cons (pv 3) (pa_cons (pv 4) (pa_cons (pe_op op_sub (pv 3) pe_int) (pa_cons (pe_op op_add (pv 4) pe_int) (pa_cons (pe_op op_fdiv (pe_op op_add (pv 3) (pv 4)) pe_int) (pa_cons (pv 3) (pa_cons (pv 4) (pa_cons (pv 3) pa_nil))))))))) (pe_call (ok_l_pick T (k := k)) hr (by rfl) T.g_l_pick T.F_l_pick.kp T.b_l_pick .nil pass0 (pa_cons (pv 0) (pa_cons pe_int pa_nil))) (fun _ _ => rfl)) pa_nil)))))
      (pss_one (ps_ret (pe_callTy (tuple_K K) (by rfl) T.z_tuple (by decide +kernel) (pa_cons (pv 2) pa_nil)))))), ?_⟩
    refine ⟨Nat.zero_le _, fun S hSn => ?_⟩
    have s0 := sm_new (o := .lst []) hSn
    have nS : S ∉ [L] := hL.bk.ne hSn
    refine ⟨_, rfl, ba, _, 0, .ref la, rfl, rfl, SqT.of (s0 _ _ ebx), rfl, _, rfl, ba, _, 1, .ref ha, rfl, rfl, SqT.of (s0 _ _ ebx), rfl, la, ha, _, _, rfl, .inr ⟨SqT.of (s0 _ _ elo), SqT.of (s0 _ _ ehi), ?_⟩⟩
    refine for_it (walk_zipT (n := lo.length) (xs := lo.map V.int) (ys := hi.map V.int) (by simp; omega)) (fun i σ H' => ∃ y3 y4 ns, σ = [some (.ref L), some (.ref ba), some (.ref S), y3, y4] ∧ Go [L] H H' ∧ Lf L H' (n + i) ∧ H' S = some (.lst (ns.map V.int)) ∧ ns.length = i)
      ⟨_, _, [], rfl, Go.new hSn, hL.new hSn, upd_same, rfl⟩ (fun i σ H' _ h => ?_) (fun i x σ H1 H2 hi' h1 y => ?_) (fun σ H1 h1 => ?_)
    · obtain ⟨y3, y4, ns, rfl, g1, l1, eS, en⟩ := h
      exact ⟨SqT.of (g1.k _ _ nla elo), SqT.of (g1.k _ _ nha ehi)⟩
    · obtain ⟨y3, y4, ns, rfl, g1, l1, eS, en⟩ := h1
      obtain ⟨t, x, y, rfl, ht, rfl, f1, f2⟩ := y
      have i2 : i < hi.length := by omega
      have x1 := mat hi' f1
      have x2 := mat i2 f2
      subst x1 x2
      have s2 := sm_new (o := .tup [.int lo[i], .int hi[i]]) ht
      have l2 := l1.same s2
      refine ⟨t, _, rfl, SqT.of upd_same, rfl, _, _, rfl, _, _, rfl, rfl, ?_⟩
      have eS2 := s2 _ _ eS
      generalize upd H1 t (.tup [.int lo[i], .int hi[i]]) = H2 at *
      refine ⟨_, rfl, .inl ⟨rfl, _, SqL.of eS2⟩, ?_⟩
      refine ⟨_, rfl, _, rfl, _, rfl, _, _, rfl, rfl, _, rfl, _, _, rfl, rfl, _, rfl, _, rfl, _, _, rfl, rfl, _, _, rfl, rfl, ⟨by decide, by decide⟩, _, rfl, _, rfl, _, rfl, (by show 8 ≤ sizeLine; decide), fun p hp => ?_⟩
      refine ⟨_, rfl, L, 8, n + i, rfl, l2.new hp, by omega, by decide, by decide, fun r3 H3 g3 l3 a3 b3 => ?_⟩
      obtain ⟨ns8, n8, e3⟩ : ∃ ns : List Int, ns.length = 8 ∧ H3 p = some (.lst (ns.map V.int)) := ⟨[_, _, _, _, _, _, _, _], rfl, g3.k p _ (l2.bk.ne hp) upd_same⟩
      obtain ⟨z, _, ez⟩ := at_int (ns := ns8) a3 (by omega)
      have g23 : Go [L] H2 H3 := (Go.new hp).trans g3
      have eS3 := g23.k S _ nS eS2
      refine ⟨p, _, _, .int z, rfl, rfl, SqL.of e3, ez, S, _, _, rfl, rfl, eS3, sz (by rw [List.length_map]; omega), ?_⟩
      refine ⟨_, _, ns ++ [z], rfl, ((g1.trans (Go.of s2)).trans g23).mut hSn, (l3.up (hL.ne hSn)).mono (by omega), ?_, by simp; omega⟩
      rw [upd_same, List.map_append]
      rfl
    · obtain ⟨y3, y4, ns, rfl, g1, l1, eS, en⟩ := h1
      refine ⟨_, rfl, S, _, rfl, .inl ⟨SqL.of eS, fun t ht => ?_⟩⟩
      exact q _ _ ns (g1.trans (Go.new ht)) ((l1.new ht).mono (by omega)) (Dt.ofCol (l1.bk.ne ht) upd_same) en
/-! ### what the law promises -/
def spLaw (K : PySem.W.Frag) : Sp := fun vs H Q _ => ∃ (a : Addr) (ns : List Int), vs = [.ref a] ∧ SqL K H a (ns.map V.int) ∧ ns.length ≤ 63 ∧ ∀ H', Q (.bl true) H'
/-! ### the law -/
theorem ok_law (T : Tx K mg) {f : Addr} {fd : FuncData} (F : Fun K "law" "law" s_law f fd) {k : Nat} (hk : k ≤ 10) : FnOk P w K mg base CX0 (k + 21) f fd ["_law_script"] (spLaw K) := by
  refine F.ok sc_law (fun vs H Q E h => ?_) (fun cdv A outer s H vs Q E hr h => ?_)
  · obtain ⟨a, ns, rfl, _⟩ := h
    rfl
  · obtain ⟨a, ns, rfl, hS, hlen, q⟩ := h
    refine ⟨_, (pss_cons (ps_for PassesOwn.never rfl (pi_range1 (by rfl) T.z_range (pa_cons (pe_op op_add pe_int (pe_callB (len_K K) (by rfl) T.z_len PySem.boot_len (pa_cons (pe_slice (sl_listK K) (pv 0) po_none (po_some pe_int)) pa_nil))) pa_nil)) (pg_name (i := 1) sc_law.nd rfl (.inl rfl)) (pss_cons (ps_set (i := 2) sc_law.nd rfl (.inl rfl) (pe_call (ok_l_left T (k := k + 19)) hr (by rfl) T.g_l_left T.F_l_left.kp T.b_l_left .nil pass0 (pa_cons (pv 0) (pa_cons (pv 1) pa_nil))))
      (pss_cons (ps_set (i := 3) sc_law.nd rfl (.inl rfl) (pe_call (ok_l_kind T (k := k + 17)) hr (by rfl) T.g_l_kind T.F_l_kind.kp T.b_l_kind .nil pass0 (pa_cons (pv 2) pa_nil)))
      (pss_cons (ps_set (i := 4) sc_law.nd rfl (.inl rfl) (pe_call (ok_l_ends T (k := k + 16)) hr (by rfl) T.g_l_ends T.F_l_ends.kp T.b_l_ends .nil pass0 (pa_cons (pv 2) (pa_cons (pv 3) pa_nil))))
      (pss_cons (ps_for PassesOwn.never rfl (pi_listK K (pe_call (ok_l_things T (k := k)) hr (by rfl) T.g_l_things T.F_l_things.kp T.b_l_things .nil pass0 (pa_cons (pv 2) (pa_cons (pv 4) pa_nil)))) (pg_name (i := 5) sc_law.nd rfl (.inl rfl)) (pss_one (ps_for PassesOwn.never rfl (pi_range2 (by rfl) T.z_range (pa_cons pe_int (pa_cons pe_int pa_nil))) (pg_name (i := 6) sc_law.nd rfl (.inl rfl)) (pss_one (ps_if (pt_not (pt_val (pe_call (ok_l_same T (k := k + 19)) hr (by rfl) T.g_l_same T.F_l_same.kp T.b_l_same .nil pass0 (pa_cons (pe_call (ok_is_box T (k := k + 17)) hr (by rfl) T.g_is_box T.F_is_box.kp T.b_is_box .nil pass0 (pa_cons (pv 5) (pa_cons (pv 6) pa_nil))) (pa_cons (pe_call (ok_l_is_box T (k := k + 17)) hr (by rfl) T.g_l_is_box T.F_l_is_box.kp T.b_l_is_box .nil pass0 (pa_cons (pv 5) (pa_cons (pv 6) pa_nil))) pa_nil))))) (pss_one (ps_ret pe_bl)) pss_nil)))))
      (pss_one (ps_for PassesOwn.never rfl (pi_range1 (by rfl) T.z_range (pa_cons pe_int pa_nil)) (pg_name (i := 7) sc_law.nd rfl (.inl rfl)) (pss_cons (ps_set (i := 8) sc_law.nd rfl (.inl rfl) (pe_ix (ix_listK K) (pe_lst (pa_cons (pe_call (ok_l_beside T (k := k + 17)) hr (by rfl) T.g_l_beside T.F_l_beside.kp T.b_l_beside .nil pass0 (pa_cons (pv 2) (pa_cons (pv 4) pa_nil))) (pa_cons (pe_call (ok_l_colour T (k := k + 17)) hr (by rfl) T.g_l_colour T.F_l_colour.kp T.b_l_colour .nil pass0 (pa_cons (pv 2) (pa_cons (pv 3) pa_nil))) pa_nil))) (pe_op op_fdiv (pe_call (ok_l_pick T (k := k + 18)) hr (by rfl) T.g_l_pick T.F_l_pick.kp T.b_l_pick .nil pass0 (pa_cons (pv 2) (pa_cons pe_int pa_nil))) pe_int) (fun _ _ => rfl)))
      (pss_cons (ps_set (i := 9) sc_law.nd rfl (.inl rfl) pe_bl)
      (pss_cons (ps_for PassesOwn.never rfl (pi_range1 (by rfl) T.z_range (pa_cons (pe_ix (ix_tupK K) (pv 3) pe_int (fun _ _ => rfl)) pa_nil)) (pg_name (i := 10) sc_law.nd rfl (.inl rfl)) (pss_one (ps_set (i := 9) sc_law.nd rfl (.inl rfl) (pe_and (pv 9) (pe_and (pe_cmpR op_le (pe_ix (ix_tupK K) (pe_ix (ix_tupK K) (pv 4) pe_int (fun _ _ => rfl)) (pv 10) (fun _ _ => rfl)) (pe_ix (ix_tupK K) (pv 8) (pv 10) (fun _ _ => rfl)) (nomark _)) (pe_one (pe_cmpR op_le (pe_ix (ix_tupK K) (pv 8) (pv 10) (fun _ _ => rfl)) (pe_ix (ix_tupK K) (pe_ix (ix_tupK K) (pv 4) pe_int (fun _ _ => rfl)) (pv 10) (fun _ _ => rfl)) (nomark _))))))))
      (pss_one (ps_if (pt_not (pt_val (pe_call (ok_l_same T (k := k + 19)) hr (by rfl) T.g_l_same T.F_l_same.kp T.b_l_same .nil pass0 (pa_cons (pe_call (ok_holds T (k := k + 19)) hr (by rfl) T.g_holds T.F_holds.kp T.b_holds .nil pass0 (pa_cons (pv 4) (pa_cons (pv 8) pa_nil))) (pa_cons (pv 9) pa_nil))))) (pss_one (ps_ret pe_bl)) pss_nil))))))))))))
      (pss_one (ps_ret pe_bl))), ?_⟩
    refine ⟨_, rfl, 8, rfl, a, _, rfl, hS, fun cp hcp => ?_⟩
    have lc := cutV_length (ns.map V.int) none (some 8)
    rw [List.length_map] at lc
    refine ⟨cp, _, rfl, .inl (SqL.of upd_same), _, _, rfl, rfl, _, rfl, by omega, by omega, ?_⟩
    have s0 := sm_new (o := .lst (cutV (ns.map V.int) none (some 8))) hcp
    refine for_range (lo := 0) (fun i σ H' => ∃ y1 y2 y3 y4 y5 y6 y7 y8 y9 y10, σ = [some (.ref a), y1, y2, y3, y4, y5, y6, y7, y8, y9, y10] ∧ Same H H')
      ⟨none, none, none, none, none, none, none, none, none, none, rfl, s0⟩ (fun i σ H1 hi h1 => ?_) (fun σ H1 h1 => ?_)
    · obtain ⟨y1, y2, y3, y4, y5, y6, y7, y8, y9, y10, rfl, s1⟩ := h1
      refine ⟨_, rfl, _, rfl, a, ns, _, rfl, s1.seq hS, by omega, fun L x0 y0 hL0 x0n => ?_⟩
      have lf1 : Lf L (upd H1 L (.lst [.int x0, .int y0, .int 0])) 0 := ⟨x0, y0, 0, upd_same, x0n, by omega, by omega⟩
      have s2 := sm_mut (o := .lst [.int x0, .int y0, .int 0]) s1 (s1.free hL0)
      have hLH : H L = none := s1.free hL0
      generalize upd H1 L (.lst [.int x0, .int y0, .int 0]) = H2 at *
      have nB : ∀ b ∈ [L], H b = none := fun b hb => by rw [List.mem_singleton.mp hb]; exact hLH
      refine ⟨_, rfl, L, 0, rfl, lf1, by omega, fun kv H3 wd sp g3 l3 w0 w1 p0 p1 d3 => ?_⟩
      refine ⟨_, rfl, _, rfl, L, 2, kv, wd, sp, rfl, l3, by omega, d3, w0, w1, by omega, p1, fun bv H4 lo hi g4 l4 d4 n1 n2 c1 c2 => ?_⟩
      obtain ⟨ba, bvs, rfl, nba, ebx, hbA⟩ := d4.tupI
      obtain ⟨lv, hv, rfl, dlo, dhi⟩ := hbA.two
      obtain ⟨la, rfl, nla, elo⟩ := dlo.col
      obtain ⟨ha, rfl, nha, ehi⟩ := dhi.col
      have d3 := d3.g g4
      obtain ⟨kk, rfl, nk, ek⟩ := d3.col
      have sH4 : Same H H4 := (g3.trans g4).sm s2 nB
      -- things
      refine ⟨_, rfl, _, rfl, L, 2 + 30, .ref ba, lo, hi, rfl, l4, by omega, d4, by omega, by omega, by omega, fun tl H5 ds g5 l5 d5 sh5 n5 => ?_⟩
      obtain ⟨ta, tvs, rfl, nt, et, hT⟩ := d5.lstI
      refine ⟨ta, rfl, ⟨_, SqL.of et⟩, for_list (xs := tvs) (fun j σ H' => ∃ y1 y5 y6 y7 y8 y9 y10, σ = [some (.ref a), y1, some (.ref L), some (.ref kk), some (.ref ba), y5, y6, y7, y8, y9, y10] ∧ Same H5 H')
        ⟨_, _, _, _, _, _, _, rfl, Same.refl _⟩ (fun j σ H' _ h => ?_) (fun j tv σ H16 hx h16 => ?_) (fun σ H6 h6 => ?_)⟩
      · obtain ⟨y1, y5, y6, y7, y8, y9, y10, rfl, s16⟩ := h
        exact SqL.of (s16 _ _ et)
      · obtain ⟨y1, y5, y6, y7, y8, y9, y10, rfl, s16⟩ := h16
        obtain ⟨d, fd2, hd⟩ := hT.getV hx
        have shd := sh5 d (List.mem_of_getElem? fd2)
        refine ⟨1, 6, rfl, ⟨by decide, by decide, by decide, by decide⟩, for_range (lo := 1) (n := 5) (fun j σ H' => ∃ y1 y6 y7 y8 y9 y10, σ = [some (.ref a), y1, some (.ref L), some (.ref kk), some (.ref ba), some tv, y6, y7, y8, y9, y10] ∧ Same H16 H')
          ⟨_, _, _, _, _, _, rfl, Same.refl _⟩ (fun j σ H17 hj h17 => ?_) (fun σ H17 h17 => ?_)⟩
        · obtain ⟨y1, y6, y7, y8, y9, y10, rfl, s17⟩ := h17
          have t17 := s16.trans s17
          refine ⟨_, rfl, _, rfl, [L], tv, d, _, 22, rfl, hd.s t17, shd, by omega, by omega, fun H18 s18 => ?_⟩
          refine ⟨_, rfl, _, rfl, [L], tv, d, _, 22, rfl, (hd.s t17).s s18, shd, by omega, by omega, fun H19 s19 => ?_⟩
          refine ⟨[], _, _, .bool (isBox d (1 + (j : Int))), rfl, .bl _, .bl _, sh_bool _ _, by omega, fun H20 s20 => ?_⟩
          exact ⟨_, rfl, iteF ⟨_, _, _, _, _, _, rfl, ((s17.trans s18).trans s19).trans s20⟩⟩
        · obtain ⟨y1, y6, y7, y8, y9, y10, rfl, s17⟩ := h17
          exact ⟨_, _, _, _, _, _, _, rfl, s16.trans s17⟩
      obtain ⟨y1, y5, y6, y7, y8, y9, y10, rfl, s6⟩ := h6
      have g6 : Go [L] H4 H6 := g5.trans (Go.of s6)
      have l6 := l5.same s6
      have eO : nO 16 = 524284 := by decide
      have d6 := d4.g g6
      have dk6 := d3.g g6
      refine ⟨8, rfl, by decide, by decide, for_range (lo := 0) (n := 8) (fun j σ H' => ∃ y1 y5 y6 y7 y8 y9 y10, σ = [some (.ref a), y1, some (.ref L), some (.ref kk), some (.ref ba), y5, y6, y7, y8, y9, y10] ∧ Go [L] H6 H' ∧ Lf L H' (600000 + 20 * j))
        ⟨_, _, _, _, _, _, _, rfl, Go.refl, l6.mono (by omega)⟩ (fun j σ H7 hj h7 => ?_) (fun σ H7 h7 => ?_)⟩
      · obtain ⟨y1, y5, y6, y7, y8, y9, y10, rfl, g7, l7⟩ := h7
        refine ⟨_, rfl, _, rfl, L, 600000 + 20 * j, .ref ba, lo, hi, rfl, l7, by omega, d6.g g7, by omega, by omega, fun bv8 H8 b8 g8 l8 d8 n8 => ?_⟩
        refine ⟨_, rfl, _, rfl, L, [L], 600000 + 20 * j + 5, .ref kk, wd, sp, rfl, l8, by simp, l8.bk, by omega, (dk6.g g7).g g8, by omega, w1, by omega, p1, fun cv9 H9 b9 g9 l9 d9 n9 r9 => ?_⟩
        refine ⟨(by show 2 ≤ sizeLine; decide), fun p hp => ?_⟩
        refine ⟨_, rfl, L, 5, 600000 + 20 * j + 15, rfl, l9.new hp, by omega, by decide, by decide, fun r10 H10 g10 l10 a10 b10 => ?_⟩
        have e10 : H10 p = some (.lst [bv8, cv9]) := g10.k p _ (l9.bk.ne hp) upd_same
        have gx : Go [L] H9 H10 := (Go.new hp).trans g10
        obtain ⟨cv, c, ecv, dcv, ncv⟩ : ∃ cv c, atI [bv8, cv9] (r10 / 4) = some cv ∧ Dt [L] H10 cv (eC c) ∧ c.length = lo.length := by
          have h4 : r10 / 4 = 0 ∨ r10 / 4 = 1 := by omega
          rcases h4 with h4 | h4 <;> rw [h4]
          · exact ⟨bv8, b8, rfl, (d8.g g9).g gx, n8⟩
          · exact ⟨cv9, b9, rfl, d9.g gx, by omega⟩
        refine ⟨_, _, rfl, rfl, ⟨by decide, by decide⟩, p, _, _, cv, rfl, rfl, SqL.of e10, ecv, ?_⟩
        have g610 : Go [L] H6 H10 := ((g7.trans g8).trans g9).trans gx
        have g410 := g6.trans g610
        obtain ⟨ca, rfl, nca, ec⟩ := dcv.col
        have ek10 := g410.k _ _ nk ek
        have eb10 := g410.k _ _ nba ebx
        have el10 := g410.k _ _ nla elo
        have eh10 := g410.k _ _ nha ehi
        refine ⟨_, rfl, kk, _, 0, .int wd, rfl, rfl, SqT.of ek10, rfl, wd, rfl, by omega, by omega, for_range (lo := 0) (n := wd.toNat) (fun i σ H' => ∃ y1 y5 y6 y7 y10, σ = [some (.ref a), y1, some (.ref L), some (.ref kk), some (.ref ba), y5, y6, y7, some (.ref ca), some (.bl ((List.range i).all (hF lo c hi))), y10] ∧ H' = H10)
          ⟨_, _, _, _, _, rfl, rfl⟩ (fun i σ H' hi' h => ?_) (fun σ H' h => ?_)⟩
        · obtain ⟨y1, y5, y6, y7, y10, rfl, rfl⟩ := h
          have i1 : i < lo.length := by omega
          have i2 : i < c.length := by omega
          have i3 : i < hi.length := by omega
          have tn : ((0 : Int) + (i : Int)).toNat = i := by omega
          have q1 : atI (lo.map V.int) ((0 : Int) + (i : Int)) = some (.int lo[i]) := at0 (by omega) (by rw [tn, List.getElem?_map, List.getElem?_eq_getElem i1]; rfl)
          have q2 : atI (c.map V.int) ((0 : Int) + (i : Int)) = some (.int c[i]) := at0 (by omega) (by rw [tn, List.getElem?_map, List.getElem?_eq_getElem i2]; rfl)
          have q3 : atI (hi.map V.int) ((0 : Int) + (i : Int)) = some (.int hi[i]) := at0 (by omega) (by rw [tn, List.getElem?_map, List.getElem?_eq_getElem i3]; rfl)
          have ef : (List.range (i + 1)).all (hF lo c hi) = ((List.range i).all (hF lo c hi) && (decide (lo[i] ≤ c[i]) && decide (c[i] ≤ hi[i]))) := by
            rw [List.range_succ, List.all_append]
            congr 1
            show (hF lo c hi i && true) = _
            unfold hF
            rw [getD_of i1, getD_of i2, getD_of i3, Bool.and_true]
          refine ⟨_, rfl, _, rfl, ?_⟩
          cases hd0 : (List.range i).all (hF lo c hi) with
          | false =>
            refine iteF ?_
            refine ⟨y1, y5, y6, y7, some (.int ((0 : Int) + (i : Int))), ?_, rfl⟩
            rw [ef, hd0]
            rfl
          | true =>
            refine iteT ?_
            refine ⟨_, rfl, ba, _, 0, .ref la, rfl, rfl, SqT.of eb10, rfl, _, rfl, la, _, _, _, rfl, rfl, SqT.of el10, q1, _, rfl, _, rfl, ca, _, _, _, rfl, rfl, SqT.of ec, q2, _, _, rfl, rfl, _, rfl, ?_⟩
            cases hd1 : decide (lo[i] ≤ c[i]) with
            | false =>
              refine iteF ?_
              refine ⟨y1, y5, y6, y7, some (.int ((0 : Int) + (i : Int))), ?_, rfl⟩
              rw [ef, hd0, hd1]
              rfl
            | true =>
              refine iteT ?_
              refine ⟨_, rfl, _, rfl, ca, _, _, _, rfl, rfl, SqT.of ec, q2, _, rfl, ba, _, 1, .ref ha, rfl, rfl, SqT.of eb10, rfl, _, rfl, ha, _, _, _, rfl, rfl, SqT.of eh10, q3, _, _, rfl, rfl, ?_⟩
              refine ⟨y1, y5, y6, y7, some (.int ((0 : Int) + (i : Int))), ?_, rfl⟩
              rw [ef, hd0, hd1]
              rfl
        obtain ⟨y1, y5, y6, y7, y10, rfl, rfl⟩ := h
        refine ⟨_, rfl, _, rfl, [L], .ref ba, .ref ca, lo, hi, c, rfl, d4.g g410, dcv, by omega, by omega, by omega, fun H11 s11 => ?_⟩
        have eh : (List.range wd.toNat).all (hF lo c hi) = hol lo c hi := by
          unfold hol
          rw [show wd.toNat = c.length by omega]
        rw [eh]
        refine ⟨_, rfl, [], _, _, .bool (hol lo c hi), rfl, .bl _, .bl _, sh_bool _ _, by omega, fun H12 s12 => ?_⟩
        have t12 := s11.trans s12
        exact ⟨_, rfl, iteF ⟨_, _, _, _, _, _, _, rfl, g610.trans (Go.of t12), (l10.same t12).mono (by omega)⟩⟩
      · obtain ⟨y1, y5, y6, y7, y8, y9, y10, rfl, g7, l7⟩ := h7
        exact ⟨_, _, _, _, _, _, _, _, _, _, rfl, (g6.trans g7).sm sH4 nB⟩
    · obtain ⟨y1, y2, y3, y4, y5, y6, y7, y8, y9, y10, rfl, s1⟩ := h1
      exact q _

end
theorem all_mk {l : PySem.W.OpenLaw} {w : World} {K : PySem.W.Frag} {h : Heap} {mg : Str → Option Value} {fa : Addr} (X : K.In h) (G : h.Ns mainGlobals mg) (hfa : mg "law" = some (.ref fa))
    {f0 : Addr} {od0 an0 : Option Addr} {sl0 : Array (Option Value)} {oc0 kV0 dc0 pm0 cd0 ct0 : Value}
    (a0 : PySem.W.nsIn K mainGlobals "is_number" = some (some (.ref f0))) (l0 : K.lookup f0 = some ⟨oc0, od0, .func (PySem.W.fnOf "is_number" "is_number" (defArgs s_is_number) (defBody s_is_number) (defScope s_is_number) .none kV0 dc0 pm0 an0 cd0 ct0), sl0⟩) (c0 : PySem.W.codeIn K cd0 "is_number" = true) (k0 : PySem.W.keepIn K (.ref f0) = true)
    {f1 : Addr} {od1 an1 : Option Addr} {sl1 : Array (Option Value)} {oc1 kV1 dc1 pm1 cd1 ct1 : Value}
    (a1 : PySem.W.nsIn K mainGlobals "is_colour" = some (some (.ref f1))) (l1 : K.lookup f1 = some ⟨oc1, od1, .func (PySem.W.fnOf "is_colour" "is_colour" (defArgs s_is_colour) (defBody s_is_colour) (defScope s_is_colour) .none kV1 dc1 pm1 an1 cd1 ct1), sl1⟩) (c1 : PySem.W.codeIn K cd1 "is_colour" = true) (k1 : PySem.W.keepIn K (.ref f1) = true)
    {f2 : Addr} {od2 an2 : Option Addr} {sl2 : Array (Option Value)} {oc2 kV2 dc2 pm2 cd2 ct2 : Value}
    (a2 : PySem.W.nsIn K mainGlobals "is_box" = some (some (.ref f2))) (l2 : K.lookup f2 = some ⟨oc2, od2, .func (PySem.W.fnOf "is_box" "is_box" (defArgs s_is_box) (defBody s_is_box) (defScope s_is_box) .none kV2 dc2 pm2 an2 cd2 ct2), sl2⟩) (c2 : PySem.W.codeIn K cd2 "is_box" = true) (k2 : PySem.W.keepIn K (.ref f2) = true)
    {f3 : Addr} {od3 an3 : Option Addr} {sl3 : Array (Option Value)} {oc3 kV3 dc3 pm3 cd3 ct3 : Value}
    (a3 : PySem.W.nsIn K mainGlobals "holds" = some (some (.ref f3))) (l3 : K.lookup f3 = some ⟨oc3, od3, .func (PySem.W.fnOf "holds" "holds" (defArgs s_holds) (defBody s_holds) (defScope s_holds) .none kV3 dc3 pm3 an3 cd3 ct3), sl3⟩) (c3 : PySem.W.codeIn K cd3 "holds" = true) (k3 : PySem.W.keepIn K (.ref f3) = true)
    {f4 : Addr} {od4 an4 : Option Addr} {sl4 : Array (Option Value)} {oc4 kV4 dc4 pm4 cd4 ct4 : Value}
    (a4 : PySem.W.nsIn K mainGlobals "_law_mix" = some (some (.ref f4))) (l4 : K.lookup f4 = some ⟨oc4, od4, .func (PySem.W.fnOf "_law_mix" "_law_mix" (defArgs s_l_mix) (defBody s_l_mix) (defScope s_l_mix) .none kV4 dc4 pm4 an4 cd4 ct4), sl4⟩) (c4 : PySem.W.codeIn K cd4 "_law_mix" = true) (k4 : PySem.W.keepIn K (.ref f4) = true)
    {f5 : Addr} {od5 an5 : Option Addr} {sl5 : Array (Option Value)} {oc5 kV5 dc5 pm5 cd5 ct5 : Value}
    (a5 : PySem.W.nsIn K mainGlobals "_law_left" = some (some (.ref f5))) (l5 : K.lookup f5 = some ⟨oc5, od5, .func (PySem.W.fnOf "_law_left" "_law_left" (defArgs s_l_left) (defBody s_l_left) (defScope s_l_left) .none kV5 dc5 pm5 an5 cd5 ct5), sl5⟩) (c5 : PySem.W.codeIn K cd5 "_law_left" = true) (k5 : PySem.W.keepIn K (.ref f5) = true)
    {f6 : Addr} {od6 an6 : Option Addr} {sl6 : Array (Option Value)} {oc6 kV6 dc6 pm6 cd6 ct6 : Value}
    (a6 : PySem.W.nsIn K mainGlobals "_law_pick" = some (some (.ref f6))) (l6 : K.lookup f6 = some ⟨oc6, od6, .func (PySem.W.fnOf "_law_pick" "_law_pick" (defArgs s_l_pick) (defBody s_l_pick) (defScope s_l_pick) .none kV6 dc6 pm6 an6 cd6 ct6), sl6⟩) (c6 : PySem.W.codeIn K cd6 "_law_pick" = true) (k6 : PySem.W.keepIn K (.ref f6) = true)
    {f7 : Addr} {od7 an7 : Option Addr} {sl7 : Array (Option Value)} {oc7 kV7 dc7 pm7 cd7 ct7 : Value}
    (a7 : PySem.W.nsIn K mainGlobals "_law_kind" = some (some (.ref f7))) (l7 : K.lookup f7 = some ⟨oc7, od7, .func (PySem.W.fnOf "_law_kind" "_law_kind" (defArgs s_l_kind) (defBody s_l_kind) (defScope s_l_kind) .none kV7 dc7 pm7 an7 cd7 ct7), sl7⟩) (c7 : PySem.W.codeIn K cd7 "_law_kind" = true) (k7 : PySem.W.keepIn K (.ref f7) = true)
    {f8 : Addr} {od8 an8 : Option Addr} {sl8 : Array (Option Value)} {oc8 kV8 dc8 pm8 cd8 ct8 : Value}
    (a8 : PySem.W.nsIn K mainGlobals "_law_colour" = some (some (.ref f8))) (l8 : K.lookup f8 = some ⟨oc8, od8, .func (PySem.W.fnOf "_law_colour" "_law_colour" (defArgs s_l_colour) (defBody s_l_colour) (defScope s_l_colour) .none kV8 dc8 pm8 an8 cd8 ct8), sl8⟩) (c8 : PySem.W.codeIn K cd8 "_law_colour" = true) (k8 : PySem.W.keepIn K (.ref f8) = true)
    {f9 : Addr} {od9 an9 : Option Addr} {sl9 : Array (Option Value)} {oc9 kV9 dc9 pm9 cd9 ct9 : Value}
    (a9 : PySem.W.nsIn K mainGlobals "_law_same" = some (some (.ref f9))) (l9 : K.lookup f9 = some ⟨oc9, od9, .func (PySem.W.fnOf "_law_same" "_law_same" (defArgs s_l_same) (defBody s_l_same) (defScope s_l_same) .none kV9 dc9 pm9 an9 cd9 ct9), sl9⟩) (c9 : PySem.W.codeIn K cd9 "_law_same" = true) (k9 : PySem.W.keepIn K (.ref f9) = true)
    {f10 : Addr} {od10 an10 : Option Addr} {sl10 : Array (Option Value)} {oc10 kV10 dc10 pm10 cd10 ct10 : Value}
    (a10 : PySem.W.nsIn K mainGlobals "_law_odd" = some (some (.ref f10))) (l10 : K.lookup f10 = some ⟨oc10, od10, .func (PySem.W.fnOf "_law_odd" "_law_odd" (defArgs s_l_odd) (defBody s_l_odd) (defScope s_l_odd) .none kV10 dc10 pm10 an10 cd10 ct10), sl10⟩) (c10 : PySem.W.codeIn K cd10 "_law_odd" = true) (k10 : PySem.W.keepIn K (.ref f10) = true)
    {f11 : Addr} {od11 an11 : Option Addr} {sl11 : Array (Option Value)} {oc11 kV11 dc11 pm11 cd11 ct11 : Value}
    (a11 : PySem.W.nsIn K mainGlobals "_law_is_number" = some (some (.ref f11))) (l11 : K.lookup f11 = some ⟨oc11, od11, .func (PySem.W.fnOf "_law_is_number" "_law_is_number" (defArgs s_l_is_number) (defBody s_l_is_number) (defScope s_l_is_number) .none kV11 dc11 pm11 an11 cd11 ct11), sl11⟩) (c11 : PySem.W.codeIn K cd11 "_law_is_number" = true) (k11 : PySem.W.keepIn K (.ref f11) = true)
    {f12 : Addr} {od12 an12 : Option Addr} {sl12 : Array (Option Value)} {oc12 kV12 dc12 pm12 cd12 ct12 : Value}
    (a12 : PySem.W.nsIn K mainGlobals "_law_is_colour" = some (some (.ref f12))) (l12 : K.lookup f12 = some ⟨oc12, od12, .func (PySem.W.fnOf "_law_is_colour" "_law_is_colour" (defArgs s_l_is_colour) (defBody s_l_is_colour) (defScope s_l_is_colour) .none kV12 dc12 pm12 an12 cd12 ct12), sl12⟩) (c12 : PySem.W.codeIn K cd12 "_law_is_colour" = true) (k12 : PySem.W.keepIn K (.ref f12) = true)
    {f13 : Addr} {od13 an13 : Option Addr} {sl13 : Array (Option Value)} {oc13 kV13 dc13 pm13 cd13 ct13 : Value}
    (a13 : PySem.W.nsIn K mainGlobals "_law_put_at" = some (some (.ref f13))) (l13 : K.lookup f13 = some ⟨oc13, od13, .func (PySem.W.fnOf "_law_put_at" "_law_put_at" (defArgs s_l_put_at) (defBody s_l_put_at) (defScope s_l_put_at) .none kV13 dc13 pm13 an13 cd13 ct13), sl13⟩) (c13 : PySem.W.codeIn K cd13 "_law_put_at" = true) (k13 : PySem.W.keepIn K (.ref f13) = true)
    {f14 : Addr} {od14 an14 : Option Addr} {sl14 : Array (Option Value)} {oc14 kV14 dc14 pm14 cd14 ct14 : Value}
    (a14 : PySem.W.nsIn K mainGlobals "_law_ends" = some (some (.ref f14))) (l14 : K.lookup f14 = some ⟨oc14, od14, .func (PySem.W.fnOf "_law_ends" "_law_ends" (defArgs s_l_ends) (defBody s_l_ends) (defScope s_l_ends) .none kV14 dc14 pm14 an14 cd14 ct14), sl14⟩) (c14 : PySem.W.codeIn K cd14 "_law_ends" = true) (k14 : PySem.W.keepIn K (.ref f14) = true)
    {f15 : Addr} {od15 an15 : Option Addr} {sl15 : Array (Option Value)} {oc15 kV15 dc15 pm15 cd15 ct15 : Value}
    (a15 : PySem.W.nsIn K mainGlobals "_law_is_box" = some (some (.ref f15))) (l15 : K.lookup f15 = some ⟨oc15, od15, .func (PySem.W.fnOf "_law_is_box" "_law_is_box" (defArgs s_l_is_box) (defBody s_l_is_box) (defScope s_l_is_box) .none kV15 dc15 pm15 an15 cd15 ct15), sl15⟩) (c15 : PySem.W.codeIn K cd15 "_law_is_box" = true) (k15 : PySem.W.keepIn K (.ref f15) = true)
    {f16 : Addr} {od16 an16 : Option Addr} {sl16 : Array (Option Value)} {oc16 kV16 dc16 pm16 cd16 ct16 : Value}
    (a16 : PySem.W.nsIn K mainGlobals "_law_things" = some (some (.ref f16))) (l16 : K.lookup f16 = some ⟨oc16, od16, .func (PySem.W.fnOf "_law_things" "_law_things" (defArgs s_l_things) (defBody s_l_things) (defScope s_l_things) .none kV16 dc16 pm16 an16 cd16 ct16), sl16⟩) (c16 : PySem.W.codeIn K cd16 "_law_things" = true) (k16 : PySem.W.keepIn K (.ref f16) = true)
    {f17 : Addr} {od17 an17 : Option Addr} {sl17 : Array (Option Value)} {oc17 kV17 dc17 pm17 cd17 ct17 : Value}
    (a17 : PySem.W.nsIn K mainGlobals "_law_beside" = some (some (.ref f17))) (l17 : K.lookup f17 = some ⟨oc17, od17, .func (PySem.W.fnOf "_law_beside" "_law_beside" (defArgs s_l_beside) (defBody s_l_beside) (defScope s_l_beside) .none kV17 dc17 pm17 an17 cd17 ct17), sl17⟩) (c17 : PySem.W.codeIn K cd17 "_law_beside" = true) (k17 : PySem.W.keepIn K (.ref f17) = true)
    {f18 : Addr} {od18 an18 : Option Addr} {sl18 : Array (Option Value)} {oc18 kV18 dc18 pm18 cd18 ct18 : Value}
    (a18 : PySem.W.nsIn K mainGlobals "law" = some (some (.ref f18))) (l18 : K.lookup f18 = some ⟨oc18, od18, .func (PySem.W.fnOf "law" "law" (defArgs s_law) (defBody s_law) (defScope s_law) .none kV18 dc18 pm18 an18 cd18 ct18), sl18⟩) (c18 : PySem.W.codeIn K cd18 "law" = true) (k18 : PySem.W.keepIn K (.ref f18) = true)
    (z_abs : PySem.W.nsIn K mainGlobals "abs" = some none)
    (z_all : PySem.W.nsIn K mainGlobals "all" = some none)
    (z_bool : PySem.W.nsIn K mainGlobals "bool" = some none)
    (z_int : PySem.W.nsIn K mainGlobals "int" = some none)
    (z_isinstance : PySem.W.nsIn K mainGlobals "isinstance" = some none)
    (z_len : PySem.W.nsIn K mainGlobals "len" = some none)
    (z_list : PySem.W.nsIn K mainGlobals "list" = some none)
    (z_max : PySem.W.nsIn K mainGlobals "max" = some none)
    (z_min : PySem.W.nsIn K mainGlobals "min" = some none)
    (z_range : PySem.W.nsIn K mainGlobals "range" = some none)
    (z_str : PySem.W.nsIn K mainGlobals "str" = some none)
    (z_tuple : PySem.W.nsIn K mainGlobals "tuple" = some none)
    (z_zip : PySem.W.nsIn K mainGlobals "zip" = some none)
    : ∃ fd : FuncData, (∀ (s : Shared) (v : Value), BindsTo s fd ⟨[v], []⟩ [("_law_script", v)]) ∧ ∀ base : Heap, K.In base → base.Ns mainGlobals mg → FnOk l.prog w K mg base CX0 21 fa fd ["_law_script"] (spLaw K) := by
  have e := hfa.symm.trans (PySem.W.mg_of X G a18)
  cases e
  exact ⟨_, fun s v => .of_eq rfl, fun base _ _ => ok_law (k := 0) {
      f_is_number := f0, d_is_number := _, F_is_number := fun_mk (st := s_is_number) l0 c0 k0, b_is_number := (fun_mk (st := s_is_number) l0 c0 k0).binds (ps := ["thing"]) fun _ _ _ _ _ _ us hl => match us, hl with | [_], _ => rfl, g_is_number := PySem.W.mg_of X G a0,
      f_is_colour := f1, d_is_colour := _, F_is_colour := fun_mk (st := s_is_colour) l1 c1 k1, b_is_colour := (fun_mk (st := s_is_colour) l1 c1 k1).binds (ps := ["thing", "wide"]) fun _ _ _ _ _ _ us hl => match us, hl with | [_, _], _ => rfl, g_is_colour := PySem.W.mg_of X G a1,
      f_is_box := f2, d_is_box := _, F_is_box := fun_mk (st := s_is_box) l2 c2 k2, b_is_box := (fun_mk (st := s_is_box) l2 c2 k2).binds (ps := ["thing", "wide"]) fun _ _ _ _ _ _ us hl => match us, hl with | [_, _], _ => rfl, g_is_box := PySem.W.mg_of X G a2,
      f_holds := f3, d_holds := _, F_holds := fun_mk (st := s_holds) l3 c3 k3, b_holds := (fun_mk (st := s_holds) l3 c3 k3).binds (ps := ["box", "colour"]) fun _ _ _ _ _ _ us hl => match us, hl with | [_, _], _ => rfl, g_holds := PySem.W.mg_of X G a3,
      f_l_mix := f4, d_l_mix := _, F_l_mix := fun_mk (st := s_l_mix) l4 c4 k4, b_l_mix := (fun_mk (st := s_l_mix) l4 c4 k4).binds (ps := ["_law_cell", "_law_k"]) fun _ _ _ _ _ _ us hl => match us, hl with | [_, _], _ => rfl, g_l_mix := PySem.W.mg_of X G a4,
      f_l_left := f5, d_l_left := _, F_l_left := fun_mk (st := s_l_left) l5 c5 k5, b_l_left := (fun_mk (st := s_l_left) l5 c5 k5).binds (ps := ["_law_script", "_law_k"]) fun _ _ _ _ _ _ us hl => match us, hl with | [_, _], _ => rfl, g_l_left := PySem.W.mg_of X G a5,
      f_l_pick := f6, d_l_pick := _, F_l_pick := fun_mk (st := s_l_pick) l6 c6 k6, b_l_pick := (fun_mk (st := s_l_pick) l6 c6 k6).binds (ps := ["_law_left_here", "_law_many"]) fun _ _ _ _ _ _ us hl => match us, hl with | [_, _], _ => rfl, g_l_pick := PySem.W.mg_of X G a6,
      f_l_kind := f7, d_l_kind := _, F_l_kind := fun_mk (st := s_l_kind) l7 c7 k7, b_l_kind := (fun_mk (st := s_l_kind) l7 c7 k7).binds (ps := ["_law_left_here"]) fun _ _ _ _ _ _ us hl => match us, hl with | [_], _ => rfl, g_l_kind := PySem.W.mg_of X G a7,
      f_l_colour := f8, d_l_colour := _, F_l_colour := fun_mk (st := s_l_colour) l8 c8 k8, b_l_colour := (fun_mk (st := s_l_colour) l8 c8 k8).binds (ps := ["_law_left_here", "_law_kind_here"]) fun _ _ _ _ _ _ us hl => match us, hl with | [_, _], _ => rfl, g_l_colour := PySem.W.mg_of X G a8,
      f_l_same := f9, d_l_same := _, F_l_same := fun_mk (st := s_l_same) l9 c9 k9, b_l_same := (fun_mk (st := s_l_same) l9 c9 k9).binds (ps := ["_law_found", "_law_due"]) fun _ _ _ _ _ _ us hl => match us, hl with | [_, _], _ => rfl, g_l_same := PySem.W.mg_of X G a9,
      f_l_odd := f10, d_l_odd := _, F_l_odd := fun_mk (st := s_l_odd) l10 c10 k10, b_l_odd := (fun_mk (st := s_l_odd) l10 c10 k10).binds (ps := ["_law_left_here", "_law_deep"]) fun _ _ _ _ _ _ us hl => match us, hl with | [_, _], _ => rfl, g_l_odd := PySem.W.mg_of X G a10,
      f_l_is_number := f11, d_l_is_number := _, F_l_is_number := fun_mk (st := s_l_is_number) l11 c11 k11, b_l_is_number := (fun_mk (st := s_l_is_number) l11 c11 k11).binds (ps := ["_law_thing"]) fun _ _ _ _ _ _ us hl => match us, hl with | [_], _ => rfl, g_l_is_number := PySem.W.mg_of X G a11,
      f_l_is_colour := f12, d_l_is_colour := _, F_l_is_colour := fun_mk (st := s_l_is_colour) l12 c12 k12, b_l_is_colour := (fun_mk (st := s_l_is_colour) l12 c12 k12).binds (ps := ["_law_thing", "_law_wide"]) fun _ _ _ _ _ _ us hl => match us, hl with | [_, _], _ => rfl, g_l_is_colour := PySem.W.mg_of X G a12,
      f_l_put_at := f13, d_l_put_at := _, F_l_put_at := fun_mk (st := s_l_put_at) l13 c13 k13, b_l_put_at := (fun_mk (st := s_l_put_at) l13 c13 k13).binds (ps := ["_law_row", "_law_k", "_law_thing"]) fun _ _ _ _ _ _ us hl => match us, hl with | [_, _, _], _ => rfl, g_l_put_at := PySem.W.mg_of X G a13,
      f_l_ends := f14, d_l_ends := _, F_l_ends := fun_mk (st := s_l_ends) l14 c14 k14, b_l_ends := (fun_mk (st := s_l_ends) l14 c14 k14).binds (ps := ["_law_left_here", "_law_kind_here"]) fun _ _ _ _ _ _ us hl => match us, hl with | [_, _], _ => rfl, g_l_ends := PySem.W.mg_of X G a14,
      f_l_is_box := f15, d_l_is_box := _, F_l_is_box := fun_mk (st := s_l_is_box) l15 c15 k15, b_l_is_box := (fun_mk (st := s_l_is_box) l15 c15 k15).binds (ps := ["_law_thing", "_law_wide"]) fun _ _ _ _ _ _ us hl => match us, hl with | [_, _], _ => rfl, g_l_is_box := PySem.W.mg_of X G a15,
      f_l_things := f16, d_l_things := _, F_l_things := fun_mk (st := s_l_things) l16 c16 k16, b_l_things := (fun_mk (st := s_l_things) l16 c16 k16).binds (ps := ["_law_left_here", "_law_box"]) fun _ _ _ _ _ _ us hl => match us, hl with | [_, _], _ => rfl, g_l_things := PySem.W.mg_of X G a16,
      f_l_beside := f17, d_l_beside := _, F_l_beside := fun_mk (st := s_l_beside) l17 c17 k17, b_l_beside := (fun_mk (st := s_l_beside) l17 c17 k17).binds (ps := ["_law_left_here", "_law_box"]) fun _ _ _ _ _ _ us hl => match us, hl with | [_, _], _ => rfl, g_l_beside := PySem.W.mg_of X G a17,
      z_abs := PySem.W.mg_none_of X G z_abs,
      z_all := PySem.W.mg_none_of X G z_all,
      z_bool := PySem.W.mg_none_of X G z_bool,
      z_int := PySem.W.mg_none_of X G z_int,
      z_isinstance := PySem.W.mg_none_of X G z_isinstance,
      z_len := PySem.W.mg_none_of X G z_len,
      z_list := PySem.W.mg_none_of X G z_list,
      z_max := PySem.W.mg_none_of X G z_max,
      z_min := PySem.W.mg_none_of X G z_min,
      z_range := PySem.W.mg_none_of X G z_range,
      z_str := PySem.W.mg_none_of X G z_str,
      z_tuple := PySem.W.mg_none_of X G z_tuple,
      z_zip := PySem.W.mg_none_of X G z_zip } (fun_mk (st := s_law) l18 c18 k18) (by decide)⟩
end Z
open PySem PySem.W PyProof.Rows
set_option maxHeartbeats 0 in
theorem PySem.Challenge.cw_fewcolours_k02_what_boxes_are_holds : PySem.Challenge.rw_fewcolours_k02_what_boxes_are.Holds := by
  w_on; o_law; k_head; (case hw => w_witness2)
  k_fill
  refine L2.walk_of (l := PySem.Challenge.rw_fewcolours_k02_what_boxes_are) (n := 63) (k := 21) (x := "_law_script") (CX := fun _ => L2.CX0) (sp := fun w => Z.spLaw _) rfl (by decide) rfl ⟨rfl, by decide, by decide⟩ (fun w h Y => PySem.W.kIn_of Y) ?F (fun _ _ a ns hl _ hS => ⟨a, ns, rfl, hS, hl, fun _ => rfl⟩) (fun _ _ _ _ _ h => h)
  case F =>
    intro w mg fa h KX G hmg
    refine' Z.all_mk KX G hmg ?a0 ?l0 ?c0 ?k0 ?a1 ?l1 ?c1 ?k1 ?a2 ?l2 ?c2 ?k2 ?a3 ?l3 ?c3 ?k3 ?a4 ?l4 ?c4 ?k4 ?a5 ?l5 ?c5 ?k5 ?a6 ?l6 ?c6 ?k6 ?a7 ?l7 ?c7 ?k7 ?a8 ?l8 ?c8 ?k8 ?a9 ?l9 ?c9 ?k9 ?a10 ?l10 ?c10 ?k10 ?a11 ?l11 ?c11 ?k11 ?a12 ?l12 ?c12 ?k12 ?a13 ?l13 ?c13 ?k13 ?a14 ?l14 ?c14 ?k14 ?a15 ?l15 ?c15 ?k15 ?a16 ?l16 ?c16 ?k16 ?a17 ?l17 ?c17 ?k17 ?a18 ?l18 ?c18 ?k18 ?z_abs ?z_all ?z_bool ?z_int ?z_isinstance ?z_len ?z_list ?z_max ?z_min ?z_range ?z_str ?z_tuple ?z_zip
    case a0 => k_is
    case l0 => k_is
    case c0 => k_is
    case k0 => k_is
    case a1 => k_is
    case l1 => k_is
    case c1 => k_is
    case k1 => k_is
    case a2 => k_is
    case l2 => k_is
    case c2 => k_is
    case k2 => k_is
    case a3 => k_is
    case l3 => k_is
    case c3 => k_is
    case k3 => k_is
    case a4 => k_is
    case l4 => k_is
    case c4 => k_is
    case k4 => k_is
    case a5 => k_is
    case l5 => k_is
    case c5 => k_is
    case k5 => k_is
    case a6 => k_is
    case l6 => k_is
    case c6 => k_is
    case k6 => k_is
    case a7 => k_is
    case l7 => k_is
    case c7 => k_is
    case k7 => k_is
    case a8 => k_is
    case l8 => k_is
    case c8 => k_is
    case k8 => k_is
    case a9 => k_is
    case l9 => k_is
    case c9 => k_is
    case k9 => k_is
    case a10 => k_is
    case l10 => k_is
    case c10 => k_is
    case k10 => k_is
    case a11 => k_is
    case l11 => k_is
    case c11 => k_is
    case k11 => k_is
    case a12 => k_is
    case l12 => k_is
    case c12 => k_is
    case k12 => k_is
    case a13 => k_is
    case l13 => k_is
    case c13 => k_is
    case k13 => k_is
    case a14 => k_is
    case l14 => k_is
    case c14 => k_is
    case k14 => k_is
    case a15 => k_is
    case l15 => k_is
    case c15 => k_is
    case k15 => k_is
    case a16 => k_is
    case l16 => k_is
    case c16 => k_is
    case k16 => k_is
    case a17 => k_is
    case l17 => k_is
    case c17 => k_is
    case k17 => k_is
    case a18 => k_is
    case l18 => k_is
    case c18 => k_is
    case k18 => k_is
    case z_abs => k_is
    case z_all => k_is
    case z_bool => k_is
    case z_int => k_is
    case z_isinstance => k_is
    case z_len => k_is
    case z_list => k_is
    case z_max => k_is
    case z_min => k_is
    case z_range => k_is
    case z_str => k_is
    case z_tuple => k_is
    case z_zip => k_is

