import PyProof.Rows.All
import Wide.All
import OpenK.AllK
import Wide.FinOn
import HandS.ForMost
import HandS.Zip
import HandS.IsInst
import HandS.TupAny
import HandS.SortRule
import HandS.Style
import HandS.Walk
import HandS.Evl
import KE.DataMinMax
import KE.GoesEnum
import KE.GoesMore
import HandS.Star
import KE.KDictZip
import PySem.Challenge.RW_fewcolours_k03_boxes_of_colours
set_option Elab.async false
set_option linter.all false
set_option maxRecDepth 100000
namespace Z
open PySem PySem.Spec PyProof.Rows L2
/-! ### heaps but for some addresses -/
def Dom (H H' : Hp) : Prop := ∀ a, H a ≠ none → H' a ≠ none
structure Go (B : List Addr) (H H' : Hp) : Prop where
  k : ∀ a o, a ∉ B → H a = some o → H' a = some o
  d : Dom H H'
def Bk (B : List Addr) (H : Hp) : Prop := ∀ a ∈ B, H a ≠ none
section
variable {B C : List Addr} {H H' H1 H2 : Hp} {p L : Addr} {o : HO}
theorem dom_new : Dom H (upd H p o) := fun a h => by
  by_cases e : a = p
  · subst e
    rw [upd_same]
    exact fun z => nomatch z
  · rw [upd_ne e]
    exact h
theorem dom_mut (d : Dom H H') : Dom H (upd H' p o) := fun a h => dom_new a (d a h)
theorem Go.refl : Go B H H := ⟨fun _ _ _ h => h, fun _ h => h⟩
theorem Go.trans (a : Go B H H1) (b : Go B H1 H2) : Go B H H2 := ⟨fun c o n h => b.k c o n (a.k c o n h), fun c h => b.d c (a.d c h)⟩
theorem same_dom (s : Same H H') : Dom H H' := fun a h => by
  cases q : H a with
  | none => exact absurd q h
  | some o => rw [s a o q]; exact fun z => nomatch z
theorem Go.of (s : Same H H') : Go B H H' := ⟨fun a o _ h => s a o h, same_dom s⟩
theorem Go.new (h : H p = none) : Go B H (upd H p o) := ⟨fun a u _ e => by
  rw [upd_ne (ne_of_none e h)]
  exact e, dom_new⟩
theorem Go.mut (g : Go B H H') (h : H p = none) : Go B H (upd H' p o) := ⟨fun a u n e => by
  rw [upd_ne (ne_of_none e h)]
  exact g.k a u n e, dom_mut g.d⟩
theorem Go.at (g : Go B H H') (h : p ∈ B) : Go B H (upd H' p o) := ⟨fun a u n e => by
  rw [upd_ne (show a ≠ p from fun z => n (by rw [z]; exact h))]
  exact g.k a u n e, dom_mut g.d⟩
theorem Go.w (g : Go C H H') (s : ∀ a ∈ C, a ∈ B) : Go B H H' := ⟨fun a o n h => g.k a o (fun q => n (s a q)) h, g.d⟩
theorem Go.w1 (g : Go [L] H H') (s : L ∈ B) : Go B H H' := g.w fun a h => by rw [List.mem_singleton.mp h]; exact s
theorem Go.free (g : Go B H H') (h : H' p = none) : H p = none := by
  cases q : H p with
  | none => rfl
  | some o => exact absurd h (g.d p (by rw [q]; exact fun z => nomatch z))
theorem Bk.go (b : Bk B H) (g : Go C H H') : Bk B H' := fun a h => g.d a (b a h)
theorem Bk.ne (b : Bk B H) (h : H p = none) : p ∉ B := fun q => b p q h
theorem Bk.cons (b : Bk B H) (h : H p = some o) : Bk (p :: B) H := fun a q => by
  rcases List.mem_cons.mp q with e | e
  · subst e
    rw [h]
    exact fun z => nomatch z
  · exact b a e
theorem Bk.up (b : Bk B H) : Bk B (upd H p o) := fun a h => dom_new a (b a h)
theorem sm_new (h : H p = none) : Same H (upd H p o) := fun b x e => by
  rw [upd_ne (ne_of_none e h)]
  exact e
theorem sm_mut (s : Same H H') (h : H p = none) : Same H (upd H' p o) := fun b x e => by
  rw [upd_ne (ne_of_none e h)]
  exact s b x e
/-- what was new behind H, and is in B, may change -/
theorem Go.sm (g : Go B H1 H2) (s : Same H H1) (n : ∀ a ∈ B, H a = none) : Same H H2 := fun a o h => g.k a o (fun q => by rw [n a q] at h; cases h) (s a o h)
theorem Go.cons (g : Go (p :: B) H1 H2) (s : Go B H H1) (h : H p = none) : Go B H H2 := ⟨fun a o n e => g.k a o (fun q => by
  rcases List.mem_cons.mp q with z | z
  · rw [z, h] at e
    cases e
  · exact n z) (s.k a o n e), fun a e => g.d a (s.d a e)⟩
end
/-! ### the list that is drawn from -/
def Lf (L : Addr) (H : Hp) (n : Nat) : Prop := ∃ a b c : Int, H L = some (.lst [.int a, .int b, .int c]) ∧ 0 ≤ a ∧ 0 ≤ c ∧ c ≤ (n : Int)
section
variable {L p : Addr} {H H' : Hp} {n m : Nat} {o : HO} {B : List Addr}
theorem Lf.mono (h : Lf L H n) (l : n ≤ m) : Lf L H m := by
  obtain ⟨a, b, c, e, h1, h2, h3⟩ := h
  exact ⟨a, b, c, e, h1, h2, by omega⟩
theorem Lf.same (h : Lf L H n) (s : Same H H') : Lf L H' n := by
  obtain ⟨a, b, c, e, h1, h2, h3⟩ := h
  exact ⟨a, b, c, s _ _ e, h1, h2, h3⟩
theorem Lf.go (h : Lf L H n) (g : Go B H H') (i : L ∉ B) : Lf L H' n := by
  obtain ⟨a, b, c, e, h1, h2, h3⟩ := h
  exact ⟨a, b, c, g.k _ _ i e, h1, h2, h3⟩
theorem Lf.ne (h : Lf L H n) (e : H p = none) : p ≠ L := fun q => by
  obtain ⟨a, b, c, e', _⟩ := h
  rw [q, e'] at e
  cases e
theorem Lf.up (h : Lf L H n) (e : p ≠ L) : Lf L (upd H p o) n := by
  obtain ⟨a, b, c, e', h1, h2, h3⟩ := h
  refine ⟨a, b, c, ?_, h1, h2, h3⟩
  rw [upd_ne (Ne.symm e)]
  exact e'
theorem Lf.new (h : Lf L H n) (e : H p = none) : Lf L (upd H p o) n := h.up (h.ne e)
theorem Lf.bk (h : Lf L H n) : Bk [L] H := fun a q => by
  obtain ⟨_, _, _, e, _⟩ := h
  rw [List.mem_singleton.mp q, e]
  exact fun z => nomatch z
end
/-! ### data apart from some addresses -/
mutual
inductive Dt (B : List Addr) (H : Hp) : V → PyData → Prop
  | non : Dt B H .non .none
  | bl (b : Bool) : Dt B H (.bl b) (.bool b)
  | int (i : Int) : Dt B H (.int i) (.int i)
  | str (x : Str) : Dt B H (.str x) (.str x)
  | lst {a : Addr} {xs : List V} {ds : List PyData} : a ∉ B → H a = some (.lst xs) → DtA B H xs ds → Dt B H (.ref a) (.list ds)
  | tup {a : Addr} {xs : List V} {ds : List PyData} : a ∉ B → H a = some (.tup xs) → DtA B H xs ds → Dt B H (.ref a) (.tuple ds)
inductive DtA (B : List Addr) (H : Hp) : List V → List PyData → Prop
  | nil : DtA B H [] []
  | cons {v : V} {vs : List V} {d : PyData} {ds : List PyData} : Dt B H v d → DtA B H vs ds → DtA B H (v :: vs) (d :: ds)
end
section
variable {B C : List Addr} {H H' : Hp} {p L : Addr}
mutual
/-- the general way from one to another -/
theorem Dt.to (f : ∀ a o, a ∉ B → H a = some o → a ∉ C ∧ H' a = some o) : ∀ (d : PyData) (v : V), Dt B H v d → Dt C H' v d
  | .none, _, h => by cases h; exact .non
  | .bool b, _, h => by cases h; exact .bl b
  | .int i, _, h => by cases h; exact .int i
  | .str x, _, h => by cases h; exact .str x
  | .list ds, _, h => by
    cases h with
    | lst n hs ha => exact .lst (f _ _ n hs).1 (f _ _ n hs).2 (DtA.to f ds _ ha)
  | .tuple ds, _, h => by
    cases h with
    | tup n hs ha => exact .tup (f _ _ n hs).1 (f _ _ n hs).2 (DtA.to f ds _ ha)
  | .dict _, _, h => by cases h
theorem DtA.to (f : ∀ a o, a ∉ B → H a = some o → a ∉ C ∧ H' a = some o) : ∀ (ds : List PyData) (vs : List V), DtA B H vs ds → DtA C H' vs ds
  | [], _, h => by cases h; exact .nil
  | d :: ds, _, h => by
    cases h with
    | cons h1 h2 => exact .cons (Dt.to f d _ h1) (DtA.to f ds _ h2)
end
mutual
theorem Dt.dp {K : PySem.W.Frag} : ∀ (d : PyData) (v : V), Dt B H v d → Dp K H v d
  | .none, _, h => by cases h; exact .non
  | .bool b, _, h => by cases h; exact .bl b
  | .int i, _, h => by cases h; exact .int i
  | .str x, _, h => by cases h; exact .str x
  | .list ds, _, h => by
    cases h with
    | lst n hs ha => exact .lst (SqL.of hs) (DtA.dp ds _ ha)
  | .tuple ds, _, h => by
    cases h with
    | tup n hs ha => exact .tup (SqT.of hs) (DtA.dp ds _ ha)
  | .dict _, _, h => by cases h
theorem DtA.dp {K : PySem.W.Frag} : ∀ (ds : List PyData) (vs : List V), DtA B H vs ds → DpAll K H vs ds
  | [], _, h => by cases h; exact .nil
  | d :: ds, _, h => by
    cases h with
    | cons h1 h2 => exact .cons (Dt.dp d _ h1) (DtA.dp ds _ h2)
end
variable {d : PyData} {v : V} {ds : List PyData} {vs ws : List V}
theorem Dt.g (h : Dt B H v d) (g : Go B H H') : Dt B H' v d := Dt.to (fun a o n e => ⟨n, g.k a o n e⟩) d v h
theorem DtA.g (h : DtA B H vs ds) (g : Go B H H') : DtA B H' vs ds := DtA.to (fun a o n e => ⟨n, g.k a o n e⟩) ds vs h
theorem Dt.s (h : Dt B H v d) (s : Same H H') : Dt B H' v d := h.g (Go.of s)
theorem DtA.s (h : DtA B H vs ds) (s : Same H H') : DtA B H' vs ds := h.g (Go.of s)
/-- a new address may change, too -/
theorem Dt.fr (h : Dt B H v d) (e : H p = none) : Dt (p :: B) H v d := Dt.to (fun a o n q => ⟨fun z => by
  rcases List.mem_cons.mp z with y | y
  · rw [y, e] at q
    cases q
  · exact n y, q⟩) d v h
theorem DtA.fr (h : DtA B H vs ds) (e : H p = none) : DtA (p :: B) H vs ds := DtA.to (fun a o n q => ⟨fun z => by
  rcases List.mem_cons.mp z with y | y
  · rw [y, e] at q
    cases q
  · exact n y, q⟩) ds vs h
theorem Dt.un (h : Dt (p :: B) H v d) : Dt B H v d := Dt.to (fun a o n q => ⟨fun z => n (List.mem_cons_of_mem _ z), q⟩) d v h
theorem DtA.un (h : DtA (p :: B) H vs ds) : DtA B H vs ds := DtA.to (fun a o n q => ⟨fun z => n (List.mem_cons_of_mem _ z), q⟩) ds vs h
theorem Dt.sub (h : Dt B H v d) (s : ∀ a ∈ C, a ∈ B) : Dt C H v d := Dt.to (fun a o n q => ⟨fun z => n (s a z), q⟩) d v h
theorem DtA.sub (h : DtA B H vs ds) (s : ∀ a ∈ C, a ∈ B) : DtA C H vs ds := DtA.to (fun a o n q => ⟨fun z => n (s a z), q⟩) ds vs h
theorem Dt.dP {K : PySem.W.Frag} (h : Dt B H v d) : Dp K H v d := Dt.dp d v h
theorem DtA.len {vs : List V} : ∀ {ds : List PyData}, DtA B H vs ds → vs.length = ds.length := by
  induction vs with
  | nil => intro ds h; cases h; rfl
  | cons v vs ih => intro ds h; cases h with | cons h1 h2 => rw [List.length_cons, List.length_cons, ih h2]
theorem DtA.get {vs : List V} : ∀ {ds : List PyData} {i : Nat} {d : PyData}, DtA B H vs ds → ds[i]? = some d → ∃ v, vs[i]? = some v ∧ Dt B H v d := by
  induction vs with
  | nil => intro ds i d h e; cases h; simp at e
  | cons v vs ih =>
    intro ds i d h e
    cases h with
    | cons h1 h2 =>
      cases i with
      | zero => cases e; exact ⟨v, rfl, h1⟩
      | succ i => exact ih (i := i) h2 (by simpa using e)
theorem DtA.getV {vs : List V} : ∀ {ds : List PyData} {i : Nat} {v : V}, DtA B H vs ds → vs[i]? = some v → ∃ d, ds[i]? = some d ∧ Dt B H v d := by
  induction vs with
  | nil => intro ds i d h e; simp at e
  | cons v vs ih =>
    intro ds i d h e
    cases h with
    | cons h1 h2 =>
      cases i with
      | zero => cases e; exact ⟨_, rfl, h1⟩
      | succ i => exact ih (i := i) h2 (by simpa using e)
theorem DtA.app {vs ws : List V} : ∀ {ds es : List PyData}, DtA B H vs ds → DtA B H ws es → DtA B H (vs ++ ws) (ds ++ es) := by
  induction vs with
  | nil => intro ds es h h2; cases h; exact h2
  | cons v vs ih =>
    intro ds es h h2
    cases h with
    | cons h1 h3 => exact .cons h1 (ih h3 h2)
theorem DtA.one (h : Dt B H v d) : DtA B H [v] [d] := .cons h .nil
theorem DtA.ints : ∀ ns : List Int, DtA B H (ns.map V.int) (ns.map PyData.int)
  | [] => .nil
  | n :: ns => .cons (.int n) (DtA.ints ns)
theorem DtA.intsV : ∀ {ns : List Int} {vs : List V}, DtA B H vs (ns.map PyData.int) → vs = ns.map V.int
  | [], _, h => by cases h; rfl
  | n :: ns, _, h => by
    cases h with
    | cons h1 h2 =>
      cases h1
      rw [DtA.intsV h2]
      rfl
theorem DtA.blsV : ∀ {ns : List Bool} {vs : List V}, DtA B H vs (ns.map PyData.bool) → vs = ns.map V.bl
  | [], _, h => by cases h; rfl
  | n :: ns, _, h => by
    cases h with
    | cons h1 h2 =>
      cases h1
      rw [DtA.blsV h2]
      rfl
/-- a colour; a list of ints; a palette -/
def eC (ns : List Int) : PyData := .tuple (ns.map .int)
def eI (ns : List Int) : PyData := .list (ns.map .int)
def eP (cs : List (List Int)) : PyData := .list (cs.map eC)
theorem Dt.col {v : V} {ns : List Int} (h : Dt B H v (eC ns)) : ∃ a, v = .ref a ∧ a ∉ B ∧ H a = some (.tup (ns.map V.int)) := by
  cases h with
  | tup n hs ha =>
    have e := DtA.intsV ha
    subst e
    exact ⟨_, rfl, n, hs⟩
theorem Dt.ofCol {a : Addr} {ns : List Int} (n : a ∉ B) (h : H a = some (.tup (ns.map V.int))) : Dt B H (.ref a) (eC ns) := .tup n h (DtA.ints ns)
theorem Dt.ofInts {a : Addr} {ns : List Int} (n : a ∉ B) (h : H a = some (.lst (ns.map V.int))) : Dt B H (.ref a) (eI ns) := .lst n h (DtA.ints ns)
theorem Dt.ints {v : V} {ns : List Int} (h : Dt B H v (eI ns)) : ∃ a, v = .ref a ∧ a ∉ B ∧ H a = some (.lst (ns.map V.int)) := by
  cases h with
  | lst n hs ha =>
    have e := DtA.intsV ha
    subst e
    exact ⟨_, rfl, n, hs⟩
theorem Dt.tupI {v : V} {ds : List PyData} (h : Dt B H v (.tuple ds)) : ∃ a vs, v = .ref a ∧ a ∉ B ∧ H a = some (.tup vs) ∧ DtA B H vs ds := by
  cases h with
  | tup n hs ha => exact ⟨_, _, rfl, n, hs, ha⟩
theorem Dt.lstI {v : V} {ds : List PyData} (h : Dt B H v (.list ds)) : ∃ a vs, v = .ref a ∧ a ∉ B ∧ H a = some (.lst vs) ∧ DtA B H vs ds := by
  cases h with
  | lst n hs ha => exact ⟨_, _, rfl, n, hs, ha⟩
theorem Dt.pal {v : V} {cs : List (List Int)} (h : Dt B H v (eP cs)) : ∃ a vs, v = .ref a ∧ a ∉ B ∧ H a = some (.lst vs) ∧ DtA B H vs (cs.map eC) := Dt.lstI h
theorem Dt.intI {v : V} {i : Int} (h : Dt B H v (.int i)) : v = .int i := by
  cases h
  rfl
end
/-! ### the rules that speak of the written part, with it named -/
def rLenS (K : PySem.W.Frag) : List V → Hp → VK → Prop := fun xs H Q => ∃ p ys, xs = [.ref p] ∧ (SqL K H p ys ∨ SqT K H p ys) ∧ Q (.int ys.length) H
def rListOf (K : PySem.W.Frag) : List V → Hp → VK → Prop := fun xs H Q => ∃ p ys, xs = [.ref p] ∧ (SqL K H p ys ∨ SqT K H p ys) ∧ ∀ l, H l = none → Q (.ref l) (upd H l (.lst ys))
def rTupOf (K : PySem.W.Frag) : List V → Hp → VK → Prop := fun xs H Q => ∃ p ys, xs = [.ref p] ∧ ((SqL K H p ys ∧ ∀ l, H l = none → Q (.ref l) (upd H l (.tup ys))) ∨ (SqT K H p ys ∧ Q (.ref p) H))
section
variable (K : PySem.W.Frag) {X : Cx}
theorem ix_listK (h : X.K = K := by rfl) : IxR X (rIxL K) := h ▸ ix_list
theorem ix_tupK (h : X.K = K := by rfl) : IxR X (rIxT K) := h ▸ ix_tup
theorem sl_listK (h : X.K = K := by rfl) : SlR X (rSlL K) := h ▸ sl_list
theorem sl_tupAK (h : X.K = K := by rfl) : SlR X (rSlA K) := h ▸ sl_tupA
theorem op_catAK (h : X.K = K := by rfl) : OpR X (binaryOp .Add) (rCatA K) := h ▸ op_catA
theorem op_eqDK (hu : X.A.units + 64 < cLine) (h : X.K = K := by rfl) : OpR X (compareOp .Eq) (rEqD K) := h ▸ op_eqD hu
theorem op_neDK (hu : X.A.units + 64 < cLine) (h : X.K = K := by rfl) : OpR X (compareOp .NotEq) (rNeD K) := h ▸ op_neD hu
theorem len_K (h : X.K = K := by rfl) : CallR X (.builtin "len") (rLenS K) := h ▸ call_len_seq
theorem list_K (h : X.K = K := by rfl) : CallR X (.type "list") (rListOf K) := h ▸ call_list_of
theorem tuple_K (h : X.K = K := by rfl) : CallR X (.type "tuple") (rTupOf K) := h ▸ call_tuple_of
theorem cr_sumK (hc : X.calm = true) (h : X.K = K := by rfl) : CallR X (.builtin "sum") (rSum K) := h ▸ cr_sum hc
theorem cr_maxK (hc : X.calm = true) (h : X.K = K := by rfl) : CallR X (.builtin "max") (rMax K) := h ▸ cr_max hc
theorem cr_minK (hc : X.calm = true) (h : X.K = K := by rfl) : CallR X (.builtin "min") (rMin K) := h ▸ cr_min hc
theorem cr_anyK (hc : X.calm = true) (h : X.K = K := by rfl) : CallR X (.builtin "any") (rAny K) := h ▸ cr_any hc
theorem cr_allK (hc : X.calm = true) (h : X.K = K := by rfl) : CallR X (.builtin "all") (rAll K) := h ▸ cr_all hc
theorem call_isiK1 (h : X.K = K := by rfl) : CallR X (.builtin "isinstance") (rIsi K) := h ▸ call_isi
theorem call_isiTK (h : X.K = K := by rfl) : CallR X (.builtin "isinstance") (rIsiT K) := h ▸ call_isiT
theorem cr_sortedK (h : X.K = K := by rfl) : CallR X (.builtin "sorted") (rSortedPO K) := h ▸ cr_sortedPO
theorem mt_indexK (h : X.K = K := by rfl) : MtR X "list.index" (rIndex K) := h ▸ mt_index
theorem pi_listK {tg l : Expr} {tl : TE} (hl : PE X l tl) (h : X.K = K := by rfl) : PI X tg l (iList K tl) := h ▸ pi_list hl
theorem pg_tupK {pos : Pos} {es : List Expr} {kk : Nat} {t : TGs} {n : Nat} (hc : X.calm = true) (h : PGs X es t) (hn : (assignEach es X.env).length = n := by rfl) (hst : (assignEach es X.env).findIdx? (·.1) = none := by rfl) (h2 : X.K = K := by rfl) : PG X (.Tuple es kk pos) (gTup K n t) :=
  h2 ▸ pg_tup hc h hn hst
theorem pi_tupK {tg l : Expr} {tl : TE} (hl : PE X l tl) (h : X.K = K := by rfl) : PI X tg l (iTup K tl) := h ▸ pi_tup hl
end
/-! ### shapes -/
mutual
def wide : PyData → Bool
  | .none | .bool _ | .int _ | .str _ => true
  | .list xs | .tuple xs => decide (xs.length ≤ 100000) && wideAll xs
  | .dict _ => false
def wideAll : List PyData → Bool
  | [] => true
  | x :: xs => wide x && wideAll xs
end
def Sh (d : PyData) (k : Nat) : Prop := d.canLay0 = true ∧ d.depth ≤ k ∧ wide d = true
theorem sh_all : ∀ {ds : List PyData} {k : Nat}, (∀ d ∈ ds, Sh d k) → PyData.canLayAll0 ds = true ∧ PyData.depthAll ds ≤ k ∧ wideAll ds = true
  | [], _, _ => ⟨rfl, Nat.zero_le _, by rw [wideAll]⟩
  | d :: ds, k, h => by
    obtain ⟨h1, h2, h4⟩ := sh_all (ds := ds) (k := k) fun x hx => h x (List.mem_cons_of_mem _ hx)
    have h3 := h d (List.mem_cons_self ..)
    refine ⟨?_, ?_, ?_⟩
    · rw [PyData.canLayAll0, h1, h3.1]; rfl
    · rw [PyData.depthAll]
      exact Nat.max_le.mpr ⟨h3.2.1, h2⟩
    · rw [wideAll, h4, h3.2.2]; rfl
theorem sh_mem : ∀ {ds : List PyData} {k : Nat}, PyData.canLayAll0 ds = true → PyData.depthAll ds ≤ k → wideAll ds = true → ∀ d ∈ ds, Sh d k
  | [], _, _, _, _, _, h => nomatch h
  | d :: ds, k, h1, h2, h3, x, hx => by
    rw [PyData.canLayAll0] at h1
    rw [PyData.depthAll] at h2
    rw [wideAll] at h3
    have a := Bool.and_eq_true_iff.mp h1
    have b := Nat.max_le.mp h2
    have c := Bool.and_eq_true_iff.mp h3
    rcases List.mem_cons.mp hx with e | e
    · rw [e]; exact ⟨a.1, b.1, c.1⟩
    · exact sh_mem a.2 b.2 c.2 x e
theorem sh_tup {ds : List PyData} {k : Nat} (l : ds.length ≤ 100000) (h : ∀ d ∈ ds, Sh d k) : Sh (.tuple ds) (k + 1) := by
  obtain ⟨h1, h2, h3⟩ := sh_all h
  exact ⟨by rw [PyData.canLay0]; exact h1, by rw [PyData.depth]; omega, by rw [wide, h3, decide_eq_true l]; rfl⟩
theorem sh_lst {ds : List PyData} {k : Nat} (l : ds.length ≤ 100000) (h : ∀ d ∈ ds, Sh d k) : Sh (.list ds) (k + 1) := by
  obtain ⟨h1, h2, h3⟩ := sh_all h
  exact ⟨by rw [PyData.canLay0]; exact h1, by rw [PyData.depth]; omega, by rw [wide, h3, decide_eq_true l]; rfl⟩
theorem sh_int (i : Int) (k : Nat) : Sh (.int i) k := ⟨rfl, by rw [PyData.depth]; omega, by rw [wide]⟩
theorem sh_bool (i : Bool) (k : Nat) : Sh (.bool i) k := ⟨rfl, by rw [PyData.depth]; omega, by rw [wide]⟩
theorem sh_none (k : Nat) : Sh .none k := ⟨rfl, by rw [PyData.depth]; omega, by rw [wide]⟩
theorem sh_eC {ns : List Int} (l : ns.length ≤ 100000) : Sh (eC ns) 1 := sh_tup (by simpa using l) fun d hd => by
  obtain ⟨n, _, rfl⟩ := List.mem_map.mp hd
  exact sh_int n 0
theorem sh_eI {ns : List Int} (l : ns.length ≤ 100000) : Sh (eI ns) 1 := sh_lst (by simpa using l) fun d hd => by
  obtain ⟨n, _, rfl⟩ := List.mem_map.mp hd
  exact sh_int n 0
theorem sh_eP {cs : List (List Int)} (l : cs.length ≤ 100000) (h : ∀ c ∈ cs, c.length ≤ 100000) : Sh (eP cs) 2 := sh_lst (by simpa using l) fun d hd => by
  obtain ⟨n, m, rfl⟩ := List.mem_map.mp hd
  exact sh_eC (h n m)
theorem Sh.mono {d : PyData} {j k : Nat} (h : Sh d j) (l : j ≤ k) : Sh d k := ⟨h.1, Nat.le_trans h.2.1 l, h.2.2⟩
theorem Sh.sh {d : PyData} {k : Nat} (h : Sh d k) (l : k ≤ 64) : SeqAt.shaped d = true := by
  unfold SeqAt.shaped
  rw [h.1, decide_eq_true (Nat.le_trans h.2.1 l)]
  rfl
theorem Sh.tupI {ds : List PyData} {k : Nat} (h : Sh (.tuple ds) k) : ∃ j, k = j + 1 ∧ (∀ d ∈ ds, Sh d j) ∧ ds.length ≤ 100000 := by
  obtain ⟨h1, h2, h3⟩ := h
  rw [PyData.canLay0] at h1
  rw [PyData.depth] at h2
  rw [wide] at h3
  have c := Bool.and_eq_true_iff.mp h3
  exact ⟨k - 1, by omega, sh_mem h1 (by omega) c.2, of_decide_eq_true c.1⟩
theorem Sh.lstI {ds : List PyData} {k : Nat} (h : Sh (.list ds) k) : ∃ j, k = j + 1 ∧ (∀ d ∈ ds, Sh d j) ∧ ds.length ≤ 100000 := by
  obtain ⟨h1, h2, h3⟩ := h
  rw [PyData.canLay0] at h1
  rw [PyData.depth] at h2
  rw [wide] at h3
  have c := Bool.and_eq_true_iff.mp h3
  exact ⟨k - 1, by omega, sh_mem h1 (by omega) c.2, of_decide_eq_true c.1⟩
/-! ### isinstance -/
def tyn : PyData → String
  | .none => "NoneType" | .bool _ => "bool" | .int _ => "int" | .str _ => "str" | .list _ => "list" | .tuple _ => "tuple" | .dict _ => "dict"
theorem Dt.ty {K : PySem.W.Frag} {B : List Addr} {H : Hp} {v : V} {d : PyData} (h : Dt B H v d) : TyX K H v (.type (tyn d)) := by
  cases h with
  | non => exact .base .non
  | bl b => exact .base (.bl b)
  | int i => exact .base (.int i)
  | str x => exact .base (.str x)
  | lst n hs ha => exact .base (.lst hs)
  | tup n hs ha => exact .base (.tup hs)
theorem r_isi {K : PySem.W.Frag} {H : Hp} {Q : VK} {x : V} {t n : String} {b : Bool} (h : TyX K H x (.type t)) (e : kitB t n = some b) (q : Q (.bl b) H) : rIsi K [x, .ty n] H Q := ⟨x, .ty n, _, _, b, rfl, .ty n, h, kit_ty e, q⟩
theorem iteD {c A B : Prop} [Decidable c] (hc : c) (h : A) : if decide c = true then A else B := by
  rw [if_pos (decide_eq_true hc)]
  exact h
theorem iteE {A B : Prop} {c : Bool} (hc : c = true) (h : A) : if c = true then A else B := by
  rw [if_pos hc]
  exact h
theorem iteN {A B : Prop} {c : Bool} (hc : c = false) (h : B) : if c = true then A else B := by
  rw [hc, if_neg Bool.false_ne_true]
  exact h
/-! ### comprehensions -/
theorem lc_yes {te : TE} {σ : L2.St} {H : Hp} {Qy : VK} {N : Hp → Prop} (h : te σ H Qy) : tYes σ H (fun b H3 => if b = true then te σ H3 Qy else N H3) := by
  show if true = true then te σ H Qy else N H
  rw [if_pos rfl]
  exact h
theorem walk_zipT {K : PySem.W.Frag} {a b : Addr} {xs ys : List V} {n : Nat} (hn : n = min xs.length ys.length) : Walk (RZ.ItzT K a b) n (fun H => SqT K H a xs ∧ SqT K H b ys) (YPair (fun i => xs[i]?) (fun i => ys[i]?)) := by
  subst hn
  refine ⟨fun i _ hi q => ?_, fun _ q => ⟨xs, ys, q.1, q.2, by omega⟩, fun i H v H' _ q y => ?_⟩
  · have h1 : i < xs.length := by omega
    have h2 : i < ys.length := by omega
    exact ⟨xs, ys, xs[i], ys[i], q.1, q.2, by simp [h1], by simp [h2]⟩
  · obtain ⟨T, x, z, h1, h2, h3, h4, h5⟩ := y
    exact ⟨T, x, z, h1, h2, h3, h4 xs q.1, h5 ys q.2⟩
theorem sz {n : Nat} (h : n ≤ 100000) : n < sizeLine := Nat.lt_of_le_of_lt h (by decide)
/-- a comprehension that leaves all as it was: what it makes, item by item -/
theorem lc_pure {J : It} {n : Nat} {G : Hp → Prop} {Y : Nat → Hp → V → Hp → Prop} (w : Walk J n G Y) {g : TG} {tt : TT} {te : TE} {vs : List Nat} {σ : L2.St} {H1 : Hp} {D : Addr} {Qd : Hp → Prop} {B : List Addr}
    (hD : H1 D = none) (hB : Bk B H1) (hG : ∀ H', Same H1 H' → G H') (hn : n ≤ 100000) (e : Nat → Option PyData)
    (hs : ∀ (i : Nat) (x : V) (H' H'' : Hp) (Ny : V → Hp → Prop) (Nn : Hp → Prop), i < n → Same H1 H' → Bk (D :: B) H' → Y i H' x H'' → (∀ y H4 d, e i = some d → Same H' H4 → Dt (D :: B) H4 y d → Ny y H4) → (∀ H3, e i = none → Same H' H3 → Nn H3) →
      g x (wipe σ vs) H'' fun σ2 H2 => wipe σ2 vs = wipe σ vs ∧ tt σ2 H2 fun b H3 => if b = true then te σ2 H3 Ny else Nn H3)
    (hd : ∀ (H' : Hp) (ws : List V), Same H1 H' → H' D = some (.lst ws) → DtA (D :: B) H' ws ((List.range n).filterMap e) → Qd H') :
    ∃ W : Nat → Nat → Hp → Prop, (∃ m, W 0 m (upd H1 D (.lst []))) ∧ ∀ i m H, W i m H →
      (J.stop i H ∧ Qd H) ∨ (J.go i H ∧ ∃ Nx : Hp → Prop, (∀ H', Nx H' → ∃ m', m' < m ∧ W (i + 1) m' H') ∧ ∀ x H', J.yld i H x H' → g x (wipe σ vs) H' fun σ2 H2 => wipe σ2 vs = wipe σ vs ∧ tt σ2 H2 fun b H3 =>
        if b = true then te σ2 H3 fun y H4 => ∃ acc, H4 D = some (.lst acc) ∧ acc.length < sizeLine ∧ Nx (upd H4 D (.lst (acc ++ [y]))) else Nx H3) := by
  refine lc_it w (fun i H' => Same H1 H' ∧ ∃ ws, H' D = some (.lst ws) ∧ DtA (D :: B) H' ws ((List.range i).filterMap e) ∧ ws.length ≤ i) ⟨sm_new hD, [], upd_same, .nil, Nat.le_refl _⟩ (fun i H' _ h => hG H' h.1) (fun i x H' H'' hi h y => ?_) (fun H' h => ?_)
  · obtain ⟨s1, ws, eD, hA, hl⟩ := h
    have hb : Bk (D :: B) H' := (hB.go (Go.of (B := B) s1)).cons eD
    refine hs i x H' H'' _ _ hi s1 hb y (fun y H4 d ed s4 hy => ?_) (fun H3 ed s3 => ?_)
    · refine ⟨ws, s4 _ _ eD, sz (by omega), sm_mut (s1.trans s4) hD, ws ++ [y], upd_same, ?_, by simp; omega⟩
      rw [List.range_succ, List.filterMap_append]
      have g4 : Go (D :: B) H4 (upd H4 D (.lst (ws ++ [y]))) := Go.refl.at (List.mem_cons_self ..)
      refine DtA.app ((hA.s s4).g g4) ?_
      simp only [List.filterMap_cons, List.filterMap_nil, ed]
      exact .one (hy.g g4)
    · refine ⟨s1.trans s3, ws, s3 _ _ eD, ?_, by omega⟩
      rw [List.range_succ, List.filterMap_append]
      simp only [List.filterMap_cons, List.filterMap_nil, ed, List.append_nil]
      exact hA.s s3
  · obtain ⟨s1, ws, eD, hA, hl⟩ := h
    exact hd H' ws s1 eD hA
theorem fm_take {α : Type} (ys : List α) : ∀ n, (List.range n).filterMap (fun i => ys[i]?) = ys.take n
  | 0 => by simp
  | n + 1 => by
    rw [List.range_succ, List.filterMap_append, fm_take ys n, List.take_add_one]
    cases h : ys[n]? <;> simp [h]
theorem fm_all {α : Type} {ys : List α} {n : Nat} (h : ys.length = n) : (List.range n).filterMap (fun i => ys[i]?) = ys := by
  rw [fm_take, ← h, List.take_length]
theorem at0 {α : Type} {xs : List α} {i : Int} {v : α} (h : 0 ≤ i) (e : xs[i.toNat]? = some v) : atI xs i = some v := by
  have := atI_nat e
  rw [Int.toNat_of_nonneg h] at this
  exact this
theorem bit_ok (b : Bool) : (-(2 ^ 64) : Int) < (if b = true then 1 else 0) ∧ (if b = true then 1 else 0 : Int) < 2 ^ 64 := by cases b <;> decide
theorem md {j : Int} (h : 0 < j) : 0 < j := h
theorem at_in {xs : List V} {r : Int} (h0 : 0 ≤ r) (h1 : r < xs.length) : ∃ v, v ∈ xs ∧ atI xs r = some v := by
  have h : r.toNat < xs.length := by omega
  exact ⟨xs[r.toNat], List.getElem_mem h, at0 h0 (List.getElem?_eq_getElem h)⟩
theorem at_int {ns : List Int} {r : Int} (h0 : 0 ≤ r) (h1 : r < ns.length) : ∃ z, z ∈ ns ∧ atI (ns.map V.int) r = some (.int z) := by
  have h : r.toNat < ns.length := by omega
  exact ⟨ns[r.toNat], List.getElem_mem h, at0 h0 (by rw [List.getElem?_map, List.getElem?_eq_getElem h]; rfl)⟩
theorem at2 (x y : V) (b : Bool) : atI [x, y] (if b = true then 1 else 0) = some (if b = true then y else x) := by cases b <;> rfl
/-- numbers within bounds -/
def cIn (lo hi : Int) (ns : List Int) : Prop := ∀ x ∈ ns, lo ≤ x ∧ x ≤ hi
theorem cIn.app {lo hi x : Int} {ns : List Int} (h : cIn lo hi ns) (h1 : lo ≤ x) (h2 : x ≤ hi) : cIn lo hi (ns ++ [x]) := fun y hy => by
  rcases List.mem_append.mp hy with q | q
  · exact h y q
  · rw [List.mem_singleton.mp q]
    exact ⟨h1, h2⟩
theorem cIn.nil {lo hi : Int} : cIn lo hi [] := fun _ h => nomatch h
theorem cIn.mono {lo hi lo' hi' : Int} {ns : List Int} (h : cIn lo hi ns) (h1 : lo' ≤ lo) (h2 : hi ≤ hi') : cIn lo' hi' ns := fun x hx => by
  have := h x hx
  omega
/-- a comprehension of drawn numbers -/
theorem lc_ints {J : It} {n : Nat} {G : Hp → Prop} {Y : Nat → Hp → V → Hp → Prop} (w : Walk J n G Y) {g : TG} {tt : TT} {te : TE} {vs : List Nat} {σ : L2.St} {H1 : Hp} {D L : Addr} {Qd : Hp → Prop} (N u : Nat) (lo hi : Int)
    (hD : H1 D = none) (hL : Lf L H1 N) (hG : ∀ H', Go [L] H1 H' → G H') (hn : n ≤ 100000)
    (hs : ∀ (i : Nat) (x : V) (H' H'' : Hp) (Ny : V → Hp → Prop) (Nn : Hp → Prop), i < n → Go [L] H1 H' → Lf L H' (N + u * i) → Y i H' x H'' → (∀ (z : Int) H4, Go [L] H' H4 → Lf L H4 (N + u * i + u) → lo ≤ z → z ≤ hi → Ny (.int z) H4) →
      g x (wipe σ vs) H'' fun σ2 H2 => wipe σ2 vs = wipe σ vs ∧ tt σ2 H2 fun b H3 => if b = true then te σ2 H3 Ny else Nn H3)
    (hd : ∀ (H' : Hp) (ns : List Int), Go [L] H1 H' → Lf L H' (N + u * n) → H' D = some (.lst (ns.map V.int)) → ns.length = n → cIn lo hi ns → Qd H') :
    ∃ W : Nat → Nat → Hp → Prop, (∃ m, W 0 m (upd H1 D (.lst []))) ∧ ∀ i m H, W i m H →
      (J.stop i H ∧ Qd H) ∨ (J.go i H ∧ ∃ Nx : Hp → Prop, (∀ H', Nx H' → ∃ m', m' < m ∧ W (i + 1) m' H') ∧ ∀ x H', J.yld i H x H' → g x (wipe σ vs) H' fun σ2 H2 => wipe σ2 vs = wipe σ vs ∧ tt σ2 H2 fun b H3 =>
        if b = true then te σ2 H3 fun y H4 => ∃ acc, H4 D = some (.lst acc) ∧ acc.length < sizeLine ∧ Nx (upd H4 D (.lst (acc ++ [y]))) else Nx H3) := by
  have nD : D ∉ [L] := hL.bk.ne hD
  refine lc_it w (fun i H' => Go [L] H1 H' ∧ Lf L H' (N + u * i) ∧ ∃ ns : List Int, H' D = some (.lst (ns.map V.int)) ∧ ns.length = i ∧ cIn lo hi ns) ⟨Go.new hD, hL.new hD, [], upd_same, rfl, cIn.nil⟩ (fun i H' _ h => hG H' h.1) (fun i x H' H'' hi h y => ?_) (fun H' h => ?_)
  · obtain ⟨g1, l1, ns, eD, en, cn⟩ := h
    refine hs i x H' H'' _ _ hi g1 l1 y (fun z H4 g4 l4 z0 z1 => ?_)
    refine ⟨ns.map V.int, g4.k D _ nD eD, sz (by rw [List.length_map]; omega), (g1.trans g4).mut hD, (l4.up (hL.ne hD)).mono (by rw [Nat.mul_succ]; omega), ns ++ [z], ?_, by simp; omega, cn.app z0 z1⟩
    rw [upd_same, List.map_append]
    rfl
  · obtain ⟨g1, l1, ns, eD, en, cn⟩ := h
    exact hd H' ns g1 l1 eD en cn
theorem mat {a : List Int} {i : Nat} {x : V} (h : i < a.length) (e : (a.map V.int)[i]? = some x) : x = .int a[i] := by
  rw [List.getElem?_map, List.getElem?_eq_getElem h] at e
  exact (Option.some.inj e).symm
end Z

set_option Elab.async false
set_option linter.all false
set_option maxRecDepth 100000
namespace Z
open PySem PySem.Spec PyProof.Rows L2
open PySem.W (dataLt minD alike alikeAll dataLt_tuple dataLt_all_yes dataLt_all_no dataLt_int min_list_data readsAll_at reads_keeps AlikeAll)
/-! ### the least of pairs -/
def enc (p : Int × Int) : PyData := eC [p.1, p.2]
theorem enc_inj {p q : Int × Int} (h : enc p = enc q) : p = q := by
  have h1 : [PyData.int p.1, PyData.int p.2] = [PyData.int q.1, PyData.int q.2] := by
    unfold enc eC at h
    exact PyData.tuple.inj h
  have h2 := (List.cons.inj h1)
  have h3 := (List.cons.inj h2.2)
  exact Prod.ext (PyData.int.inj h2.1) (PyData.int.inj h3.1)
theorem lt_enc (p q : Int × Int) : dataLt (enc p) (enc q) = SrtO.lexB p q := by
  unfold enc eC
  rw [dataLt_tuple]
  simp only [List.map_cons, List.map_nil]
  unfold SrtO.lexB
  by_cases h : p.1 = q.1
  · rw [if_pos h, dataLt_all_yes (by rfl) (by simp [PyData.eqv, h])]
    by_cases h2 : p.2 = q.2
    · rw [dataLt_all_yes (by rfl) (by simp [PyData.eqv, h2]), decide_eq_false (by omega)]
      rfl
    · rw [dataLt_all_no (by rfl) (by simp [PyData.eqv, h2]), dataLt_int]
  · rw [if_neg h, dataLt_all_no (by rfl) (by simp [PyData.eqv, h]), dataLt_int]
def minP (p : Int × Int) (ps : List (Int × Int)) : Int × Int := ps.foldl (fun a y => if SrtO.lexB y a then y else a) p
theorem minD_enc (p : Int × Int) (ps : List (Int × Int)) : minD (enc p) (ps.map enc) = enc (minP p ps) := by
  unfold minD minP
  induction ps generalizing p with
  | nil => rfl
  | cons x r ih =>
    rw [List.map_cons, List.foldl_cons, List.foldl_cons, lt_enc]
    by_cases h : SrtO.lexB x p = true
    · rw [if_pos h, if_pos h]; exact ih x
    · rw [if_neg h, if_neg h]; exact ih p
theorem minP_le (p : Int × Int) (ps : List (Int × Int)) : ∀ q ∈ p :: ps, SrtO.lexB q (minP p ps) = false := by
  unfold minP
  induction ps generalizing p with
  | nil =>
    intro q hq
    rw [List.mem_singleton.mp hq]
    exact SrtO.lexB_no.mpr (by simp only [List.foldl_nil]; omega)
  | cons x r ih =>
    intro q hq
    rw [List.foldl_cons]
    by_cases h : SrtO.lexB x p = true
    · rw [if_pos h]
      rcases List.mem_cons.mp hq with e | e
      · have i1 := SrtO.lexB_no.mp (ih x x (List.mem_cons_self ..))
        have i2 := SrtO.lexB_iff.mp h
        rw [e]
        exact SrtO.lexB_no.mpr (by omega)
      · exact ih x q e
    · rw [if_neg h]
      rcases List.mem_cons.mp hq with e | e
      · exact ih p q (by rw [e]; exact List.mem_cons_self ..)
      · rcases List.mem_cons.mp e with e | e
        · have i1 := SrtO.lexB_no.mp (ih p p (List.mem_cons_self ..))
          have i2 := SrtO.lexB_no.mp (Bool.eq_false_iff.mpr h)
          rw [e]
          exact SrtO.lexB_no.mpr (by omega)
        · exact ih p q (List.mem_cons_of_mem _ e)
theorem alike_enc (p q : Int × Int) : alike (enc p) (enc q) = true := by
  unfold enc eC
  simp [alike, alikeAll]
theorem dep_enc : ∀ ps : List (Int × Int), PyData.depthAll (ps.map enc) ≤ 1
  | [] => Nat.zero_le _
  | p :: ps => by
    rw [List.map_cons, PyData.depthAll]
    exact Nat.max_le.mpr ⟨(sh_eC (ns := [p.1, p.2]) (by simp)).2.1, dep_enc ps⟩
/-- min(xs), xs a list of pairs of ints: one of the least -/
def rMinP (K : PySem.W.Frag) : List V → Hp → VK → Prop := fun vs H Q => ∃ (a : Addr) (xs : List V) (p : Int × Int) (ps : List (Int × Int)), vs = [V.ref a] ∧ SqL K H a xs ∧ DpAll K H xs ((p :: ps).map enc) ∧
  ∀ (i : Nat) (x : V), xs[i]? = some x → (p :: ps)[i]? = some (minP p ps) → Q x H
theorem cr_minP (K : PySem.W.Frag) {X : Cx} (hc : X.calm = true) (hu : X.A.units + 64 < cLine) (hK : X.K = K := by rfl) : CallR X (.builtin "min") (rMinP K) := by
  subst hK
  intro pins s σ H vs us Q I r h
  obtain ⟨a, xs, p, ps, rfl, hs, hd, q⟩ := h
  obtain ⟨its, rv, hl, hz⟩ := I.list hs
  obtain ⟨u, rfl, ru⟩ := vals1 r
  obtain rfl : u = Value.ref a := ru
  obtain ⟨as, hr⟩ := Dp.readsAll I _ xs its hd rv
  rw [List.map_cons] at hr
  have hdep := dep_enc (p :: ps)
  rw [List.map_cons] at hdep
  refine min_list_data (x := enc p) (xs := ps.map enc) (I.ok.hd hc) hl.isList (by simpa using hr) ⟨fun x hx y hy => ?_, fun x hx => ?_⟩ (by omega) fun i v h' tk bs hv rd hk => ?_
  · rw [← List.map_cons] at hx hy
    obtain ⟨x, _, rfl⟩ := List.mem_map.mp hx
    obtain ⟨y, _, rfl⟩ := List.mem_map.mp hy
    exact alike_enc x y
  · rw [← List.map_cons] at hx
    obtain ⟨x, _, rfl⟩ := List.mem_map.mp hx
    intro z
    unfold enc eC at z
    cases z
  · have hv2 : its[i]? = some v := by simpa using hv
    have hi : i < its.length := (List.getElem?_eq_some_iff.mp hv2).1
    have hi2 : i < xs.length := by rw [rv.length]; exact hi
    obtain ⟨w, hw, rw1⟩ := rv.get (List.getElem?_eq_getElem hi2)
    have ew : w = v := Option.some.inj (hw.symm.trans hv2)
    subst ew
    obtain ⟨cs, r1, l1, m1, _⟩ := readsAll_at hr i w hv2
    rw [← List.map_cons] at l1 m1 r1
    rw [List.length_map] at l1
    have eg : ((p :: ps).map enc).getD i .none = enc (p :: ps)[i] := by
      rw [List.getD_eq_getElem?_getD, List.getElem?_map, List.getElem?_eq_getElem l1]
      rfl
    rw [eg] at r1
    rw [minD_enc] at rd
    have ee := SeqAt.Reads.unique _ _ _ _ _ (sh_eC (ns := [((p :: ps)[i]).1, ((p :: ps)[i]).2]) (by simp)).1 (reads_keeps hk r1) rd
    have ep : (p :: ps)[i] = minP p ps := enc_inj ee
    exact ⟨xs[i], H, I.kept (t' := tk) hk, rw1, q i _ (List.getElem?_eq_getElem hi2) (by rw [List.getElem?_eq_getElem l1, ep])⟩
theorem DtA.rev {B : List Addr} {H : Hp} : ∀ {vs : List V} {ds : List PyData}, DtA B H vs ds → DtA B H vs.reverse ds.reverse
  | [], _, h => by
    cases h
    exact .nil
  | v :: vs, _, h => by
    cases h with
    | cons h1 h2 =>
      rw [List.reverse_cons, List.reverse_cons]
      exact (DtA.rev h2).app (.one h1)
theorem DtA.dP {K : PySem.W.Frag} {B : List Addr} {H : Hp} {vs : List V} {ds : List PyData} (h : DtA B H vs ds) : DpAll K H vs ds := DtA.dp ds vs h
/-- a comprehension of drawn data -/
theorem lc_dtsB {J : It} {n : Nat} {G : Hp → Prop} {Y : Nat → Hp → V → Hp → Prop} (w : Walk J n G Y) {g : TG} {tt : TT} {te : TE} {vs : List Nat} {σ : L2.St} {H1 : Hp} {D L : Addr} {B : List Addr} {Qd : Hp → Prop} (N u : Nat) (Pd : PyData → Prop)
    (hD : H1 D = none) (hL : Lf L H1 N) (LB : L ∈ B) (hB : Bk B H1) (hG : ∀ H', Go [L] H1 H' → G H') (hn : n ≤ 100000)
    (hs : ∀ (i : Nat) (x : V) (H' H'' : Hp) (Ny : V → Hp → Prop) (Nn : Hp → Prop), i < n → Go [L] H1 H' → Lf L H' (N + u * i) → Bk (D :: B) H' → Y i H' x H'' → (∀ (v : V) (d : PyData) H4, Go [L] H' H4 → Lf L H4 (N + u * i + u) → Dt (D :: B) H4 v d → Pd d → Ny v H4) →
      g x (wipe σ vs) H'' fun σ2 H2 => wipe σ2 vs = wipe σ vs ∧ tt σ2 H2 fun b H3 => if b = true then te σ2 H3 Ny else Nn H3)
    (hd : ∀ (H' : Hp) (ws : List V) (ds : List PyData), Go [L] H1 H' → Lf L H' (N + u * n) → H' D = some (.lst ws) → DtA (D :: B) H' ws ds → ds.length = n → (∀ d ∈ ds, Pd d) → Qd H') :
    ∃ W : Nat → Nat → Hp → Prop, (∃ m, W 0 m (upd H1 D (.lst []))) ∧ ∀ i m H, W i m H →
      (J.stop i H ∧ Qd H) ∨ (J.go i H ∧ ∃ Nx : Hp → Prop, (∀ H', Nx H' → ∃ m', m' < m ∧ W (i + 1) m' H') ∧ ∀ x H', J.yld i H x H' → g x (wipe σ vs) H' fun σ2 H2 => wipe σ2 vs = wipe σ vs ∧ tt σ2 H2 fun b H3 =>
        if b = true then te σ2 H3 fun y H4 => ∃ acc, H4 D = some (.lst acc) ∧ acc.length < sizeLine ∧ Nx (upd H4 D (.lst (acc ++ [y]))) else Nx H3) := by
  have nD : D ∉ [L] := hL.bk.ne hD
  refine lc_it w (fun i H' => Go [L] H1 H' ∧ Lf L H' (N + u * i) ∧ ∃ ws ds, H' D = some (.lst ws) ∧ DtA (D :: B) H' ws ds ∧ ds.length = i ∧ ∀ d ∈ ds, Pd d) ⟨Go.new hD, hL.new hD, [], [], upd_same, .nil, rfl, fun _ h => (nomatch h)⟩ (fun i H' _ h => hG H' h.1) (fun i x H' H'' hi h y => ?_) (fun H' h => ?_)
  · obtain ⟨g1, l1, ws, ds, eD, hA, en, hp⟩ := h
    refine hs i x H' H'' _ _ hi g1 l1 ((hB.go g1).cons eD) y (fun z d H4 g4 l4 dz pd => ?_)
    have gm : Go (D :: B) H4 (upd H4 D (.lst (ws ++ [z]))) := Go.refl.at (List.mem_cons_self ..)
    have lw := hA.len
    refine ⟨ws, g4.k D _ nD eD, sz (by omega), (g1.trans g4).mut hD, (l4.up (hL.ne hD)).mono (by rw [Nat.mul_succ]; omega), ws ++ [z], ds ++ [d], upd_same, ((hA.g (g4.w1 (List.mem_cons_of_mem _ LB))).g gm).app (.one (dz.g gm)), by simp; omega, fun e he => ?_⟩
    rcases List.mem_append.mp he with he | he
    · exact hp e he
    · rw [List.mem_singleton.mp he]
      exact pd
  · obtain ⟨g1, l1, ws, ds, eD, hA, en, hp⟩ := h
    exact hd H' ws ds g1 l1 eD hA en hp
/-- a part of a list -/
def cutL {α : Type} (xs : List α) (lo hi : Option Int) : List α := (xs.drop (HT.sIx xs.length 0 lo)).take (HT.sIx xs.length xs.length hi - HT.sIx xs.length 0 lo)
theorem cutL_sub {α : Type} {xs : List α} {lo hi : Option Int} {x : α} (h : x ∈ cutL xs lo hi) : x ∈ xs := List.mem_of_mem_drop (List.mem_of_mem_take h)
theorem cutL_len {α : Type} (xs : List α) (lo hi : Option Int) : (cutL xs lo hi).length ≤ xs.length := by
  unfold cutL
  rw [List.length_take, List.length_drop]
  omega
theorem DtA.drop {B : List Addr} {H : Hp} : ∀ (n : Nat) {vs : List V} {ds : List PyData}, DtA B H vs ds → DtA B H (vs.drop n) (ds.drop n)
  | 0, _, _, h => h
  | n + 1, [], _, h => by cases h; exact .nil
  | n + 1, v :: vs, _, h => by
    cases h with
    | cons h1 h2 => exact DtA.drop n h2
theorem DtA.take {B : List Addr} {H : Hp} : ∀ (n : Nat) {vs : List V} {ds : List PyData}, DtA B H vs ds → DtA B H (vs.take n) (ds.take n)
  | 0, _, _, h => .nil
  | n + 1, [], _, h => by cases h; exact .nil
  | n + 1, v :: vs, _, h => by
    cases h with
    | cons h1 h2 => exact .cons h1 (DtA.take n h2)
theorem DtA.cut {B : List Addr} {H : Hp} {vs : List V} {ds : List PyData} (h : DtA B H vs ds) (lo hi : Option Int) : DtA B H (cutV vs lo hi) (cutL ds lo hi) := by
  unfold cutV cutL
  rw [h.len]
  exact DtA.take _ (DtA.drop _ h)
theorem slice_dt {K : PySem.W.Frag} {B : List Addr} {H : Hp} {x : V} {ds : List PyData} {lo hi : Option Int} {Q : VK} (hx : Dt B H x (.tuple ds)) (hB : Bk B H) (q : ∀ v H', Same H H' → Dt B H' v (.tuple (cutL ds lo hi)) → Q v H') : rSlA K x lo hi H Q := by
  obtain ⟨a, vs, rfl, na, ha, hA⟩ := hx.tupI
  refine ⟨a, vs, rfl, SqT.of ha, fun h => q _ H (Same.refl _) ?_, fun _ p hp => q _ _ (sm_new hp) (.tup (hB.ne hp) upd_same ((hA.cut lo hi).s (sm_new hp)))⟩
  have e : cutL ds lo hi = ds := by
    unfold cutL
    rw [← hA.len, h.1, h.2, List.drop_zero, Nat.sub_zero, hA.len, List.take_length]
  rw [e]
  exact hx
theorem cat_dt {K : PySem.W.Frag} {B : List Addr} {H : Hp} {x y : V} {xs ys : List PyData} {Q : VK} (hx : Dt B H x (.tuple xs)) (hy : Dt B H y (.tuple ys)) (hB : Bk B H) (l : xs.length + ys.length ≤ 100000) (q : ∀ v H', Same H H' → Dt B H' v (.tuple (xs ++ ys)) → Q v H') : rCatA K x y H Q := by
  obtain ⟨a, vs, rfl, na, ha, hA⟩ := hx.tupI
  obtain ⟨b, ws, rfl, nb, hb, hC⟩ := hy.tupI
  have l1 := hA.len
  have l2 := hC.len
  refine ⟨a, b, vs, ws, rfl, rfl, SqT.of ha, SqT.of hb, Nat.le_of_lt (sz (by omega)), fun e => ?_, fun _ e => ?_, fun _ _ p hp => q _ _ (sm_new hp) (.tup (hB.ne hp) upd_same ((hA.app hC).s (sm_new hp)))⟩
  · subst e
    have : xs = [] := List.eq_nil_of_length_eq_zero (by rw [← l1]; rfl)
    subst this
    exact q _ H (Same.refl _) hy
  · subst e
    have : ys = [] := List.eq_nil_of_length_eq_zero (by rw [← l2]; rfl)
    subst this
    exact q _ H (Same.refl _) (by rw [List.append_nil]; exact hx)
theorem sh_cut {ds : List PyData} {k : Nat} {lo hi : Option Int} (h : Sh (.tuple ds) k) : Sh (.tuple (cutL ds lo hi)) k := by
  obtain ⟨j, rfl, h1, h2⟩ := h.tupI
  exact sh_tup (Nat.le_trans (cutL_len _ _ _) h2) fun d hd => h1 d (cutL_sub hd)
theorem sh_cat {xs ys : List PyData} {k : Nat} (h1 : Sh (.tuple xs) k) (h2 : Sh (.tuple ys) k) (l : xs.length + ys.length ≤ 100000) : Sh (.tuple (xs ++ ys)) k := by
  obtain ⟨j, rfl, a1, a2⟩ := h1.tupI
  obtain ⟨j', e, b1, b2⟩ := h2.tupI
  have : j = j' := by omega
  subst this
  exact sh_tup (by simpa using l) fun d hd => by
    rcases List.mem_append.mp hd with h | h
    · exact a1 d h
    · exact b1 d h
end Z

set_option Elab.async false
set_option linter.all false
set_option maxRecDepth 100000
namespace Z
open PySem PySem.Spec PyProof.Rows L2
/-! ### zip of three tuples -/
def It3 (K : PySem.W.Frag) (a b c : Addr) : It where
  go := fun i H => ∃ (xs ys ts : List V) (x y t : V), (SqT K H a xs ∧ SqT K H b ys ∧ SqT K H c ts) ∧ xs[i]? = some x ∧ ys[i]? = some y ∧ ts[i]? = some t
  yld := fun i H v H' => ∃ (T : Addr) (x y t : V), v = .ref T ∧ H T = none ∧ H' = upd H T (.tup [x, y, t]) ∧ (∀ l, SqT K H a l → l[i]? = some x) ∧ (∀ l, SqT K H b l → l[i]? = some y) ∧ ∀ l, SqT K H c l → l[i]? = some t
  stop := fun i H => ∃ xs ys ts : List V, (SqT K H a xs ∧ SqT K H b ys ∧ SqT K H c ts) ∧ i ≤ xs.length ∧ i ≤ ys.length ∧ i ≤ ts.length ∧ (i = xs.length ∨ i = ys.length ∨ i = ts.length)
def own3 (z TI TO i1 i2 i3 : Addr) : List Addr := [z, TI, TO, i1, i2, i3]
def at3 (a b c z TI TO i1 i2 i3 : Addr) (i : Nat) (h : Heap) : Prop :=
  IsZip h z TI TO .none ∧ IsTupOf3 h TI (.ref i1) (.ref i2) (.ref i3) ∧ (∃ x y t, IsTupOf3 h TO x y t) ∧ h.IsTupleIter i1 a i ∧ h.IsTupleIter i2 b i ∧ h.IsTupleIter i3 c i
theorem six {z TI TO i1 i2 i3 q : Addr} (h : q ∈ own3 z TI TO i1 i2 i3) : q = z ∨ q = TI ∨ q = TO ∨ q = i1 ∨ q = i2 ∨ q = i3 := by
  simpa [own3] using h
theorem ne_it {h : Heap} {t it l : Addr} {items : Array Value} {i : Nat} (p : h.IsTuple t items) (q : h.IsTupleIter it l i) : t ≠ it := fun e => by
  obtain ⟨o, ho, hcl, _⟩ := p
  obtain ⟨o', ho', hcl', _⟩ := q
  rw [e, ho'] at ho
  have eo := Option.some.inj ho
  rw [eo, hcl] at hcl'
  exact absurd (Value.type.inj hcl') (by decide)
set_option maxHeartbeats 1000000 in
theorem turn3 {P : Program} {w : World} {K : PySem.W.Frag} {elts : List Expr} {kk : Nat} {tpos : Pos} {a b c z TI TO i1 i2 i3 : Addr} (D : ZipSep3 z TI TO i1 i2 i3 [i1, a] [i2, b] [i3, c]) :
    Turn P w K (.Tuple elts kk tpos) (It3 K a b c) (own3 z TI TO i1 i2 i3) z (at3 a b c z TI TO i1 i2 i3) := by
  refine ⟨by simp [own3], fun i h st q hq => ?_, fun i h h' st k => ?_, ?_, ?_, fun A i s Q E st h => wpAny_pyIter_zip st.1 h⟩
  · obtain ⟨hz, hTI, ⟨x, y, t, hTO⟩, ⟨o1, e1, _, d1⟩, ⟨o2, e2, _, d2⟩, ⟨o3, e3, _, d3⟩⟩ := st
    rcases six hq with rfl | rfl | rfl | rfl | rfl | rfl
    · exact ⟨_, hz, fun v q => nomatch q⟩
    · exact ⟨_, hTI, fun v q => nomatch q⟩
    · exact ⟨_, hTO, fun v q => nomatch q⟩
    · exact ⟨o1, e1, fun v q => by rw [d1] at q; cases q⟩
    · exact ⟨o2, e2, fun v q => by rw [d2] at q; cases q⟩
    · exact ⟨o3, e3, fun v q => by rw [d3] at q; cases q⟩
  · obtain ⟨hz, hTI, ⟨x, y, t, hTO⟩, h1, h2, h3⟩ := st
    exact ⟨k z (by simp [own3]) _ hz, k TI (by simp [own3]) _ hTI, ⟨x, y, t, k TO (by simp [own3]) _ hTO⟩, h1.at fun o q => k i1 (by simp [own3]) o q, h2.at fun o q => k i2 (by simp [own3]) o q, h3.at fun o q => k i3 (by simp [own3]) o q⟩
  · intro X hP hw hK hc i pins s σ H E I hf st hg
    subst hP hw hK
    obtain ⟨hz, hTI, ⟨x0, y0, t0, hTO⟩, h1, h2, h3⟩ := st
    obtain ⟨xs, ys, ts, x, y, t, ⟨qx, qy, qt⟩, fx, fy, ft⟩ := hg
    obtain ⟨js1, r1, p1, _⟩ := I.tuple qx
    obtain ⟨js2, r2, p2, _⟩ := I.tuple qy
    obtain ⟨js3, r3, p3, _⟩ := I.tuple qt
    obtain ⟨u1, f1, m1⟩ := r1.get fx
    obtain ⟨u2, f2, m2⟩ := r2.get fy
    obtain ⟨u3, f3, m3⟩ := r3.get ft
    have lz : z < s.heap.objs.size := Heap.lt_size hz
    have hd := I.ok.hd hc
    have n1 : a ≠ i1 := ne_it p1 h1
    have n2 : b ≠ i2 := ne_it p2 h2
    have n3 : c ≠ i3 := ne_it p3 h3
    have k1 : i < js1.toArray.size := by have := (List.getElem?_eq_some_iff.mp f1).1; simpa using this
    have k2 : i < js2.toArray.size := by have := (List.getElem?_eq_some_iff.mp f2).1; simpa using this
    have k3 : i < js3.toArray.size := by have := (List.getElem?_eq_some_iff.mp f3).1; simpa using this
    refine wpAny_pyNext_zipD3_item D (Draws.tuple (A := X.A.in1) hd i1 a n1 js1.toArray) (Draws.tuple (A := X.A.in1) hd i2 b n2 js2.toArray) (Draws.tuple (A := X.A.in1) hd i3 c n3 js3.toArray) hz hTI hTO ⟨h1, p1⟩ ⟨h2, p2⟩ ⟨h3, p3⟩ k1 k2 k3 fun x1 x2 x3 h' tk e1 e2 e3 z' TO' st1 st2 st3 hT hsz hk => ?_
    have w1 : x1 = u1 := Option.some.inj (e1.symm.trans (by simpa using f1))
    have w2 : x2 = u2 := Option.some.inj (e2.symm.trans (by simpa using f2))
    have w3 : x3 = u3 := Option.some.inj (e3.symm.trans (by simpa using f3))
    subst w1 w2 w3
    refine ⟨_, rfl, wpAny_letOwnedTupleGo_zip (s := { s with heap := h', toks := tk }) z' fun h'' z'' sb => ?_⟩
    have up : ∀ q o, q ≠ z → h'.get? q = some o → h''.get? q = some o := fun q o n e => (sb.2 q n).trans e
    have hT2 := up _ _ (Nat.ne_of_gt lz) hT
    have fresh : H s.heap.objs.size = none := I.hok.fresh (Nat.le_refl _)
    have new : ObjOk X.prog X.w (upd H s.heap.objs.size (.tup [x, y, t])) h'' s.heap.objs.size (.tup [x, y, t]) :=
      ⟨by show 3 ≤ sizeLine; decide, [x1, x2, x3], .cons m1 (.cons m2 (.cons m3 .nil)), ⟨_, hT2, rfl, _, rfl⟩⟩
    have kp : ∀ q o, q ∉ own3 z TI TO i1 i2 i3 → s.heap.get? q = some o → h''.get? q = some o := fun q o nq e => by
      have nz : q ≠ z := fun y => nq (by simp [own3, y])
      refine up q o nz (hk q o nz (fun y => nq (by simp [own3, y])) (fun y => nq (by simp [own3, y])) (fun y => nq (by simp [own3, y])) (fun y => nq (by simp [own3, y])) e)
    have zi : ∀ {j : Addr} {fp : List Addr}, j ∈ fp → z ∉ fp → j ≠ z := fun hj hz e => hz (by rw [← e]; exact hj)
    refine ⟨.ref s.heap.objs.size, _, I.turnedNew (t' := tk) (ch := own3 z TI TO i1 i2 i3) kp hf (Nat.le_refl _) new, rfl, ⟨_, x, y, t, rfl, fresh, rfl, fun l hl => by rw [I.tuple_inj hl qx]; exact fx, fun l hl => by rw [I.tuple_inj hl qy]; exact fy, fun l hl => by rw [I.tuple_inj hl qt]; exact ft⟩, ⟨z'', ?_, ⟨x1, x2, x3, up _ _ D.TOz TO'⟩, ?_, ?_, ?_⟩, fun q hq => ?_⟩
    · exact up _ _ D.TIz (hk _ _ D.TIz D.TITO D.TIi1 D.TIi2 D.TIi3 hTI)
    · exact st1.1.at fun o e => up _ _ (zi D.mem1 D.zf1) e
    · exact st2.1.at fun o e => up _ _ (zi D.mem2 D.zf2) e
    · exact st3.1.at fun o e => up _ _ (zi D.mem3 D.zf3) e
    · have lq : q < s.heap.objs.size := by
        rcases six hq with rfl | rfl | rfl | rfl | rfl | rfl
        · exact lz
        · exact Heap.lt_size hTI
        · exact Heap.lt_size hTO
        · obtain ⟨_, e, _⟩ := h1; exact Heap.lt_size e
        · obtain ⟨_, e, _⟩ := h2; exact Heap.lt_size e
        · obtain ⟨_, e, _⟩ := h3; exact Heap.lt_size e
      rw [upd_ne (Nat.ne_of_lt lq)]
      exact (hf q hq).1
  · intro X hP hw hK hc i pins s σ H E I hf st hg
    subst hP hw hK
    obtain ⟨hz, hTI, ⟨x0, y0, t0, hTO⟩, h1, h2, h3⟩ := st
    obtain ⟨xs, ys, ts, ⟨qx, qy, qt⟩, b1, b2, b3, hend⟩ := hg
    obtain ⟨js1, r1, p1, _⟩ := I.tuple qx
    obtain ⟨js2, r2, p2, _⟩ := I.tuple qy
    obtain ⟨js3, r3, p3, _⟩ := I.tuple qt
    have hd := I.ok.hd hc
    have l1 := r1.length
    have l2 := r2.length
    have l3 := r3.length
    have n1 : a ≠ i1 := ne_it p1 h1
    have n2 : b ≠ i2 := ne_it p2 h2
    have n3 : c ≠ i3 := ne_it p3 h3
    refine wpAny_pyNext_zipD3_end D (Draws.tuple (A := X.A.in1) hd i1 a n1 js1.toArray) (Draws.tuple (A := X.A.in1) hd i2 b n2 js2.toArray) (Draws.tuple (A := X.A.in1) hd i3 c n3 js3.toArray) hz hTI hTO ⟨h1, p1⟩ ⟨h2, p2⟩ ⟨h3, p3⟩ (by simp; omega) (by simp; omega) (by simp; omega) (by simp; omega) fun h' tk hk => ?_
    exact ⟨rfl, I.turnedL (t' := tk) (ch := own3 z TI TO i1 i2 i3) (fun q o nq e => hk q o (fun y => nq (by simp [own3, y])) (fun y => nq (by simp [own3, y])) (fun y => nq (by simp [own3, y])) (fun y => nq (by simp [own3, y])) (fun y => nq (by simp [own3, y])) e) hf⟩
set_option maxHeartbeats 400000
def iZip3 (K : PySem.W.Frag) (ta : TA) : TI := fun σ H R => ta σ H fun vs H1 => ∃ a b c xs ys ts, vs = [.ref a, .ref b, .ref c] ∧ SqT K H1 a xs ∧ SqT K H1 b ys ∧ SqT K H1 c ts ∧ R (It3 K a b c) H1
theorem own_le {N y : Nat} (hy : y ∈ own3 (N + 5) (N + 3) (N + 4) N (N + 1) (N + 2)) : N ≤ y := by
  rcases six hy with z | z | z | z | z | z <;> rw [z]
  · exact Nat.le_add_right _ _
  · exact Nat.le_add_right _ _
  · exact Nat.le_add_right _ _
  · exact Nat.le_refl _
  · exact Nat.le_add_right _ _
  · exact Nat.le_add_right _ _
theorem zip3_end {X : Cx} {pins : List (Addr × Obj)} {σ : L2.St} {H1 : Hp} {s1 : Shared} {R : It → Hp → Prop} {a b c : Addr} {xs ys ts : List V} {elts : List Expr} {kk : Nat} {tpos : Pos} (I1 : Inv X pins σ H1 s1) (qx : SqT X.K H1 a xs) (qy : SqT X.K H1 b ys) (qt : SqT X.K H1 c ts) (q : R (It3 X.K a b c) H1) :
    wpAny (model X.prog X.w) X.A (call (.type "zip") [.ref a, .ref b, .ref c]) (fun v s2 => wpAny (model X.prog X.w) X.A (pyIter v) (PIE X pins σ (.Tuple elts kk tpos) R) X.xe s2) X.xe s1 := by
  obtain ⟨js1, m1, p1, _⟩ := I1.tuple qx
  obtain ⟨js2, m2, p2, _⟩ := I1.tuple qy
  obtain ⟨js3, m3, p3, _⟩ := I1.tuple qt
  have la : a < s1.heap.objs.size := by obtain ⟨_, o, _⟩ := p1; exact Heap.lt_size o
  have lb : b < s1.heap.objs.size := by obtain ⟨_, o, _⟩ := p2; exact Heap.lt_size o
  have lc : c < s1.heap.objs.size := by obtain ⟨_, o, _⟩ := p3; exact Heap.lt_size o
  refine zip_begins3 (begins_tuple a js1.toArray) (begins_tuple b js2.toArray) (begins_tuple c js3.toArray) p1 p2 p3 fun h' hz hTI hTO g1 g2 g3 hsz hk => wpAny_pyIter_zip hz ?_
  have one : ∀ {x : Addr}, x < s1.heap.objs.size → ∀ y ∈ [x], y < s1.heap.objs.size := fun hx y hy => by rw [List.mem_singleton.mp hy]; exact hx
  have I2 : Inv X pins σ H1 { s1 with heap := h' } := I1.kept (t' := s1.toks) hk
  have fr : ∀ y, s1.heap.objs.size ≤ y → FpOk X pins H1 y := fun y hle => I1.fpOk hle (I1.hok.fresh hle)
  have sp := zip_sep3 (one la) (one lb) (one lc)
  generalize s1.heap.objs.size = N at *
  exact ⟨N + 5, own3 (N + 5) (N + 3) (N + 4) N (N + 1) (N + 2), at3 a b c (N + 5) (N + 3) (N + 4) N (N + 1) (N + 2), It3 X.K a b c, H1, rfl, I2, turn3 sp, ⟨hz, hTI, ⟨_, _, _, hTO⟩, ⟨_, g1, rfl, rfl⟩, ⟨_, g2, rfl, rfl⟩, ⟨_, g3, rfl, rfl⟩⟩, fun y hy => fr y (own_le hy), q⟩
theorem pi_zip3 (K : PySem.W.Frag) {X : Cx} {e e2 e3 : Expr} {ta : TA} {p pos tpos : Pos} {elts : List Expr} {kk : Nat} (hg : Gl X "zip") (hm : X.mg "zip" = none) (ha : PA X [e, e2, e3] ta)
    (hs : starEach [e, e2, e3] X.env = (false, eval e X.env) :: starEach [e2, e3] X.env := by rfl) (hpl : (backTo pos (starEach [e2, e3] X.env)).any (·.1) = false := by rfl) (hK : X.K = K := by rfl) :
    PI X (.Tuple elts kk tpos) (.Call (.Name "zip" p) [e, e2, e3] [] pos) (iZip3 K ta) := by
  subst hK
  refine ⟨fun pins s σ H R I h => ?_⟩
  refine Call_ (ld_blt I hg hm PyProof.Rows.boot_zip (PyProof.Rows.callWith_type1 (thn (ha.run pos pins s σ H _ I h) fun us s1 ⟨vs, H1, I1, r1, q1⟩ => ?_) hs hpl))
  obtain ⟨a, b, c, xs, ys, ts, rfl, qx, qy, qt, q⟩ := q1
  obtain ⟨u1, us, rfl, ra, r1⟩ : ∃ u1 vs', us = u1 :: vs' ∧ RelV (.ref a) u1 ∧ Vals [.ref b, .ref c] vs' := by
    cases r1 with
    | cons x y => exact ⟨_, _, rfl, x, y⟩
  obtain ⟨u2, us, rfl, rb, r1⟩ : ∃ u1 vs', us = u1 :: vs' ∧ RelV (.ref b) u1 ∧ Vals [.ref c] vs' := by
    cases r1 with
    | cons x y => exact ⟨_, _, rfl, x, y⟩
  obtain ⟨u3, rfl, rc⟩ := vals1 r1
  cases (show u1 = Value.ref a from ra)
  cases (show u2 = Value.ref b from rb)
  cases (show u3 = Value.ref c from rc)
  exact zip3_end I1 qx qy qt q
def YTri (xs ys ts : List V) : Nat → Hp → V → Hp → Prop := fun i H v H' => ∃ T x y t, v = .ref T ∧ H T = none ∧ H' = upd H T (.tup [x, y, t]) ∧ xs[i]? = some x ∧ ys[i]? = some y ∧ ts[i]? = some t
theorem walk_zip3 {K : PySem.W.Frag} {a b c : Addr} {xs ys ts : List V} (h1 : ys.length = xs.length) (h2 : ts.length = xs.length) : Walk (It3 K a b c) xs.length (fun H => SqT K H a xs ∧ SqT K H b ys ∧ SqT K H c ts) (YTri xs ys ts) := by
  refine ⟨fun i H hi q => ⟨xs, ys, ts, xs[i], ys[i]'(by omega), ts[i]'(by omega), q, by simp [hi], by simp, by simp⟩, fun H q => ⟨xs, ys, ts, q, by omega, by omega, by omega, .inl rfl⟩, fun i H v H' _ q y => ?_⟩
  obtain ⟨T, x, z, t, e1, e2, e3, e4, e5, e6⟩ := y
  exact ⟨T, x, z, t, e1, e2, e3, e4 xs q.1, e5 ys q.2.1, e6 ts q.2.2⟩
end Z

set_option Elab.async false
set_option linter.all false
set_option maxRecDepth 100000
namespace Z
open PySem PySem.Spec PyProof.Rows L2
/-! ### a loop of the machine over a list -/
theorem wpAny_forIn_list {M : Model} {A : Around} {E : Value → Shared → Prop} {α β : Type} {f : α → β → Sem (ForInStep β)} {Q : β → Shared → Prop} (I : List α → β → Shared → Prop)
    (hs : ∀ x xs b s, I (x :: xs) b s → wpAny M A (f x b) (fun r s' => match r with | .yield b' => I xs b' s' | .done b' => Q b' s') E s) (hd : ∀ b s, I [] b s → Q b s) :
    ∀ (l : List α) (b : β) (s : Shared), I l b s → wpAny M A (forIn l b f) Q E s
  | [], b, s, h => by
    rw [List.forIn_nil]
    exact wpAny_pure (hd b s h)
  | x :: xs, b, s, h => by
    rw [List.forIn_cons]
    refine wpAny_bind (wpAny_mono (hs x xs b s h) (fun r s' h' => ?_) fun _ _ z => z)
    cases r with
    | done b' => exact wpAny_pure h'
    | yield b' => exact wpAny_forIn_list I hs hd xs b' s' h'
/-! ### iterators of tuples, one behind another -/
def itO (a : Addr) : Obj := { cls := .type "tuple_iterator", data := .fields #[.ref a, .int 0 0] }
def pushIts (h : Heap) : List Addr → Heap
  | [] => h
  | a :: as => pushIts (h.push (itO a)) as
theorem pushIts_size : ∀ (as : List Addr) (h : Heap), (pushIts h as).objs.size = h.objs.size + as.length
  | [], h => rfl
  | a :: as, h => by
    rw [pushIts, pushIts_size as, Heap.size_push, List.length_cons]
    omega
theorem pushIts_old : ∀ (as : List Addr) (h : Heap) {c : Addr} {o : Obj}, h.get? c = some o → (pushIts h as).get? c = some o
  | [], h, c, o, e => e
  | a :: as, h, c, o, e => pushIts_old as _ (Heap.get?_push_of_some _ e)
theorem pushIts_new : ∀ (as : List Addr) (h : Heap) (j : Nat) (a : Addr), as[j]? = some a → (pushIts h as).get? (h.objs.size + j) = some (itO a)
  | [], h, j, a, e => by simp at e
  | b :: as, h, 0, a, e => by
    cases e
    exact pushIts_old as _ (Heap.get?_push_size _ rfl)
  | b :: as, h, j + 1, a, e => by
    have := pushIts_new as (h.push (itO b)) j a (by simpa using e)
    rw [Heap.size_push] at this
    rw [pushIts, show h.objs.size + (j + 1) = h.objs.size + 1 + j by omega]
    exact this
def refsFrom (N : Nat) (n : Nat) : List Value := (List.range n).map fun j => Value.ref (N + j)
theorem wpAny_iterAll {prog : Program} {w : World} {A : Around} {E : Value → Shared → Prop} {s : Shared} {Q : List Value → Shared → Prop} {as : List Addr} (h : ∀ a ∈ as, ∃ items, s.heap.IsTuple a items)
    (hQ : Q (refsFrom s.heap.objs.size as.length) { s with heap := pushIts s.heap as }) : wpAny (model prog w) A (Builtin.SmallTypes.iterAll (as.map Value.ref)) Q E s := by
  unfold Builtin.SmallTypes.iterAll
  obtain ⟨hp, g, d, tk, os⟩ := s
  refine wpAny_bind (wpAny_forIn_list (fun l b s' => ∃ k, l = (as.drop k).map Value.ref ∧ k ≤ as.length ∧ b = (refsFrom hp.objs.size k).toArray ∧ s' = ⟨pushIts hp (as.take k), g, d, tk, os⟩) (fun x xs b s' hI => ?_) (fun b s' hI => ?_) _ _ _ ⟨0, rfl, Nat.zero_le _, rfl, rfl⟩)
  · obtain ⟨k, el, hk, rfl, rfl⟩ := hI
    have hk2 : k < as.length := by
      rcases Nat.lt_or_ge k as.length with z | z
      · exact z
      · rw [List.drop_eq_nil_of_le z] at el
        cases el
    rw [List.drop_eq_getElem_cons hk2, List.map_cons] at el
    obtain ⟨rfl, rfl⟩ := List.cons.inj el
    obtain ⟨items, ht⟩ := h _ (List.getElem_mem hk2)
    refine wpAny_bind (wpAny_holding (wpAny_pyIter_tuple (items := items) (ht.at fun o e => pushIts_old _ _ e) (wpAny_pure ?_)))
    refine ⟨k + 1, rfl, hk2, ?_, ?_⟩
    · unfold refsFrom
      rw [List.range_succ, List.map_append, List.push_toArray, pushIts_size, List.length_take, Nat.min_eq_left hk]
      rfl
    · have e : ∀ (xs ys : List Addr) (h : Heap), pushIts h (xs ++ ys) = pushIts (pushIts h xs) ys := by
        intro xs
        induction xs with
        | nil => intro ys h; rfl
        | cons x xs ih => intro ys h; exact ih ys _
      rw [List.take_add_one, List.getElem?_eq_getElem hk2, Option.toList_some, e]
      rfl
  · obtain ⟨k, el, hk, rfl, rfl⟩ := hI
    have hk2 : k = as.length := by
      rcases Nat.lt_or_ge k as.length with z | z
      · rw [List.drop_eq_getElem_cons z, List.map_cons] at el
        cases el
      · omega
    subst hk2
    rw [List.take_length]
    exact wpAny_pure hQ
/-! ### zip of so many -/
theorem typeCall_zipN (as : List Value) : checkTypeCall "zip" ⟨as, []⟩ = pure () := by kernel_rfl
theorem newCall_zipN (a : Value) (as : List Value) : checkBuiltinCall "zip.__new__" ⟨.type "zip" :: a :: as, []⟩ = pure () := by kernel_rfl
theorem args_initN (o a : Value) (as : List Value) : argsOk "object.__init__" ⟨o :: a :: as, []⟩ := by
  unfold argsOk; rw [signature?_of (id := "object.__init__") (n := ['_', '_', 't', 'i', 'n', 'i', '_', '_']) (o := ['t', 'c', 'e', 'j', 'b', 'o']) (by kernel_rfl) F.owner_object]; kernel_rfl
def tupO (vs : List Value) : Obj := { cls := .type "tuple", data := .seq vs.toArray }
def zipT (h : Heap) (as : List Addr) : Heap := (pushIts h as).push (tupO (refsFrom h.objs.size as.length))
def zipO (h : Heap) (as : List Addr) : Heap := (zipT h as).push (tupO (List.replicate as.length .none))
def zipZ (h : Heap) (as : List Addr) : Heap := (zipO h as).push { cls := .type "zip", data := .fields #[.none, .bool false, .bool false, .ref (pushIts h as).objs.size, .ref (zipT h as).objs.size] }
theorem refs_none (N n : Nat) : (refsFrom N n).map (fun _ => Value.none) = List.replicate n .none := by
  unfold refsFrom
  rw [List.map_map]
  apply List.ext_getElem
  · simp
  · intro i h1 h2
    simp
theorem meets_zip_newN (as : List Addr) (hz : as.length ≤ sizeLine) : Meets (Builtin.«zip.__new__» ⟨.type "zip" :: as.map Value.ref, []⟩) (fun _ R s => (∀ a ∈ as, ∃ items, s.heap.IsTuple a items) ∧
    R (.ok (.ret (.ref (zipO s.heap as).objs.size))) { s with heap := zipZ s.heap as }) :=
  .of_wp fun prog w A R s h => by
    obtain ⟨hp, g, d, tk, os⟩ := s
    obtain ⟨h1, h⟩ := h
    have hsub := sub_zip
    have qi : ∀ {A' : Around} {E : Value → Shared → Prop} {Q : List Value → Shared → Prop}, Q (refsFrom hp.objs.size as.length) ⟨pushIts hp as, g, d, tk, os⟩ → wpAny (model prog w) A' (Builtin.SmallTypes.iterAll (as.map Value.ref)) Q E ⟨hp, g, d, tk, os⟩ :=
      fun q => wpAny_iterAll (s := ⟨hp, g, d, tk, os⟩) h1 q
    have l1 : (refsFrom hp.objs.size as.length).length ≤ sizeLine := by unfold refsFrom; rw [List.length_map, List.length_range]; exact hz
    have l2 : (List.replicate as.length Value.none).length ≤ sizeLine := by rw [List.length_replicate]; exact hz
    have qt : ∀ {A' : Around} {E : Value → Shared → Prop} {Q : Value → Shared → Prop}, Q (.ref (pushIts hp as).objs.size) ⟨zipT hp as, g, d, tk, os⟩ → wpAny (model prog w) A' (newTuple (refsFrom hp.objs.size as.length)) Q E ⟨pushIts hp as, g, d, tk, os⟩ :=
      fun q => wpAny_newTuple q (by simpa using l1)
    have qo : ∀ {A' : Around} {E : Value → Shared → Prop} {Q : Value → Shared → Prop}, Q (.ref (zipT hp as).objs.size) ⟨zipO hp as, g, d, tk, os⟩ → wpAny (model prog w) A' (newTuple ((refsFrom hp.objs.size as.length).map fun _ => Value.none)) Q E ⟨zipT hp as, g, d, tk, os⟩ :=
      fun q => by
        rw [refs_none]
        exact wpAny_newTuple q (by simpa using l2)
    wp_walk using qi, qt, qo
    exact ⟨_, rfl, h⟩
/-! ### the zip's state, and its next -/
def ZipIs (h : Heap) (z TI TO : Addr) (f0 f1 : Value) : Prop := h.get? z = some { cls := .type "zip", dict := none, data := .fields #[f0, f1, .bool false, .ref TI, .ref TO], slots := #[] }
/-- outside of the cells of a zip of n -/
def Out (N n : Nat) (c : Addr) : Prop := c < N ∨ N + n + 2 < c
theorem Out.ne {N n k : Nat} {c : Addr} (h : Out N n c) (hk : k ≤ n + 2) : c ≠ N + k := by
  rcases h with z | z
  · exact Nat.ne_of_lt (Nat.lt_of_lt_of_le z (Nat.le_add_right _ _))
  · exact Nat.ne_of_gt (Nat.lt_of_le_of_lt (by omega) z)
theorem Out.nz {N n : Nat} {c : Addr} (h : Out N n c) : c ≠ N + n + 2 := h.ne (k := n + 2) (Nat.le_refl _)
theorem Out.no {N n : Nat} {c : Addr} (h : Out N n c) : c ≠ N + n + 1 := h.ne (k := n + 1) (by omega)
structure ZAll (N : Nat) (as : List Addr) (pos : Nat → Nat) (vs : List Value) (f0 f1 : Value) (h : Heap) : Prop where
  z : ZipIs h (N + as.length + 2) (N + as.length) (N + as.length + 1) f0 f1
  ti : h.get? (N + as.length) = some (tupO (refsFrom N as.length))
  lv : vs.length = as.length
  to : h.get? (N + as.length + 1) = some (tupO vs)
  it : ∀ j a, as[j]? = some a → h.IsTupleIter (N + j) a (pos j)
theorem at_len {α : Type} {as : List α} {j : Nat} {a : α} (h : as[j]? = some a) : j < as.length := (List.getElem?_eq_some_iff.mp h).1
/-- a write at the zip itself -/
theorem ZAll.atZ {N : Nat} {as : List Addr} {pos : Nat → Nat} {vs : List Value} {f0 f1 g0 g1 : Value} {h h' : Heap} (Z : ZAll N as pos vs f0 f1 h) (e : ZipIs h' (N + as.length + 2) (N + as.length) (N + as.length + 1) g0 g1) (s : Heap.SameBut (N + as.length + 2) h h') : ZAll N as pos vs g0 g1 h' where
  z := e
  ti := (s.2 _ (Nat.ne_of_lt (by omega))).trans Z.ti
  lv := Z.lv
  to := (s.2 _ (Nat.ne_of_lt (by omega))).trans Z.to
  it := fun j a ha => by
    have := at_len ha
    exact (Z.it j a ha).at fun o q => (s.2 _ (Nat.ne_of_lt (by omega))).trans q
/-- one iterator has gone on -/
theorem ZAll.atI {N : Nat} {as : List Addr} {pos : Nat → Nat} {vs : List Value} {f0 f1 : Value} {h h' : Heap} {k : Nat} {a : Addr} {i : Nat} (Z : ZAll N as pos vs f0 f1 h) (ha : as[k]? = some a) (e : h'.IsTupleIter (N + k) a i) (s : Heap.SameBut (N + k) h h') : ZAll N as (fun j => if j = k then i else pos j) vs f0 f1 h' := by
  have hk := at_len ha
  refine ⟨(s.2 _ (Nat.ne_of_gt (by omega))).trans Z.z, (s.2 _ (Nat.ne_of_gt (by omega))).trans Z.ti, Z.lv, (s.2 _ (Nat.ne_of_gt (by omega))).trans Z.to, fun j b hb => ?_⟩
  by_cases q : j = k
  · subst q
    have eb : a = b := Option.some.inj (ha.symm.trans hb)
    subst eb
    rw [if_pos rfl]
    exact e
  · rw [if_neg q]
    exact (Z.it j b hb).at fun o z => (s.2 _ (fun y => q (Nat.add_left_cancel y))).trans z
/-- the kept tuple's items are others -/
theorem ZAll.atO {N : Nat} {as : List Addr} {pos : Nat → Nat} {vs ws : List Value} {f0 f1 : Value} {h h' : Heap} (Z : ZAll N as pos vs f0 f1 h) (lw : ws.length = as.length) (e : h'.get? (N + as.length + 1) = some (tupO ws)) (s : Heap.SameBut (N + as.length + 1) h h') : ZAll N as pos ws f0 f1 h' where
  z := (s.2 _ (Nat.ne_of_gt (by omega))).trans Z.z
  ti := (s.2 _ (Nat.ne_of_lt (by omega))).trans Z.ti
  lv := lw
  to := e
  it := fun j a ha => by
    have := at_len ha
    exact (Z.it j a ha).at fun o q => (s.2 _ (Nat.ne_of_lt (by omega))).trans q
theorem ZAll.pos {N : Nat} {as : List Addr} {p q : Nat → Nat} {vs : List Value} {f0 f1 : Value} {h : Heap} (Z : ZAll N as p vs f0 f1 h) (e : ∀ j, j < as.length → p j = q j) : ZAll N as q vs f0 f1 h := ⟨Z.z, Z.ti, Z.lv, Z.to, fun j a ha => by
  rw [← e j (at_len ha)]
  exact Z.it j a ha⟩
theorem ZAll.keep {N : Nat} {as : List Addr} {p : Nat → Nat} {vs : List Value} {f0 f1 : Value} {h h' : Heap} (Z : ZAll N as p vs f0 f1 h) (k : ∀ c o, N ≤ c → c ≤ N + as.length + 2 → h.get? c = some o → h'.get? c = some o) : ZAll N as p vs f0 f1 h' where
  z := k _ _ (by omega) (by omega) Z.z
  ti := k _ _ (by omega) (by omega) Z.ti
  lv := Z.lv
  to := k _ _ (by omega) (by omega) Z.to
  it := fun j a ha => by
    have := at_len ha
    exact (Z.it j a ha).at fun o q => k _ _ (by omega) (by omega) q
theorem refs_at {N n j : Nat} (h : j < n) : (refsFrom N n)[j]? = some (.ref (N + j)) := by
  unfold refsFrom
  rw [List.getElem?_map, List.getElem?_range h]
  rfl
theorem refs_len (N n : Nat) : (refsFrom N n).length = n := by
  unfold refsFrom
  rw [List.length_map, List.length_range]
theorem set_step {vs ys : List Value} {k : Nat} {y : Value} (h1 : vs.length = ys.length) (h2 : ys[k]? = some y) : (ys.take k ++ vs.drop k).set k y = ys.take (k + 1) ++ vs.drop (k + 1) := by
  have hk := at_len h2
  have l : (ys.take k).length = k := by rw [List.length_take]; omega
  rw [List.set_append_right _ _ (by omega), l, Nat.sub_self, List.drop_eq_getElem_cons (by omega), List.set_cons_zero, List.take_add_one, h2, Option.toList_some, List.append_assoc]
  rfl
section
variable {prog : Program} {w : World} {A : Around} {E : Value → Shared → Prop}
set_option maxHeartbeats 2000000 in
/-- where the tuple that was given out is free -/
theorem zipN_free {N i : Nat} {as : List Addr} {vs ys : List Value} {f0 f1 : Value} {Q : Value → Shared → Prop} {hp : Heap} {g : Array GenState} {d : _} {tk : Tok} {os : _} (Z : ZAll N as (fun _ => i) vs f0 f1 hp) (n0 : 0 < as.length) (nz : as.length ≤ sizeLine) (ly : ys.length = as.length)
    (ha : ∀ (j : Nat) (a : Addr), as[j]? = some a → a < N ∧ ∃ items : Array Value, hp.IsTuple a items ∧ items[i]? = ys[j]?)
    (hf : ∀ {A' : Around} {E' : Value → Shared → Prop} {Q' : Bool → Shared → Prop}, Q' true ⟨hp, g, d, tk, os⟩ → wpAny (model prog w) A' (Builtin.SmallTypes.ownedTupleIsFree (.ref (N + as.length + 2))) Q' E' ⟨hp, g, d, tk, os⟩)
    (hQ : ∀ h' (T : Addr), ZAll N as (fun _ => i + 1) ys (rawInt T) (.bool false) h' → h'.get? hp.objs.size = some (tupO ys) → h'.objs.size = hp.objs.size + 1 → (∀ c o, Out N as.length c → hp.get? c = some o → h'.get? c = some o) → Q (.ref hp.objs.size) ⟨h', g, d, tk, os⟩) :
    wpAny (model prog w) A (Builtin.«zip.__next__» ⟨[.ref (N + as.length + 2)], []⟩) (fun fin s' => ∃ v, fin = .done (.ret v) ∧ Q v s') E ⟨hp, g, d, tk, os⟩ := by
  show wpAny _ _ (field (.ref (N + as.length + 2)) 2 >>= _) _ _ _
  refine wpAny_bind (wpAny_field Z.z rfl (x := .bool false) rfl ?_)
  show wpAny _ _ (field (.ref (N + as.length + 2)) 3 >>= _) _ _ _
  refine wpAny_bind (wpAny_field Z.z rfl (x := .ref (N + as.length)) rfl ?_)
  refine wpAny_bind (wpAny_seqItems Z.ti rfl ?_)
  have ne : ((refsFrom N as.length).toArray).isEmpty = false := by
    rw [Array.isEmpty_eq_false_iff_exists_mem]
    exact ⟨.ref (N + 0), by rw [List.mem_toArray]; exact List.mem_of_getElem? (refs_at n0)⟩
  simp only [ne, Bool.false_eq_true, if_false]
  show wpAny _ _ (Builtin.SmallTypes.ownedTupleIsFree (.ref (N + as.length + 2)) >>= _) _ _ _
  refine wpAny_bind (hf ?_)
  simp only [if_true]
  refine wpAny_bind (wpAny_rule ?_)
  refine wpAny_bind (wpAny_field Z.z rfl (x := .ref (N + as.length + 1)) rfl ?_)
  refine wpAny_bind (wpAny_setField_rec Z.z (by simp) fun g0 hz0 hs0 => ?_)
  have Z0 : ZAll N as (fun _ => i) vs .ellipsis f1 g0 := Z.atZ hz0 hs0
  have o0 : ∀ c o, Out N as.length c → hp.get? c = some o → g0.get? c = some o := fun c o hc e => (hs0.2 c hc.nz).trans e
  have z0 : g0.objs.size = hp.objs.size := hs0.1
  refine wpAny_bind (wpAny_forIn_list (fun l b s' => ∃ (k : Nat) (h : Heap), l = ((refsFrom N as.length).zipIdx).drop k ∧ k ≤ as.length ∧ b = ⟨none, ⟨⟩⟩ ∧ s' = ⟨h, g, d, tk, os⟩ ∧ ZAll N as (fun j => if j < k then i + 1 else i) (ys.take k ++ vs.drop k) .ellipsis f1 h ∧ h.objs.size = hp.objs.size ∧ ∀ c o, Out N as.length c → hp.get? c = some o → h.get? c = some o) (fun x xs b s' hI => ?_) (fun b s' hI => ?_) _ _ _ ⟨0, g0, rfl, Nat.zero_le _, rfl, rfl, ?_, z0, o0⟩)
  · obtain ⟨k, h, el, hk, rfl, rfl, Zk, zk, ok⟩ := hI
    have lz : ((refsFrom N as.length).zipIdx).length = as.length := by rw [List.length_zipIdx, refs_len]
    have hk2 : k < as.length := by
      rcases Nat.lt_or_ge k as.length with z | z
      · exact z
      · rw [List.drop_eq_nil_of_le (by omega)] at el
        cases el
    rw [List.drop_eq_getElem_cons (by omega)] at el
    obtain ⟨rfl, rfl⟩ := List.cons.inj el
    have ex : ((refsFrom N as.length).zipIdx)[k]'(by omega) = (.ref (N + k), k) := by
      rw [List.getElem_zipIdx]
      have := refs_at (N := N) hk2
      rw [List.getElem?_eq_getElem (by rw [refs_len]; exact hk2)] at this
      rw [Option.some.inj this, Nat.zero_add]
    rw [ex]
    obtain ⟨a, ea⟩ : ∃ a, as[k]? = some a := ⟨_, List.getElem?_eq_getElem hk2⟩
    obtain ⟨aN, items, hit, hix⟩ := ha k a ea
    obtain ⟨y, ey⟩ : ∃ y, ys[k]? = some y := ⟨_, List.getElem?_eq_getElem (by omega)⟩
    have itk := Zk.it k a ea
    simp only [Nat.lt_irrefl, if_false] at itk
    refine wpAny_bind (wpAny_onRaise ?_)
    show wpAny _ _ (Builtin.SmallTypes.nextOf (.ref (N + k)) >>= _) _ _ ⟨h, g, d, tk, os⟩
    refine wpAny_bind (wpAny_nextOf_tuple_item (s := ⟨h, g, d, tk, os⟩) itk (hit.at fun o e => ok _ _ (.inl aN) e) (hix.trans ey) fun h1 it1 hs1 => wpAny_pure ?_)
    have Z1 := Zk.atI ea it1 hs1
    refine wpAny_bind (wpAny_seqItems (s := ⟨h1, g, d, tk, os⟩) Z1.to rfl ?_)
    have lt : (ys.take k ++ vs.drop k).length = as.length := Z1.lv
    refine wpAny_bind (wpAny_updateSeq (s := ⟨h1, g, d, tk, os⟩) Z1.to rfl ?_ (by rw [List.size_toArray, lt]; exact nz) (by simp only [Array.size_setIfInBounds, List.size_toArray, lt]; omega))
    refine wpAny_bind (wpAny_letGo (wpAny_pure ?_))
    have hs2 := Heap.SameBut.update h1 (N + as.length + 1) (Obj.mapSeq fun x => x.setIfInBounds k y)
    have e2 := Heap.get?_update_self (Obj.mapSeq fun x => x.setIfInBounds k y) Z1.to rfl
    have lw : (ys.take (k + 1) ++ vs.drop (k + 1)).length = as.length := by
      have := Z.lv
      rw [List.length_append, List.length_take, List.length_drop]
      omega
    have e3 : (h1.update (N + as.length + 1) (Obj.mapSeq fun x => x.setIfInBounds k y)).get? (N + as.length + 1) = some (tupO (ys.take (k + 1) ++ vs.drop (k + 1))) := by
      rw [e2]
      show some (Obj.mapSeq _ (tupO (ys.take k ++ vs.drop k))) = _
      unfold tupO Obj.mapSeq
      simp only [List.setIfInBounds_toArray]
      rw [set_step (by have := Z.lv; omega) ey]
      simp only [List.size_toArray, lw, lt, beq_self_eq_true, if_true]
    have Z2 := (Z1.atO lw e3 hs2).pos (q := fun j => if j < k + 1 then i + 1 else i) (fun j hj => by
      by_cases c1 : j = k
      · rw [if_pos c1, if_pos (by omega)]
      · rw [if_neg c1]
        by_cases c2 : j < k
        · rw [if_pos c2, if_pos (by omega)]
        · rw [if_neg c2, if_neg (by omega)])
    refine ⟨k + 1, _, rfl, hk2, rfl, rfl, Z2, ?_, fun c o hc e => ?_⟩
    · exact (hs2.1.trans hs1.1).trans zk
    · have c1 : c ≠ N + as.length + 1 := hc.no
      have c2 : c ≠ N + k := hc.ne (by omega)
      exact (hs2.2 c c1).trans ((hs1.2 c c2).trans (ok c o hc e))
  · obtain ⟨k, h, el, hk, rfl, rfl, Zk, zk, ok⟩ := hI
    have lz : ((refsFrom N as.length).zipIdx).length = as.length := by rw [List.length_zipIdx, refs_len]
    have hk2 : k = as.length := by
      rcases Nat.lt_or_ge k as.length with z | z
      · rw [List.drop_eq_getElem_cons (by omega)] at el
        cases el
      · omega
    subst hk2
    have ey : ys.take as.length ++ vs.drop as.length = ys := by
      rw [← ly, List.take_length, ly, ← Z.lv, List.drop_length, List.append_nil]
    rw [ey] at Zk
    have Zk := Zk.pos (q := fun _ => i + 1) (fun j hj => if_pos hj)
    refine wpAny_bind (wpAny_seqItems (s := ⟨h, g, d, tk, os⟩) Zk.to rfl ?_)
    refine wpAny_bind (wpAny_newTuple ?_ (by simp only [List.toList_toArray]; omega))
    show wpAny _ _ (Builtin.SmallTypes.ownedTupleHandOut (.ref (N + as.length + 2)) (.ref h.objs.size) >>= _) _ _ ⟨h.push (tupO ys), g, d, tk, os⟩
    refine wpAny_bind ?_
    unfold Builtin.SmallTypes.ownedTupleHandOut
    have lzz : N + as.length + 2 < h.objs.size := Heap.lt_size Zk.z
    have Zp : ZAll N as (fun _ => i + 1) ys .ellipsis f1 (h.push (tupO ys)) := Zk.keep fun c o _ _ e => Heap.get?_push_of_some _ e
    refine wpAny_bind (wpAny_setField_rec (s := ⟨h.push (tupO ys), g, d, tk, os⟩) Zp.z (by simp) fun h7 hz7 hs7 => ?_)
    have Z7 : ZAll N as (fun _ => i + 1) ys (rawInt h.objs.size) f1 h7 := Zp.atZ hz7 hs7
    refine wpAny_setField_rec (s := ⟨h7, g, d, tk, os⟩) Z7.z (by simp) fun h8 hz8 hs8 => ?_
    have Z8 : ZAll N as (fun _ => i + 1) ys (rawInt h.objs.size) (.bool false) h8 := Z7.atZ hz8 hs8
    refine wpAny_pure ⟨_, rfl, ?_⟩
    show Q (.ref h.objs.size) ⟨h8, g, d, tk, os⟩
    rw [zk]
    have up : ∀ c o, c ≠ N + as.length + 2 → (h.push (tupO ys)).get? c = some o → h8.get? c = some o := fun c o hc e => (hs8.2 c hc).trans ((hs7.2 c hc).trans e)
    refine hQ h8 _ Z8 ?_ ?_ fun c o hc e => up c o hc.nz (Heap.get?_push_of_some _ (ok c o hc e))
    · rw [← zk]
      exact up _ _ (Nat.ne_of_gt lzz) (Heap.get?_push_size _ rfl)
    · rw [hs8.1, hs7.1, Heap.size_push, zk]
  · rw [List.take_zero, List.nil_append, List.drop_zero]
    exact Z0.pos fun j _ => (if_neg (Nat.not_lt_zero j)).symm
set_option maxHeartbeats 2000000 in
/-- where it is still there -/
theorem zipN_held {N i : Nat} {as : List Addr} {vs ys : List Value} {T : Addr} {f : Bool} {oT : Obj} {Q : Value → Shared → Prop} {hp : Heap} {g : Array GenState} {d : _} {tk : Tok} {os : _} (Z : ZAll N as (fun _ => i) vs (rawInt T) (.bool f) hp) (n0 : 0 < as.length) (nz : as.length ≤ sizeLine) (ly : ys.length = as.length)
    (ha : ∀ (j : Nat) (a : Addr), as[j]? = some a → a < N ∧ ∃ items : Array Value, hp.IsTuple a items ∧ items[i]? = ys[j]?) (hT : hp.get? T = some oT)
    (hQ : ∀ h', ZAll N as (fun _ => i + 1) vs (rawInt T) (.bool true) h' → h'.get? hp.objs.size = some (tupO ys) → h'.objs.size = hp.objs.size + 1 → (∀ c o, Out N as.length c → hp.get? c = some o → h'.get? c = some o) → Q (.ref hp.objs.size) ⟨h', g, d, tk, os⟩) :
    wpAny (model prog w) A (Builtin.«zip.__next__» ⟨[.ref (N + as.length + 2)], []⟩) (fun fin s' => ∃ v, fin = .done (.ret v) ∧ Q v s') E ⟨hp, g, d, tk, os⟩ := by
  show wpAny _ _ (field (.ref (N + as.length + 2)) 2 >>= _) _ _ _
  refine wpAny_bind (wpAny_field Z.z rfl (x := .bool false) rfl ?_)
  show wpAny _ _ (field (.ref (N + as.length + 2)) 3 >>= _) _ _ _
  refine wpAny_bind (wpAny_field Z.z rfl (x := .ref (N + as.length)) rfl ?_)
  refine wpAny_bind (wpAny_seqItems Z.ti rfl ?_)
  have ne : ((refsFrom N as.length).toArray).isEmpty = false := by
    rw [Array.isEmpty_eq_false_iff_exists_mem]
    exact ⟨.ref (N + 0), by rw [List.mem_toArray]; exact List.mem_of_getElem? (refs_at n0)⟩
  simp only [ne, Bool.false_eq_true, if_false]
  show wpAny _ _ (Builtin.SmallTypes.ownedTupleIsFree (.ref (N + as.length + 2)) >>= _) _ _ _
  refine wpAny_bind (wpAny_tupleHeld_zip Z.z hT fun g0 hz0 hs0 => ?_)
  simp only [Bool.false_eq_true, if_false]
  have Z0 : ZAll N as (fun _ => i) vs (rawInt T) (.bool true) g0 := Z.atZ hz0 hs0
  have o0 : ∀ c o, Out N as.length c → hp.get? c = some o → g0.get? c = some o := fun c o hc e => (hs0.2 c hc.nz).trans e
  have z0 : g0.objs.size = hp.objs.size := hs0.1
  refine wpAny_bind ?_
  rw [← Array.forIn_toList]
  refine wpAny_forIn_list (fun l b s' => ∃ (k : Nat) (h : Heap), l = (refsFrom N as.length).drop k ∧ k ≤ as.length ∧ b = ⟨none, (ys.take k).toArray⟩ ∧ s' = ⟨h, g, d, tk, os⟩ ∧ ZAll N as (fun j => if j < k then i + 1 else i) vs (rawInt T) (.bool true) h ∧ h.objs.size = hp.objs.size ∧ ∀ c o, Out N as.length c → hp.get? c = some o → h.get? c = some o) (fun x xs b s' hI => ?_) (fun b s' hI => ?_) _ _ _ ⟨0, g0, rfl, Nat.zero_le _, rfl, rfl, Z0.pos fun j _ => (if_neg (Nat.not_lt_zero j)).symm, z0, o0⟩
  · obtain ⟨k, h, el, hk, rfl, rfl, Zk, zk, ok⟩ := hI
    have lz : (refsFrom N as.length).length = as.length := refs_len _ _
    have hk2 : k < as.length := by
      rcases Nat.lt_or_ge k as.length with z | z
      · exact z
      · rw [List.drop_eq_nil_of_le (by omega)] at el
        cases el
    rw [List.drop_eq_getElem_cons (by omega)] at el
    obtain ⟨rfl, rfl⟩ := List.cons.inj el
    have ex : (refsFrom N as.length)[k]'(by omega) = .ref (N + k) := by
      have := refs_at (N := N) hk2
      rw [List.getElem?_eq_getElem (by rw [refs_len]; exact hk2)] at this
      exact Option.some.inj this
    rw [ex]
    obtain ⟨a, ea⟩ : ∃ a, as[k]? = some a := ⟨_, List.getElem?_eq_getElem hk2⟩
    obtain ⟨aN, items, hit, hix⟩ := ha k a ea
    obtain ⟨y, ey⟩ : ∃ y, ys[k]? = some y := ⟨_, List.getElem?_eq_getElem (by omega)⟩
    have itk := Zk.it k a ea
    simp only [Nat.lt_irrefl, if_false] at itk
    refine wpAny_bind (wpAny_holding ?_)
    show wpAny _ _ (Builtin.SmallTypes.nextOf (.ref (N + k)) >>= _) _ _ ⟨h, g, d, tk, os⟩
    refine wpAny_bind (wpAny_nextOf_tuple_item (s := ⟨h, g, d, tk, os⟩) itk (hit.at fun o e => ok _ _ (.inl aN) e) (hix.trans ey) fun h1 it1 hs1 => wpAny_pure ?_)
    refine wpAny_pure ?_
    have Z1 := (Zk.atI ea it1 hs1).pos (q := fun j => if j < k + 1 then i + 1 else i) (fun j hj => by
      by_cases c1 : j = k
      · rw [if_pos c1, if_pos (by omega)]
      · rw [if_neg c1]
        by_cases c2 : j < k
        · rw [if_pos c2, if_pos (by omega)]
        · rw [if_neg c2, if_neg (by omega)])
    refine ⟨k + 1, h1, rfl, hk2, ?_, rfl, Z1, hs1.1.trans zk, fun c o hc e => (hs1.2 c (hc.ne (by omega))).trans (ok c o hc e)⟩
    rw [List.take_add_one, ey, Option.toList_some, List.push_toArray]
  · obtain ⟨k, h, el, hk, rfl, rfl, Zk, zk, ok⟩ := hI
    have lz : (refsFrom N as.length).length = as.length := refs_len _ _
    have hk2 : k = as.length := by
      rcases Nat.lt_or_ge k as.length with z | z
      · rw [List.drop_eq_getElem_cons (by omega)] at el
        cases el
      · omega
    subst hk2
    have ey : ys.take as.length = ys := by rw [← ly, List.take_length]
    rw [ey]
    have Zk := Zk.pos (q := fun _ => i + 1) (fun j hj => if_pos hj)
    refine wpAny_bind (wpAny_newTuple ?_ (by simp only [List.toList_toArray]; omega))
    refine wpAny_pure ⟨_, rfl, ?_⟩
    show Q (.ref h.objs.size) ⟨h.push (tupO ys), g, d, tk, os⟩
    rw [zk]
    refine hQ _ (Zk.keep fun c o _ _ e => Heap.get?_push_of_some _ e) ?_ ?_ fun c o hc e => Heap.get?_push_of_some _ (ok c o hc e)
    · rw [← zk]
      exact Heap.get?_push_size _ rfl
    · rw [Heap.size_push, zk]
/-- the first one has no more -/
theorem zipN_endF {N i : Nat} {as : List Addr} {vs : List Value} {f0 f1 : Value} {a : Addr} {items : Array Value} {Q : Fin → Shared → Prop} {hp : Heap} {g : Array GenState} {d : _} {tk : Tok} {os : _} (hh : A.handled = none) (Z : ZAll N as (fun _ => i) vs f0 f1 hp) (ha : as[0]? = some a) (aN : a < N) (hit : hp.IsTuple a items) (hx : items[i]? = none)
    (hf : ∀ {A' : Around} {E' : Value → Shared → Prop} {Q' : Bool → Shared → Prop}, Q' true ⟨hp, g, d, tk, os⟩ → wpAny (model prog w) A' (Builtin.SmallTypes.ownedTupleIsFree (.ref (N + as.length + 2))) Q' E' ⟨hp, g, d, tk, os⟩)
    (hE : ∀ h' e, (∀ c o, Out N as.length c → hp.get? c = some o → h'.get? c = some o) → (∃ o, h'.get? e = some o ∧ o.cls = .type "StopIteration") → E (.ref e) ⟨h', g, d, tk, os⟩) :
    wpAny (model prog w) A (Builtin.«zip.__next__» ⟨[.ref (N + as.length + 2)], []⟩) Q E ⟨hp, g, d, tk, os⟩ := by
  have n0 := at_len ha
  show wpAny _ _ (field (.ref (N + as.length + 2)) 2 >>= _) _ _ _
  refine wpAny_bind (wpAny_field Z.z rfl (x := .bool false) rfl ?_)
  show wpAny _ _ (field (.ref (N + as.length + 2)) 3 >>= _) _ _ _
  refine wpAny_bind (wpAny_field Z.z rfl (x := .ref (N + as.length)) rfl ?_)
  refine wpAny_bind (wpAny_seqItems Z.ti rfl ?_)
  have ne : ((refsFrom N as.length).toArray).isEmpty = false := by
    rw [Array.isEmpty_eq_false_iff_exists_mem]
    exact ⟨.ref (N + 0), by rw [List.mem_toArray]; exact List.mem_of_getElem? (refs_at n0)⟩
  simp only [ne, Bool.false_eq_true, if_false]
  show wpAny _ _ (Builtin.SmallTypes.ownedTupleIsFree (.ref (N + as.length + 2)) >>= _) _ _ _
  refine wpAny_bind (hf ?_)
  simp only [if_true]
  refine wpAny_bind (wpAny_rule ?_)
  refine wpAny_bind (wpAny_field Z.z rfl (x := .ref (N + as.length + 1)) rfl ?_)
  refine wpAny_bind (wpAny_setField_rec Z.z (by simp) fun g0 hz0 hs0 => ?_)
  have Z0 : ZAll N as (fun _ => i) vs .ellipsis f1 g0 := Z.atZ hz0 hs0
  have o0 : ∀ c o, Out N as.length c → hp.get? c = some o → g0.get? c = some o := fun c o hc e => (hs0.2 c hc.nz).trans e
  have lz : ((refsFrom N as.length).zipIdx).length = as.length := by rw [List.length_zipIdx, refs_len]
  refine wpAny_bind (wpAny_forIn_list (fun l b s' => l = (refsFrom N as.length).zipIdx ∧ s' = ⟨g0, g, d, tk, os⟩) (fun x xs b s' hI => ?_) (fun b s' hI => ?_) _ _ _ ⟨rfl, rfl⟩)
  · obtain ⟨el, rfl⟩ := hI
    have ex : x = (.ref (N + 0), 0) := by
      have h0 : ((refsFrom N as.length).zipIdx)[0]? = some x := by rw [← el]; rfl
      rw [List.getElem?_zipIdx, refs_at n0] at h0
      exact (Option.some.inj h0).symm
    subst ex
    refine wpAny_bind (wpAny_onRaise ?_)
    show wpAny _ _ (Builtin.SmallTypes.nextOf (.ref (N + 0)) >>= _) _ _ ⟨g0, g, d, tk, os⟩
    refine wpAny_bind (wpAny_nextOf_tuple_end (s := ⟨g0, g, d, tk, os⟩) hh (Z0.it 0 a ha) (hit.at fun o e => o0 _ _ (.inl aN) e) hx fun q e hq he => ?_)
    obtain ⟨oe, hoe, hce⟩ := he
    have hzq : ZipIs q (N + as.length + 2) (N + as.length) (N + as.length + 1) .ellipsis f1 := hq _ _ (Nat.ne_of_gt (by omega)) Z0.z
    have hez : e ≠ N + as.length + 2 := fun x => by
      rw [x, show q.get? (N + as.length + 2) = _ from hzq] at hoe
      cases hoe
      simp at hce
    refine wpAny_setField_rec (s := ⟨q, g, d, tk, os⟩) hzq (by simp) fun q' _ hq' => ?_
    exact hE q' e (fun c o hc x => (hq'.2 c hc.nz).trans (hq _ _ (hc.ne (k := 0) (by omega)) (o0 c o hc x))) ⟨oe, (hq'.2 _ hez).trans hoe, hce⟩
  · obtain ⟨el, rfl⟩ := hI
    rw [← el] at lz
    exact absurd lz (Nat.ne_of_lt n0)
theorem zipN_endH {N i : Nat} {as : List Addr} {vs : List Value} {T : Addr} {f : Bool} {oT : Obj} {a : Addr} {items : Array Value} {Q : Fin → Shared → Prop} {hp : Heap} {g : Array GenState} {d : _} {tk : Tok} {os : _} (hh : A.handled = none) (Z : ZAll N as (fun _ => i) vs (rawInt T) (.bool f) hp) (ha : as[0]? = some a) (aN : a < N) (hit : hp.IsTuple a items) (hx : items[i]? = none) (hT : hp.get? T = some oT)
    (hE : ∀ h' e, (∀ c o, Out N as.length c → hp.get? c = some o → h'.get? c = some o) → (∃ o, h'.get? e = some o ∧ o.cls = .type "StopIteration") → E (.ref e) ⟨h', g, d, tk, os⟩) :
    wpAny (model prog w) A (Builtin.«zip.__next__» ⟨[.ref (N + as.length + 2)], []⟩) Q E ⟨hp, g, d, tk, os⟩ := by
  have n0 := at_len ha
  show wpAny _ _ (field (.ref (N + as.length + 2)) 2 >>= _) _ _ _
  refine wpAny_bind (wpAny_field Z.z rfl (x := .bool false) rfl ?_)
  show wpAny _ _ (field (.ref (N + as.length + 2)) 3 >>= _) _ _ _
  refine wpAny_bind (wpAny_field Z.z rfl (x := .ref (N + as.length)) rfl ?_)
  refine wpAny_bind (wpAny_seqItems Z.ti rfl ?_)
  have ne : ((refsFrom N as.length).toArray).isEmpty = false := by
    rw [Array.isEmpty_eq_false_iff_exists_mem]
    exact ⟨.ref (N + 0), by rw [List.mem_toArray]; exact List.mem_of_getElem? (refs_at n0)⟩
  simp only [ne, Bool.false_eq_true, if_false]
  show wpAny _ _ (Builtin.SmallTypes.ownedTupleIsFree (.ref (N + as.length + 2)) >>= _) _ _ _
  refine wpAny_bind (wpAny_tupleHeld_zip Z.z hT fun g0 hz0 hs0 => ?_)
  simp only [Bool.false_eq_true, if_false]
  have Z0 : ZAll N as (fun _ => i) vs (rawInt T) (.bool true) g0 := Z.atZ hz0 hs0
  have o0 : ∀ c o, Out N as.length c → hp.get? c = some o → g0.get? c = some o := fun c o hc e => (hs0.2 c hc.nz).trans e
  refine wpAny_bind ?_
  rw [← Array.forIn_toList]
  refine wpAny_forIn_list (fun l b s' => l = refsFrom N as.length ∧ s' = ⟨g0, g, d, tk, os⟩) (fun x xs b s' hI => ?_) (fun b s' hI => ?_) _ _ _ ⟨rfl, rfl⟩
  · obtain ⟨el, rfl⟩ := hI
    have ex : x = .ref (N + 0) := by
      have h0 : (refsFrom N as.length)[0]? = some x := by rw [← el]; rfl
      rw [refs_at n0] at h0
      exact (Option.some.inj h0).symm
    subst ex
    refine wpAny_bind (wpAny_holding ?_)
    show wpAny _ _ (Builtin.SmallTypes.nextOf (.ref (N + 0)) >>= _) _ _ ⟨g0, g, d, tk, os⟩
    refine wpAny_bind (wpAny_nextOf_tuple_end (s := ⟨g0, g, d, tk, os⟩) hh (Z0.it 0 a ha) (hit.at fun o e => o0 _ _ (.inl aN) e) hx fun q e hq he => ?_)
    exact hE q e (fun c o hc x => hq _ _ (hc.ne (k := 0) (by omega)) (o0 c o hc x)) he
  · obtain ⟨el, rfl⟩ := hI
    have lz := refs_len N as.length
    rw [← el] at lz
    exact absurd lz (Nat.ne_of_lt n0)
/-- at a turn -/
def ZAt (N : Nat) (as : List Addr) (i : Nat) (h : Heap) : Prop := ∃ vs f0 f1, ZAll N as (fun _ => i) vs f0 f1 h ∧ (f0 = .none ∨ ∃ (T : Addr) (f : Bool), f0 = rawInt T ∧ f1 = .bool f)
theorem free_none {N : Nat} {as : List Addr} {p : Nat → Nat} {vs : List Value} {f1 : Value} {s : Shared} (Z : ZAll N as p vs .none f1 s.heap) : ∀ {A' : Around} {E' : Value → Shared → Prop} {Q' : Bool → Shared → Prop}, Q' true s → wpAny (model prog w) A' (Builtin.SmallTypes.ownedTupleIsFree (.ref (N + as.length + 2))) Q' E' s := fun q => by
  unfold Builtin.SmallTypes.ownedTupleIsFree
  exact wpAny_bind (wpAny_field Z.z rfl (x := .none) rfl (wpAny_pure q))
theorem free_dead {N : Nat} {as : List Addr} {p : Nat → Nat} {vs : List Value} {f1 : Value} {T : Addr} {s : Shared} (Z : ZAll N as p vs (rawInt T) f1 s.heap) (hT : s.heap.get? T = none) : ∀ {A' : Around} {E' : Value → Shared → Prop} {Q' : Bool → Shared → Prop}, Q' true s → wpAny (model prog w) A' (Builtin.SmallTypes.ownedTupleIsFree (.ref (N + as.length + 2))) Q' E' s := fun {A' E' Q'} q => by
  unfold Builtin.SmallTypes.ownedTupleIsFree
  refine wpAny_bind (wpAny_field Z.z rfl (x := rawInt T) rfl ?_)
  show wpAny _ _ (loadIfAlive ((T : Int).toNat) >>= _) _ _ _
  rw [Int.toNat_natCast]
  have al : ∀ {Q'' : Option Obj → Shared → Prop}, Q'' none s → wpAny (model prog w) A' (loadIfAlive T) Q'' E' s := fun {Q''} z => by
    have h' : Q'' (s.heap.get? T) s := by rw [hT]; exact z
    exact fun _ _ _ => h'
  refine wpAny_bind (al ?_)
  exact wpAny_pure q
theorem pyNext_zipN_item {N i : Nat} {as : List Addr} {ys : List Value} {s : Shared} {Q : Option Value → Shared → Prop} (Z : ZAt N as i s.heap) (n0 : 0 < as.length) (nz : as.length ≤ sizeLine) (ly : ys.length = as.length)
    (ha : ∀ (j : Nat) (a : Addr), as[j]? = some a → a < N ∧ ∃ items : Array Value, s.heap.IsTuple a items ∧ items[i]? = ys[j]?)
    (hQ : ∀ h', ZAt N as (i + 1) h' → h'.get? s.heap.objs.size = some (tupO ys) → h'.objs.size = s.heap.objs.size + 1 → (∀ c o, Out N as.length c → s.heap.get? c = some o → h'.get? c = some o) → Q (some (.ref s.heap.objs.size)) { s with heap := h' }) :
    wpAny (model prog w) A (pyNext (.ref (N + as.length + 2))) Q E s := by
  obtain ⟨vs, f0, f1, Z, hf⟩ := Z
  have hTy : s.TypeIs (.ref (N + as.length + 2)) "zip" := ⟨_, Z.z, rfl⟩
  obtain ⟨hp, g, d, tk, os⟩ := s
  unfold pyNext
  refine wpAny_bind (wpAny_attempt (wpAny_callSpecial?_slot (name := Str.ofString "__next__") hTy F.slot_zip_next
    (wpAny_call_entry F.slot_zip_next hTy F.entry_zip_next (Q := fun v s' => wpAny _ _ _ _ _ s') ?_ (F.args_zip_next_1 _))))
  rcases hf with rfl | ⟨T, f, rfl, rfl⟩
  · exact zipN_free Z n0 nz ly ha (free_none Z) fun h' T Z' e1 e2 e3 => wpAny_pure (hQ h' ⟨_, _, _, Z', .inr ⟨T, false, rfl, rfl⟩⟩ e1 e2 e3)
  · cases hT : hp.get? T with
    | none => exact zipN_free Z n0 nz ly ha (free_dead Z hT) fun h' T Z' e1 e2 e3 => wpAny_pure (hQ h' ⟨_, _, _, Z', .inr ⟨T, false, rfl, rfl⟩⟩ e1 e2 e3)
    | some oT => exact zipN_held Z n0 nz ly ha hT fun h' Z' e1 e2 e3 => wpAny_pure (hQ h' ⟨_, _, _, Z', .inr ⟨T, true, rfl, rfl⟩⟩ e1 e2 e3)
theorem pyNext_zipN_end {N i : Nat} {as : List Addr} {a : Addr} {items : Array Value} {s : Shared} {Q : Option Value → Shared → Prop} (hh : A.handled = none) (Z : ZAt N as i s.heap) (ha : as[0]? = some a) (aN : a < N) (hit : s.heap.IsTuple a items) (hx : items[i]? = none)
    (hQ : ∀ h', (∀ c o, Out N as.length c → s.heap.get? c = some o → h'.get? c = some o) → Q none { s with heap := h' }) :
    wpAny (model prog w) A (pyNext (.ref (N + as.length + 2))) Q E s := by
  obtain ⟨vs, f0, f1, Z, hf⟩ := Z
  have hTy : s.TypeIs (.ref (N + as.length + 2)) "zip" := ⟨_, Z.z, rfl⟩
  obtain ⟨hp, g, d, tk, os⟩ := s
  have fin : ∀ h' e, (∀ c o, Out N as.length c → hp.get? c = some o → h'.get? c = some o) → (∃ o, h'.get? e = some o ∧ o.cls = .type "StopIteration") → wpAny (model prog w) A (do if ← isInstance (.ref e) (.type "StopIteration") then pure none else throw (Value.ref e)) Q E ⟨h', g, d, tk, os⟩ := fun h' e hk he => by
    obtain ⟨o, ho, hc⟩ := he
    refine wpAny_bind (wpAny_isInstance (T := "StopIteration") (b := true) ⟨o, ho, hc⟩ isSubtype_stop ?_)
    exact wpAny_pure (hQ _ hk)
  unfold pyNext
  rcases hf with rfl | ⟨T, f, rfl, rfl⟩
  · refine wpAny_bind (wpAny_attempt (wpAny_callSpecial?_slot (name := Str.ofString "__next__") hTy F.slot_zip_next (wpAny_call_entry F.slot_zip_next hTy F.entry_zip_next (zipN_endF hh Z ha aN hit hx (free_none Z) fun h' e hk he => ?_) (F.args_zip_next_1 _))))
    exact fin h' e hk he
  · cases hT : hp.get? T with
    | none =>
      refine wpAny_bind (wpAny_attempt (wpAny_callSpecial?_slot (name := Str.ofString "__next__") hTy F.slot_zip_next (wpAny_call_entry F.slot_zip_next hTy F.entry_zip_next (zipN_endF hh Z ha aN hit hx (free_dead Z hT) fun h' e hk he => ?_) (F.args_zip_next_1 _))))
      exact fin h' e hk he
    | some oT =>
      refine wpAny_bind (wpAny_attempt (wpAny_callSpecial?_slot (name := Str.ofString "__next__") hTy F.slot_zip_next (wpAny_call_entry F.slot_zip_next hTy F.entry_zip_next (zipN_endH hh Z ha aN hit hx hT fun h' e hk he => ?_) (F.args_zip_next_1 _))))
      exact fin h' e hk he
end
/-! ### for x in zip(*xs), xs a list of tuples -/
theorem pyIter_zipX {prog : Program} {w : World} {A : Around} {E : Value → Shared → Prop} {s : Shared} {z TI TO : Addr} {f0 f1 : Value} {Q : Value → Shared → Prop} (hz : ZipIs s.heap z TI TO f0 f1) (h : Q (.ref z) s) : wpAny (model prog w) A (pyIter (.ref z)) Q E s := by
  have hT : s.TypeIs (.ref z) "zip" := ⟨_, hz, rfl⟩
  refine wpAny_pyIter_slot hT F.slot_zip_iter (wpAny_call_entry F.slot_zip_iter hT F.entry_zip_iter ?_ (F.args_zip_iter_1 _))
  show wpAny _ _ (ret (.ref z)) _ _ s
  exact wpAny_pure ⟨_, rfl, "zip", _, hT, F.slot_zip_next.lookup, h⟩
def ItN (K : PySem.W.Frag) (as : List Addr) : It where
  go := fun i H => ∃ zs : List V, zs.length = as.length ∧ ∀ (j : Nat) (a : Addr), as[j]? = some a → ∃ xs z, SqT K H a xs ∧ xs[i]? = some z ∧ zs[j]? = some z
  yld := fun i H v H' => ∃ (T : Addr) (zs : List V), v = .ref T ∧ H T = none ∧ H' = upd H T (.tup zs) ∧ zs.length = as.length ∧ ∀ (j : Nat) (a : Addr), as[j]? = some a → ∀ l, SqT K H a l → l[i]? = zs[j]?
  stop := fun i H => ∃ a xs, as[0]? = some a ∧ SqT K H a xs ∧ xs.length ≤ i
def ownN (N n : Nat) : List Addr := (List.range (n + 3)).map (N + ·)
theorem mem_ownN {N n : Nat} {c : Addr} (h : c ∈ ownN N n) : ∃ k, k ≤ n + 2 ∧ c = N + k := by
  obtain ⟨k, hk, rfl⟩ := List.mem_map.mp h
  exact ⟨k, by have := List.mem_range.mp hk; omega, rfl⟩
theorem in_ownN {N n k : Nat} (h : k ≤ n + 2) : (N + k : Addr) ∈ ownN N n := List.mem_map.mpr ⟨k, List.mem_range.mpr (by omega), rfl⟩
theorem out_ownN {N n : Nat} {c : Addr} (h : c ∉ ownN N n) : Out N n c := by
  rcases Nat.lt_or_ge c N with z | z
  · exact .inl z
  · rcases Nat.lt_or_ge (N + n + 2) c with y | y
    · exact .inr y
    · refine absurd ?_ h
      have := in_ownN (N := N) (n := n) (k := c - N) (by omega)
      rwa [Nat.add_sub_cancel' z] at this
theorem vals_pick {R : Nat → Value → Prop} : ∀ {zs : List V}, (∀ j z, zs[j]? = some z → ∃ u, RelV z u ∧ R j u) → ∃ ys : List Value, Vals zs ys ∧ ∀ j u, ys[j]? = some u → R j u
  | [], _ => ⟨[], .nil, fun j u e => by simp at e⟩
  | z :: zs, h => by
    obtain ⟨u, r, hu⟩ := h 0 z rfl
    obtain ⟨ys, rv, hy⟩ := vals_pick (R := fun j => R (j + 1)) (zs := zs) fun j z e => h (j + 1) z e
    refine ⟨u :: ys, .cons r rv, fun j v e => ?_⟩
    cases j with
    | zero =>
      cases e
      exact hu
    | succ j => exact hy j v e
theorem turnN {P : Program} {w : World} {K : PySem.W.Frag} {x : Str} {tpos : Pos} {N : Nat} {as : List Addr} (n0 : 0 < as.length) (nz : as.length ≤ sizeLine) (aN : ∀ a ∈ as, a < N) :
    Turn P w K (.Name x tpos) (ItN K as) (ownN N as.length) (N + as.length + 2) (ZAt N as) := by
  refine ⟨in_ownN (k := as.length + 2) (Nat.le_refl _), fun i h st q hq => ?_, fun i h h' st k => ?_, ?_, ?_, fun A i s Q E st h => ?_⟩
  · obtain ⟨vs, f0, f1, Z, _⟩ := st
    obtain ⟨k, hk, rfl⟩ := mem_ownN hq
    rcases Nat.lt_or_ge k as.length with z | z
    · obtain ⟨o, e, _, d⟩ := Z.it k as[k] (List.getElem?_eq_getElem z)
      exact ⟨o, e, fun v y => by rw [d] at y; cases y⟩
    · have hk3 : k = as.length ∨ k = as.length + 1 ∨ k = as.length + 2 := by omega
      rcases hk3 with rfl | rfl | rfl
      · exact ⟨_, Z.ti, fun v y => nomatch y⟩
      · exact ⟨_, Z.to, fun v y => nomatch y⟩
      · exact ⟨_, Z.z, fun v y => nomatch y⟩
  · obtain ⟨vs, f0, f1, Z, hf⟩ := st
    refine ⟨vs, f0, f1, Z.keep fun c o h1 h2 e => k c ?_ o e, hf⟩
    have := in_ownN (N := N) (n := as.length) (k := c - N) (by omega)
    rwa [Nat.add_sub_cancel' h1] at this
  · intro X hP hw hK hc i pins s σ H E I hf st hg
    subst hP hw hK
    obtain ⟨zs, lz, hg⟩ := hg
    obtain ⟨ys, rv, hy⟩ := vals_pick (R := fun j u => ∀ a, as[j]? = some a → ∃ items : Array Value, s.heap.IsTuple a items ∧ items[i]? = some u) (zs := zs) fun j z e => by
      have hj : j < as.length := by have := at_len e; omega
      obtain ⟨xs, z', q, e1, e2⟩ := hg j as[j] (List.getElem?_eq_getElem hj)
      have ez : z' = z := Option.some.inj (e2.symm.trans e)
      subst ez
      obtain ⟨js, r1, p1, _⟩ := I.tuple q
      obtain ⟨u, f1, m1⟩ := r1.get e1
      refine ⟨u, m1, fun a ha => ?_⟩
      have ea : as[j] = a := Option.some.inj ((List.getElem?_eq_getElem hj).symm.trans ha)
      subst ea
      exact ⟨js.toArray, p1, by simpa using f1⟩
    have ly : ys.length = as.length := by rw [← lz]; exact rv.length.symm
    refine pyNext_zipN_item st n0 nz ly (fun j a ha => ⟨aN a (List.mem_of_getElem? ha), ?_⟩) fun h' st' hT hsz hk => ?_
    · have hj : j < ys.length := by have := at_len ha; omega
      obtain ⟨items, h1, h2⟩ := hy j ys[j] (List.getElem?_eq_getElem hj) a ha
      exact ⟨items, h1, h2.trans (List.getElem?_eq_getElem hj).symm⟩
    · refine ⟨_, rfl, ?_⟩
      show wpAny _ _ (pure ()) _ _ _
      have fresh : H s.heap.objs.size = none := I.hok.fresh (Nat.le_refl _)
      have new : ObjOk X.prog X.w (upd H s.heap.objs.size (.tup zs)) h' s.heap.objs.size (.tup zs) :=
        ⟨by rw [lz]; exact nz, ys, rv, ⟨_, hT, rfl, _, rfl⟩⟩
      refine wpAny_pure ⟨.ref s.heap.objs.size, _, I.turnedNew (t' := s.toks) (ch := ownN N as.length) (fun q o nq e => hk q o (out_ownN nq) e) hf (Nat.le_refl _) new, rfl, ⟨_, zs, rfl, fresh, rfl, lz, fun j a ha l hl => ?_⟩, st', fun q hq => ?_⟩
      · obtain ⟨xs, z, q, e1, e2⟩ := hg j a ha
        rw [I.tuple_inj hl q, e1, e2]
      · obtain ⟨vs, f0, f1, Z, _⟩ := st
        have lzz : N + as.length + 2 < s.heap.objs.size := Heap.lt_size Z.z
        have lq : q < s.heap.objs.size := by
          obtain ⟨k, hk, rfl⟩ := mem_ownN hq
          exact Nat.lt_of_le_of_lt (by omega) lzz
        rw [upd_ne (Nat.ne_of_lt lq)]
        exact (hf q hq).1
  · intro X hP hw hK hc i pins s σ H E I hf st hg
    subst hP hw hK
    obtain ⟨a, xs, ha, q, hl⟩ := hg
    obtain ⟨js, r1, p1, _⟩ := I.tuple q
    have l1 := r1.length
    refine pyNext_zipN_end (I.ok.hd hc) st ha (aN a (List.mem_of_getElem? ha)) (show s.heap.IsTuple a js.toArray from p1) (by simp; omega) fun h' hk => ?_
    exact ⟨rfl, I.turnedL (t' := s.toks) (ch := ownN N as.length) (fun q o nq e => hk q o (out_ownN nq) e) hf⟩
  · obtain ⟨vs, f0, f1, Z, _⟩ := st
    exact pyIter_zipX Z.z h
theorem call_zipN {prog : Program} {w : World} {A : Around} {E : Value → Shared → Prop} {s : Shared} {as : List Addr} {Q : Value → Shared → Prop} (n0 : 0 < as.length) (nz : as.length ≤ sizeLine) (ht : ∀ a ∈ as, ∃ items, s.heap.IsTuple a items)
    (hQ : ∀ h', ZAt s.heap.objs.size as 0 h' → (∀ c o, s.heap.get? c = some o → h'.get? c = some o) → Q (.ref (s.heap.objs.size + as.length + 2)) { s with heap := h' }) : wpAny (model prog w) A (call (.type "zip") (as.map Value.ref)) Q E s := by
  obtain ⟨b, bs, rfl⟩ : ∃ b bs, as = b :: bs := by
    cases as with
    | nil => exact absurd n0 (by decide)
    | cons b bs => exact ⟨b, bs, rfl⟩
  rw [List.map_cons]
  refine callType_new F.called_zip (by decide) (typeCall_zipN _) (newCall_zipN _ _) (fun obj => args_initN obj _ _) F.entry_zip_new (meets_zip_newN (b :: bs) nz) ⟨ht, ?_⟩
  generalize b :: bs = as at *
  have z1 := pushIts_size as s.heap
  have z2 : (zipT s.heap as).objs.size = s.heap.objs.size + as.length + 1 := by unfold zipT; rw [Heap.size_push, z1]
  have z3 : (zipO s.heap as).objs.size = s.heap.objs.size + as.length + 2 := by unfold zipO; rw [Heap.size_push, z2]
  have gZ : (zipZ s.heap as).get? (zipO s.heap as).objs.size = some { cls := .type "zip", data := .fields #[.none, .bool false, .bool false, .ref (pushIts s.heap as).objs.size, .ref (zipT s.heap as).objs.size] } := Heap.get?_push_size _ rfl
  have gO : (zipZ s.heap as).get? (zipT s.heap as).objs.size = some (tupO (List.replicate as.length .none)) := Heap.get?_push_of_some _ (Heap.get?_push_size _ rfl)
  have gT : (zipZ s.heap as).get? (pushIts s.heap as).objs.size = some (tupO (refsFrom s.heap.objs.size as.length)) := Heap.get?_push_of_some _ (Heap.get?_push_of_some _ (Heap.get?_push_size _ rfl))
  have up : ∀ c o, (pushIts s.heap as).get? c = some o → (zipZ s.heap as).get? c = some o := fun c o e => Heap.get?_push_of_some _ (Heap.get?_push_of_some _ (Heap.get?_push_of_some _ e))
  rw [z3, z2, z1] at gZ
  rw [z2] at gO
  rw [z1] at gT
  refine ⟨⟨_, by rw [z3]; exact gZ, rfl⟩, ?_⟩
  rw [z3]
  exact hQ _ ⟨_, .none, .bool false, ⟨gZ, gT, List.length_replicate, gO, fun j a ha => ⟨_, up _ _ (pushIts_new as s.heap j a ha), rfl, rfl⟩⟩, .inl rfl⟩ fun c o e => up c o (pushIts_old as _ e)
def iZipN (K : PySem.W.Frag) (te : TE) : TI := fun σ H R => te σ H fun y H1 => ∃ (b : Addr) (as : List Addr), y = .ref b ∧ (SqT K H1 b (as.map V.ref) ∨ SqL K H1 b (as.map V.ref)) ∧ 0 < as.length ∧ (∀ a ∈ as, ∃ xs, SqT K H1 a xs) ∧ R (ItN K as) H1
theorem vals_refs : ∀ {as : List Addr} {us : List Value}, Vals (as.map V.ref) us → us = as.map Value.ref
  | [], _, h => by cases h; rfl
  | a :: as, _, h => by
    cases h with
    | cons r rr =>
      rw [vals_refs rr, show _ = Value.ref a from r]
      rfl
theorem pi_zipN (K : PySem.W.Frag) {X : Cx} {e : Expr} {te : TE} {p pos tpos sp : Pos} {x : Str} (hg : Gl X "zip") (hm : X.mg "zip" = none) (he : PE X e te)
    (hst : starEach [.Starred e sp] X.env = [(true, eval e X.env)] := by rfl) (hK : X.K = K := by rfl) :
    PI X (.Name x tpos) (.Call (.Name "zip" p) [.Starred e sp] [] pos) (iZipN K te) := by
  subst hK
  refine ⟨fun pins s σ H R I h => ?_⟩
  refine Call_ (ld_blt I hg hm PyProof.Rows.boot_zip ?_)
  rw [hst]
  refine PySem.W.ks_call (P := fun _ => True) rfl (fun h _ => ⟨.machine, .inr (.inl rfl), PySem.W.Looks.of_pure rfl⟩) (PySem.W.ks_lone (thn (he.run pins s σ H _ I h) fun v s1 ⟨y, H1, I1, ry, b, as, ey, hb, n0, hT, q⟩ => ?_))
  subst ey
  obtain rfl : v = Value.ref b := ry
  have lz : as.length ≤ sizeLine := by
    rcases hb with hb | hb
    · obtain ⟨_, _, _, z⟩ := I1.tuple hb
      rwa [List.length_map] at z
    · obtain ⟨_, _, _, z⟩ := I1.list hb
      rwa [List.length_map] at z
  refine StX.star_any I1 hb fun us s2 I2 rv => ⟨trivial, ?_⟩
  have eu := vals_refs rv
  subst eu
  refine call_zipN n0 lz (fun a ha => ?_) fun h' Z hk => ?_
  · obtain ⟨xs, hx⟩ := hT a ha
    obtain ⟨js, _, p1, _⟩ := I2.tuple hx
    exact ⟨js.toArray, p1⟩
  · have I3 : Inv X pins σ H1 { s2 with heap := h' } := I2.kept (t' := s2.toks) hk
    have aN : ∀ a ∈ as, a < s2.heap.objs.size := fun a ha => by
      obtain ⟨xs, hx⟩ := hT a ha
      obtain ⟨js, _, p1, _⟩ := I2.tuple hx
      obtain ⟨_, o, _⟩ := p1
      exact Heap.lt_size o
    have fr : ∀ y, s2.heap.objs.size ≤ y → FpOk X pins H1 y := fun y hle => I2.fpOk hle (I2.hok.fresh hle)
    obtain ⟨vs, f0, f1, Z0, _⟩ := id Z
    refine pyIter_zipX (s := { s2 with heap := h' }) Z0.z ?_
    exact ⟨_, ownN s2.heap.objs.size as.length, ZAt s2.heap.objs.size as, ItN X.K as, H1, rfl, I3, turnN n0 lz aN, Z, fun y hy => by
      obtain ⟨k, hk, rfl⟩ := mem_ownN hy
      exact fr _ (Nat.le_add_right _ _), q⟩
/-- all as long as one another -/
def YN (W : Nat) (xss : List (List V)) : Nat → Hp → V → Hp → Prop := fun i H v H' => ∃ (T : Addr) (zs : List V), v = .ref T ∧ H T = none ∧ H' = upd H T (.tup zs) ∧ zs.length = xss.length ∧ ∀ (j : Nat) (xs : List V), xss[j]? = some xs → xs[i]? = zs[j]?
theorem walk_zipN {K : PySem.W.Frag} {as : List Addr} {xss : List (List V)} {W : Nat} (hl : xss.length = as.length) (n0 : 0 < as.length) (hw : ∀ xs ∈ xss, xs.length = W) :
    Walk (ItN K as) W (fun H => ∀ (j : Nat) (a : Addr) (xs : List V), as[j]? = some a → xss[j]? = some xs → SqT K H a xs) (YN W xss) := by
  refine ⟨fun i H hi q => ⟨xss.map fun xs => xs.getD i .non, by rw [List.length_map, hl], fun j a ha => ?_⟩, fun H q => ?_, fun i H v H' hi q y => ?_⟩
  · have hj : j < xss.length := by have := at_len ha; omega
    have e1 := List.getElem?_eq_getElem hj
    have lx := hw _ (List.getElem_mem hj)
    have e2 : (xss[j])[i]? = some ((xss[j])[i]'(by omega)) := List.getElem?_eq_getElem (by omega)
    refine ⟨xss[j], _, q j a _ ha e1, e2, ?_⟩
    rw [List.getElem?_map, e1]
    simp only [Option.map_some]
    rw [List.getD_eq_getElem?_getD, e2]
    rfl
  · have hj : 0 < xss.length := by omega
    exact ⟨as[0], xss[0], List.getElem?_eq_getElem n0, q 0 _ _ (List.getElem?_eq_getElem n0) (List.getElem?_eq_getElem hj), by rw [hw _ (List.getElem_mem hj)]; exact Nat.le_refl _⟩
  · obtain ⟨T, zs, e1, e2, e3, e4, e5⟩ := y
    refine ⟨T, zs, e1, e2, e3, by omega, fun j xs hx => ?_⟩
    have hj : j < as.length := by have := at_len hx; omega
    exact e5 j as[j] (List.getElem?_eq_getElem hj) xs (q j _ _ (List.getElem?_eq_getElem hj) hx)
/-! ### min and max of a tuple of ints; a star in a display -/
theorem min_tup {prog : Program} {w : World} {A : Around} {E : Value → Shared → Prop} {s : Shared} {l : Addr} {its : List Value} {ns : List Int} {Q : Value → Shared → Prop} (hh : A.handled = none) (hl : s.heap.IsTuple l its.toArray) (hi : IntsAre its ns) (hne : 0 < ns.length)
    (h : ∀ h' tk M t', (∀ b o, s.heap.get? b = some o → h'.get? b = some o) → M ∈ ns → (∀ a, a ∈ ns → M ≤ a) → Q (.int M t') { s with heap := h', toks := tk }) : wpAny (model prog w) A (call (.builtin "min") [.ref l]) Q E s := by
  obtain ⟨xs, e⟩ := hi.allInts.items
  have hn : numsOf (intItems xs).toList = ns := by rw [← e]; exact hi.numsOf
  rw [nums_intItems] at hn
  subst hn
  rw [e] at hl
  have hsz : 0 < xs.size := by simpa using hne
  have lt : l < s.heap.objs.size := by obtain ⟨_, o, _⟩ := hl; exact Heap.lt_size o
  refine call_min_walk (wpAny_pyIter_tuple hl ?_)
  have hlI : l ≠ s.heap.objs.size := Nat.ne_of_lt lt
  refine ⟨_, _, _, _, _, _, _, rfl, Walks.tuple (A := A.in1) hh s.heap.objs.size l hlI (intItems xs), ⟨⟨_, Heap.get?_push_size _ rfl, rfl, rfl⟩, hl.at fun o e => Heap.get?_push_of_some _ e⟩, fun b hb => ?_, by simpa [intItems] using hsz, CmpOf.ints_lt (numAt xs) (fun _ _ => intItems_at), fun v h' tk hP hk => ?_⟩
  · show b < (s.heap.push _).objs.size
    rw [Heap.size_push]
    rcases List.mem_cons.mp hb with q | q
    · rw [q]; exact Nat.lt_succ_self _
    · rw [List.mem_singleton.mp q]; exact Nat.lt_succ_of_lt lt
  · have hP' : (intItems xs)[argBest (fun i j => decide (numAt xs i < numAt xs j)) (xs.size - 1)]? = some v := by simpa [intItems] using hP
    obtain ⟨t, rfl⟩ := intItems_at hP'
    obtain ⟨h1, h2⟩ := argBest_lt (numAt xs) (xs.size - 1)
    refine h h' tk _ t (fun b o eb => hk b o (fun hb => ?_) (Heap.get?_push_of_some _ eb)) ?_ fun a ha => ?_
    · rw [List.mem_singleton.mp hb] at eb
      exact absurd (Heap.lt_size eb) (Nat.lt_irrefl _)
    · rw [numAt_eq]; exact PySem.getD_mem (by rw [List.length_map, Array.length_toList]; omega)
    · obtain ⟨j, hj, rfl⟩ := mem_getD ha
      rw [List.length_map, Array.length_toList] at hj
      rw [← numAt_eq]; exact h2 j (by omega)
def rMinT (K : PySem.W.Frag) : List V → Hp → VK → Prop := fun vs H Q => ∃ (a : Addr) (ns : List Int), vs = [V.ref a] ∧ SqT K H a (ns.map V.int) ∧ 0 < ns.length ∧ ∀ m, m ∈ ns → (∀ y, y ∈ ns → m ≤ y) → Q (.int m) H
theorem cr_minT (K : PySem.W.Frag) {X : Cx} (hc : X.calm = true) (hK : X.K = K := by rfl) : CallR X (.builtin "min") (rMinT K) := by
  subst hK
  intro pins s σ H vs us Q I r h
  obtain ⟨a, ns, rfl, hs, hne, q⟩ := h
  obtain ⟨its, rv, hl, _⟩ := I.tuple hs
  rw [Vals.ref1 r]
  exact min_tup (I.ok.hd hc) hl rv.ints hne fun h' tk m t' hk h1 h2 => ⟨.int _, H, I.kept hk, ⟨_, rfl⟩, q m h1 h2⟩
theorem max_tup {prog : Program} {w : World} {A : Around} {E : Value → Shared → Prop} {s : Shared} {l : Addr} {its : List Value} {ns : List Int} {Q : Value → Shared → Prop} (hh : A.handled = none) (hl : s.heap.IsTuple l its.toArray) (hi : IntsAre its ns) (hne : 0 < ns.length)
    (h : ∀ h' tk M t', (∀ b o, s.heap.get? b = some o → h'.get? b = some o) → M ∈ ns → (∀ a, a ∈ ns → a ≤ M) → Q (.int M t') { s with heap := h', toks := tk }) : wpAny (model prog w) A (call (.builtin "max") [.ref l]) Q E s := by
  obtain ⟨xs, e⟩ := hi.allInts.items
  have hn : numsOf (intItems xs).toList = ns := by rw [← e]; exact hi.numsOf
  rw [nums_intItems] at hn
  subst hn
  rw [e] at hl
  have hsz : 0 < xs.size := by simpa using hne
  have lt : l < s.heap.objs.size := by obtain ⟨_, o, _⟩ := hl; exact Heap.lt_size o
  refine call_max_walk (wpAny_pyIter_tuple hl ?_)
  have hlI : l ≠ s.heap.objs.size := Nat.ne_of_lt lt
  refine ⟨_, _, _, _, _, _, _, rfl, Walks.tuple (A := A.in1) hh s.heap.objs.size l hlI (intItems xs), ⟨⟨_, Heap.get?_push_size _ rfl, rfl, rfl⟩, hl.at fun o e => Heap.get?_push_of_some _ e⟩, fun b hb => ?_, by simpa [intItems] using hsz, CmpOf.ints_gt (numAt xs) (fun _ _ => intItems_at), fun v h' tk hP hk => ?_⟩
  · show b < (s.heap.push _).objs.size
    rw [Heap.size_push]
    rcases List.mem_cons.mp hb with q | q
    · rw [q]; exact Nat.lt_succ_self _
    · rw [List.mem_singleton.mp q]; exact Nat.lt_succ_of_lt lt
  · have hP' : (intItems xs)[argBest (fun i j => decide (numAt xs i > numAt xs j)) (xs.size - 1)]? = some v := by simpa [intItems] using hP
    obtain ⟨t, rfl⟩ := intItems_at hP'
    obtain ⟨h1, h2⟩ := argBest_gt (numAt xs) (xs.size - 1)
    refine h h' tk _ t (fun b o eb => hk b o (fun hb => ?_) (Heap.get?_push_of_some _ eb)) ?_ fun a ha => ?_
    · rw [List.mem_singleton.mp hb] at eb
      exact absurd (Heap.lt_size eb) (Nat.lt_irrefl _)
    · rw [numAt_eq]; exact PySem.getD_mem (by rw [List.length_map, Array.length_toList]; omega)
    · obtain ⟨j, hj, rfl⟩ := mem_getD ha
      rw [List.length_map, Array.length_toList] at hj
      rw [← numAt_eq]; exact h2 j (by omega)
def rMaxT (K : PySem.W.Frag) : List V → Hp → VK → Prop := fun vs H Q => ∃ (a : Addr) (ns : List Int), vs = [V.ref a] ∧ SqT K H a (ns.map V.int) ∧ 0 < ns.length ∧ ∀ m, m ∈ ns → (∀ y, y ∈ ns → y ≤ m) → Q (.int m) H
theorem cr_maxT (K : PySem.W.Frag) {X : Cx} (hc : X.calm = true) (hK : X.K = K := by rfl) : CallR X (.builtin "max") (rMaxT K) := by
  subst hK
  intro pins s σ H vs us Q I r h
  obtain ⟨a, ns, rfl, hs, hne, q⟩ := h
  obtain ⟨its, rv, hl, _⟩ := I.tuple hs
  rw [Vals.ref1 r]
  exact max_tup (I.ok.hd hc) hl rv.ints hne fun h' tk m t' hk h1 h2 => ⟨.int _, H, I.kept hk, ⟨_, rfl⟩, q m h1 h2⟩
theorem pa_starK (K : PySem.W.Frag) {X : Cx} {e : Expr} {es : List Expr} {te : TE} {t : TA} {p : Pos} (he : PE X e te) (hr : PA X es t) (hs : starEach (.Starred e p :: es) X.env = (true, eval e X.env) :: starEach es X.env := by rfl) (hK : X.K = K := by rfl) : PA X (.Starred e p :: es) (StX.tStar K te t) := hK ▸ StX.pa_star he hr hs
/-! ### enumerate of a tuple -/
set_option maxHeartbeats 1000000 in
theorem meets_enumerate_newT (l : Addr) (items : Array Value) :
    Meets (Builtin.«enumerate.__new__» ⟨[.type "enumerate", .ref l], []⟩) (fun _ R s => s.heap.IsTuple l items ∧
      R (.ok (.ret (.ref (s.heap.push (itO l)).objs.size))) { s with heap := (s.heap.push (itO l)).push { cls := .type "enumerate", data := .fields #[.none, .bool false, .ref s.heap.objs.size, rawInt 0, .none, .none] } }) :=
  .of_wp fun prog w A R s h => by
    obtain ⟨hp, g, d, tk, os⟩ := s
    obtain ⟨h1, h⟩ := h
    have hsub := sub_enumerate
    have q1 : ∀ {A' : Around} {E : Value → Shared → Prop} {Q : Value → Shared → Prop}, Q (.ref hp.objs.size) ⟨(hp.push (itO l)), g, d, tk, os⟩ → wpAny (model prog w) A' (pyIter (.ref l)) Q E ⟨hp, g, d, tk, os⟩ :=
      fun q => wpAny_pyIter_tuple (s := ⟨hp, g, d, tk, os⟩) h1 q
    wp_walk
    refine wpAny_stack_any fun st => wpAny_pure ?_
    split
    · rename_i c _ _ _ _ _
      cases (c == Value.type "enumerate")
      · wp_walk using q1
        exact ⟨_, rfl, h⟩
      · wp_walk using q1
        exact ⟨_, rfl, h⟩
    · wp_walk using q1
      exact ⟨_, rfl, h⟩
theorem call_enumerate_tup {prog : Program} {w : World} {A : Around} {E : Value → Shared → Prop} {s : Shared} {l : Addr} {items : Array Value} {Q : Value → Shared → Prop} (hL : s.heap.IsTuple l items)
    (h : ∀ h', IsEnum h' (s.heap.objs.size + 1) s.heap.objs.size 0 .none → h'.IsTupleIter s.heap.objs.size l 0 → h'.objs.size = s.heap.objs.size + 2 →
      (∀ b o, s.heap.get? b = some o → h'.get? b = some o) → Q (.ref (s.heap.objs.size + 1)) { s with heap := h' }) :
    wpAny (model prog w) A (call (.type "enumerate") [.ref l]) Q E s := by
  refine callType_new F.called_enumerate (by decide) (F.typeCall_enumerate_1 _) (F.newCall_enumerate_1 _) (fun obj => F.args_object_init_2 obj _) F.entry_enumerate_new (meets_enumerate_newT l items) ⟨hL, ?_⟩
  have hz : (s.heap.push (itO l)).objs.size = s.heap.objs.size + 1 := Heap.size_push ..
  show _ ∧ _
  rw [hz]
  have he : IsEnum ((s.heap.push (itO l)).push { cls := .type "enumerate", data := .fields #[.none, .bool false, .ref s.heap.objs.size, rawInt 0, .none, .none] }) (s.heap.objs.size + 1) s.heap.objs.size 0 .none := by
    have := Heap.get?_push_size (s.heap.push (itO l)) (o := { cls := .type "enumerate", data := .fields #[.none, .bool false, .ref s.heap.objs.size, rawInt 0, .none, .none] }) rfl
    rw [hz] at this; exact this
  exact ⟨⟨_, he, rfl⟩, h _ he ⟨_, Heap.get?_push_of_some _ (Heap.get?_push_size _ rfl), rfl, rfl⟩ (by rw [Heap.size_push, hz]) fun b o x => Heap.get?_push_of_some _ (Heap.get?_push_of_some _ x)⟩
def IteT (K : PySem.W.Frag) (a : Addr) : It :=
  ⟨fun i H => ∃ (xs : List V) (x : V), SqT K H a xs ∧ xs[i]? = some x, fun i H v H' => ∃ T x, v = .ref T ∧ H T = none ∧ H' = upd H T (.tup [.int (i : Nat), x]) ∧ ∀ xs, SqT K H a xs → xs[i]? = some x, fun i H => ∃ xs : List V, SqT K H a xs ∧ xs.length = i⟩
theorem ne_itE {h : Heap} {t it l : Addr} {items : Array Value} {i : Nat} (p : h.IsTuple t items) (q : h.IsTupleIter it l i) : t ≠ it := fun e => by
  obtain ⟨o, ho, hcl, _⟩ := p
  obtain ⟨o', ho', hcl', _⟩ := q
  rw [e, ho'] at ho
  have eo := Option.some.inj ho
  rw [eo, hcl] at hcl'
  exact absurd (Value.type.inj hcl') (by decide)
theorem turn_enumT {P : Program} {w : World} {K : PySem.W.Frag} {elts : List Expr} {kk : Nat} {tpos : Pos} {a e it : Addr} (hea : e ≠ a) (hne : e ≠ it) :
    Turn P w K (.Tuple elts kk tpos) (IteT K a) [e, it] e (fun i h => (∃ old, IsEnum h e it ((i : Nat) : Int) old) ∧ h.IsTupleIter it a i) := by
  refine ⟨by simp, fun i h st b hb => ?_, fun i h h' st k => ?_, ?_, ?_, fun A i s Q E st h => ?_⟩
  · obtain ⟨⟨old, he⟩, ⟨o, ho, hc, hd⟩⟩ := st
    have e' : b = e ∨ b = it := by simpa using hb
    rcases e' with z | z
    · rw [z]; exact ⟨_, he, fun v q => nomatch q⟩
    · rw [z]; exact ⟨o, ho, fun v q => by rw [hd] at q; cases q⟩
  · obtain ⟨⟨old, he⟩, hi⟩ := st
    exact ⟨⟨old, k e (by simp) _ he⟩, hi.at fun o q => k it (by simp) o q⟩
  · intro X hP hw hK hc i pins s σ H E I hf st hg
    subst hP hw hK
    obtain ⟨⟨old, he⟩, hit⟩ := st
    obtain ⟨xs, x, hq, hx⟩ := hg
    obtain ⟨its, rv, p, hz⟩ := I.tuple hq
    obtain ⟨u, hu, ru⟩ := rv.get hx
    have hel : e < s.heap.objs.size := Heap.lt_size he
    have hil : it < s.heap.objs.size := by obtain ⟨_, q, _⟩ := hit; exact Heap.lt_size q
    have na : a ≠ it := ne_itE p hit
    have k1 : i < its.toArray.size := by have := (List.getElem?_eq_some_iff.mp hu).1; simpa using this
    have nf : e ∉ [it, a] := fun m => by
      rcases List.mem_cons.mp m with z | z
      · exact hne z
      · exact hea (List.mem_singleton.mp z)
    refine wpAny_pyNext_enum_itemD (Draws.tuple (A := X.A.in1) (I.ok.hd hc) it a na its.toArray) he ⟨hit, p⟩ k1 hne nf fun v h' tk hv ho hit' hT hsz hk => ?_
    have w1 : v = u := Option.some.inj (hv.symm.trans (by simpa using hu))
    subst w1
    refine ⟨_, rfl, wpAny_letOwnedTupleGo_enum (s := { s with heap := h', toks := tk + 1 }) ho fun h'' he' sb => ?_⟩
    have hT2 : h''.get? s.heap.objs.size = some { cls := .type "tuple", data := .seq #[.int i tk, v] } := (sb.2 _ (Nat.ne_of_gt hel)).trans hT
    have new : ObjOk X.prog X.w (upd H s.heap.objs.size (.tup [.int (i : Nat), x])) h'' s.heap.objs.size (.tup [.int (i : Nat), x]) :=
      ⟨by show 2 ≤ sizeLine; decide, [.int i tk, v], .cons ⟨_, rfl⟩ (.cons ru .nil), ⟨_, hT2, rfl, _, rfl⟩⟩
    have I1 : Inv X pins σ (upd H s.heap.objs.size (.tup [.int (i : Nat), x])) { s with heap := h'', toks := tk + 1 } :=
      I.turnedNew (ch := [e, it]) (fun b ob hb q => (sb.2 b (fun z => hb (by simp [z]))).trans (hk b ob (fun z => hb (by simp [z])) (fun z => hb (by simp [z])) q)) hf (Nat.le_refl _) new
    refine ⟨.ref s.heap.objs.size, _, I1, rfl, ⟨_, x, rfl, I.hok.fresh (Nat.le_refl _), rfl, fun ys hy => by rw [I.tuple_inj hy hq]; exact hx⟩, ⟨⟨v, ?_⟩, hit'.1.at fun o q => (sb.2 it (Ne.symm hne)).trans q⟩, fun b hb => ?_⟩
    · have e1 : ((i + 1 : Nat) : Int) = (i : Int) + 1 := by omega
      rw [e1]; exact he'
    · have hb' : b < s.heap.objs.size := by
        have e' : b = e ∨ b = it := by simpa using hb
        rcases e' with z | z
        · rw [z]; exact hel
        · rw [z]; exact hil
      rw [upd_ne (Nat.ne_of_lt hb')]
      exact (hf b hb).1
  · intro X hP hw hK hc i pins s σ H E I hf st hg
    subst hP hw hK
    obtain ⟨⟨old, he⟩, hit⟩ := st
    obtain ⟨xs, hq, hx⟩ := hg
    obtain ⟨its, rv, p, hz⟩ := I.tuple hq
    have na : a ≠ it := ne_itE p hit
    obtain ⟨f0, f1, f2, f3, f4, f5⟩ := hf it (by simp)
    have hl := rv.length
    have ei : its.toArray.size = i := by simp; omega
    exact wpAny_pyNext_enum_endD (Draws.tuple (A := X.A.in1) (I.ok.hd hc) it a na its.toArray) he (by rw [ei]; exact ⟨hit, p⟩) fun h' eb => ⟨rfl, I.turned (t' := s.toks) (fun b o hb q => eb b o hb q) f0 f1 f3 f4 f5⟩
  · obtain ⟨⟨_, he⟩, _⟩ := st
    exact wpAny_pyIter_enum he h
def iEnumT (K : PySem.W.Frag) (ta : TA) : TI := fun σ H R => ta σ H fun vs H1 => ∃ a xs, vs = [.ref a] ∧ SqT K H1 a xs ∧ R (IteT K a) H1
theorem pi_enumT (K : PySem.W.Frag) {X : Cx} {e : Expr} {ta : TA} {p pos tpos : Pos} {elts : List Expr} {kk : Nat} (hg : Gl X "enumerate") (hm : X.mg "enumerate" = none) (ha : PA X [e] ta) (hs : starEach [e] X.env = [(false, eval e X.env)] := by rfl) (hK : X.K = K := by rfl) :
    PI X (.Tuple elts kk tpos) (.Call (.Name "enumerate" p) [e] [] pos) (iEnumT K ta) := by
  subst hK
  refine ⟨fun pins s σ H R I h => ?_⟩
  refine Call_ (ld_blt I hg hm PyProof.Rows.boot_enumerate (PyProof.Rows.callWith_type1 (thn (ha.run pos pins s σ H _ I h) fun us s1 ⟨vs, H1, I1, r1, q1⟩ => ?_) hs rfl))
  obtain ⟨a, xs, ex, hq, q⟩ := q1
  subst ex
  cases r1 with
  | cons r rr =>
    cases rr
    cases r
    obtain ⟨its, rv, p', hz⟩ := I1.tuple hq
    have la : a < s1.heap.objs.size := by obtain ⟨_, o, _⟩ := p'; exact Heap.lt_size o
    refine call_enumerate_tup (show s1.heap.IsTuple a its.toArray from p') fun h' he hit hsz hk => wpAny_pyIter_enum he ?_
    have I2 : Inv X pins σ H1 { s1 with heap := h' } := I1.kept (t' := s1.toks) hk
    refine ⟨s1.heap.objs.size + 1, [s1.heap.objs.size + 1, s1.heap.objs.size], _, _, H1, rfl, I2, turn_enumT (a := a) (e := s1.heap.objs.size + 1) (it := s1.heap.objs.size) (Nat.ne_of_gt (Nat.lt_succ_of_lt la)) (Nat.succ_ne_self _), ⟨⟨.none, he⟩, hit⟩, fun b hb => ?_, q⟩
    have e' : b = s1.heap.objs.size + 1 ∨ b = s1.heap.objs.size := by simpa using hb
    have hle : s1.heap.objs.size ≤ b := by
      rcases e' with z | z
      · rw [z]; exact Nat.le_add_right _ _
      · rw [z]; exact Nat.le_refl _
    exact I1.fpOk hle (I1.hok.fresh hle)
theorem walk_enumT {K : PySem.W.Frag} {a : Addr} {xs : List V} : Walk (IteT K a) xs.length (fun H => SqT K H a xs) (YPair (fun i => some (.int (i : Nat))) (fun i => xs[i]?)) := by
  refine ⟨fun i H hi q => ⟨xs, xs[i], q, by simp⟩, fun H q => ⟨xs, q, rfl⟩, fun i H v H' _ q y => ?_⟩
  obtain ⟨T, x, e1, e2, e3, e4⟩ := y
  exact ⟨T, _, x, e1, e2, e3, rfl, e4 xs q⟩
end Z

set_option Elab.async false
set_option linter.all false
set_option maxRecDepth 100000
namespace Z
open PySem PySem.Spec PyProof.Rows L2
def topS (i : Nat) : Stmt := PySem.Challenge.pw_fewcolours_k03_boxes_of_colours.main.body.getD i (.Pass ⟨0, 0, 0, 0⟩)
abbrev s_is_number : Stmt := topS 1
abbrev N_is_number : List Str := ["thing"]
theorem sc_is_number : FnScope N_is_number ["thing"] (defScope s_is_number) := ⟨rfl, rfl, rfl, by decide +kernel, rfl, by decide +kernel, by decide +kernel⟩
abbrev s_is_colour : Stmt := topS 2
abbrev N_is_colour : List Str := ["thing", "wide", "number"]
theorem sc_is_colour : FnScope N_is_colour ["thing", "wide"] (defScope s_is_colour) := ⟨rfl, rfl, rfl, by decide +kernel, rfl, by decide +kernel, by decide +kernel⟩
abbrev s_is_box : Stmt := topS 4
abbrev N_is_box : List Str := ["thing", "wide", "low", "high", "a", "b"]
theorem sc_is_box : FnScope N_is_box ["thing", "wide"] (defScope s_is_box) := ⟨rfl, rfl, rfl, by decide +kernel, rfl, by decide +kernel, by decide +kernel⟩
abbrev s_holds : Stmt := topS 5
abbrev N_holds : List Str := ["box", "colour", "low", "high", "a", "n", "b"]
theorem sc_holds : FnScope N_holds ["box", "colour"] (defScope s_holds) := ⟨rfl, rfl, rfl, by decide +kernel, rfl, by decide +kernel, by decide +kernel⟩
abbrev s_least_numbers : Stmt := topS 6
abbrev N_least_numbers : List Str := ["colours", "numbers"]
theorem sc_least_numbers : FnScope N_least_numbers ["colours"] (defScope s_least_numbers) := ⟨rfl, rfl, rfl, by decide +kernel, rfl, by decide +kernel, by decide +kernel⟩
abbrev s_greatest_numbers : Stmt := topS 7
abbrev N_greatest_numbers : List Str := ["colours", "numbers"]
theorem sc_greatest_numbers : FnScope N_greatest_numbers ["colours"] (defScope s_greatest_numbers) := ⟨rfl, rfl, rfl, by decide +kernel, rfl, by decide +kernel, by decide +kernel⟩
abbrev s_box_of : Stmt := topS 8
abbrev N_box_of : List Str := ["colours"]
theorem sc_box_of : FnScope N_box_of ["colours"] (defScope s_box_of) := ⟨rfl, rfl, rfl, by decide +kernel, rfl, by decide +kernel, by decide +kernel⟩
abbrev s_both_boxes : Stmt := topS 9
abbrev N_both_boxes : List Str := ["one", "other"]
theorem sc_both_boxes : FnScope N_both_boxes ["one", "other"] (defScope s_both_boxes) := ⟨rfl, rfl, rfl, by decide +kernel, rfl, by decide +kernel, by decide +kernel⟩
abbrev s_l_mix : Stmt := topS 11
abbrev N_l_mix : List Str := ["_law_cell", "_law_k", "_law_m"]
theorem sc_l_mix : FnScope N_l_mix ["_law_cell", "_law_k"] (defScope s_l_mix) := ⟨rfl, rfl, rfl, by decide +kernel, rfl, by decide +kernel, by decide +kernel⟩
abbrev s_l_left : Stmt := topS 12
abbrev N_l_left : List Str := ["_law_script", "_law_k", "_law_cell"]
theorem sc_l_left : FnScope N_l_left ["_law_script", "_law_k"] (defScope s_l_left) := ⟨rfl, rfl, rfl, by decide +kernel, rfl, by decide +kernel, by decide +kernel⟩
abbrev s_l_pick : Stmt := topS 13
abbrev N_l_pick : List Str := ["_law_left_here", "_law_many", "_law_digit"]
theorem sc_l_pick : FnScope N_l_pick ["_law_left_here", "_law_many"] (defScope s_l_pick) := ⟨rfl, rfl, rfl, by decide +kernel, rfl, by decide +kernel, by decide +kernel⟩
abbrev s_l_kind : Stmt := topS 14
abbrev N_l_kind : List Str := ["_law_left_here"]
theorem sc_l_kind : FnScope N_l_kind ["_law_left_here"] (defScope s_l_kind) := ⟨rfl, rfl, rfl, by decide +kernel, rfl, by decide +kernel, by decide +kernel⟩
abbrev s_l_colour : Stmt := topS 15
abbrev N_l_colour : List Str := ["_law_left_here", "_law_kind_here", "_law_wide", "_law_span", "_law_place"]
theorem sc_l_colour : FnScope N_l_colour ["_law_left_here", "_law_kind_here"] (defScope s_l_colour) := ⟨rfl, rfl, rfl, by decide +kernel, rfl, by decide +kernel, by decide +kernel⟩
abbrev s_l_palette : Stmt := topS 16
abbrev N_l_palette : List Str := ["_law_left_here", "_law_kind_here", "_law_many", "_law_found", "_law_k", "_law_colour_here"]
theorem sc_l_palette : FnScope N_l_palette ["_law_left_here", "_law_kind_here"] (defScope s_l_palette) := ⟨rfl, rfl, rfl, by decide +kernel, rfl, by decide +kernel, by decide +kernel⟩
abbrev s_l_same : Stmt := topS 17
abbrev N_l_same : List Str := ["_law_found", "_law_due", "_law_one", "_law_other"]
theorem sc_l_same : FnScope N_l_same ["_law_found", "_law_due"] (defScope s_l_same) := ⟨rfl, rfl, rfl, by decide +kernel, rfl, by decide +kernel, by decide +kernel⟩
abbrev s_l_put_at : Stmt := topS 18
abbrev N_l_put_at : List Str := ["_law_row", "_law_k", "_law_thing"]
theorem sc_l_put_at : FnScope N_l_put_at ["_law_row", "_law_k", "_law_thing"] (defScope s_l_put_at) := ⟨rfl, rfl, rfl, by decide +kernel, rfl, by decide +kernel, by decide +kernel⟩
abbrev s_l_box : Stmt := topS 19
abbrev N_l_box : List Str := ["_law_colours", "_law_low", "_law_high", "_law_colour_here", "_law_k", "_law_number"]
theorem sc_l_box : FnScope N_l_box ["_law_colours"] (defScope s_l_box) := ⟨rfl, rfl, rfl, by decide +kernel, rfl, by decide +kernel, by decide +kernel⟩
abbrev s_l_least : Stmt := topS 20
abbrev N_l_least : List Str := ["_law_box_here", "_law_colours", "_law_wide", "_law_k", "_law_low", "_law_high", "_law_less", "_law_colour_here"]
theorem sc_l_least : FnScope N_l_least ["_law_box_here", "_law_colours", "_law_wide"] (defScope s_l_least) := ⟨rfl, rfl, rfl, by decide +kernel, rfl, by decide +kernel, by decide +kernel⟩
abbrev s_law : Stmt := topS 21
abbrev N_law : List Str := ["_law_script", "_law_k", "_law_left_here", "_law_kind_here", "_law_colours", "_law_kept", "_law_found", "_law_turned", "_law_cut", "_law_one", "_law_other", "_law_both"]
theorem sc_law : FnScope N_law ["_law_script"] (defScope s_law) := ⟨rfl, rfl, rfl, by decide +kernel, rfl, by decide +kernel, by decide +kernel⟩
structure Tx (K : PySem.W.Frag) (mg : Str → Option Value) where
  f_is_number : Addr
  d_is_number : FuncData
  F_is_number : Fun K "is_number" "is_number" s_is_number f_is_number d_is_number
  b_is_number : Binds K d_is_number ["thing"] []
  g_is_number : mg "is_number" = some (.ref f_is_number)
  f_is_colour : Addr
  d_is_colour : FuncData
  F_is_colour : Fun K "is_colour" "is_colour" s_is_colour f_is_colour d_is_colour
  b_is_colour : Binds K d_is_colour ["thing", "wide"] []
  g_is_colour : mg "is_colour" = some (.ref f_is_colour)
  f_is_box : Addr
  d_is_box : FuncData
  F_is_box : Fun K "is_box" "is_box" s_is_box f_is_box d_is_box
  b_is_box : Binds K d_is_box ["thing", "wide"] []
  g_is_box : mg "is_box" = some (.ref f_is_box)
  f_holds : Addr
  d_holds : FuncData
  F_holds : Fun K "holds" "holds" s_holds f_holds d_holds
  b_holds : Binds K d_holds ["box", "colour"] []
  g_holds : mg "holds" = some (.ref f_holds)
  f_least_numbers : Addr
  d_least_numbers : FuncData
  F_least_numbers : Fun K "least_numbers" "least_numbers" s_least_numbers f_least_numbers d_least_numbers
  b_least_numbers : Binds K d_least_numbers ["colours"] []
  g_least_numbers : mg "least_numbers" = some (.ref f_least_numbers)
  f_greatest_numbers : Addr
  d_greatest_numbers : FuncData
  F_greatest_numbers : Fun K "greatest_numbers" "greatest_numbers" s_greatest_numbers f_greatest_numbers d_greatest_numbers
  b_greatest_numbers : Binds K d_greatest_numbers ["colours"] []
  g_greatest_numbers : mg "greatest_numbers" = some (.ref f_greatest_numbers)
  f_box_of : Addr
  d_box_of : FuncData
  F_box_of : Fun K "box_of" "box_of" s_box_of f_box_of d_box_of
  b_box_of : Binds K d_box_of ["colours"] []
  g_box_of : mg "box_of" = some (.ref f_box_of)
  f_both_boxes : Addr
  d_both_boxes : FuncData
  F_both_boxes : Fun K "both_boxes" "both_boxes" s_both_boxes f_both_boxes d_both_boxes
  b_both_boxes : Binds K d_both_boxes ["one", "other"] []
  g_both_boxes : mg "both_boxes" = some (.ref f_both_boxes)
  f_l_mix : Addr
  d_l_mix : FuncData
  F_l_mix : Fun K "_law_mix" "_law_mix" s_l_mix f_l_mix d_l_mix
  b_l_mix : Binds K d_l_mix ["_law_cell", "_law_k"] []
  g_l_mix : mg "_law_mix" = some (.ref f_l_mix)
  f_l_left : Addr
  d_l_left : FuncData
  F_l_left : Fun K "_law_left" "_law_left" s_l_left f_l_left d_l_left
  b_l_left : Binds K d_l_left ["_law_script", "_law_k"] []
  g_l_left : mg "_law_left" = some (.ref f_l_left)
  f_l_pick : Addr
  d_l_pick : FuncData
  F_l_pick : Fun K "_law_pick" "_law_pick" s_l_pick f_l_pick d_l_pick
  b_l_pick : Binds K d_l_pick ["_law_left_here", "_law_many"] []
  g_l_pick : mg "_law_pick" = some (.ref f_l_pick)
  f_l_kind : Addr
  d_l_kind : FuncData
  F_l_kind : Fun K "_law_kind" "_law_kind" s_l_kind f_l_kind d_l_kind
  b_l_kind : Binds K d_l_kind ["_law_left_here"] []
  g_l_kind : mg "_law_kind" = some (.ref f_l_kind)
  f_l_colour : Addr
  d_l_colour : FuncData
  F_l_colour : Fun K "_law_colour" "_law_colour" s_l_colour f_l_colour d_l_colour
  b_l_colour : Binds K d_l_colour ["_law_left_here", "_law_kind_here"] []
  g_l_colour : mg "_law_colour" = some (.ref f_l_colour)
  f_l_palette : Addr
  d_l_palette : FuncData
  F_l_palette : Fun K "_law_palette" "_law_palette" s_l_palette f_l_palette d_l_palette
  b_l_palette : Binds K d_l_palette ["_law_left_here", "_law_kind_here"] []
  g_l_palette : mg "_law_palette" = some (.ref f_l_palette)
  f_l_same : Addr
  d_l_same : FuncData
  F_l_same : Fun K "_law_same" "_law_same" s_l_same f_l_same d_l_same
  b_l_same : Binds K d_l_same ["_law_found", "_law_due"] []
  g_l_same : mg "_law_same" = some (.ref f_l_same)
  f_l_put_at : Addr
  d_l_put_at : FuncData
  F_l_put_at : Fun K "_law_put_at" "_law_put_at" s_l_put_at f_l_put_at d_l_put_at
  b_l_put_at : Binds K d_l_put_at ["_law_row", "_law_k", "_law_thing"] []
  g_l_put_at : mg "_law_put_at" = some (.ref f_l_put_at)
  f_l_box : Addr
  d_l_box : FuncData
  F_l_box : Fun K "_law_box" "_law_box" s_l_box f_l_box d_l_box
  b_l_box : Binds K d_l_box ["_law_colours"] []
  g_l_box : mg "_law_box" = some (.ref f_l_box)
  f_l_least : Addr
  d_l_least : FuncData
  F_l_least : Fun K "_law_least" "_law_least" s_l_least f_l_least d_l_least
  b_l_least : Binds K d_l_least ["_law_box_here", "_law_colours", "_law_wide"] []
  g_l_least : mg "_law_least" = some (.ref f_l_least)
  z_abs : mg "abs" = none
  z_all : mg "all" = none
  z_bool : mg "bool" = none
  z_enumerate : mg "enumerate" = none
  z_int : mg "int" = none
  z_isinstance : mg "isinstance" = none
  z_len : mg "len" = none
  z_list : mg "list" = none
  z_max : mg "max" = none
  z_min : mg "min" = none
  z_range : mg "range" = none
  z_str : mg "str" = none
  z_tuple : mg "tuple" = none
  z_zip : mg "zip" = none
section
variable {P : Program} {w : World} {K : PySem.W.Frag} {mg : Str → Option Value} {base : Heap}
/-! ### mix -/
def spMix : Sp := fun vs H Q _ => ∃ c n : Int, vs = [.int c, .int n] ∧ 0 ≤ n ∧ n < 2000000000 ∧ ∀ r : Int, 0 ≤ r → r < 1999999973 → Q (.int r) H
theorem ok_l_mix (T : Tx K mg) {k : Nat} : FnOk P w K mg base CX0 (k + 1) T.f_l_mix T.d_l_mix ["_law_cell", "_law_k"] spMix := by
  refine T.F_l_mix.ok sc_l_mix (fun vs H Q E h => ?_) (fun cdv A outer s H vs Q E hr h => ?_)
  · obtain ⟨c, n, rfl, _⟩ := h
    rfl
  · obtain ⟨c, n, rfl, h1, h2, q⟩ := h
    refine ⟨_, (pss_cons (ps_set (i := 2) sc_l_mix.nd rfl (.inl rfl) (pe_op op_mod (pe_op op_mul (pe_op op_add (pe_op op_add (pe_op op_mod (pv 0) pe_int) (pe_op op_mul (pe_op op_mul (pv 1) (pv 1)) pe_int)) pe_int) pe_int) pe_int))
      (pss_one (ps_ret (pe_op op_mod (pe_op op_mul (pv 2) (pv 2)) pe_int)))), ?_⟩
    refine ⟨.int c, rfl, _, _, rfl, rfl, md (by decide), .int n, rfl, .int n, rfl, _, _, rfl, rfl, .inl ⟨by omega, by omega⟩, _, _, rfl, rfl, .inr ⟨by decide, by decide⟩, _, _, rfl, rfl, _, _, rfl, rfl, _, _, rfl, rfl, .inr ⟨by decide, by decide⟩, _, _, rfl, rfl, md (by decide), ?_⟩
    refine ⟨_, rfl, _, rfl, _, _, rfl, rfl, .inl ⟨?_, ?_⟩, _, _, rfl, rfl, md (by decide), ?_⟩
    · omega
    · omega
    · exact q _ (Int.emod_nonneg _ (by decide)) (Int.emod_lt_of_pos _ (by decide))
/-! ### left -/
def spLeft (K : PySem.W.Frag) : Sp := fun vs H Q _ => ∃ (a : Addr) (ns : List Int) (n : Int), vs = [.ref a, .int n] ∧ SqL K H a (ns.map V.int) ∧ 0 ≤ n ∧ ∀ (p : Addr) (x y : Int), H p = none → 0 ≤ x → Q (.ref p) (upd H p (.lst [.int x, .int y, .int 0]))
theorem left_end {c n : Int} {H : Hp} {Q : VK} (q : ∀ (p : Addr) (x y : Int), H p = none → 0 ≤ x → Q (.ref p) (upd H p (.lst [.int x, .int y, .int 0]))) (p : Addr) (hp : H p = none) (b : Bool) :
    Q (.ref p) (upd H p (.lst [.int ((if c < 0 then -c else c) * (if b = true then 1 else 0)), .int (c + 1000003 * n), .int 0])) := by
  refine q p _ _ hp ?_
  cases b <;> simp <;> split <;> omega
theorem ok_l_left (T : Tx K mg) {k : Nat} : FnOk P w K mg base CX0 (k + 1) T.f_l_left T.d_l_left ["_law_script", "_law_k"] (spLeft K) := by
  refine T.F_l_left.ok sc_l_left (fun vs H Q E h => ?_) (fun cdv A outer s H vs Q E hr h => ?_)
  · obtain ⟨a, ns, n, rfl, _⟩ := h
    rfl
  · obtain ⟨a, ns, n, rfl, hS, h1, q⟩ := h
    refine ⟨_, (pss_cons (ps_set (i := 2) sc_l_left.nd rfl (.inl rfl) (pe_ifExp (pt_cmpR op_lt (pv 1) (pe_callB (len_K K) (by rfl) T.z_len PySem.boot_len (pa_cons (pv 0) pa_nil)) (nomark _)) (pe_ix (ix_listK K) (pv 0) (pv 1) (fun _ _ => rfl)) pe_int))
      (pss_one (ps_ret (pe_lst (pa_cons (pe_op op_mul (pe_callB call_abs (by rfl) T.z_abs (by decide +kernel) (pa_cons (pv 2) pa_nil)) (pe_callTy call_int1 (by rfl) T.z_int (by decide +kernel) (pa_cons (pe_cmpR op_ge (pe_callB call_abs (by rfl) T.z_abs (by decide +kernel) (pa_cons (pv 2) pa_nil)) (pe_op op_pow pe_int pe_int) (nomark _)) pa_nil))) (pa_cons (pe_op op_add (pv 2) (pe_op op_mul pe_int (pv 1))) (pa_cons pe_int pa_nil))))))), ?_⟩
    refine ⟨_, rfl, _, rfl, a, _, rfl, .inl hS, _, _, rfl, rfl, _, rfl, ite2 (fun e => ?_) (fun e => ?_)⟩
    · have e1 : n < (ns.map V.int).length := of_decide_eq_true e
      rw [List.length_map] at e1
      have g : atI (ns.map V.int) n = some (.int (ns[n.toNat]'(by omega))) := at0 h1 (by rw [List.getElem?_map, List.getElem?_eq_getElem]; rfl)
      refine ⟨_, rfl, _, rfl, a, _, _, _, rfl, rfl, hS, g, ?_⟩
      exact ⟨_, rfl, _, rfl, _, rfl, _, rfl, _, _, rfl, rfl, ⟨by decide, by decide, by decide⟩, _, _, rfl, rfl, .inr ⟨_, rfl, _, _, rfl, rfl, .inr (bit_ok _), _, rfl, _, rfl, _, _, rfl, rfl, .inl ⟨by decide, by decide⟩, _, _, rfl, rfl, (by show 3 ≤ sizeLine; decide), fun p hp => left_end q p hp _⟩⟩
    · exact ⟨_, rfl, _, rfl, _, rfl, _, rfl, _, _, rfl, rfl, ⟨by decide, by decide, by decide⟩, _, _, rfl, rfl, .inr ⟨_, rfl, _, _, rfl, rfl, .inr (bit_ok _), _, rfl, _, rfl, _, _, rfl, rfl, .inl ⟨by decide, by decide⟩, _, _, rfl, rfl, (by show 3 ≤ sizeLine; decide), fun p hp => left_end q p hp _⟩⟩
/-! ### pick -/
def spPick : Sp := fun vs H Q _ => ∃ (L : Addr) (m : Int) (n : Nat), vs = [.ref L, .int m] ∧ Lf L H n ∧ n < 1000000000 ∧ 0 < m ∧ m < 1073741824 ∧ ∀ (r : Int) (H' : Hp), Go [L] H H' → Lf L H' (n + 1) → 0 ≤ r → r < m → Q (.int r) H'
theorem ok_l_pick (T : Tx K mg) {k : Nat} : FnOk P w K mg base CX0 (k + 2) T.f_l_pick T.d_l_pick ["_law_left_here", "_law_many"] spPick := by
  refine T.F_l_pick.ok sc_l_pick (fun vs H Q E h => ?_) (fun cdv A outer s H vs Q E hr h => ?_)
  · obtain ⟨L, m, n, rfl, _⟩ := h
    rfl
  · obtain ⟨L, m, n, rfl, ⟨a, b, c, hL, a0, c0, cn⟩, hn, m0, m1, q⟩ := h
    refine ⟨_, (pss_cons (ps_asg (pe_op op_add (pe_ix (ix_listK K) (pv 0) pe_int (fun _ _ => rfl)) pe_int) (pg_sub (pv 0) pe_int set_list))
      (pss_cons (ps_if (pt_cmpR op_gt (pe_ix (ix_listK K) (pv 0) pe_int (fun _ _ => rfl)) pe_int (nomark _)) (pss_cons (ps_set (i := 2) sc_l_pick.nd rfl (.inl rfl) (pe_op op_mod (pe_ix (ix_listK K) (pv 0) pe_int (fun _ _ => rfl)) (pv 1)))
      (pss_cons (ps_asg (pe_op op_fdiv (pe_ix (ix_listK K) (pv 0) pe_int (fun _ _ => rfl)) (pv 1)) (pg_sub (pv 0) pe_int set_list))
      (pss_one (ps_ret (pv 2))))) pss_nil)
      (pss_one (ps_ret (pe_op op_mod (pe_op op_fdiv (pe_call (ok_l_mix T (k := k)) hr (by rfl) T.g_l_mix T.F_l_mix.kp T.b_l_mix .nil pass0 (pa_cons (pe_call (ok_l_mix T (k := k)) hr (by rfl) T.g_l_mix T.F_l_mix.kp T.b_l_mix .nil pass0 (pa_cons (pe_ix (ix_listK K) (pv 0) pe_int (fun _ _ => rfl)) (pa_cons (pe_ix (ix_listK K) (pv 0) pe_int (fun _ _ => rfl)) pa_nil))) (pa_cons (pe_op op_add (pe_ix (ix_listK K) (pv 0) pe_int (fun _ _ => rfl)) pe_int) pa_nil))) pe_int) (pv 1)))))), ?_⟩
    refine ⟨_, rfl, L, _, 2, .int c, rfl, rfl, SqL.of hL, rfl, _, _, rfl, rfl, _, rfl, L, _, _, 2, rfl, rfl, hL, rfl, ?_⟩
    generalize hH : upd H L (.lst (List.set [V.int a, V.int b, V.int c] 2 (V.int (c + 1)))) = H1
    have hL1 : H1 L = some (.lst [.int a, .int b, .int (c + 1)]) := by rw [← hH]; exact upd_same
    have g1 : Go [L] H H1 := by rw [← hH]; exact Go.refl.at (List.mem_singleton.mpr rfl)
    refine ⟨_, rfl, L, _, 0, .int a, rfl, rfl, SqL.of hL1, rfl, _, _, rfl, rfl, _, rfl, ite2 (fun e => ?_) (fun e => ?_)⟩
    · have e1 : 0 < a := of_decide_eq_true e
      refine ⟨_, rfl, L, _, 0, .int a, rfl, rfl, SqL.of hL1, rfl, _, rfl, _, _, rfl, rfl, md m0, ?_⟩
      refine ⟨_, rfl, L, _, 0, .int a, rfl, rfl, SqL.of hL1, rfl, _, rfl, _, _, rfl, rfl, ⟨m0, m1⟩, _, rfl, L, _, _, 0, rfl, rfl, hL1, rfl, ?_⟩
      refine ⟨_, rfl, ?_⟩
      exact q _ _ (g1.at (List.mem_singleton.mpr rfl)) ⟨a / m, b, c + 1, upd_same, Int.ediv_nonneg a0 (by omega), by omega, by omega⟩ (Int.emod_nonneg _ (by omega)) (Int.emod_lt_of_pos _ m0)
    · refine ⟨_, rfl, L, _, 1, .int b, rfl, rfl, SqL.of hL1, rfl, _, rfl, L, _, 2, .int (c + 1), rfl, rfl, SqL.of hL1, rfl, _, _, rfl, by omega, by omega, fun r1 _ _ => ?_⟩
      refine ⟨_, rfl, L, _, 2, .int (c + 1), rfl, rfl, SqL.of hL1, rfl, _, _, rfl, rfl, _, _, rfl, by omega, by omega, fun r2 _ _ => ?_⟩
      refine ⟨_, _, rfl, rfl, ⟨by decide, by decide⟩, _, rfl, _, _, rfl, rfl, md m0, ?_⟩
      exact q _ _ g1 ⟨a, b, c + 1, hL1, a0, by omega, by omega⟩ (Int.emod_nonneg _ (by omega)) (Int.emod_lt_of_pos _ m0)
/-! ### kind -/
def spKind : Sp := fun vs H Q _ => ∃ (L : Addr) (n : Nat), vs = [.ref L] ∧ Lf L H n ∧ n < 100000000 ∧ ∀ (v : V) (H' : Hp) (wd sp : Int), Go [L] H H' → Lf L H' (n + 2) → 1 ≤ wd → wd ≤ 5 → 3 ≤ sp → sp ≤ 1000 → Dt [L] H' v (eC [wd, sp]) → Q v H'
theorem ok_l_kind (T : Tx K mg) {k : Nat} : FnOk P w K mg base CX0 (k + 3) T.f_l_kind T.d_l_kind ["_law_left_here"] spKind := by
  refine T.F_l_kind.ok sc_l_kind (fun vs H Q E h => ?_) (fun cdv A outer s H vs Q E hr h => ?_)
  · obtain ⟨L, n, rfl, _⟩ := h
    rfl
  · obtain ⟨L, n, rfl, hL, hn, q⟩ := h
    refine ⟨_, (pss_one (ps_ret (pe_tup (pa_cons (pe_ix (ix_listK K) (pe_lst (pa_cons pe_int (pa_cons pe_int (pa_cons pe_int (pa_cons pe_int (pa_cons pe_int (pa_cons pe_int (pa_cons pe_int (pa_cons pe_int pa_nil))))))))) (pe_call (ok_l_pick T (k := k)) hr (by rfl) T.g_l_pick T.F_l_pick.kp T.b_l_pick .nil pass0 (pa_cons (pv 0) (pa_cons pe_int pa_nil))) (fun _ _ => rfl)) (pa_cons (pe_ix (ix_listK K) (pe_lst (pa_cons pe_int (pa_cons pe_int (pa_cons pe_int (pa_cons pe_int (pa_cons pe_int (pa_cons pe_int pa_nil))))))) (pe_call (ok_l_pick T (k := k)) hr (by rfl) T.g_l_pick T.F_l_pick.kp T.b_l_pick .nil pass0 (pa_cons (pv 0) (pa_cons pe_int pa_nil))) (fun _ _ => rfl)) pa_nil))))), ?_⟩
    refine ⟨(by show 8 ≤ sizeLine; decide), fun p hp => ?_⟩
    refine ⟨_, rfl, L, 8, n, rfl, hL.new hp, by omega, by decide, by decide, fun r1 H1 g1 l1 a1 b1 => ?_⟩
    have e1 : H1 p = some (.lst ([1, 2, 3, 3, 3, 4, 5, 2].map V.int)) := g1.k p _ (hL.bk.ne hp) upd_same
    obtain ⟨wd, mw, ew⟩ := at_int (ns := [1, 2, 3, 3, 3, 4, 5, 2]) a1 b1
    refine ⟨p, _, r1, .int wd, rfl, rfl, SqL.of e1, ew, (by show 6 ≤ sizeLine; decide), fun p2 hp2 => ?_⟩
    refine ⟨_, rfl, L, 6, n + 1, rfl, l1.new hp2, by omega, by decide, by decide, fun r2 H2 g2 l2 a2 b2 => ?_⟩
    have e2 : H2 p2 = some (.lst ([3, 6, 20, 256, 1000, 10].map V.int)) := g2.k p2 _ (l1.bk.ne hp2) upd_same
    obtain ⟨sp, ms, es⟩ := at_int (ns := [3, 6, 20, 256, 1000, 10]) a2 b2
    refine ⟨p2, _, r2, .int sp, rfl, rfl, SqL.of e2, es, (by show 2 ≤ sizeLine; decide), fun p3 hp3 => ?_⟩
    simp at mw ms
    refine q _ _ wd sp (((((Go.new hp).trans g1).trans (Go.new hp2)).trans g2).trans (Go.new hp3)) (l2.new hp3) (by omega) (by omega) (by omega) (by omega) (Dt.ofCol (l2.bk.ne hp3) upd_same)
/-! ### colour -/
def spColour : Sp := fun vs H Q _ => ∃ (L : Addr) (B : List Addr) (n : Nat) (kv : V) (wd sp : Int), vs = [.ref L, kv] ∧ Lf L H n ∧ L ∈ B ∧ Bk B H ∧ n < 100000000 ∧ Dt [L] H kv (eC [wd, sp]) ∧ 0 ≤ wd ∧ wd ≤ 5 ∧ 1 ≤ sp ∧ sp ≤ 1000 ∧
  ∀ (v : V) (H' : Hp) (ns : List Int), Go [L] H H' → Lf L H' (n + 10) → Dt B H' v (eC ns) → (ns.length : Int) = wd → cIn 0 999 ns → Q v H'
theorem ok_l_colour (T : Tx K mg) {k : Nat} : FnOk P w K mg base CX0 (k + 3) T.f_l_colour T.d_l_colour ["_law_left_here", "_law_kind_here"] spColour := by
  refine T.F_l_colour.ok sc_l_colour (fun vs H Q E h => ?_) (fun cdv A outer s H vs Q E hr h => ?_)
  · obtain ⟨L, B, n, kv, wd, sp, rfl, _⟩ := h
    rfl
  · obtain ⟨L, B, n, kv, wd, sp, rfl, hL, LB, hB, hn, hk, w0, w1, s0, s1, q⟩ := h
    obtain ⟨ka, rfl, nk, hkT⟩ := hk.col
    refine ⟨_, (pss_cons (ps_asg (pv 1) (pg_tupK K (n := 2) rfl (pgs_cons (pg_name (i := 2) sc_l_colour.nd rfl (.inl rfl)) (pgs_cons (pg_name (i := 3) sc_l_colour.nd rfl (.inr rfl)) pgs_nil))))
      (pss_one (ps_ret (pe_callTy (tuple_K K) (by rfl) T.z_tuple (by decide +kernel) (pa_cons (pe_lc (own := [("_law_place", 4)]) (by rfl) sc_l_colour.nd (pi_range1 (by rfl) T.z_range (pa_cons (pv 2) pa_nil)) (blkOk_by (own := [("_law_place", 4)]) (N := N_l_colour) (sc := defScope s_l_colour) (by decide +kernel)) (fun _ _ _ _ _ => (pg_name (i := 4) sc_l_colour.nd rfl (.inl rfl))) (fun _ _ _ _ _ => pts_nil) (fun _ _ _ _ _ => (pe_ix (ix_listK K) (pe_lst (pa_cons (pe_call (ok_l_pick T (k := k)) hr (by rfl) T.g_l_pick T.F_l_pick.kp T.b_l_pick .nil pass0 (pa_cons (pv 0) (pa_cons (pv 3) pa_nil))) (pa_cons pe_int pa_nil))) (pe_callTy call_int1 (by rfl) T.z_int (by decide +kernel) (pa_cons (pe_cmpR op_eq (pe_call (ok_l_pick T (k := k)) hr (by rfl) T.g_l_pick T.F_l_pick.kp T.b_l_pick .nil pass0 (pa_cons (pv 0) (pa_cons pe_int pa_nil))) pe_int (nomark _)) pa_nil)) (fun _ _ => rfl)))) pa_nil))))), ?_⟩
    refine ⟨_, rfl, ka, [.int wd, .int sp], rfl, SqT.of hkT, rfl, .int wd, _, rfl, .int sp, _, rfl, rfl, ?_⟩
    refine ⟨_, rfl, wd, rfl, by omega, by omega, fun D hD => ?_⟩
    refine lc_range (lo := 0) (n := wd.toNat) (fun i H' => ∃ ns : List Int, ns.length = i ∧ cIn 0 999 ns ∧ Go [L] H H' ∧ Lf L H' (n + 2 * i) ∧ H' D = some (.lst (ns.map V.int)))
      ⟨[], rfl, cIn.nil, Go.new hD, hL.new hD, upd_same⟩ (fun i H1 hi h1 => ?_) (fun H1 h1 => ?_)
    · obtain ⟨ns, en, cn, g, l, eD⟩ := h1
      have nD : D ∉ [L] := hL.bk.ne hD
      refine ⟨rfl, lc_yes ?_⟩
      refine ⟨_, rfl, _, rfl, L, sp, n + 2 * i, rfl, l, by omega, by omega, by omega, fun r1 H2 g2 l2 a1 b1 => ?_⟩
      refine ⟨(by show 2 ≤ sizeLine; decide), fun p hp => ?_⟩
      refine ⟨_, rfl, L, 8, n + 2 * i + 1, rfl, l2.new hp, by omega, by decide, by decide, fun r2 H3 g3 l3 a2 b2 => ?_⟩
      have e3 : H3 p = some (.lst [.int r1, .int 999]) := g3.k p _ (l2.bk.ne hp) upd_same
      refine ⟨rfl, .inr ⟨_, rfl, p, _, _, _, rfl, rfl, SqL.of e3, at2 _ _ _, ns.map V.int, ?_⟩⟩
      have gg : Go [L] H1 H3 := (g2.trans (Go.new hp)).trans g3
      obtain ⟨x, ex, x0, x1⟩ : ∃ x : Int, (if decide (V.int r2 = V.int 0) = true then V.int 999 else V.int r1) = .int x ∧ 0 ≤ x ∧ x ≤ 999 := by
        by_cases hb : decide (V.int r2 = V.int 0) = true
        · rw [if_pos hb]
          exact ⟨999, rfl, by decide, by decide⟩
        · rw [if_neg hb]
          exact ⟨r1, rfl, by omega, by omega⟩
      refine ⟨gg.k D _ nD eD, sz (by rw [List.length_map]; omega), ns ++ [x], ?_, cn.app x0 x1, (g.trans gg).mut hD, (l3.up (hL.ne hD)).mono (by omega), ?_⟩
      · rw [List.length_append]
        simp
        omega
      · rw [upd_same, List.map_append, ex]
        rfl
    · obtain ⟨ns, en, cn, g, l, eD⟩ := h1
      refine ⟨D, _, rfl, .inl ⟨SqL.of eD, fun t ht => ?_⟩⟩
      exact q _ _ ns (g.trans (Go.new ht)) ((l.new ht).mono (by omega)) (Dt.ofCol ((hB.go g).ne ht) upd_same) (by omega) cn
/-! ### same -/
def spSame : Nat → Sp
  | 0 => fun _ _ _ _ => False
  | k + 1 => fun vs H Q _ => ∃ (B : List Addr) (x y : V) (d : PyData), vs = [x, y] ∧ Dt B H x d ∧ Dt B H y d ∧ Sh d k ∧ k ≤ 60 ∧ ∀ H', Same H H' → Q (.bl true) H'
theorem kT {K : PySem.W.Frag} : PySem.W.kitAny K (.type "tuple") [.type "list", .type "tuple"] = some true := kitAny_cons (b := false) (kit_ty (by decide +kernel)) (fun _ => kitAny_cons (b := true) (kit_ty (by decide +kernel)) (fun h => Bool.noConfusion h) (fun _ => rfl)) (fun h => Bool.noConfusion h)
theorem kL {K : PySem.W.Frag} : PySem.W.kitAny K (.type "list") [.type "list", .type "tuple"] = some true := kitAny_cons (b := true) (kit_ty (by decide +kernel)) (fun h => Bool.noConfusion h) (fun _ => rfl)
theorem kF {K : PySem.W.Frag} {t : String} (h1 : kitB t "list" = some false) (h2 : kitB t "tuple" = some false) : PySem.W.kitAny K (.type t) [.type "list", .type "tuple"] = some false :=
  kitAny_cons (kit_ty (b := "list") h1) (fun _ => kitAny_cons (kit_ty (b := "tuple") h2) (fun _ => kitAny_nil) (fun h => nomatch h)) (fun h => nomatch h)
theorem eqv_sh {d : PyData} {k : Nat} (h : Sh d k) : PyData.eqv d d = true := SeqAt.eqv_refl d h.1
theorem allT : ∀ n : Nat, (List.range n).filterMap (fun _ => some (PyData.bool true)) = (List.replicate n true).map PyData.bool
  | 0 => rfl
  | n + 1 => by
    rw [List.range_succ, List.filterMap_append, allT n, List.replicate_succ', List.map_append]
    rfl
theorem same_all (T : Tx K mg) (k : Nat) : FnOk P w K mg base CX0 k T.f_l_same T.d_l_same ["_law_found", "_law_due"] (spSame k) := by
  induction k with
  | zero => exact ⟨fun _ _ _ _ h => h.elim, fun _ _ _ _ _ _ _ _ _ _ _ _ _ h => h.elim⟩
  | succ k GS =>
    refine T.F_l_same.ok sc_l_same (fun vs H Q E h => ?_) (fun cdv A outer s H vs Q E hr h => ?_)
    · obtain ⟨B, x, y, d, rfl, _⟩ := h
      rfl
    · obtain ⟨B, x, y, d, rfl, hx, hy, hd, k60, q⟩ := h
      have hrS := hr
      refine ⟨_, (pss_cons (ps_if (pt_val (pe_callB (call_isiTK K) (by rfl) T.z_isinstance (by decide +kernel) (pa_cons (pv 1) (pa_cons (pe_tup (pa_cons (pe_bltn (v := .ty "list") (by rfl) T.z_list (by decide +kernel) rfl) (pa_cons (pe_bltn (v := .ty "tuple") (by rfl) T.z_tuple (by decide +kernel) rfl) pa_nil))) pa_nil)))) (pss_cons (ps_if (PW.pt (pw_or (pt_cmpR op_ne (pe_callB (call_isiK1 K) (by rfl) T.z_isinstance (by decide +kernel) (pa_cons (pv 0) (pa_cons (pe_bltn (v := .ty "list") (by rfl) T.z_list (by decide +kernel) rfl) pa_nil))) (pe_callB (call_isiK1 K) (by rfl) T.z_isinstance (by decide +kernel) (pa_cons (pv 1) (pa_cons (pe_bltn (v := .ty "list") (by rfl) T.z_list (by decide +kernel) rfl) pa_nil))) (nomark _)) (pw_or1 (pt_cmpR op_ne (pe_callB (call_isiK1 K) (by rfl) T.z_isinstance (by decide +kernel) (pa_cons (pv 0) (pa_cons (pe_bltn (v := .ty "tuple") (by rfl) T.z_tuple (by decide +kernel) rfl) pa_nil))) (pe_callB (call_isiK1 K) (by rfl) T.z_isinstance (by decide +kernel) (pa_cons (pv 1) (pa_cons (pe_bltn (v := .ty "tuple") (by rfl) T.z_tuple (by decide +kernel) rfl) pa_nil))) (nomark _))))) (pss_one (ps_ret pe_bl)) pss_nil)
      (pss_one (ps_ret (pe_and (pe_cmpR op_eq (pe_callB (len_K K) (by rfl) T.z_len PySem.boot_len (pa_cons (pv 0) pa_nil)) (pe_callB (len_K K) (by rfl) T.z_len PySem.boot_len (pa_cons (pv 1) pa_nil)) (nomark _)) (pe_one (pe_callB (cr_allK K rfl) (by rfl) T.z_all (by decide +kernel) (pa_cons (pe_lc (own := [("_law_one", 2), ("_law_other", 3)]) (by rfl) sc_l_same.nd (RZ.pi_zipA (by rfl) T.z_zip (pa_cons (pv 0) (pa_cons (pv 1) pa_nil))) (blkOk_by (own := [("_law_one", 2), ("_law_other", 3)]) (N := N_l_same) (sc := defScope s_l_same) (by decide +kernel)) (fun _ _ _ _ _ => (pg_tupK K (n := 2) rfl (pgs_cons (pg_name (i := 2) sc_l_same.nd rfl (.inl rfl)) (pgs_cons (pg_name (i := 3) sc_l_same.nd rfl (.inl rfl)) pgs_nil)))) (fun _ _ _ _ _ => pts_nil) (fun _ _ _ _ _ => (pe_call GS hrS (by rfl) T.g_l_same T.F_l_same.kp T.b_l_same .nil pass0 (pa_cons (pv 2) (pa_cons (pv 3) pa_nil))))) pa_nil))))))) pss_nil)
      (pss_cons (ps_if (PW.pt (pw_or (pt_cmpR op_isN (pv 1) pe_non (nomark _)) (pw_or1 (pt_val (pe_callB (call_isiK1 K) (by rfl) T.z_isinstance (by decide +kernel) (pa_cons (pv 1) (pa_cons (pe_bltn (v := .ty "str") (by rfl) T.z_str (by decide +kernel) rfl) pa_nil))))))) (pss_one (ps_ret (pe_and (pe_cmpR (op_eqDK K hr.units) (pv 0) (pv 1) (nomark _)) (pe_one (pe_cmpR op_eq (pe_callB (call_isiK1 K) (by rfl) T.z_isinstance (by decide +kernel) (pa_cons (pv 0) (pa_cons (pe_bltn (v := .ty "str") (by rfl) T.z_str (by decide +kernel) rfl) pa_nil))) (pe_callB (call_isiK1 K) (by rfl) T.z_isinstance (by decide +kernel) (pa_cons (pv 1) (pa_cons (pe_bltn (v := .ty "str") (by rfl) T.z_str (by decide +kernel) rfl) pa_nil))) (nomark _)))))) pss_nil)
      (pss_cons (ps_if (pt_val (pe_callB (call_isiK1 K) (by rfl) T.z_isinstance (by decide +kernel) (pa_cons (pv 1) (pa_cons (pe_bltn (v := .ty "bool") (by rfl) T.z_bool (by decide +kernel) rfl) pa_nil)))) (pss_one (ps_ret (pe_and (pe_callB (call_isiK1 K) (by rfl) T.z_isinstance (by decide +kernel) (pa_cons (pv 0) (pa_cons (pe_bltn (v := .ty "bool") (by rfl) T.z_bool (by decide +kernel) rfl) pa_nil))) (pe_one (pe_cmpR (op_eqDK K hr.units) (pv 0) (pv 1) (nomark _)))))) pss_nil)
      (pss_one (ps_ret (pe_and (pe_callB (call_isiK1 K) (by rfl) T.z_isinstance (by decide +kernel) (pa_cons (pv 0) (pa_cons (pe_bltn (v := .ty "int") (by rfl) T.z_int (by decide +kernel) rfl) pa_nil))) (pe_and (pe_not (pe_callB (call_isiK1 K) (by rfl) T.z_isinstance (by decide +kernel) (pa_cons (pv 0) (pa_cons (pe_bltn (v := .ty "bool") (by rfl) T.z_bool (by decide +kernel) rfl) pa_nil)))) (pe_one (pe_cmpR (op_eqDK K hr.units) (pv 0) (pv 1) (nomark _)))))))))), ?_⟩
      refine ⟨_, rfl, (by show 2 ≤ sizeLine; decide), fun tp htp => ?_⟩
      have s1 : Same H (upd H tp (.tup [.ty "list", .ty "tuple"])) := sm_new htp
      have hx1 := hx.s s1
      have hy1 := hy.s s1
      have hT : (upd H tp (.tup [.ty "list", .ty "tuple"])) tp = some (.tup [.ty "list", .ty "tuple"]) := upd_same
      generalize upd H tp (.tup [.ty "list", .ty "tuple"]) = H1 at *
      cases d with
      | list ds =>
        have tx : TyX K H1 x (.type "list") := hx1.ty
        have ty : TyX K H1 y (.type "list") := hy1.ty
        refine ⟨y, tp, _, _, [.type "list", .type "tuple"], true, rfl, hT, .cons (.ty _) (.cons (.ty _) .nil), ty, kL, true, rfl, iteT ?_⟩
        refine ⟨_, rfl, _, _, _, _, true, rfl, .ty _, tx, kit_ty (by decide +kernel), _, rfl, _, _, _, _, true, rfl, .ty _, ty, kit_ty (by decide +kernel), rfl, _, rfl, iteNS rfl ?_⟩
        refine ⟨_, rfl, _, _, _, _, false, rfl, .ty _, tx, kit_ty (by decide +kernel), _, rfl, _, _, _, _, false, rfl, .ty _, ty, kit_ty (by decide +kernel), rfl, _, rfl, iteNS rfl ?_⟩
        obtain ⟨a, xs, rfl, na, ha, hA⟩ := hx1.lstI
        obtain ⟨b, ys, rfl, nb, hb, hB⟩ := hy1.lstI
        have l1 := hA.len
        have l2 := hB.len
        refine ⟨_, rfl, a, _, rfl, .inl (SqL.of ha), _, rfl, b, _, rfl, .inl (SqL.of hb), rfl, _, rfl, iteD (by rw [l1, l2]) ?_⟩
        refine ⟨_, rfl, _, rfl, a, b, _, _, rfl, .inl ⟨SqL.of ha, SqL.of hb, fun D hD => ?_⟩⟩
        obtain ⟨j, rfl, hs, hl⟩ := hd.lstI
        refine lc_pure (B := []) (walk_zip (n := ds.length) (xs := xs) (ys := ys) (by rw [l1, l2, Nat.min_self])) hD (fun _ h => nomatch h) (fun H' s' => ⟨SqL.of (s' _ _ ha), SqL.of (s' _ _ hb)⟩) hl
          (fun i => some (.bool true)) (fun i x H' H'' Ny Nn hi s2 bk y ky kn => ?_) (fun H' ws s2 eD hW => ?_)
        · obtain ⟨t, x, y, rfl, ht, rfl, e1, e2⟩ := y
          obtain ⟨d1, f1, g1⟩ := hA.getV e1
          obtain ⟨d2, f2, g2⟩ := hB.getV e2
          have ed : d1 = d2 := Option.some.inj (f1.symm.trans f2)
          subst ed
          refine ⟨t, [x, y], rfl, SqT.of upd_same, rfl, x, _, rfl, y, _, rfl, rfl, rfl, lc_yes ?_⟩
          refine ⟨_, rfl, _, rfl, B, x, y, d1, rfl, (g1.s s2).s (sm_new ht), (g2.s s2).s (sm_new ht), hs _ (List.mem_of_getElem? f1), by omega, fun H3 s3 => ?_⟩
          exact ky _ _ _ rfl ((sm_new ht).trans s3) (.bl _)
        · rw [allT] at hW
          refine ⟨D, _, rfl, SqL.of (by rw [eD, hW.blsV]), ?_⟩
          rw [show (List.replicate ds.length true).all id = true by simp]
          exact q _ (s1.trans s2)
      | tuple ds =>
        have tx : TyX K H1 x (.type "tuple") := hx1.ty
        have ty : TyX K H1 y (.type "tuple") := hy1.ty
        refine ⟨y, tp, _, _, [.type "list", .type "tuple"], true, rfl, hT, .cons (.ty _) (.cons (.ty _) .nil), ty, kT, true, rfl, iteT ?_⟩
        refine ⟨_, rfl, _, _, _, _, false, rfl, .ty _, tx, kit_ty (by decide +kernel), _, rfl, _, _, _, _, false, rfl, .ty _, ty, kit_ty (by decide +kernel), rfl, _, rfl, iteNS rfl ?_⟩
        refine ⟨_, rfl, _, _, _, _, true, rfl, .ty _, tx, kit_ty (by decide +kernel), _, rfl, _, _, _, _, true, rfl, .ty _, ty, kit_ty (by decide +kernel), rfl, _, rfl, iteNS rfl ?_⟩
        obtain ⟨a, xs, rfl, na, ha, hA⟩ := hx1.tupI
        obtain ⟨b, ys, rfl, nb, hb, hB⟩ := hy1.tupI
        have l1 := hA.len
        have l2 := hB.len
        refine ⟨_, rfl, a, _, rfl, .inr (SqT.of ha), _, rfl, b, _, rfl, .inr (SqT.of hb), rfl, _, rfl, iteD (by rw [l1, l2]) ?_⟩
        refine ⟨_, rfl, _, rfl, a, b, _, _, rfl, .inr ⟨SqT.of ha, SqT.of hb, fun D hD => ?_⟩⟩
        obtain ⟨j, rfl, hs, hl⟩ := hd.tupI
        refine lc_pure (B := []) (walk_zipT (n := ds.length) (xs := xs) (ys := ys) (by rw [l1, l2, Nat.min_self])) hD (fun _ h => nomatch h) (fun H' s' => ⟨SqT.of (s' _ _ ha), SqT.of (s' _ _ hb)⟩) hl
          (fun i => some (.bool true)) (fun i x H' H'' Ny Nn hi s2 bk y ky kn => ?_) (fun H' ws s2 eD hW => ?_)
        · obtain ⟨t, x, y, rfl, ht, rfl, e1, e2⟩ := y
          obtain ⟨d1, f1, g1⟩ := hA.getV e1
          obtain ⟨d2, f2, g2⟩ := hB.getV e2
          have ed : d1 = d2 := Option.some.inj (f1.symm.trans f2)
          subst ed
          refine ⟨t, [x, y], rfl, SqT.of upd_same, rfl, x, _, rfl, y, _, rfl, rfl, rfl, lc_yes ?_⟩
          refine ⟨_, rfl, _, rfl, B, x, y, d1, rfl, (g1.s s2).s (sm_new ht), (g2.s s2).s (sm_new ht), hs _ (List.mem_of_getElem? f1), by omega, fun H3 s3 => ?_⟩
          exact ky _ _ _ rfl ((sm_new ht).trans s3) (.bl _)
        · rw [allT] at hW
          refine ⟨D, _, rfl, SqL.of (by rw [eD, hW.blsV]), ?_⟩
          rw [show (List.replicate ds.length true).all id = true by simp]
          exact q _ (s1.trans s2)
      | none =>
        have tx : TyX K H1 x (.type "NoneType") := hx1.ty
        have ty : TyX K H1 y (.type "NoneType") := hy1.ty
        refine ⟨y, tp, _, _, [.type "list", .type "tuple"], false, rfl, hT, .cons (.ty _) (.cons (.ty _) .nil), ty, kF (by decide +kernel) (by decide +kernel), false, rfl, iteF ?_⟩
        have ey : y = .non := by cases hy1; rfl
        subst ey
        refine ⟨_, rfl, rfl, _, rfl, iteD rfl ?_⟩
        refine iteT ?_
        refine ⟨_, rfl, _, rfl, _, _, hx1.dP, hy1.dP, hd.sh (by omega), hd.sh (by omega), _, rfl, iteE (eqv_sh hd) ?_⟩
        refine ⟨_, rfl, _, _, _, _, false, rfl, .ty _, tx, kit_ty (by decide +kernel), _, rfl, _, _, _, _, false, rfl, .ty _, ty, kit_ty (by decide +kernel), rfl, ?_⟩
        exact q _ s1
      | bool b =>
        have tx : TyX K H1 x (.type "bool") := hx1.ty
        have ty : TyX K H1 y (.type "bool") := hy1.ty
        refine ⟨y, tp, _, _, [.type "list", .type "tuple"], false, rfl, hT, .cons (.ty _) (.cons (.ty _) .nil), ty, kF (by decide +kernel) (by decide +kernel), false, rfl, iteF ?_⟩
        have ey : y = .bl b := by cases hy1; rfl
        subst ey
        refine ⟨_, rfl, rfl, _, rfl, iteN (decide_eq_false (fun h => nomatch h)) ?_⟩
        refine ⟨_, rfl, _, _, _, _, false, rfl, .ty _, ty, kit_ty (by decide +kernel), _, rfl, iteF ?_⟩
        refine ⟨_, rfl, _, _, _, _, true, rfl, .ty _, ty, kit_ty (by decide +kernel), _, rfl, iteT ?_⟩
        refine ⟨_, rfl, _, _, _, _, true, rfl, .ty _, tx, kit_ty (by decide +kernel), _, rfl, iteT ?_⟩
        refine ⟨_, rfl, _, rfl, _, _, hx1.dP, hy1.dP, hd.sh (by omega), hd.sh (by omega), ?_⟩
        rw [eqv_sh hd]
        exact q _ s1
      | int i =>
        have tx : TyX K H1 x (.type "int") := hx1.ty
        have ty : TyX K H1 y (.type "int") := hy1.ty
        refine ⟨y, tp, _, _, [.type "list", .type "tuple"], false, rfl, hT, .cons (.ty _) (.cons (.ty _) .nil), ty, kF (by decide +kernel) (by decide +kernel), false, rfl, iteF ?_⟩
        have ey := hy1.intI
        subst ey
        refine ⟨_, rfl, rfl, _, rfl, iteN (decide_eq_false (fun h => nomatch h)) ?_⟩
        refine ⟨_, rfl, _, _, _, _, false, rfl, .ty _, ty, kit_ty (by decide +kernel), _, rfl, iteF ?_⟩
        refine ⟨_, rfl, _, _, _, _, false, rfl, .ty _, ty, kit_ty (by decide +kernel), _, rfl, iteF ?_⟩
        refine ⟨_, rfl, _, _, _, _, true, rfl, .ty _, tx, kit_ty (by decide +kernel), _, rfl, iteT ?_⟩
        refine ⟨_, rfl, _, _, _, _, false, rfl, .ty _, tx, kit_ty (by decide +kernel), _, rfl, _, rfl, iteT ?_⟩
        refine ⟨_, rfl, _, rfl, _, _, hx1.dP, hy1.dP, hd.sh (by omega), hd.sh (by omega), ?_⟩
        rw [eqv_sh hd]
        exact q _ s1
      | str z =>
        have tx : TyX K H1 x (.type "str") := hx1.ty
        have ty : TyX K H1 y (.type "str") := hy1.ty
        refine ⟨y, tp, _, _, [.type "list", .type "tuple"], false, rfl, hT, .cons (.ty _) (.cons (.ty _) .nil), ty, kF (by decide +kernel) (by decide +kernel), false, rfl, iteF ?_⟩
        have ey : y = .str z := by cases hy1; rfl
        subst ey
        refine ⟨_, rfl, rfl, _, rfl, iteN (decide_eq_false (fun h => nomatch h)) ?_⟩
        refine ⟨_, rfl, _, _, _, _, true, rfl, .ty _, ty, kit_ty (by decide +kernel), _, rfl, iteT ?_⟩
        refine ⟨_, rfl, _, rfl, _, _, hx1.dP, hy1.dP, hd.sh (by omega), hd.sh (by omega), _, rfl, iteE (eqv_sh hd) ?_⟩
        refine ⟨_, rfl, _, _, _, _, true, rfl, .ty _, tx, kit_ty (by decide +kernel), _, rfl, _, _, _, _, true, rfl, .ty _, ty, kit_ty (by decide +kernel), rfl, ?_⟩
        exact q _ s1
      | dict kvs => cases hx
theorem ok_l_same (T : Tx K mg) {k : Nat} : FnOk P w K mg base CX0 (k + 1) T.f_l_same T.d_l_same ["_law_found", "_law_due"] (spSame (k + 1)) := same_all T (k + 1)
/-! ### numbers and colours of any data -/
def isNum : PyData → Bool
  | .int _ => true
  | _ => false
def isCol (d : PyData) (n : Int) : Bool := match d with
  | .tuple ds => decide ((ds.length : Int) = n) && ds.all isNum
  | _ => false
def spNum : Sp := fun vs H Q _ => ∃ (B : List Addr) (v : V) (d : PyData), vs = [v] ∧ Dt B H v d ∧ Q (.bl (isNum d)) H
def spIsCol : Sp := fun vs H Q _ => ∃ (B : List Addr) (v : V) (d : PyData) (n : Int) (j : Nat), vs = [v, .int n] ∧ Dt B H v d ∧ Sh d j ∧ j ≤ 60 ∧ ∀ H', Same H H' → Q (.bl (isCol d n)) H'
theorem fm_bind {α β : Type} (ds : List α) (f : α → Option β) : (List.range ds.length).filterMap (fun i => (ds[i]?).bind f) = ds.filterMap f := by
  have h := List.filterMap_filterMap (f := fun i : Nat => ds[i]?) (g := f) (l := List.range ds.length)
  rw [fm_all rfl] at h
  exact h.symm
theorem isCol_no {ds : List PyData} {n : Int} (h : (ds.length : Int) ≠ n) : isCol (.tuple ds) n = false := by
  unfold isCol
  simp [h]
theorem isCol_yes {ds : List PyData} {n : Int} (h : (ds.length : Int) = n) : isCol (.tuple ds) n = ds.all isNum := by
  unfold isCol
  simp [h]
theorem ok_is_number (T : Tx K mg) {k : Nat} : FnOk P w K mg base CX0 (k + 1) T.f_is_number T.d_is_number ["thing"] spNum := by
  refine T.F_is_number.ok sc_is_number (fun vs H Q E h => ?_) (fun cdv A outer s H vs Q E hr h => ?_)
  · obtain ⟨B, v, d, rfl, _⟩ := h
    rfl
  · obtain ⟨B, v, d, rfl, hv, q⟩ := h
    refine ⟨_, (pss_one (ps_ret (pe_and (pe_callB (call_isiK1 K) (by rfl) T.z_isinstance (by decide +kernel) (pa_cons (pv 0) (pa_cons (pe_bltn (v := .ty "int") (by rfl) T.z_int (by decide +kernel) rfl) pa_nil))) (pe_one (pe_not (pe_callB (call_isiK1 K) (by rfl) T.z_isinstance (by decide +kernel) (pa_cons (pv 0) (pa_cons (pe_bltn (v := .ty "bool") (by rfl) T.z_bool (by decide +kernel) rfl) pa_nil)))))))), ?_⟩
    cases d with
    | none =>
      have tx : TyX K H v (.type "NoneType") := hv.ty
      exact ⟨_, rfl, _, _, _, _, false, rfl, .ty _, tx, kit_ty (by decide +kernel), _, rfl, iteF q⟩
    | bool b =>
      have tx : TyX K H v (.type "bool") := hv.ty
      exact ⟨_, rfl, _, _, _, _, true, rfl, .ty _, tx, kit_ty (by decide +kernel), _, rfl, iteT ⟨_, rfl, _, _, _, _, true, rfl, .ty _, tx, kit_ty (by decide +kernel), _, rfl, q⟩⟩
    | int i =>
      have tx : TyX K H v (.type "int") := hv.ty
      exact ⟨_, rfl, _, _, _, _, true, rfl, .ty _, tx, kit_ty (by decide +kernel), _, rfl, iteT ⟨_, rfl, _, _, _, _, false, rfl, .ty _, tx, kit_ty (by decide +kernel), _, rfl, q⟩⟩
    | str z =>
      have tx : TyX K H v (.type "str") := hv.ty
      exact ⟨_, rfl, _, _, _, _, false, rfl, .ty _, tx, kit_ty (by decide +kernel), _, rfl, iteF q⟩
    | list ds =>
      have tx : TyX K H v (.type "list") := hv.ty
      exact ⟨_, rfl, _, _, _, _, false, rfl, .ty _, tx, kit_ty (by decide +kernel), _, rfl, iteF q⟩
    | tuple ds =>
      have tx : TyX K H v (.type "tuple") := hv.ty
      exact ⟨_, rfl, _, _, _, _, false, rfl, .ty _, tx, kit_ty (by decide +kernel), _, rfl, iteF q⟩
    | dict kvs => cases hv
theorem ok_is_colour (T : Tx K mg) {k : Nat} : FnOk P w K mg base CX0 (k + 2) T.f_is_colour T.d_is_colour ["thing", "wide"] spIsCol := by
  refine T.F_is_colour.ok sc_is_colour (fun vs H Q E h => ?_) (fun cdv A outer s H vs Q E hr h => ?_)
  · obtain ⟨B, v, d, n, j, rfl, _⟩ := h
    rfl
  · obtain ⟨B, v, d, n, j, rfl, hv, hd, hj, q⟩ := h
    refine ⟨_, (pss_cons (ps_if (PW.pt (pw_or (pt_not (pt_val (pe_callB (call_isiK1 K) (by rfl) T.z_isinstance (by decide +kernel) (pa_cons (pv 0) (pa_cons (pe_bltn (v := .ty "tuple") (by rfl) T.z_tuple (by decide +kernel) rfl) pa_nil))))) (pw_or1 (pt_cmpR op_ne (pe_callB (len_K K) (by rfl) T.z_len PySem.boot_len (pa_cons (pv 0) pa_nil)) (pv 1) (nomark _))))) (pss_one (ps_ret pe_bl)) pss_nil)
      (pss_one (ps_ret (pe_callB (cr_allK K rfl) (by rfl) T.z_all (by decide +kernel) (pa_cons (pe_lc (own := [("number", 2)]) (by rfl) sc_is_colour.nd (pi_tupK K (pv 0)) (blkOk_by (own := [("number", 2)]) (N := N_is_colour) (sc := defScope s_is_colour) (by decide +kernel)) (fun _ _ _ _ _ => (pg_name (i := 2) sc_is_colour.nd rfl (.inl rfl))) (fun _ _ _ _ _ => pts_nil) (fun _ _ _ _ _ => (pe_call (ok_is_number T (k := k)) hr (by rfl) T.g_is_number T.F_is_number.kp T.b_is_number .nil pass0 (pa_cons (pv 2) pa_nil)))) pa_nil))))), ?_⟩
    cases d with
    | tuple ds =>
      have tx : TyX K H v (.type "tuple") := hv.ty
      obtain ⟨a, xs, rfl, na, ha, hA⟩ := hv.tupI
      have l1 := hA.len
      obtain ⟨j, rfl, hs, hl⟩ := hd.tupI
      refine ⟨_, rfl, _, _, _, _, true, rfl, .ty _, tx, kit_ty (by decide +kernel), _, rfl, iteF ?_⟩
      refine ⟨_, rfl, a, _, rfl, .inr (SqT.of ha), _, rfl, rfl, _, rfl, ite2 (fun e => ?_) (fun e => ?_)⟩
      · have e1 : (ds.length : Int) ≠ n := fun z => by
          rw [l1, z] at e
          simp at e
        have := q _ (Same.refl _)
        rw [isCol_no e1] at this
        exact this
      have el : (ds.length : Int) = n := by
        rw [l1] at e
        simpa using e
      refine ⟨_, rfl, a, rfl, ⟨_, SqT.of ha⟩, fun D hD => ?_⟩
      refine lc_pure (B := []) (walk_tup (xs := xs)) hD (fun _ h => nomatch h) (fun H' s' => SqT.of (s' _ _ ha)) (by omega)
        (fun i => (ds.map fun d => PyData.bool (isNum d))[i]?) (fun i x H' H'' Ny Nn hi t1 bk y ky kn => ?_) (fun H8 ws s8 eS hW => ?_)
      · obtain ⟨rfl, y⟩ := y
        obtain ⟨d1, f1, h1⟩ := hA.getV y
        refine ⟨rfl, lc_yes ⟨_, rfl, B, x, d1, rfl, h1.s t1, ?_⟩⟩
        exact ky _ _ _ (by rw [List.getElem?_map, f1]; rfl) (Same.refl _) (.bl _)
      · rw [fm_all (by simp; omega)] at hW
        have hW2 : DtA [D] H8 ws ((ds.map isNum).map PyData.bool) := by rw [List.map_map]; exact hW
        refine ⟨D, _, rfl, SqL.of (by rw [eS, hW2.blsV]), ?_⟩
        rw [show (ds.map isNum).all id = isCol (.tuple ds) n by rw [isCol_yes el, List.all_map]; rfl]
        exact q _ s8
    | none =>
      have tx : TyX K H v (.type "NoneType") := hv.ty
      exact ⟨_, rfl, _, _, _, _, false, rfl, .ty _, tx, kit_ty (by decide +kernel), _, rfl, iteT (iteT (q _ (Same.refl _)))⟩
    | bool b =>
      have tx : TyX K H v (.type "bool") := hv.ty
      exact ⟨_, rfl, _, _, _, _, false, rfl, .ty _, tx, kit_ty (by decide +kernel), _, rfl, iteT (iteT (q _ (Same.refl _)))⟩
    | int i =>
      have tx : TyX K H v (.type "int") := hv.ty
      exact ⟨_, rfl, _, _, _, _, false, rfl, .ty _, tx, kit_ty (by decide +kernel), _, rfl, iteT (iteT (q _ (Same.refl _)))⟩
    | str z =>
      have tx : TyX K H v (.type "str") := hv.ty
      exact ⟨_, rfl, _, _, _, _, false, rfl, .ty _, tx, kit_ty (by decide +kernel), _, rfl, iteT (iteT (q _ (Same.refl _)))⟩
    | list ds =>
      have tx : TyX K H v (.type "list") := hv.ty
      exact ⟨_, rfl, _, _, _, _, false, rfl, .ty _, tx, kit_ty (by decide +kernel), _, rfl, iteT (iteT (q _ (Same.refl _)))⟩
    | dict kvs => cases hv
/-! ### boxes of any data -/
def leL (a b : List Int) : Bool := (a.zip b).all fun p => decide (p.1 ≤ p.2)
def leD : PyData → PyData → Bool
  | .tuple ls, .tuple hs => (ls.zip hs).all fun p => match p with
    | (.int x, .int y) => decide (x ≤ y)
    | _ => false
  | _, _ => false
def isBox (d : PyData) (n : Int) : Bool := match d with
  | .tuple [l, h] => isCol l n && (isCol h n && leD l h)
  | _ => false
theorem isBox_eq (l h : PyData) (n : Int) : isBox (.tuple [l, h]) n = (isCol l n && (isCol h n && leD l h)) := rfl
theorem leD_eC : ∀ a b : List Int, leD (eC a) (eC b) = leL a b := by
  intro a b
  unfold leD eC leL
  simp only [List.zip_map, List.all_map]
  rfl
theorem isCol_inv {d : PyData} {n : Int} (h : isCol d n = true) : ∃ ns : List Int, d = eC ns ∧ (ns.length : Int) = n := by
  cases d with
  | tuple ds =>
    unfold isCol at h
    have h1 := Bool.and_eq_true_iff.mp h
    have h2 : (ds.length : Int) = n := of_decide_eq_true h1.1
    obtain ⟨ns, e⟩ : ∃ ns : List Int, ds = ns.map PyData.int := by
      clear h h2
      replace h1 := h1.2
      induction ds with
      | nil => exact ⟨[], rfl⟩
      | cons d ds ih =>
        rw [List.all_cons] at h1
        have h3 := Bool.and_eq_true_iff.mp h1
        obtain ⟨ns, e⟩ := ih h3.2
        cases d with
        | int i => exact ⟨i :: ns, by rw [List.map_cons, ← e]⟩
        | _ => exact absurd h3.1 (by simp [isNum])
    subst e
    rw [List.length_map] at h2
    exact ⟨ns, rfl, h2⟩
  | _ => exact absurd h (by simp [isCol])
theorem isBox_len {ds : List PyData} {n : Int} (h : ds.length ≠ 2) : isBox (.tuple ds) n = false := by
  match ds, h with
  | [], _ => rfl
  | [_], _ => rfl
  | [_, _], h => exact absurd rfl h
  | _ :: _ :: _ :: _, _ => rfl
theorem two_of {ds : List PyData} (h : ds.length = 2) : ∃ l u, ds = [l, u] := by
  match ds, h with
  | [l, u], _ => exact ⟨l, u, rfl⟩
theorem DtA.two {B : List Addr} {H : Hp} {vs : List V} {l u : PyData} (h : DtA B H vs [l, u]) : ∃ x y, vs = [x, y] ∧ Dt B H x l ∧ Dt B H y u := by
  cases h with
  | cons h1 h2 =>
    cases h2 with
    | cons h3 h4 =>
      cases h4
      exact ⟨_, _, rfl, h1, h3⟩
theorem leL_iff : ∀ {a b : List Int}, a.length = b.length → (leL a b = true ↔ ∀ (i : Nat) (x y : Int), a[i]? = some x → b[i]? = some y → x ≤ y)
  | [], [], _ => ⟨fun _ i x y h => by simp at h, fun _ => rfl⟩
  | x :: a, y :: b, h => by
    have ih := leL_iff (a := a) (b := b) (by simpa using h)
    unfold leL at ih ⊢
    rw [List.zip_cons_cons, List.all_cons, Bool.and_eq_true_iff, ih]
    constructor
    · rintro ⟨h1, h2⟩ i u v hu hv
      cases i with
      | zero =>
        cases hu
        cases hv
        exact of_decide_eq_true h1
      | succ i => exact h2 i u v hu hv
    · intro h1
      exact ⟨decide_eq_true (h1 0 x y rfl rfl), fun i u v hu hv => h1 (i + 1) u v hu hv⟩
def spIsBox : Sp := fun vs H Q _ => ∃ (B : List Addr) (v : V) (d : PyData) (n : Int) (j : Nat), vs = [v, .int n] ∧ Dt B H v d ∧ Sh d j ∧ j ≤ 60 ∧ n ≤ 1000 ∧ ∀ H', Same H H' → Q (.bl (isBox d n)) H'
theorem ok_is_box (T : Tx K mg) {k : Nat} : FnOk P w K mg base CX0 (k + 3) T.f_is_box T.d_is_box ["thing", "wide"] spIsBox := by
  refine T.F_is_box.ok sc_is_box (fun vs H Q E h => ?_) (fun cdv A outer s H vs Q E hr h => ?_)
  · obtain ⟨B, v, d, n, j, rfl, _⟩ := h
    rfl
  · obtain ⟨B, v, d, n, j, rfl, hv, hd, hj, hn, q⟩ := h
    refine ⟨_, (pss_cons (ps_if (PW.pt (pw_or (pt_not (pt_val (pe_callB (call_isiK1 K) (by rfl) T.z_isinstance (by decide +kernel) (pa_cons (pv 0) (pa_cons (pe_bltn (v := .ty "tuple") (by rfl) T.z_tuple (by decide +kernel) rfl) pa_nil))))) (pw_or1 (pt_cmpR op_ne (pe_callB (len_K K) (by rfl) T.z_len PySem.boot_len (pa_cons (pv 0) pa_nil)) pe_int (nomark _))))) (pss_one (ps_ret pe_bl)) pss_nil)
      (pss_cons (ps_asg (pv 0) (pg_tupK K (n := 2) rfl (pgs_cons (pg_name (i := 2) sc_is_box.nd rfl (.inl rfl)) (pgs_cons (pg_name (i := 3) sc_is_box.nd rfl (.inl rfl)) pgs_nil))))
      (pss_cons (ps_if (PW.pt (pw_or (pt_not (pt_val (pe_call (ok_is_colour T (k := k)) hr (by rfl) T.g_is_colour T.F_is_colour.kp T.b_is_colour .nil pass0 (pa_cons (pv 2) (pa_cons (pv 1) pa_nil))))) (pw_or1 (pt_not (pt_val (pe_call (ok_is_colour T (k := k)) hr (by rfl) T.g_is_colour T.F_is_colour.kp T.b_is_colour .nil pass0 (pa_cons (pv 3) (pa_cons (pv 1) pa_nil)))))))) (pss_one (ps_ret pe_bl)) pss_nil)
      (pss_one (ps_ret (pe_callB (cr_allK K rfl) (by rfl) T.z_all (by decide +kernel) (pa_cons (pe_lc (own := [("a", 4), ("b", 5)]) (by rfl) sc_is_box.nd (RZ.pi_zipA (by rfl) T.z_zip (pa_cons (pv 2) (pa_cons (pv 3) pa_nil))) (blkOk_by (own := [("a", 4), ("b", 5)]) (N := N_is_box) (sc := defScope s_is_box) (by decide +kernel)) (fun _ _ _ _ _ => (pg_tupK K (n := 2) rfl (pgs_cons (pg_name (i := 4) sc_is_box.nd rfl (.inl rfl)) (pgs_cons (pg_name (i := 5) sc_is_box.nd rfl (.inl rfl)) pgs_nil)))) (fun _ _ _ _ _ => pts_nil) (fun _ _ _ _ _ => (pe_cmpR op_le (pv 4) (pv 5) (nomark _)))) pa_nil))))))), ?_⟩
    cases d with
    | tuple ds =>
      have tx : TyX K H v (.type "tuple") := hv.ty
      obtain ⟨a, xs, rfl, na, ha, hA⟩ := hv.tupI
      have l1 := hA.len
      obtain ⟨j, rfl, hs, hl⟩ := hd.tupI
      refine ⟨_, rfl, _, _, _, _, true, rfl, .ty _, tx, kit_ty (by decide +kernel), _, rfl, iteF ?_⟩
      refine ⟨_, rfl, a, _, rfl, .inr (SqT.of ha), rfl, _, rfl, ite2 (fun e => ?_) (fun e => ?_)⟩
      · have e1 : ds.length ≠ 2 := fun z => by
          rw [l1, z] at e
          exact absurd e (by decide)
        have := q _ (Same.refl _)
        rw [isBox_len e1] at this
        exact this
      have el : ds.length = 2 := by
        rw [l1] at e
        have : ((ds.length : Nat) : Int) = 2 := by simpa using e
        omega
      obtain ⟨dl, dh, rfl⟩ := two_of el
      obtain ⟨lv, hv2, rfl, dlo, dhi⟩ := hA.two
      refine ⟨_, rfl, a, _, rfl, SqT.of ha, rfl, _, _, rfl, _, _, rfl, rfl, ?_⟩
      refine ⟨_, rfl, _, rfl, B, lv, dl, n, j, rfl, dlo, hs _ (by simp), by omega, fun H1 s1 => ?_⟩
      refine ⟨_, rfl, ?_⟩
      cases c1 : isCol dl n with
      | false => exact iteT (iteT (by
          have := q _ s1
          rw [show isBox (.tuple [dl, dh]) n = false by rw [isBox_eq, c1]; rfl] at this
          exact this))
      | true =>
        refine iteF ?_
        refine ⟨_, rfl, _, rfl, B, hv2, dh, n, j, rfl, dhi.s s1, hs _ (by simp), by omega, fun H2 s2 => ?_⟩
        refine ⟨_, rfl, ?_⟩
        have t2 := s1.trans s2
        cases c2 : isCol dh n with
        | false => exact iteT (by
            have := q _ t2
            rw [show isBox (.tuple [dl, dh]) n = false by rw [isBox_eq, c1, c2]; rfl] at this
            exact this)
        | true =>
          refine iteF ?_
          obtain ⟨lo, rfl, n1⟩ := isCol_inv c1
          obtain ⟨hi, rfl, n2⟩ := isCol_inv c2
          obtain ⟨la, rfl, _, ela⟩ := (dlo.s t2).col
          obtain ⟨ua, rfl, _, eua⟩ := (dhi.s t2).col
          refine ⟨_, rfl, _, rfl, la, ua, _, _, rfl, .inr ⟨SqT.of ela, SqT.of eua, fun D hD => ?_⟩⟩
          refine lc_pure (B := []) (walk_zipT (n := lo.length) (xs := lo.map V.int) (ys := hi.map V.int) (by simp; omega)) hD (fun _ h => nomatch h) (fun H' s' => ⟨SqT.of (s' _ _ ela), SqT.of (s' _ _ eua)⟩) (by omega)
            (fun i => ((lo.zip hi).map fun p => PyData.bool (decide (p.1 ≤ p.2)))[i]?) (fun i x H' H'' Ny Nn hi' t1 bk y ky kn => ?_) (fun H8 ws s8 eS hW => ?_)
          · obtain ⟨t, x, y, rfl, ht, rfl, e1, e2⟩ := y
            have i2 : i < hi.length := by omega
            have x1 := mat hi' e1
            have x2 := mat i2 e2
            refine ⟨t, [x, y], rfl, SqT.of upd_same, rfl, x, _, rfl, y, _, rfl, rfl, rfl, lc_yes ?_⟩
            refine ⟨_, rfl, _, rfl, _, _, x1, x2, ?_⟩
            refine ky _ _ _ ?_ (sm_new ht) (.bl _)
            rw [List.getElem?_map, List.getElem?_eq_getElem (by simp; omega)]
            simp
          · rw [fm_all (by simp; omega)] at hW
            have hW2 : DtA [D] H8 ws (((lo.zip hi).map fun p => decide (p.1 ≤ p.2)).map PyData.bool) := by rw [List.map_map]; exact hW
            refine ⟨D, _, rfl, SqL.of (by rw [eS, hW2.blsV]), ?_⟩
            rw [show ((lo.zip hi).map fun p => decide (p.1 ≤ p.2)).all id = isBox (.tuple [eC lo, eC hi]) n by
              rw [isBox_eq, c1, c2, leD_eC, List.all_map]
              rfl]
            exact q _ (t2.trans s8)
    | none =>
      have tx : TyX K H v (.type "NoneType") := hv.ty
      exact ⟨_, rfl, _, _, _, _, false, rfl, .ty _, tx, kit_ty (by decide +kernel), _, rfl, iteT (iteT (q _ (Same.refl _)))⟩
    | bool b =>
      have tx : TyX K H v (.type "bool") := hv.ty
      exact ⟨_, rfl, _, _, _, _, false, rfl, .ty _, tx, kit_ty (by decide +kernel), _, rfl, iteT (iteT (q _ (Same.refl _)))⟩
    | int i =>
      have tx : TyX K H v (.type "int") := hv.ty
      exact ⟨_, rfl, _, _, _, _, false, rfl, .ty _, tx, kit_ty (by decide +kernel), _, rfl, iteT (iteT (q _ (Same.refl _)))⟩
    | str z =>
      have tx : TyX K H v (.type "str") := hv.ty
      exact ⟨_, rfl, _, _, _, _, false, rfl, .ty _, tx, kit_ty (by decide +kernel), _, rfl, iteT (iteT (q _ (Same.refl _)))⟩
    | list ds =>
      have tx : TyX K H v (.type "list") := hv.ty
      exact ⟨_, rfl, _, _, _, _, false, rfl, .ty _, tx, kit_ty (by decide +kernel), _, rfl, iteT (iteT (q _ (Same.refl _)))⟩
    | dict kvs => cases hv
/-! ### holds -/
def hF (lo c hi : List Int) (i : Nat) : Bool := decide (lo.getD i 0 ≤ c.getD i 0) && decide (c.getD i 0 ≤ hi.getD i 0)
def hol (lo c hi : List Int) : Bool := (List.range c.length).all (hF lo c hi)
theorem getD_of {ns : List Int} {i : Nat} (h : i < ns.length) : ns.getD i 0 = ns[i] := by
  rw [List.getD_eq_getElem?_getD, List.getElem?_eq_getElem h]
  rfl
theorem fm_some {α : Type} (f : Nat → α) : ∀ n : Nat, (List.range n).filterMap (fun i => some (f i)) = (List.range n).map f := fun n => by
  rw [← List.filterMap_eq_map]
  rfl
def spHolds : Sp := fun vs H Q _ => ∃ (B : List Addr) (bv cv : V) (lo hi c : List Int), vs = [bv, cv] ∧ Dt B H bv (.tuple [eC lo, eC hi]) ∧ Dt B H cv (eC c) ∧ lo.length = c.length ∧ hi.length = c.length ∧ c.length ≤ 100 ∧ ∀ H', Same H H' → Q (.bl (hol lo c hi)) H'
theorem ok_holds (T : Tx K mg) {k : Nat} : FnOk P w K mg base CX0 (k + 1) T.f_holds T.d_holds ["box", "colour"] spHolds := by
  refine T.F_holds.ok sc_holds (fun vs H Q E h => ?_) (fun cdv A outer s H vs Q E hr h => ?_)
  · obtain ⟨B, bv, cv, lo, hi, c, rfl, _⟩ := h
    rfl
  · obtain ⟨B, bv, cv, lo, hi, c, rfl, hb, hc, l1, l2, lz, q⟩ := h
    obtain ⟨ba, bvs, rfl, nba, ebx, hbA⟩ := hb.tupI
    obtain ⟨lv, hv, rfl, dlo, dhi⟩ := hbA.two
    obtain ⟨la, rfl, nla, elo⟩ := dlo.col
    obtain ⟨ha, rfl, nha, ehi⟩ := dhi.col
    obtain ⟨ca, rfl, nca, ec⟩ := hc.col
    refine ⟨_, (pss_cons (ps_asg (pv 0) (pg_tupK K (n := 2) rfl (pgs_cons (pg_name (i := 2) sc_holds.nd rfl (.inl rfl)) (pgs_cons (pg_name (i := 3) sc_holds.nd rfl (.inl rfl)) pgs_nil))))
      (pss_one (ps_ret (pe_callB (cr_allK K rfl) (by rfl) T.z_all (by decide +kernel) (pa_cons (pe_lc (own := [("a", 4), ("n", 5), ("b", 6)]) (by rfl) sc_holds.nd (pi_zip3 K (by rfl) T.z_zip (pa_cons (pv 2) (pa_cons (pv 1) (pa_cons (pv 3) pa_nil)))) (blkOk_by (own := [("a", 4), ("n", 5), ("b", 6)]) (N := N_holds) (sc := defScope s_holds) (by decide +kernel)) (fun _ _ _ _ _ => (pg_tupK K (n := 3) rfl (pgs_cons (pg_name (i := 4) sc_holds.nd rfl (.inl rfl)) (pgs_cons (pg_name (i := 5) sc_holds.nd rfl (.inl rfl)) (pgs_cons (pg_name (i := 6) sc_holds.nd rfl (.inl rfl)) pgs_nil))))) (fun _ _ _ _ _ => pts_nil) (fun _ _ _ _ _ => (pe_chain op_le op_le (pv 4) (pv 5) (pv 6)))) pa_nil))))), ?_⟩
    refine ⟨_, rfl, ba, _, rfl, SqT.of ebx, rfl, _, _, rfl, _, _, rfl, rfl, ?_⟩
    refine ⟨_, rfl, _, rfl, _, rfl, la, ca, ha, _, _, _, rfl, SqT.of elo, SqT.of ec, SqT.of ehi, fun D hD => ?_⟩
    refine lc_pure (B := []) (walk_zip3 (xs := lo.map V.int) (ys := c.map V.int) (ts := hi.map V.int) (by simp; omega) (by simp; omega)) hD (fun _ h => nomatch h) (fun H' s' => ⟨SqT.of (s' _ _ elo), SqT.of (s' _ _ ec), SqT.of (s' _ _ ehi)⟩) (by rw [List.length_map]; omega)
      (fun i => some (PyData.bool (hF lo c hi i))) (fun i x H' H'' Ny Nn hi' t1 bk y ky kn => ?_) (fun H8 ws s8 eS hW => ?_)
    · obtain ⟨t, x, y, z, rfl, ht, rfl, e1, e2, e3⟩ := y
      rw [List.length_map] at hi'
      have i2 : i < c.length := by omega
      have i3 : i < hi.length := by omega
      have x1 := mat hi' e1
      have x2 := mat i2 e2
      have x3 := mat i3 e3
      have ef : hF lo c hi i = (decide (lo[i] ≤ c[i]) && decide (c[i] ≤ hi[i])) := by
        unfold hF
        rw [getD_of hi', getD_of i2, getD_of i3]
      refine ⟨t, [x, y, z], rfl, SqT.of upd_same, rfl, x, _, rfl, y, _, rfl, z, _, rfl, rfl, rfl, lc_yes ?_⟩
      refine ⟨_, rfl, _, rfl, _, _, x1, x2, _, rfl, ite2 (fun e => ?_) (fun e => ?_)⟩
      · refine ⟨_, rfl, _, _, x2, x3, ?_⟩
        refine ky _ _ _ rfl (sm_new ht) ?_
        rw [ef, e]
        exact .bl _
      · refine ky _ _ _ rfl (sm_new ht) ?_
        rw [ef, Bool.eq_false_iff.mpr e]
        exact .bl _
    · rw [List.length_map, fm_some] at hW
      have hW2 : DtA [D] H8 ws (((List.range lo.length).map (hF lo c hi)).map PyData.bool) := by rw [List.map_map]; exact hW
      refine ⟨D, _, rfl, SqL.of (by rw [eS, hW2.blsV]), ?_⟩
      rw [show ((List.range lo.length).map (hF lo c hi)).all id = hol lo c hi by unfold hol; rw [List.all_map, l1]; rfl]
      exact q _ s8
/-! ### the least and the greatest -/
def Lo (ns : List Int) (m : Int) : Prop := m ∈ ns ∧ ∀ y ∈ ns, m ≤ y
def Hi (ns : List Int) (m : Int) : Prop := m ∈ ns ∧ ∀ y ∈ ns, y ≤ m
theorem Lo.one {ns : List Int} {a b : Int} (h1 : Lo ns a) (h2 : Lo ns b) : a = b := by
  have := h1.2 b h2.1
  have := h2.2 a h1.1
  omega
theorem Hi.one {ns : List Int} {a b : Int} (h1 : Hi ns a) (h2 : Hi ns b) : a = b := by
  have := h1.2 b h2.1
  have := h2.2 a h1.1
  omega
def minL : List Int → Int
  | [] => 0
  | [x] => x
  | x :: y :: xs => if x ≤ minL (y :: xs) then x else minL (y :: xs)
def maxL : List Int → Int
  | [] => 0
  | [x] => x
  | x :: y :: xs => if maxL (y :: xs) ≤ x then x else maxL (y :: xs)
theorem minL_lo : ∀ {ns : List Int}, 0 < ns.length → Lo ns (minL ns)
  | [x], _ => ⟨List.mem_singleton.mpr rfl, fun y hy => by rw [List.mem_singleton.mp hy]; exact Int.le_refl _⟩
  | x :: y :: xs, _ => by
    have ih := minL_lo (ns := y :: xs) (by simp)
    show Lo _ (if x ≤ minL (y :: xs) then x else minL (y :: xs))
    by_cases h : x ≤ minL (y :: xs)
    · rw [if_pos h]
      refine ⟨List.mem_cons_self .., fun z hz => ?_⟩
      rcases List.mem_cons.mp hz with e | e
      · omega
      · have := ih.2 z e; omega
    · rw [if_neg h]
      refine ⟨List.mem_cons_of_mem _ ih.1, fun z hz => ?_⟩
      rcases List.mem_cons.mp hz with e | e
      · omega
      · exact ih.2 z e
theorem maxL_hi : ∀ {ns : List Int}, 0 < ns.length → Hi ns (maxL ns)
  | [x], _ => ⟨List.mem_singleton.mpr rfl, fun y hy => by rw [List.mem_singleton.mp hy]; exact Int.le_refl _⟩
  | x :: y :: xs, _ => by
    have ih := maxL_hi (ns := y :: xs) (by simp)
    show Hi _ (if maxL (y :: xs) ≤ x then x else maxL (y :: xs))
    by_cases h : maxL (y :: xs) ≤ x
    · rw [if_pos h]
      refine ⟨List.mem_cons_self .., fun z hz => ?_⟩
      rcases List.mem_cons.mp hz with e | e
      · omega
      · have := ih.2 z e; omega
    · rw [if_neg h]
      refine ⟨List.mem_cons_of_mem _ ih.1, fun z hz => ?_⟩
      rcases List.mem_cons.mp hz with e | e
      · omega
      · exact ih.2 z e
/-- the numbers at a place -/
def colP (cs : List (List Int)) (p : Nat) : List Int := cs.map fun c => c.getD p 0
def boxLo (cs : List (List Int)) (wd : Nat) : List Int := (List.range wd).map fun p => minL (colP cs p)
def boxHi (cs : List (List Int)) (wd : Nat) : List Int := (List.range wd).map fun p => maxL (colP cs p)
theorem boxLo_len (cs : List (List Int)) (wd : Nat) : (boxLo cs wd).length = wd := by unfold boxLo; rw [List.length_map, List.length_range]
theorem boxHi_len (cs : List (List Int)) (wd : Nat) : (boxHi cs wd).length = wd := by unfold boxHi; rw [List.length_map, List.length_range]
theorem boxLo_at {cs : List (List Int)} {wd p : Nat} (h0 : 0 < cs.length) (hp : p < wd) : ∃ m, (boxLo cs wd)[p]? = some m ∧ (boxLo cs wd).getD p 0 = m ∧ Lo (colP cs p) m := by
  have e : (boxLo cs wd)[p]? = some (minL (colP cs p)) := by unfold boxLo; rw [List.getElem?_map, List.getElem?_range hp]; rfl
  refine ⟨_, e, ?_, minL_lo (by unfold colP; rw [List.length_map]; exact h0)⟩
  rw [List.getD_eq_getElem?_getD, e]
  rfl
theorem boxHi_at {cs : List (List Int)} {wd p : Nat} (h0 : 0 < cs.length) (hp : p < wd) : ∃ m, (boxHi cs wd)[p]? = some m ∧ (boxHi cs wd).getD p 0 = m ∧ Hi (colP cs p) m := by
  have e : (boxHi cs wd)[p]? = some (maxL (colP cs p)) := by unfold boxHi; rw [List.getElem?_map, List.getElem?_range hp]; rfl
  refine ⟨_, e, ?_, maxL_hi (by unfold colP; rw [List.length_map]; exact h0)⟩
  rw [List.getD_eq_getElem?_getD, e]
  rfl
theorem list_at {a b : List Int} (hl : a.length = b.length) (h : ∀ p, p < a.length → a.getD p 0 = b.getD p 0) : a = b := by
  refine List.ext_getElem hl fun i h1 h2 => ?_
  have := h i h1
  rw [List.getD_eq_getElem?_getD, List.getElem?_eq_getElem h1, List.getD_eq_getElem?_getD, List.getElem?_eq_getElem h2] at this
  exact this
theorem boxLo_eq {ls : List Int} {cs : List (List Int)} {wd : Nat} (h0 : 0 < cs.length) (hl : ls.length = wd) (h : ∀ p, p < wd → Lo (colP cs p) (ls.getD p 0)) : ls = boxLo cs wd := by
  refine list_at (by rw [boxLo_len]; exact hl) fun p hp => ?_
  obtain ⟨m, _, e, q⟩ := boxLo_at (wd := wd) (p := p) h0 (by omega)
  rw [e]
  exact (h p (by omega)).one q
theorem boxHi_eq {ls : List Int} {cs : List (List Int)} {wd : Nat} (h0 : 0 < cs.length) (hl : ls.length = wd) (h : ∀ p, p < wd → Hi (colP cs p) (ls.getD p 0)) : ls = boxHi cs wd := by
  refine list_at (by rw [boxHi_len]; exact hl) fun p hp => ?_
  obtain ⟨m, _, e, q⟩ := boxHi_at (wd := wd) (p := p) h0 (by omega)
  rw [e]
  exact (h p (by omega)).one q
theorem mem_colP {cs : List (List Int)} {p : Nat} {y : Int} : y ∈ colP cs p ↔ ∃ c ∈ cs, c.getD p 0 = y := by
  unfold colP
  exact List.mem_map
/-- of the same colours the same box -/
theorem boxLo_same {cs ds : List (List Int)} {wd : Nat} (h0 : 0 < cs.length) (h : ∀ c, c ∈ cs ↔ c ∈ ds) : boxLo cs wd = boxLo ds wd := by
  have h1 : 0 < ds.length := by
    cases cs with
    | nil => exact absurd h0 (by decide)
    | cons c cs => exact List.length_pos_of_mem ((h c).mp (List.mem_cons_self ..))
  refine boxLo_eq h1 (boxLo_len _ _) fun p hp => ?_
  obtain ⟨m, _, e, q⟩ := boxLo_at (wd := wd) (p := p) h0 hp
  rw [e]
  refine ⟨?_, fun y hy => q.2 y ?_⟩
  · obtain ⟨c, hc, e⟩ := mem_colP.mp q.1
    exact mem_colP.mpr ⟨c, (h c).mp hc, e⟩
  · obtain ⟨c, hc, e⟩ := mem_colP.mp hy
    exact mem_colP.mpr ⟨c, (h c).mpr hc, e⟩
theorem boxHi_same {cs ds : List (List Int)} {wd : Nat} (h0 : 0 < cs.length) (h : ∀ c, c ∈ cs ↔ c ∈ ds) : boxHi cs wd = boxHi ds wd := by
  have h1 : 0 < ds.length := by
    cases cs with
    | nil => exact absurd h0 (by decide)
    | cons c cs => exact List.length_pos_of_mem ((h c).mp (List.mem_cons_self ..))
  refine boxHi_eq h1 (boxHi_len _ _) fun p hp => ?_
  obtain ⟨m, _, e, q⟩ := boxHi_at (wd := wd) (p := p) h0 hp
  rw [e]
  refine ⟨?_, fun y hy => q.2 y ?_⟩
  · obtain ⟨c, hc, e⟩ := mem_colP.mp q.1
    exact mem_colP.mpr ⟨c, (h c).mp hc, e⟩
  · obtain ⟨c, hc, e⟩ := mem_colP.mp hy
    exact mem_colP.mpr ⟨c, (h c).mpr hc, e⟩
theorem lo_le_hi {cs : List (List Int)} {wd p : Nat} (h0 : 0 < cs.length) (hp : p < wd) : (boxLo cs wd).getD p 0 ≤ (boxHi cs wd).getD p 0 := by
  obtain ⟨m, _, e, q⟩ := boxLo_at (wd := wd) (p := p) h0 hp
  obtain ⟨m', _, e', q'⟩ := boxHi_at (wd := wd) (p := p) h0 hp
  rw [e, e']
  exact q.2 _ q'.1
/-- the box of the ends of two boxes -/
theorem both_lo {cs ds es : List (List Int)} {wd : Nat} (h0 : 0 < cs.length) (h1 : 0 < ds.length) (h : ∀ c, c ∈ es ↔ c ∈ cs ∨ c ∈ ds) : boxLo [boxLo cs wd, boxHi cs wd, boxLo ds wd, boxHi ds wd] wd = boxLo es wd := by
  have h2 : 0 < es.length := by
    cases cs with
    | nil => exact absurd h0 (by decide)
    | cons c cs => exact List.length_pos_of_mem ((h c).mpr (.inl (List.mem_cons_self ..)))
  refine boxLo_eq h2 (boxLo_len _ _) fun p hp => ?_
  obtain ⟨m, _, e, q⟩ := boxLo_at (cs := [boxLo cs wd, boxHi cs wd, boxLo ds wd, boxHi ds wd]) (wd := wd) (p := p) (by simp) hp
  obtain ⟨a, _, ea, qa⟩ := boxLo_at (cs := cs) (wd := wd) (p := p) h0 hp
  obtain ⟨b, _, eb, qb⟩ := boxLo_at (cs := ds) (wd := wd) (p := p) h1 hp
  have la := lo_le_hi (cs := cs) (wd := wd) (p := p) h0 hp
  have lb := lo_le_hi (cs := ds) (wd := wd) (p := p) h1 hp
  rw [e]
  have m1 := q.2 a (mem_colP.mpr ⟨_, by simp, ea⟩)
  have m2 := q.2 b (mem_colP.mpr ⟨boxLo ds wd, by simp, eb⟩)
  obtain ⟨c, hc, em⟩ := mem_colP.mp q.1
  simp only [List.mem_cons, List.not_mem_nil, or_false] at hc
  have ca : ∀ y ∈ colP es p, m ≤ y := fun y hy => by
    obtain ⟨x, hx, ey⟩ := mem_colP.mp hy
    rcases (h x).mp hx with z | z
    · have := qa.2 y (mem_colP.mpr ⟨x, z, ey⟩); omega
    · have := qb.2 y (mem_colP.mpr ⟨x, z, ey⟩); omega
  refine ⟨?_, ca⟩
  have hm : m = a ∨ m = b := by
    rcases hc with rfl | rfl | rfl | rfl <;> omega
  rcases hm with rfl | rfl
  · obtain ⟨x, hx, ey⟩ := mem_colP.mp qa.1
    exact mem_colP.mpr ⟨x, (h x).mpr (.inl hx), ey⟩
  · obtain ⟨x, hx, ey⟩ := mem_colP.mp qb.1
    exact mem_colP.mpr ⟨x, (h x).mpr (.inr hx), ey⟩
theorem both_hi {cs ds es : List (List Int)} {wd : Nat} (h0 : 0 < cs.length) (h1 : 0 < ds.length) (h : ∀ c, c ∈ es ↔ c ∈ cs ∨ c ∈ ds) : boxHi [boxLo cs wd, boxHi cs wd, boxLo ds wd, boxHi ds wd] wd = boxHi es wd := by
  have h2 : 0 < es.length := by
    cases cs with
    | nil => exact absurd h0 (by decide)
    | cons c cs => exact List.length_pos_of_mem ((h c).mpr (.inl (List.mem_cons_self ..)))
  refine boxHi_eq h2 (boxHi_len _ _) fun p hp => ?_
  obtain ⟨m, _, e, q⟩ := boxHi_at (cs := [boxLo cs wd, boxHi cs wd, boxLo ds wd, boxHi ds wd]) (wd := wd) (p := p) (by simp) hp
  obtain ⟨a, _, ea, qa⟩ := boxHi_at (cs := cs) (wd := wd) (p := p) h0 hp
  obtain ⟨b, _, eb, qb⟩ := boxHi_at (cs := ds) (wd := wd) (p := p) h1 hp
  have la := lo_le_hi (cs := cs) (wd := wd) (p := p) h0 hp
  have lb := lo_le_hi (cs := ds) (wd := wd) (p := p) h1 hp
  rw [e]
  have m1 := q.2 a (mem_colP.mpr ⟨boxHi cs wd, by simp, ea⟩)
  have m2 := q.2 b (mem_colP.mpr ⟨boxHi ds wd, by simp, eb⟩)
  obtain ⟨c, hc, em⟩ := mem_colP.mp q.1
  simp only [List.mem_cons, List.not_mem_nil, or_false] at hc
  have ca : ∀ y ∈ colP es p, y ≤ m := fun y hy => by
    obtain ⟨x, hx, ey⟩ := mem_colP.mp hy
    rcases (h x).mp hx with z | z
    · have := qa.2 y (mem_colP.mpr ⟨x, z, ey⟩); omega
    · have := qb.2 y (mem_colP.mpr ⟨x, z, ey⟩); omega
  refine ⟨?_, ca⟩
  have hm : m = a ∨ m = b := by
    rcases hc with rfl | rfl | rfl | rfl <;> omega
  rcases hm with rfl | rfl
  · obtain ⟨x, hx, ey⟩ := mem_colP.mp qa.1
    exact mem_colP.mpr ⟨x, (h x).mpr (.inl hx), ey⟩
  · obtain ⟨x, hx, ey⟩ := mem_colP.mp qb.1
    exact mem_colP.mpr ⟨x, (h x).mpr (.inr hx), ey⟩
/-! ### the box of colours -/
def eB (lo hi : List Int) : PyData := .tuple [eC lo, eC hi]
theorem DtA.cols {B : List Addr} {H : Hp} : ∀ {cs : List (List Int)} {vs : List V}, DtA B H vs (cs.map eC) → ∃ as : List Addr, vs = as.map V.ref ∧ as.length = cs.length ∧ ∀ (j : Nat) (a : Addr) (c : List Int), as[j]? = some a → cs[j]? = some c → a ∉ B ∧ H a = some (.tup (c.map V.int))
  | [], _, h => by
    cases h
    exact ⟨[], rfl, rfl, fun j a c e => by simp at e⟩
  | c :: cs, _, h => by
    cases h with
    | cons h1 h2 =>
      obtain ⟨a, rfl, na, ea⟩ := h1.col
      obtain ⟨as, rfl, l, q⟩ := DtA.cols h2
      refine ⟨a :: as, rfl, by simp [l], fun j b d e1 e2 => ?_⟩
      cases j with
      | zero =>
        cases e1
        cases e2
        exact ⟨na, ea⟩
      | succ j => exact q j b d e1 e2
def spEdge (f : List (List Int) → Nat → List Int) : Sp := fun vs H Q _ => ∃ (B : List Addr) (v : V) (cs : List (List Int)) (wd : Nat), vs = [v] ∧ Dt B H v (eP cs) ∧ Bk B H ∧ 0 < cs.length ∧ cs.length ≤ 1000 ∧ wd ≤ 100 ∧ (∀ c ∈ cs, c.length = wd) ∧ ∀ v' H', Same H H' → Dt B H' v' (eC (f cs wd)) → Q v' H'
theorem row_of {cs : List (List Int)} {wd i : Nat} {zs : List V} (hw : ∀ c ∈ cs, c.length = wd) (hi : i < wd) (lz : zs.length = (cs.map fun c => c.map V.int).length) (h : ∀ (j : Nat) (xs : List V), (cs.map fun c => c.map V.int)[j]? = some xs → xs[i]? = zs[j]?) : zs = (colP cs i).map V.int := by
  unfold colP
  rw [List.length_map] at lz
  refine List.ext_getElem? fun j => ?_
  rcases Nat.lt_or_ge j cs.length with z | z
  · have hx := h j (cs[j].map V.int) (by rw [List.getElem?_map, List.getElem?_eq_getElem z]; rfl)
    have hl := hw _ (List.getElem_mem z)
    rw [← hx, List.getElem?_map, List.getElem?_map, List.getElem?_map, List.getElem?_eq_getElem z, List.getElem?_eq_getElem (show i < cs[j].length by omega)]
    simp only [Option.map_some]
    rw [List.getD_eq_getElem?_getD, List.getElem?_eq_getElem (show i < cs[j].length by omega)]
    rfl
  · rw [List.getElem?_eq_none (by omega), List.getElem?_eq_none (by simp; omega)]
theorem ok_least_numbers (T : Tx K mg) {k : Nat} : FnOk P w K mg base CX0 (k + 1) T.f_least_numbers T.d_least_numbers ["colours"] (spEdge boxLo) := by
  refine T.F_least_numbers.ok sc_least_numbers (fun vs H Q E h => ?_) (fun cdv A outer s H vs Q E hr h => ?_)
  · obtain ⟨B, v, cs, wd, rfl, _⟩ := h
    rfl
  · obtain ⟨B, v, cs, wd, rfl, hv, hB, c0, c1, w1, hw, q⟩ := h
    obtain ⟨pa, vs, rfl, np, ep, hA⟩ := hv.pal
    obtain ⟨as, rfl, la, ha⟩ := hA.cols
    have lm : (cs.map fun c => c.map V.int).length = as.length := by rw [List.length_map, la]
    have src : ∀ {H' : Hp}, Same H H' → ∀ (j : Nat) (a : Addr) (xs : List V), as[j]? = some a → (cs.map fun c => c.map V.int)[j]? = some xs → SqT K H' a xs := fun s' j a xs e1 e2 => by
      rw [List.getElem?_map] at e2
      cases e : cs[j]? with
      | none => rw [e] at e2; cases e2
      | some c =>
        rw [e] at e2
        have ex : c.map V.int = xs := Option.some.inj e2
        rw [← ex]
        exact SqT.of (s' _ _ (ha j a c e1 e).2)
    refine ⟨_, (pss_one (ps_ret (pe_callTy (tuple_K K) (by rfl) T.z_tuple (by decide +kernel) (pa_cons (pe_lc (own := [("numbers", 1)]) (by rfl) sc_least_numbers.nd (pi_zipN K (by rfl) T.z_zip (pv 0)) (blkOk_by (own := [("numbers", 1)]) (N := N_least_numbers) (sc := defScope s_least_numbers) (by decide +kernel)) (fun _ _ _ _ _ => (pg_name (i := 1) sc_least_numbers.nd rfl (.inl rfl))) (fun _ _ _ _ _ => pts_nil) (fun _ _ _ _ _ => (pe_callB (cr_minT K rfl) (by rfl) T.z_min (by decide +kernel) (pa_cons (pv 1) pa_nil)))) pa_nil)))), ?_⟩
    refine ⟨_, rfl, pa, as, rfl, .inr (SqL.of ep), by omega, fun a m => ?_, fun D hD => ?_⟩
    · obtain ⟨j, hj, rfl⟩ := List.mem_iff_getElem.mp m
      have hj2 : j < cs.length := by omega
      exact ⟨_, src (Same.refl H) j _ _ (List.getElem?_eq_getElem hj) (by rw [List.getElem?_map, List.getElem?_eq_getElem hj2]; rfl)⟩
    · refine lc_pure (B := []) (walk_zipN (as := as) (xss := cs.map fun c => c.map V.int) (W := wd) lm (by omega) (fun xs hx => ?_)) hD (fun _ h => nomatch h) (fun H' s' => src s') (by omega)
        (fun i => some (PyData.int (minL (colP cs i)))) (fun i x H' H'' Ny Nn hi t1 bk y ky kn => ?_) (fun H8 ws s8 eS hW => ?_)
      · obtain ⟨c, hc, rfl⟩ := List.mem_map.mp hx
        rw [List.length_map]
        exact hw c hc
      · obtain ⟨t, zs, rfl, ht, rfl, lz, hz⟩ := y
        have ez := row_of hw hi lz hz
        subst ez
        refine ⟨rfl, lc_yes ⟨_, rfl, t, colP cs i, rfl, SqT.of upd_same, by unfold colP; rw [List.length_map]; exact c0, fun m m1 m2 => ?_⟩⟩
        have em : m = minL (colP cs i) := Lo.one ⟨m1, m2⟩ (minL_lo (by unfold colP; rw [List.length_map]; exact c0))
        subst em
        exact ky _ _ _ rfl (sm_new ht) (.int _)
      · rw [fm_some] at hW
        have hW2 : DtA [D] H8 ws ((boxLo cs wd).map PyData.int) := by
          unfold boxLo
          rw [List.map_map]
          exact hW
        have ew := hW2.intsV
        subst ew
        refine ⟨D, _, rfl, .inl ⟨SqL.of eS, fun t ht => ?_⟩⟩
        exact q _ _ (s8.trans (sm_new ht)) (Dt.ofCol ((hB.go (Go.of (B := B) s8)).ne ht) upd_same)
theorem ok_greatest_numbers (T : Tx K mg) {k : Nat} : FnOk P w K mg base CX0 (k + 1) T.f_greatest_numbers T.d_greatest_numbers ["colours"] (spEdge boxHi) := by
  refine T.F_greatest_numbers.ok sc_greatest_numbers (fun vs H Q E h => ?_) (fun cdv A outer s H vs Q E hr h => ?_)
  · obtain ⟨B, v, cs, wd, rfl, _⟩ := h
    rfl
  · obtain ⟨B, v, cs, wd, rfl, hv, hB, c0, c1, w1, hw, q⟩ := h
    obtain ⟨pa, vs, rfl, np, ep, hA⟩ := hv.pal
    obtain ⟨as, rfl, la, ha⟩ := hA.cols
    have lm : (cs.map fun c => c.map V.int).length = as.length := by rw [List.length_map, la]
    have src : ∀ {H' : Hp}, Same H H' → ∀ (j : Nat) (a : Addr) (xs : List V), as[j]? = some a → (cs.map fun c => c.map V.int)[j]? = some xs → SqT K H' a xs := fun s' j a xs e1 e2 => by
      rw [List.getElem?_map] at e2
      cases e : cs[j]? with
      | none => rw [e] at e2; cases e2
      | some c =>
        rw [e] at e2
        have ex : c.map V.int = xs := Option.some.inj e2
        rw [← ex]
        exact SqT.of (s' _ _ (ha j a c e1 e).2)
    refine ⟨_, (pss_one (ps_ret (pe_callTy (tuple_K K) (by rfl) T.z_tuple (by decide +kernel) (pa_cons (pe_lc (own := [("numbers", 1)]) (by rfl) sc_greatest_numbers.nd (pi_zipN K (by rfl) T.z_zip (pv 0)) (blkOk_by (own := [("numbers", 1)]) (N := N_greatest_numbers) (sc := defScope s_greatest_numbers) (by decide +kernel)) (fun _ _ _ _ _ => (pg_name (i := 1) sc_greatest_numbers.nd rfl (.inl rfl))) (fun _ _ _ _ _ => pts_nil) (fun _ _ _ _ _ => (pe_callB (cr_maxT K rfl) (by rfl) T.z_max (by decide +kernel) (pa_cons (pv 1) pa_nil)))) pa_nil)))), ?_⟩
    refine ⟨_, rfl, pa, as, rfl, .inr (SqL.of ep), by omega, fun a m => ?_, fun D hD => ?_⟩
    · obtain ⟨j, hj, rfl⟩ := List.mem_iff_getElem.mp m
      have hj2 : j < cs.length := by omega
      exact ⟨_, src (Same.refl H) j _ _ (List.getElem?_eq_getElem hj) (by rw [List.getElem?_map, List.getElem?_eq_getElem hj2]; rfl)⟩
    · refine lc_pure (B := []) (walk_zipN (as := as) (xss := cs.map fun c => c.map V.int) (W := wd) lm (by omega) (fun xs hx => ?_)) hD (fun _ h => nomatch h) (fun H' s' => src s') (by omega)
        (fun i => some (PyData.int (maxL (colP cs i)))) (fun i x H' H'' Ny Nn hi t1 bk y ky kn => ?_) (fun H8 ws s8 eS hW => ?_)
      · obtain ⟨c, hc, rfl⟩ := List.mem_map.mp hx
        rw [List.length_map]
        exact hw c hc
      · obtain ⟨t, zs, rfl, ht, rfl, lz, hz⟩ := y
        have ez := row_of hw hi lz hz
        subst ez
        refine ⟨rfl, lc_yes ⟨_, rfl, t, colP cs i, rfl, SqT.of upd_same, by unfold colP; rw [List.length_map]; exact c0, fun m m1 m2 => ?_⟩⟩
        have em : m = maxL (colP cs i) := Hi.one ⟨m1, m2⟩ (maxL_hi (by unfold colP; rw [List.length_map]; exact c0))
        subst em
        exact ky _ _ _ rfl (sm_new ht) (.int _)
      · rw [fm_some] at hW
        have hW2 : DtA [D] H8 ws ((boxHi cs wd).map PyData.int) := by
          unfold boxHi
          rw [List.map_map]
          exact hW
        have ew := hW2.intsV
        subst ew
        refine ⟨D, _, rfl, .inl ⟨SqL.of eS, fun t ht => ?_⟩⟩
        exact q _ _ (s8.trans (sm_new ht)) (Dt.ofCol ((hB.go (Go.of (B := B) s8)).ne ht) upd_same)
def spBoxOf : Sp := fun vs H Q _ => ∃ (B : List Addr) (v : V) (cs : List (List Int)) (wd : Nat), vs = [v] ∧ Dt B H v (eP cs) ∧ Bk B H ∧ 0 < cs.length ∧ cs.length ≤ 1000 ∧ wd ≤ 100 ∧ (∀ c ∈ cs, c.length = wd) ∧ ∀ v' H', Same H H' → Dt B H' v' (eB (boxLo cs wd) (boxHi cs wd)) → Q v' H'
theorem ok_box_of (T : Tx K mg) {k : Nat} : FnOk P w K mg base CX0 (k + 2) T.f_box_of T.d_box_of ["colours"] spBoxOf := by
  refine T.F_box_of.ok sc_box_of (fun vs H Q E h => ?_) (fun cdv A outer s H vs Q E hr h => ?_)
  · obtain ⟨B, v, cs, wd, rfl, _⟩ := h
    rfl
  · obtain ⟨B, v, cs, wd, rfl, hv, hB, c0, c1, w1, hw, q⟩ := h
    refine ⟨_, (pss_one (ps_ret (pe_tup (pa_cons (pe_call (ok_least_numbers T (k := k)) hr (by rfl) T.g_least_numbers T.F_least_numbers.kp T.b_least_numbers .nil pass0 (pa_cons (pv 0) pa_nil)) (pa_cons (pe_call (ok_greatest_numbers T (k := k)) hr (by rfl) T.g_greatest_numbers T.F_greatest_numbers.kp T.b_greatest_numbers .nil pass0 (pa_cons (pv 0) pa_nil)) pa_nil))))), ?_⟩
    refine ⟨_, rfl, B, v, cs, wd, rfl, hv, hB, c0, c1, w1, hw, fun v1 H1 s1 d1 => ?_⟩
    refine ⟨_, rfl, B, v, cs, wd, rfl, hv.s s1, hB.go (Go.of (B := B) s1), c0, c1, w1, hw, fun v2 H2 s2 d2 => ?_⟩
    refine ⟨(by show 2 ≤ sizeLine; decide), fun p hp => ?_⟩
    have s3 := sm_new (o := .tup [v1, v2]) hp
    exact q _ _ ((s1.trans s2).trans s3) (.tup ((hB.go (Go.of (B := B) (s1.trans s2))).ne hp) upd_same (.cons ((d1.s s2).s s3) (.one (d2.s s3))))
def spBoth : Sp := fun vs H Q _ => ∃ (B : List Addr) (x y : V) (l1 h1 l2 h2 : List Int) (wd : Nat), vs = [x, y] ∧ Dt B H x (eB l1 h1) ∧ Dt B H y (eB l2 h2) ∧ Bk B H ∧ wd ≤ 100 ∧ (∀ c ∈ [l1, h1, l2, h2], c.length = wd) ∧ ∀ v' H', Same H H' → Dt B H' v' (eB (boxLo [l1, h1, l2, h2] wd) (boxHi [l1, h1, l2, h2] wd)) → Q v' H'
theorem ok_both_boxes (T : Tx K mg) {k : Nat} : FnOk P w K mg base CX0 (k + 3) T.f_both_boxes T.d_both_boxes ["one", "other"] spBoth := by
  refine T.F_both_boxes.ok sc_both_boxes (fun vs H Q E h => ?_) (fun cdv A outer s H vs Q E hr h => ?_)
  · obtain ⟨B, x, y, l1, h1, l2, h2, wd, rfl, _⟩ := h
    rfl
  · obtain ⟨B, x, y, l1, h1, l2, h2, wd, rfl, hx, hy, hB, w1, hw, q⟩ := h
    obtain ⟨xa, xvs, rfl, nx, ex, hX⟩ := hx.tupI
    obtain ⟨ya, yvs, rfl, ny, ey, hY⟩ := hy.tupI
    have lx := hX.len
    have ly := hY.len
    refine ⟨_, (pss_one (ps_ret (pe_call (ok_box_of T (k := k)) hr (by rfl) T.g_box_of T.F_box_of.kp T.b_box_of .nil pass0 (pa_cons (pe_lst (pa_starK K (pv 0) (pa_starK K (pv 1) pa_nil))) pa_nil)))), ?_⟩
    refine ⟨_, rfl, xa, xvs, rfl, .inl (SqT.of ex), _, rfl, ya, yvs, rfl, .inl (SqT.of ey), ?_⟩
    refine ⟨(by rw [List.append_nil, List.length_append, lx, ly]; show 4 ≤ sizeLine; decide), fun p hp => ?_⟩
    have s1 := sm_new (o := .lst (xvs ++ (yvs ++ []))) hp
    have d1 : Dt B (upd H p (.lst (xvs ++ (yvs ++ [])))) (.ref p) (eP [l1, h1, l2, h2]) := .lst (hB.ne hp) upd_same ((hX.s s1).app ((hY.s s1).app .nil))
    refine ⟨B, .ref p, [l1, h1, l2, h2], wd, rfl, d1, hB.up, by simp, by simp, w1, hw, fun v2 H2 s2 d2 => ?_⟩
    exact q _ _ (s1.trans s2) d2
/-! ### the law's own box -/
/-- what stands in the list of the least ones, so far -/
structure LoAt (cs : List (List Int)) (wd k i : Nat) (ls : List Int) : Prop where
  l : ls.length = wd
  m : ∀ p, p < wd → ls.getD p 0 ∈ colP cs p
  j : ∀ p, p < wd → ∀ j c, j < k → cs[j]? = some c → ls.getD p 0 ≤ c.getD p 0
  i : ∀ p, p < wd → p < i → ∀ c, cs[k]? = some c → ls.getD p 0 ≤ c.getD p 0
structure HiAt (cs : List (List Int)) (wd k i : Nat) (ls : List Int) : Prop where
  l : ls.length = wd
  m : ∀ p, p < wd → ls.getD p 0 ∈ colP cs p
  j : ∀ p, p < wd → ∀ j c, j < k → cs[j]? = some c → c.getD p 0 ≤ ls.getD p 0
  i : ∀ p, p < wd → p < i → ∀ c, cs[k]? = some c → c.getD p 0 ≤ ls.getD p 0
theorem getD_set {ls : List Int} {p i : Nat} {n : Int} (hp : p < ls.length) : (ls.set i n).getD p 0 = if i = p then n else ls.getD p 0 := by
  rw [List.getD_eq_getElem?_getD, List.getElem?_set, List.getD_eq_getElem?_getD]
  by_cases h : i = p
  · subst h
    rw [if_pos rfl, if_pos rfl, if_pos hp]
    rfl
  · rw [if_neg h, if_neg h]
theorem LoAt.next {cs : List (List Int)} {wd k : Nat} {ls : List Int} (h : LoAt cs wd k wd ls) : LoAt cs wd (k + 1) 0 ls := ⟨h.l, h.m, fun p hp j c hj e => by
  rcases Nat.lt_or_ge j k with z | z
  · exact h.j p hp j c z e
  · have : j = k := by omega
    subst this
    exact h.i p hp hp c e, fun p hp h0 => absurd h0 (by omega)⟩
theorem HiAt.next {cs : List (List Int)} {wd k : Nat} {ls : List Int} (h : HiAt cs wd k wd ls) : HiAt cs wd (k + 1) 0 ls := ⟨h.l, h.m, fun p hp j c hj e => by
  rcases Nat.lt_or_ge j k with z | z
  · exact h.j p hp j c z e
  · have : j = k := by omega
    subst this
    exact h.i p hp hp c e, fun p hp h0 => absurd h0 (by omega)⟩
theorem LoAt.stay {cs : List (List Int)} {wd k i : Nat} {ls : List Int} {c : List Int} (h : LoAt cs wd k i ls) (e : cs[k]? = some c) (hn : ¬ c.getD i 0 < ls.getD i 0) : LoAt cs wd k (i + 1) ls := ⟨h.l, h.m, h.j, fun p hp hi d e' => by
  have ed : c = d := Option.some.inj (e.symm.trans e')
  subst ed
  rcases Nat.lt_or_ge p i with z | z
  · exact h.i p hp z c e
  · have : p = i := by omega
    subst this
    omega⟩
theorem HiAt.stay {cs : List (List Int)} {wd k i : Nat} {ls : List Int} {c : List Int} (h : HiAt cs wd k i ls) (e : cs[k]? = some c) (hn : ¬ c.getD i 0 > ls.getD i 0) : HiAt cs wd k (i + 1) ls := ⟨h.l, h.m, h.j, fun p hp hi d e' => by
  have ed : c = d := Option.some.inj (e.symm.trans e')
  subst ed
  rcases Nat.lt_or_ge p i with z | z
  · exact h.i p hp z c e
  · have : p = i := by omega
    subst this
    omega⟩
theorem LoAt.put {cs : List (List Int)} {wd k i : Nat} {ls : List Int} {c : List Int} (h : LoAt cs wd k i ls) (e : cs[k]? = some c) (hi : i < wd) (hn : c.getD i 0 < ls.getD i 0) : LoAt cs wd k (i + 1) (ls.set i (c.getD i 0)) := by
  have g : ∀ p, p < wd → (ls.set i (c.getD i 0)).getD p 0 = if i = p then c.getD i 0 else ls.getD p 0 := fun p hp => getD_set (by rw [h.l]; exact hp)
  refine ⟨by rw [List.length_set]; exact h.l, fun p hp => ?_, fun p hp j d hj e' => ?_, fun p hp hp2 d e' => ?_⟩
  · rw [g p hp]
    by_cases q : i = p
    · subst q
      rw [if_pos rfl]
      exact mem_colP.mpr ⟨c, List.mem_of_getElem? e, rfl⟩
    · rw [if_neg q]
      exact h.m p hp
  · rw [g p hp]
    have := h.j p hp j d hj e'
    by_cases q : i = p
    · subst q
      rw [if_pos rfl]
      omega
    · rw [if_neg q]
      exact this
  · have ed : c = d := Option.some.inj (e.symm.trans e')
    subst ed
    rw [g p hp]
    by_cases q : i = p
    · subst q
      rw [if_pos rfl]
      exact Int.le_refl _
    · rw [if_neg q]
      exact h.i p hp (by omega) c e
theorem HiAt.put {cs : List (List Int)} {wd k i : Nat} {ls : List Int} {c : List Int} (h : HiAt cs wd k i ls) (e : cs[k]? = some c) (hi : i < wd) (hn : c.getD i 0 > ls.getD i 0) : HiAt cs wd k (i + 1) (ls.set i (c.getD i 0)) := by
  have g : ∀ p, p < wd → (ls.set i (c.getD i 0)).getD p 0 = if i = p then c.getD i 0 else ls.getD p 0 := fun p hp => getD_set (by rw [h.l]; exact hp)
  refine ⟨by rw [List.length_set]; exact h.l, fun p hp => ?_, fun p hp j d hj e' => ?_, fun p hp hp2 d e' => ?_⟩
  · rw [g p hp]
    by_cases q : i = p
    · subst q
      rw [if_pos rfl]
      exact mem_colP.mpr ⟨c, List.mem_of_getElem? e, rfl⟩
    · rw [if_neg q]
      exact h.m p hp
  · rw [g p hp]
    have := h.j p hp j d hj e'
    by_cases q : i = p
    · subst q
      rw [if_pos rfl]
      omega
    · rw [if_neg q]
      exact this
  · have ed : c = d := Option.some.inj (e.symm.trans e')
    subst ed
    rw [g p hp]
    by_cases q : i = p
    · subst q
      rw [if_pos rfl]
      exact Int.le_refl _
    · rw [if_neg q]
      exact h.i p hp (by omega) c e
theorem LoAt.box {cs : List (List Int)} {wd : Nat} {ls : List Int} (h0 : 0 < cs.length) (h : LoAt cs wd cs.length 0 ls) : ls = boxLo cs wd := boxLo_eq h0 h.l fun p hp => ⟨h.m p hp, fun y hy => by
  obtain ⟨c, hc, rfl⟩ := mem_colP.mp hy
  obtain ⟨j, hj, rfl⟩ := List.mem_iff_getElem.mp hc
  exact h.j p hp j _ hj (List.getElem?_eq_getElem hj)⟩
theorem HiAt.box {cs : List (List Int)} {wd : Nat} {ls : List Int} (h0 : 0 < cs.length) (h : HiAt cs wd cs.length 0 ls) : ls = boxHi cs wd := boxHi_eq h0 h.l fun p hp => ⟨h.m p hp, fun y hy => by
  obtain ⟨c, hc, rfl⟩ := mem_colP.mp hy
  obtain ⟨j, hj, rfl⟩ := List.mem_iff_getElem.mp hc
  exact h.j p hp j _ hj (List.getElem?_eq_getElem hj)⟩
theorem colAt {B : List Addr} {H : Hp} {vs : List V} {cs : List (List Int)} (h : DtA B H vs (cs.map eC)) {i : Nat} {v : V} (hv : vs[i]? = some v) : ∃ c a, cs[i]? = some c ∧ v = .ref a ∧ a ∉ B ∧ H a = some (.tup (c.map V.int)) := by
  obtain ⟨d, f, g⟩ := h.getV hv
  rw [List.getElem?_map] at f
  cases e : cs[i]? with
  | none => rw [e] at f; cases f
  | some c =>
    rw [e] at f
    have ed : d = eC c := (Option.some.inj f).symm
    subst ed
    obtain ⟨a, rfl, na, ea⟩ := g.col
    exact ⟨c, a, rfl, rfl, na, ea⟩
theorem atI_map {ns : List Int} {i : Nat} (h : i < ns.length) : atI (ns.map V.int) (i : Int) = some (.int (ns.getD i 0)) := atI_nat (by
  rw [List.getElem?_map, List.getElem?_eq_getElem h, List.getD_eq_getElem?_getD, List.getElem?_eq_getElem h]
  rfl)
theorem atN {n i : Nat} (h : i < n) : ixN n (i : Int) = some i := by
  unfold ixN
  rw [if_pos (by omega), if_pos (by omega)]
  congr
set_option maxHeartbeats 1000000 in
theorem ok_l_box (T : Tx K mg) {k : Nat} : FnOk P w K mg base CX0 (k + 1) T.f_l_box T.d_l_box ["_law_colours"] spBoxOf := by
  refine T.F_l_box.ok sc_l_box (fun vs H Q E h => ?_) (fun cdv A outer s H vs Q E hr h => ?_)
  · obtain ⟨B, v, cs, wd, rfl, _⟩ := h
    rfl
  · obtain ⟨B, v, cs, wd, rfl, hv, hB, c0, c1, w1, hw, q⟩ := h
    obtain ⟨pa, vs, rfl, np, ep, hA⟩ := hv.pal
    have lv := hA.len
    rw [List.length_map] at lv
    have i0 : 0 < vs.length := by omega
    obtain ⟨cc, ca, ec0, ev0, na, ea⟩ := colAt hA (List.getElem?_eq_getElem i0)
    have lc0 := hw _ (List.mem_of_getElem? ec0)
    have at0' : atI vs 0 = some (.ref ca) := atI_nat (j := 0) (by rw [List.getElem?_eq_getElem i0, ev0])
    refine ⟨_, (pss_cons (ps_par (i := 1) (j := 2) (by rfl) sc_l_box.nd rfl rfl (by decide) rfl rfl (pa_cons (pe_callTy (list_K K) (by rfl) T.z_list (by decide +kernel) (pa_cons (pe_ix (ix_listK K) (pv 0) pe_int (fun _ _ => rfl)) pa_nil)) (pa_cons (pe_callTy (list_K K) (by rfl) T.z_list (by decide +kernel) (pa_cons (pe_ix (ix_listK K) (pv 0) pe_int (fun _ _ => rfl)) pa_nil)) pa_nil)) (by rfl))
      (pss_cons (ps_for PassesOwn.never rfl (pi_listK K (pv 0)) (pg_name (i := 3) sc_l_box.nd rfl (.inl rfl)) (pss_one (ps_for PassesOwn.never rfl (pi_enumT K (by rfl) T.z_enumerate (pa_cons (pv 3) pa_nil)) (pg_tupK K (n := 2) rfl (pgs_cons (pg_name (i := 4) sc_l_box.nd rfl (.inl rfl)) (pgs_cons (pg_name (i := 5) sc_l_box.nd rfl (.inl rfl)) pgs_nil))) (Evl.pss_cut (ps_if (pt_cmpR op_lt (pv 5) (pe_ix (ix_listK K) (pv 1) (pv 4) (fun _ _ => rfl)) (nomark _)) (pss_one (ps_asg (pv 5) (pg_sub (pv 1) (pv 4) set_list))) pss_nil)
      (pss_one (ps_if (pt_cmpR op_gt (pv 5) (pe_ix (ix_listK K) (pv 2) (pv 4) (fun _ _ => rfl)) (nomark _)) (pss_one (ps_asg (pv 5) (pg_sub (pv 2) (pv 4) set_list))) pss_nil))))))
      (pss_one (ps_ret (pe_tup (pa_cons (pe_callTy (tuple_K K) (by rfl) T.z_tuple (by decide +kernel) (pa_cons (pv 1) pa_nil)) (pa_cons (pe_callTy (tuple_K K) (by rfl) T.z_tuple (by decide +kernel) (pa_cons (pv 2) pa_nil)) pa_nil))))))), ?_⟩
    refine ⟨_, rfl, pa, _, 0, .ref ca, rfl, rfl, SqL.of ep, at0', ca, _, rfl, .inr (SqT.of ea), fun L1 hL1 => ?_⟩
    have s1 := sm_new (o := .lst (cc.map V.int)) hL1
    refine ⟨_, rfl, pa, _, 0, .ref ca, rfl, rfl, SqL.of (s1 _ _ ep), at0', ca, _, rfl, .inr (SqT.of (s1 _ _ ea)), fun L2 hL2 => ?_⟩
    refine ⟨_, _, rfl, ?_⟩
    have s2 := sm_new (o := .lst (cc.map V.int)) hL2
    have e1 : (upd (upd H L1 (.lst (cc.map V.int))) L2 (.lst (cc.map V.int))) L1 = some (.lst (cc.map V.int)) := s2 _ _ upd_same
    have e2 : (upd (upd H L1 (.lst (cc.map V.int))) L2 (.lst (cc.map V.int))) L2 = some (.lst (cc.map V.int)) := upd_same
    have t2 := s1.trans s2
    have n12 : L1 ≠ L2 := fun z => by rw [← z, upd_same] at hL2; cases hL2
    have hL2' : H L2 = none := s1.free hL2
    have lo0 : LoAt cs wd 0 0 cc := ⟨lc0, fun p hp => mem_colP.mpr ⟨cc, List.mem_of_getElem? ec0, rfl⟩, fun p hp j c h0 => absurd h0 (by omega), fun p hp h0 => absurd h0 (by omega)⟩
    have hi0 : HiAt cs wd 0 0 cc := ⟨lc0, fun p hp => mem_colP.mpr ⟨cc, List.mem_of_getElem? ec0, rfl⟩, fun p hp j c h0 => absurd h0 (by omega), fun p hp h0 => absurd h0 (by omega)⟩
    generalize upd (upd H L1 (.lst (cc.map V.int))) L2 (.lst (cc.map V.int)) = H2 at *
    have nn : ∀ a ∈ [L1, L2], H a = none := fun a m => by
      rcases List.mem_cons.mp m with z | z
      · rw [z]; exact hL1
      · rw [List.mem_singleton.mp z]; exact hL2'
    refine ⟨_, rfl, pa, rfl, ⟨_, SqL.of (t2 _ _ ep)⟩, for_list (xs := vs) (fun j σ H' => ∃ y3 y4 y5 ls us, σ = [some (.ref pa), some (.ref L1), some (.ref L2), y3, y4, y5] ∧ Go [L1, L2] H2 H' ∧ H' L1 = some (.lst (List.map V.int ls)) ∧ H' L2 = some (.lst (List.map V.int us)) ∧ LoAt cs wd j 0 ls ∧ HiAt cs wd j 0 us)
      ⟨_, _, _, cc, cc, rfl, Go.refl, e1, e2, lo0, hi0⟩ (fun j σ H' _ h => ?_) (fun j x σ H3 hx h3 => ?_) (fun σ H3 h3 => ?_)⟩
    · obtain ⟨y3, y4, y5, ls, us, rfl, g', _⟩ := h
      exact SqL.of (g'.sm t2 nn _ _ ep)
    · obtain ⟨y3, y4, y5, ls, us, rfl, g3, f1, f2, hl, hu⟩ := h3
      obtain ⟨c, a, ec, rfl, na3, ea3⟩ := colAt hA hx
      have lc := hw _ (List.mem_of_getElem? ec)
      have s3 := g3.sm t2 nn
      refine ⟨_, rfl, a, _, rfl, SqT.of (s3 _ _ ea3), ?_⟩
      refine for_it (walk_enumT (xs := c.map V.int)) (fun i σ H' => ∃ y4 y5 ls us, σ = [some (.ref pa), some (.ref L1), some (.ref L2), some (.ref a), y4, y5] ∧ Go [L1, L2] H2 H' ∧ H' L1 = some (.lst (List.map V.int ls)) ∧ H' L2 = some (.lst (List.map V.int us)) ∧ LoAt cs wd j i ls ∧ HiAt cs wd j i us)
        ⟨_, _, ls, us, rfl, g3, f1, f2, hl, hu⟩ (fun i σ H' _ h => ?_) (fun i x σ H4 H5 hi' h4 y => ?_) (fun σ H4 h4 => ?_)
      · obtain ⟨y4, y5, ls, us, rfl, g', _⟩ := h
        exact SqT.of (g'.sm t2 nn _ _ ea3)
      · obtain ⟨y4, y5, ls, us, rfl, g4, f1, f2, hl, hu⟩ := h4
        obtain ⟨t, x, z, rfl, ht, rfl, x1, x2⟩ := y
        have ex : V.int i = x := Option.some.inj x1
        subst ex
        rw [List.length_map] at hi'
        have ez := mat hi' x2
        subst ez
        have eg : c.getD i 0 = c[i] := by rw [List.getD_eq_getElem?_getD, List.getElem?_eq_getElem hi']; rfl
        rw [← eg]
        have s5 := sm_new (o := .tup [.int i, .int (c.getD i 0)]) ht
        have f1 := s5 _ _ f1
        have f2 := s5 _ _ f2
        have g5 := g4.trans (Go.of (B := [L1, L2]) s5)
        have iw : i < wd := by omega
        have l1 := hl.l
        have l2 := hu.l
        refine ⟨t, _, rfl, SqT.of upd_same, rfl, _, _, rfl, _, _, rfl, rfl, ?_⟩
        generalize upd H4 t (.tup [.int i, .int (c.getD i 0)]) = H5 at *
        refine ⟨fun σ' H' => ∃ ls, σ' = [some (.ref pa), some (.ref L1), some (.ref L2), some (.ref a), some (.int (i : Int)), some (.int (c.getD i 0))] ∧ Go [L1, L2] H2 H' ∧ H' L1 = some (.lst (List.map V.int ls)) ∧ H' L2 = some (.lst (List.map V.int us)) ∧ LoAt cs wd j (i + 1) ls, ?_, fun σ' H' hM => ?_⟩
        · refine ⟨_, rfl, _, rfl, _, rfl, L1, _, _, _, rfl, rfl, SqL.of f1, atI_map (by omega), _, _, rfl, rfl, _, rfl, ite2 (fun e => ?_) (fun e => ?_)⟩
          · have e' := of_decide_eq_true e
            refine ⟨_, rfl, _, rfl, _, rfl, L1, _, _, i, rfl, rfl, f1, atN (by rw [List.length_map]; omega), ?_⟩
            refine ⟨ls.set i (c.getD i 0), rfl, g5.at (by simp), ?_, ?_, hl.put ec iw e'⟩
            · rw [upd_same, List.map_set]
            · rw [upd_ne (Ne.symm n12)]
              exact f2
          · exact ⟨ls, rfl, g5, f1, f2, hl.stay ec (fun h => e (decide_eq_true h))⟩
        · obtain ⟨ls, rfl, g6, f1, f2, hl6⟩ := hM
          refine ⟨_, rfl, _, rfl, _, rfl, L2, _, _, _, rfl, rfl, SqL.of f2, atI_map (by omega), _, _, rfl, rfl, _, rfl, ite2 (fun e => ?_) (fun e => ?_)⟩
          · have e' := of_decide_eq_true e
            refine ⟨_, rfl, _, rfl, _, rfl, L2, _, _, i, rfl, rfl, f2, atN (by rw [List.length_map]; omega), ?_⟩
            refine ⟨_, _, ls, us.set i (c.getD i 0), rfl, g6.at (by simp), ?_, ?_, hl6, hu.put ec iw e'⟩
            · rw [upd_ne n12]
              exact f1
            · rw [upd_same, List.map_set]
          · exact ⟨_, _, ls, us, rfl, g6, f1, f2, hl6, hu.stay ec (fun h => e (decide_eq_true h))⟩
      · obtain ⟨y4, y5, ls, us, rfl, g4, f1, f2, hl, hu⟩ := h4
        rw [List.length_map, lc] at hl hu
        exact ⟨_, _, _, ls, us, rfl, g4, f1, f2, hl.next, hu.next⟩
    · obtain ⟨y3, y4, y5, ls, us, rfl, g3, f1, f2, hl, hu⟩ := h3
      rw [lv] at hl hu
      have el := hl.box c0
      have eu := hu.box c0
      subst el eu
      have s3 := g3.sm t2 nn
      refine ⟨_, rfl, L1, _, rfl, .inl ⟨SqL.of f1, fun p4 hp4 => ?_⟩⟩
      have s4 := sm_new (o := .tup ((boxLo cs wd).map V.int)) hp4
      have B3 := hB.go (Go.of (B := B) s3)
      have d4 : Dt B (upd H3 p4 (.tup ((boxLo cs wd).map V.int))) (.ref p4) (eC (boxLo cs wd)) := Dt.ofCol (B3.ne hp4) upd_same
      refine ⟨_, rfl, L2, _, rfl, .inl ⟨SqL.of (s4 _ _ f2), fun p5 hp5 => ?_⟩⟩
      have s5 := sm_new (o := .tup ((boxHi cs wd).map V.int)) hp5
      have B4 := B3.go (Go.of (B := B) s4)
      have d5 : Dt B (upd (upd H3 p4 (.tup ((boxLo cs wd).map V.int))) p5 (.tup ((boxHi cs wd).map V.int))) (.ref p5) (eC (boxHi cs wd)) := Dt.ofCol (B4.ne hp5) upd_same
      have d4 := d4.s s5
      have t5 := (s3.trans s4).trans s5
      generalize upd (upd H3 p4 (.tup ((boxLo cs wd).map V.int))) p5 (.tup ((boxHi cs wd).map V.int)) = H5 at *
      refine ⟨(by show 2 ≤ sizeLine; decide), fun p6 hp6 => ?_⟩
      have s6 := sm_new (o := .tup [.ref p4, .ref p5]) hp6
      exact q _ _ (t5.trans s6) (.tup ((hB.go (Go.of (B := B) t5)).ne hp6) upd_same (.cons (d4.s s6) (.one (d5.s s6))))
/-! ### one thing put otherwise -/
def spPut : Sp := fun vs H Q _ => ∃ (B : List Addr) (rv tv : V) (ds : List PyData) (d : PyData) (n : Int) (j : Nat), vs = [rv, .int n, tv] ∧ Dt B H rv (.tuple ds) ∧ Dt B H tv d ∧ Bk B H ∧ Sh (.tuple ds) (j + 1) ∧ Sh d j ∧ ds.length ≤ 1000 ∧
  ∀ v H', Same H H' → Dt B H' v (.tuple (cutL ds none (some n) ++ [d] ++ cutL ds (some (n + 1)) none)) → Sh (.tuple (cutL ds none (some n) ++ [d] ++ cutL ds (some (n + 1)) none)) (j + 1) → Q v H'
theorem ok_l_put_at (T : Tx K mg) {k : Nat} : FnOk P w K mg base CX0 (k + 1) T.f_l_put_at T.d_l_put_at ["_law_row", "_law_k", "_law_thing"] spPut := by
  refine T.F_l_put_at.ok sc_l_put_at (fun vs H Q E h => ?_) (fun cdv A outer s H vs Q E hr h => ?_)
  · obtain ⟨B, rv, tv, ds, d, n, j, rfl, _⟩ := h
    rfl
  · obtain ⟨B, rv, tv, ds, d, n, j, rfl, hr1, ht1, hB, sr, sd, hl, q⟩ := h
    refine ⟨_, (pss_one (ps_ret (pe_op (op_catAK K) (pe_op (op_catAK K) (pe_slice (sl_tupAK K) (pv 0) po_none (po_some (pv 1))) (pe_tup (pa_cons (pv 2) pa_nil))) (pe_slice (sl_tupAK K) (pv 0) (po_some (pe_op op_add (pv 1) pe_int)) po_none)))), ?_⟩
    have c1 := cutL_len ds none (some n)
    have c2 := cutL_len ds (some (n + 1)) none
    refine ⟨_, rfl, _, rfl, n, rfl, ?_⟩
    refine slice_dt hr1 hB fun v1 H1 s1 d1 => ?_
    refine ⟨_, rfl, (by show 1 ≤ sizeLine; decide), fun p hp => ?_⟩
    have B1 := hB.go (Go.of (B := B) s1)
    have s2 := sm_new (o := .tup [tv]) hp
    have dt2 : Dt B (upd H1 p (.tup [tv])) (.ref p) (.tuple [d]) := .tup (B1.ne hp) upd_same (.one ((ht1.s s1).s s2))
    refine cat_dt (d1.s s2) dt2 B1.up (by simp; omega) fun v3 H3 s3 d3 => ?_
    have B3 := B1.up.go (Go.of (B := B) s3)
    refine ⟨_, rfl, _, rfl, _, _, rfl, rfl, n + 1, rfl, ?_⟩
    show rSlA K rv (some (n + 1)) none H3 (fun y H2 => rCatA K v3 y H2 Q)
    refine slice_dt (((hr1.s s1).s s2).s s3) B3 fun v4 H4 s4 d4 => ?_
    have B4 := B3.go (Go.of (B := B) s4)
    refine cat_dt (d3.s s4) d4 B4 (by simp; omega) fun v5 H5 s5 d5 => ?_
    refine q _ _ ((((s1.trans s2).trans s3).trans s4).trans s5) d5 ?_
    have sh1 : Sh (.tuple [d]) (j + 1) := sh_tup (by simp) fun x hx => by rw [List.mem_singleton.mp hx]; exact sd
    exact sh_cat (sh_cat (sh_cut sr) sh1 (by simp; omega)) (sh_cut sr) (by simp; omega)
/-! ### that it is the least -/
theorem boxes_box {cs : List (List Int)} {wd : Nat} (h0 : 0 < cs.length) : isBox (eB (boxLo cs wd) (boxHi cs wd)) (wd : Int) = true := by
  have e1 : isCol (eC (boxLo cs wd)) (wd : Int) = true := by
    unfold eC
    rw [isCol_yes (by rw [List.length_map, boxLo_len])]
    rw [List.all_map]
    exact List.all_eq_true.mpr fun x _ => rfl
  have e2 : isCol (eC (boxHi cs wd)) (wd : Int) = true := by
    unfold eC
    rw [isCol_yes (by rw [List.length_map, boxHi_len])]
    rw [List.all_map]
    exact List.all_eq_true.mpr fun x _ => rfl
  have e3 : leL (boxLo cs wd) (boxHi cs wd) = true := (leL_iff (by rw [boxLo_len, boxHi_len])).mpr fun i x y h1 h2 => by
    have hi := (List.getElem?_eq_some_iff.mp h1).1
    rw [boxLo_len] at hi
    have := lo_le_hi (cs := cs) (wd := wd) (p := i) h0 hi
    rw [List.getD_eq_getElem?_getD, h1, List.getD_eq_getElem?_getD, h2] at this
    exact this
  show isBox (.tuple [eC (boxLo cs wd), eC (boxHi cs wd)]) (wd : Int) = true
  rw [isBox_eq, e1, e2, leD_eC, e3]
  rfl
theorem hol_iff {lo c hi : List Int} : hol lo c hi = true ↔ ∀ p, p < c.length → lo.getD p 0 ≤ c.getD p 0 ∧ c.getD p 0 ≤ hi.getD p 0 := by
  unfold hol
  rw [List.all_eq_true]
  constructor
  · intro h p hp
    have := h p (List.mem_range.mpr hp)
    unfold hF at this
    have q := Bool.and_eq_true_iff.mp this
    exact ⟨of_decide_eq_true q.1, of_decide_eq_true q.2⟩
  · intro h p hp
    have := h p (List.mem_range.mp hp)
    unfold hF
    rw [decide_eq_true this.1, decide_eq_true this.2]
    rfl
theorem boxes_hold {cs : List (List Int)} {wd : Nat} (h0 : 0 < cs.length) {c : List Int} (hc : c ∈ cs) (hl : c.length = wd) : hol (boxLo cs wd) c (boxHi cs wd) = true := hol_iff.mpr fun p hp => by
  obtain ⟨m, _, e, q⟩ := boxLo_at (wd := wd) (p := p) h0 (by omega)
  obtain ⟨m', _, e', q'⟩ := boxHi_at (wd := wd) (p := p) h0 (by omega)
  rw [e, e']
  exact ⟨q.2 _ (mem_colP.mpr ⟨c, hc, rfl⟩), q'.2 _ (mem_colP.mpr ⟨c, hc, rfl⟩)⟩
def putL (c : List Int) (n : Nat) (x : Int) : List Int := c.take n ++ [x] ++ c.drop (n + 1)
theorem putL_len {c : List Int} {n : Nat} {x : Int} (h : n < c.length) : (putL c n x).length = c.length := by
  unfold putL
  simp only [List.length_append, List.length_take, List.length_drop, List.length_singleton]
  omega
theorem putL_at {c : List Int} {n : Nat} {x : Int} (h : n < c.length) : (putL c n x).getD n 0 = x := by
  unfold putL
  have l : (c.take n).length = n := by rw [List.length_take]; omega
  rw [List.getD_eq_getElem?_getD, List.append_assoc, List.getElem?_append_right (by omega), l, Nat.sub_self]
  rfl
theorem all_no {cs : List (List Int)} {f : List Int → Bool} {c : List Int} (hc : c ∈ cs) (h : f c = false) : (cs.map f).all id = false := by
  rw [List.all_map]
  refine Bool.eq_false_iff.mpr fun z => ?_
  have := List.all_eq_true.mp z c hc
  rw [show (id ∘ f) c = f c from rfl, h] at this
  exact Bool.noConfusion this
theorem not_lo {cs : List (List Int)} {wd n : Nat} (h0 : 0 < cs.length) (hw : ∀ c ∈ cs, c.length = wd) (hn : n < wd) : ((cs.map fun c => hol (putL (boxLo cs wd) n ((boxLo cs wd).getD n 0 + 1)) c (boxHi cs wd))).all id = false := by
  obtain ⟨m, _, e, q⟩ := boxLo_at (wd := wd) (p := n) h0 hn
  obtain ⟨c, hc, ec⟩ := mem_colP.mp q.1
  refine all_no (f := fun c => hol (putL (boxLo cs wd) n ((boxLo cs wd).getD n 0 + 1)) c (boxHi cs wd)) hc (Bool.eq_false_iff.mpr fun z => ?_)
  have := (hol_iff.mp z n (by rw [hw c hc]; exact hn)).1
  rw [putL_at (by rw [boxLo_len]; exact hn), e, ec] at this
  omega
theorem not_hi {cs : List (List Int)} {wd n : Nat} (h0 : 0 < cs.length) (hw : ∀ c ∈ cs, c.length = wd) (hn : n < wd) : ((cs.map fun c => hol (boxLo cs wd) c (putL (boxHi cs wd) n ((boxHi cs wd).getD n 0 - 1)))).all id = false := by
  obtain ⟨m, _, e, q⟩ := boxHi_at (wd := wd) (p := n) h0 hn
  obtain ⟨c, hc, ec⟩ := mem_colP.mp q.1
  refine all_no (f := fun c => hol (boxLo cs wd) c (putL (boxHi cs wd) n ((boxHi cs wd).getD n 0 - 1))) hc (Bool.eq_false_iff.mpr fun z => ?_)
  have := (hol_iff.mp z n (by rw [hw c hc]; exact hn)).2
  rw [putL_at (by rw [boxHi_len]; exact hn), e, ec] at this
  omega
theorem cutL_map {α β : Type} (f : α → β) (xs : List α) (lo hi : Option Int) : cutL (xs.map f) lo hi = (cutL xs lo hi).map f := by
  unfold cutL
  rw [List.length_map, List.map_take, List.map_drop]
theorem cut_to {α : Type} (xs : List α) {n : Int} (h0 : 0 ≤ n) : cutL xs none (some n) = xs.take n.toNat := by
  unfold cutL
  have e : HT.sIx xs.length xs.length (some n) = min n.toNat xs.length := by
    show (if n < 0 then (n + (xs.length : Int)).toNat else min n.toNat xs.length) = _
    rw [if_neg (by omega)]
  rw [e]
  show (xs.drop 0).take (min n.toNat xs.length - 0) = _
  rw [List.drop_zero, Nat.sub_zero]
  rcases Nat.le_total n.toNat xs.length with h | h
  · rw [Nat.min_eq_left h]
  · rw [Nat.min_eq_right h, List.take_length, List.take_of_length_le h]
theorem cut_from {α : Type} (xs : List α) {n : Int} (h0 : 0 ≤ n) : cutL xs (some n) none = xs.drop n.toNat := by
  unfold cutL
  have e : HT.sIx xs.length 0 (some n) = min n.toNat xs.length := by
    show (if n < 0 then (n + (xs.length : Int)).toNat else min n.toNat xs.length) = _
    rw [if_neg (by omega)]
  have e2 : HT.sIx xs.length xs.length none = xs.length := rfl
  rw [e, e2]
  rcases Nat.le_total n.toNat xs.length with h | h
  · rw [Nat.min_eq_left h, List.take_of_length_le (by rw [List.length_drop]; omega)]
  · rw [Nat.min_eq_right h, List.drop_length, List.drop_eq_nil_of_le h, List.take_nil]
theorem put_eC (c : List Int) (x : Int) (n : Nat) : PyData.tuple (cutL (c.map PyData.int) none (some (n : Int)) ++ [PyData.int x] ++ cutL (c.map PyData.int) (some ((n : Int) + 1)) none) = eC (putL c n x) := by
  rw [cutL_map, cutL_map, cut_to c (by omega), cut_from c (by omega)]
  unfold eC putL
  rw [List.map_append, List.map_append, show ((n : Int)).toNat = n by omega, show ((n : Int) + 1).toNat = n + 1 by omega]
  rfl
def spLeast : Sp := fun vs H Q _ => ∃ (B : List Addr) (x y : V) (cs : List (List Int)) (wd : Nat), vs = [x, y, .int (wd : Int)] ∧ Dt B H x (eB (boxLo cs wd) (boxHi cs wd)) ∧ Dt B H y (eP cs) ∧ Bk B H ∧ 0 < cs.length ∧ cs.length ≤ 1000 ∧ wd ≤ 100 ∧ (∀ c ∈ cs, c.length = wd) ∧ ∀ H', Same H H' → Q (.bl true) H'
set_option maxHeartbeats 2000000 in
theorem ok_l_least (T : Tx K mg) {k : Nat} : FnOk P w K mg base CX0 (k + 4) T.f_l_least T.d_l_least ["_law_box_here", "_law_colours", "_law_wide"] spLeast := by
  refine T.F_l_least.ok sc_l_least (fun vs H Q E h => ?_) (fun cdv A outer s H vs Q E hr h => ?_)
  · obtain ⟨B, x, y, cs, wd, rfl, _⟩ := h
    rfl
  · obtain ⟨B, x, y, cs, wd, rfl, hx, hy, hB, c0, c1, w1, hw, q⟩ := h
    have hx0 := hx
    obtain ⟨ba, bvs, rfl, nba, ebx, hbA⟩ := hx.tupI
    obtain ⟨lv', hv', rfl, dlo, dhi⟩ := hbA.two
    obtain ⟨la, rfl, nla, elo⟩ := dlo.col
    obtain ⟨ha, rfl, nha, ehi⟩ := dhi.col
    obtain ⟨pa, vs, rfl, np, ep, hA⟩ := hy.pal
    have lv := hA.len
    rw [List.length_map] at lv
    have ll := boxLo_len cs wd
    have lh := boxHi_len cs wd
    have shb : Sh (eB (boxLo cs wd) (boxHi cs wd)) 2 := sh_tup (by simp) fun d hd => by
      simp only [List.mem_cons, List.not_mem_nil, or_false] at hd
      rcases hd with rfl | rfl
      · exact sh_eC (by omega)
      · exact sh_eC (by omega)
    refine ⟨_, (pss_cons (ps_if (PW.pt (pw_or (pt_not (pt_val (pe_call (ok_is_box T (k := k)) hr (by rfl) T.g_is_box T.F_is_box.kp T.b_is_box .nil pass0 (pa_cons (pv 0) (pa_cons (pv 2) pa_nil))))) (pw_or1 (pt_not (pt_val (pe_callB (cr_allK K rfl) (by rfl) T.z_all (by decide +kernel) (pa_cons (pe_lc (own := [("_law_colour_here", 7)]) (by rfl) sc_l_least.nd (pi_listK K (pv 1)) (blkOk_by (own := [("_law_colour_here", 7)]) (N := N_l_least) (sc := defScope s_l_least) (by decide +kernel)) (fun _ _ _ _ _ => (pg_name (i := 7) sc_l_least.nd rfl (.inl rfl))) (fun _ _ _ _ _ => pts_nil) (fun _ _ _ _ _ => (pe_call (ok_holds T (k := k + 2)) hr (by rfl) T.g_holds T.F_holds.kp T.b_holds .nil pass0 (pa_cons (pv 0) (pa_cons (pv 7) pa_nil))))) pa_nil))))))) (pss_one (ps_ret pe_bl)) pss_nil)
      (pss_cons (ps_for PassesOwn.never rfl (pi_listK K (pe_lc (own := [("_law_k", 3)]) (by rfl) sc_l_least.nd (pi_range1 (by rfl) T.z_range (pa_cons (pv 2) pa_nil)) (blkOk_by (own := [("_law_k", 3)]) (N := N_l_least) (sc := defScope s_l_least) (by decide +kernel)) (fun _ _ _ _ _ => (pg_name (i := 3) sc_l_least.nd rfl (.inl rfl))) (fun _ _ _ _ _ => pts_one (pt_cmpR op_lt (pe_ix (ix_tupK K) (pe_ix (ix_tupK K) (pv 0) pe_int (fun _ _ => rfl)) (pv 3) (fun _ _ => rfl)) (pe_ix (ix_tupK K) (pe_ix (ix_tupK K) (pv 0) pe_int (fun _ _ => rfl)) (pv 3) (fun _ _ => rfl)) (nomark _))) (fun _ _ _ _ _ => (pv 3)))) (pg_name (i := 3) sc_l_least.nd rfl (.inl rfl)) (pss_cons (ps_par (i := 4) (j := 5) (by rfl) sc_l_least.nd rfl rfl (by decide) rfl rfl (pa_cons (pe_call (ok_l_put_at T (k := k + 2)) hr (by rfl) T.g_l_put_at T.F_l_put_at.kp T.b_l_put_at .nil pass0 (pa_cons (pe_ix (ix_tupK K) (pv 0) pe_int (fun _ _ => rfl)) (pa_cons (pv 3) (pa_cons (pe_op op_add (pe_ix (ix_tupK K) (pe_ix (ix_tupK K) (pv 0) pe_int (fun _ _ => rfl)) (pv 3) (fun _ _ => rfl)) pe_int) pa_nil)))) (pa_cons (pe_call (ok_l_put_at T (k := k + 2)) hr (by rfl) T.g_l_put_at T.F_l_put_at.kp T.b_l_put_at .nil pass0 (pa_cons (pe_ix (ix_tupK K) (pv 0) pe_int (fun _ _ => rfl)) (pa_cons (pv 3) (pa_cons (pe_op op_sub (pe_ix (ix_tupK K) (pe_ix (ix_tupK K) (pv 0) pe_int (fun _ _ => rfl)) (pv 3) (fun _ _ => rfl)) pe_int) pa_nil)))) pa_nil)) (by rfl))
      (pss_one (ps_for PassesOwn.never rfl (pi_listK K (pe_lst (pa_cons (pe_tup (pa_cons (pv 4) (pa_cons (pe_ix (ix_tupK K) (pv 0) pe_int (fun _ _ => rfl)) pa_nil))) (pa_cons (pe_tup (pa_cons (pe_ix (ix_tupK K) (pv 0) pe_int (fun _ _ => rfl)) (pa_cons (pv 5) pa_nil))) pa_nil)))) (pg_name (i := 6) sc_l_least.nd rfl (.inr rfl)) (pss_one (ps_if (pt_val (pe_callB (cr_allK K rfl) (by rfl) T.z_all (by decide +kernel) (pa_cons (pe_lc (own := [("_law_colour_here", 7)]) (by rfl) sc_l_least.nd (pi_listK K (pv 1)) (blkOk_by (own := [("_law_colour_here", 7)]) (N := N_l_least) (sc := defScope s_l_least) (by decide +kernel)) (fun _ _ _ _ _ => (pg_name (i := 7) sc_l_least.nd rfl (.inl rfl))) (fun _ _ _ _ _ => pts_nil) (fun _ _ _ _ _ => (pe_call (ok_holds T (k := k + 2)) hr (by rfl) T.g_holds T.F_holds.kp T.b_holds .nil pass0 (pa_cons (pv 6) (pa_cons (pv 7) pa_nil))))) pa_nil))) (pss_one (ps_ret pe_bl)) pss_nil))))))
      (pss_one (ps_ret pe_bl)))), ?_⟩
    refine ⟨_, rfl, _, rfl, B, .ref ba, _, _, 2, rfl, hx0, shb, by omega, by omega, fun H1 s1 => ?_⟩
    rw [boxes_box c0]
    refine ⟨_, rfl, iteF ?_⟩
    have ep1 := s1 _ _ ep
    refine ⟨_, rfl, pa, rfl, ⟨_, SqL.of ep1⟩, fun D hD => ?_⟩
    refine lc_pure (B := []) (walk_list (xs := vs)) hD (fun _ h => nomatch h) (fun H' s' => SqL.of (s' _ _ ep1)) (by omega)
      (fun i => some (PyData.bool true)) (fun i x H' H'' Ny Nn hi t1 bk y ky kn => ?_) (fun H2 ws s2 eD hW => ?_)
    · obtain ⟨rfl, y⟩ := y
      obtain ⟨c, a, ec, rfl, na, ea⟩ := colAt hA y
      have mc := List.mem_of_getElem? ec
      have t2 := s1.trans t1
      refine ⟨rfl, lc_yes ⟨_, rfl, _, rfl, B, .ref ba, .ref a, boxLo cs wd, boxHi cs wd, c, rfl, hx0.s t2, Dt.ofCol na (t2 _ _ ea), by rw [ll, hw c mc], by rw [lh, hw c mc], by rw [hw c mc]; exact w1, fun H3 s3 => ?_⟩⟩
      rw [boxes_hold c0 mc (hw c mc)]
      exact ky _ _ _ rfl s3 (.bl _)
    rw [allT] at hW
    refine ⟨D, _, rfl, SqL.of (by rw [eD, hW.blsV]), ?_⟩
    rw [show (List.replicate vs.length true).all id = true by simp]
    refine ⟨_, rfl, iteF ?_⟩
    have t2 := s1.trans s2
    have ebx2 := t2 _ _ ebx
    have elo2 := t2 _ _ elo
    have ehi2 := t2 _ _ ehi
    -- the places that are not flat
    refine ⟨_, rfl, (wd : Int), rfl, by omega, by omega, fun D2 hD2 => ?_⟩
    refine lc_pure (B := []) (walk_range (lo := 0) (n := wd)) hD2 (fun _ h => nomatch h) (fun H' s' => True.intro) (by omega)
      (fun i => if (boxLo cs wd).getD i 0 < (boxHi cs wd).getD i 0 then some (PyData.int (i : Int)) else none) (fun i x H' H'' Ny Nn hi t1 bk y ky kn => ?_) (fun H3 ws3 s3 eD3 hW3 => ?_)
    · obtain ⟨rfl, rfl⟩ := y
      have ez : (0 : Int) + (i : Int) = (i : Int) := by omega
      have a1 : atI ((boxLo cs wd).map V.int) ((0 : Int) + (i : Int)) = some (.int ((boxLo cs wd).getD i 0)) := by rw [ez]; exact atI_map (by omega)
      have a2 : atI ((boxHi cs wd).map V.int) ((0 : Int) + (i : Int)) = some (.int ((boxHi cs wd).getD i 0)) := by rw [ez]; exact atI_map (by omega)
      refine ⟨rfl, _, rfl, ba, _, 0, .ref la, rfl, rfl, SqT.of (t1 _ _ ebx2), rfl, _, rfl, la, _, _, _, rfl, rfl, SqT.of (t1 _ _ elo2), a1, _, rfl, ba, _, 1, .ref ha, rfl, rfl, SqT.of (t1 _ _ ebx2), rfl, _, rfl, ha, _, _, _, rfl, rfl, SqT.of (t1 _ _ ehi2), a2, _, _, rfl, rfl, _, rfl, ite2 (fun e => ?_) (fun e => ?_)⟩
      · have e' := of_decide_eq_true e
        refine ⟨_, rfl, ky _ _ (PyData.int (i : Int)) ?_ (Same.refl _) (by show Dt _ _ (V.int ((0 : Int) + (i : Int))) _; rw [ez]; exact .int _)⟩
        rw [if_pos e']
      · have e' : ¬ (boxLo cs wd).getD i 0 < (boxHi cs wd).getD i 0 := fun h => e (decide_eq_true h)
        exact kn _ (by rw [if_neg e']) (Same.refl _)
    · have t3 := t2.trans s3
      have ep3 := t3 _ _ ep
      refine ⟨D2, rfl, ⟨_, SqL.of eD3⟩, for_list (xs := ws3) (fun j σ H' => ∃ y3 y4 y5 y6 y7, σ = [some (.ref ba), some (.ref pa), some (.int (wd : Int)), y3, y4, y5, y6, y7] ∧ Same H3 H')
        ⟨_, _, _, _, _, rfl, Same.refl _⟩ (fun j σ H' _ h => ?_) (fun j x σ H4 hx4 h4 => ?_) (fun σ H4 h4 => ?_)⟩
      · obtain ⟨y3, y4, y5, y6, y7, rfl, s4⟩ := h
        exact SqL.of (s4 _ _ eD3)
      · obtain ⟨y3, y4, y5, y6, y7, rfl, s4⟩ := h4
        obtain ⟨d, fd', gd⟩ := hW3.getV hx4
        obtain ⟨n, hn, ed⟩ := List.mem_filterMap.mp (List.mem_of_getElem? fd')
        have hn := List.mem_range.mp hn
        have ed2 : d = .int (n : Int) := by
          split at ed
          · exact (Option.some.inj ed).symm
          · cases ed
        subst ed2
        have ex := gd.intI
        subst ex
        have t4 := t3.trans s4
        have B4 := hB.go (Go.of (B := B) t4)
        have ebx4 := t4 _ _ ebx
        have elo4 := t4 _ _ elo
        have ehi4 := t4 _ _ ehi
        have a1 : atI ((boxLo cs wd).map V.int) (n : Int) = some (.int ((boxLo cs wd).getD n 0)) := atI_map (by omega)
        have a2 : atI ((boxHi cs wd).map V.int) (n : Int) = some (.int ((boxHi cs wd).getD n 0)) := atI_map (by omega)
        refine ⟨_, rfl, ba, _, 0, .ref la, rfl, rfl, SqT.of ebx4, rfl, _, rfl, _, rfl, ba, _, 0, .ref la, rfl, rfl, SqT.of ebx4, rfl, _, rfl, la, _, _, _, rfl, rfl, SqT.of elo4, a1, _, _, rfl, rfl, ?_⟩
        refine ⟨B, .ref la, .int ((boxLo cs wd).getD n 0 + 1), (boxLo cs wd).map .int, .int ((boxLo cs wd).getD n 0 + 1), (n : Int), 0, rfl, dlo.s t4, .int _, B4, sh_eC (by omega), sh_int _ _, by simp; omega, fun v5 H5 s5 d5 _ => ?_⟩
        rw [put_eC] at d5
        have t5 := t4.trans s5
        have ebx5 := t5 _ _ ebx
        have ehi5 := t5 _ _ ehi
        refine ⟨_, rfl, ba, _, 1, .ref ha, rfl, rfl, SqT.of ebx5, rfl, _, rfl, _, rfl, ba, _, 1, .ref ha, rfl, rfl, SqT.of ebx5, rfl, _, rfl, ha, _, _, _, rfl, rfl, SqT.of ehi5, a2, _, _, rfl, rfl, ?_⟩
        refine ⟨B, .ref ha, .int ((boxHi cs wd).getD n 0 - 1), (boxHi cs wd).map .int, .int ((boxHi cs wd).getD n 0 - 1), (n : Int), 0, rfl, dhi.s t5, .int _, B4.go (Go.of (B := B) s5), sh_eC (by omega), sh_int _ _, by simp; omega, fun v6 H6 s6 d6 _ => ?_⟩
        rw [put_eC] at d6
        have t6 := t5.trans s6
        have d5 := d5.s s6
        refine ⟨_, _, rfl, ?_⟩
        have ebx6 := t6 _ _ ebx
        have B6 := hB.go (Go.of (B := B) t6)
        refine ⟨_, rfl, _, rfl, ba, _, 1, .ref ha, rfl, rfl, SqT.of ebx6, rfl, (by show 2 ≤ sizeLine; decide), fun p7 hp7 => ?_⟩
        have s7 := sm_new (o := .tup [v5, .ref ha]) hp7
        have t7 := t6.trans s7
        have d7 : Dt B (upd H6 p7 (.tup [v5, .ref ha])) (.ref p7) (eB (putL (boxLo cs wd) n ((boxLo cs wd).getD n 0 + 1)) (boxHi cs wd)) := .tup (B6.ne hp7) upd_same (.cons (d5.s s7) (.one (dhi.s t7)))
        have d6 := d6.s s7
        generalize upd H6 p7 (.tup [v5, .ref ha]) = H7 at *
        have B7 := hB.go (Go.of (B := B) t7)
        refine ⟨_, rfl, ba, _, 0, .ref la, rfl, rfl, SqT.of (t7 _ _ ebx), rfl, _, rfl, (by show 2 ≤ sizeLine; decide), fun p8 hp8 => ?_⟩
        have s8 := sm_new (o := .tup [.ref la, v6]) hp8
        have t8 := t7.trans s8
        have d8 : Dt B (upd H7 p8 (.tup [.ref la, v6])) (.ref p8) (eB (boxLo cs wd) (putL (boxHi cs wd) n ((boxHi cs wd).getD n 0 - 1))) := .tup (B7.ne hp8) upd_same (.cons (dlo.s t8) (.one (d6.s s8)))
        have d7 := d7.s s8
        generalize upd H7 p8 (.tup [.ref la, v6]) = H8 at *
        refine ⟨(by show 2 ≤ sizeLine; decide), fun p9 hp9 => ?_⟩
        have s9 := sm_new (o := .lst [.ref p7, .ref p8]) hp9
        have t9 := t8.trans s9
        have e9 : (upd H8 p9 (.lst [.ref p7, .ref p8])) p9 = some (.lst [.ref p7, .ref p8]) := upd_same
        have d7 := d7.s s9
        have d8 := d8.s s9
        have s39 := ((((s4.trans s5).trans s6).trans s7).trans s8).trans s9
        generalize upd H8 p9 (.lst [.ref p7, .ref p8]) = H9 at *
        have llo : (putL (boxLo cs wd) n ((boxLo cs wd).getD n 0 + 1)).length = wd := by rw [putL_len (by omega)]; exact ll
        have lhi : (putL (boxHi cs wd) n ((boxHi cs wd).getD n 0 - 1)).length = wd := by rw [putL_len (by omega)]; exact lh
        refine ⟨p9, rfl, ⟨_, SqL.of e9⟩, for_list (xs := [.ref p7, .ref p8]) (fun j σ H' => ∃ y3 y4 y5 y6 y7, σ = [some (.ref ba), some (.ref pa), some (.int (wd : Int)), y3, y4, y5, y6, y7] ∧ Same H9 H')
          ⟨_, _, _, _, _, rfl, Same.refl _⟩ (fun j σ H' _ h => ?_) (fun j x σ H10 hx10 h10 => ?_) (fun σ H10 h10 => ?_)⟩
        · obtain ⟨y3, y4, y5, y6, y7, rfl, s10⟩ := h
          exact SqL.of (s10 _ _ e9)
        · obtain ⟨y3, y4, y5, y6, y7, rfl, s10⟩ := h10
          have t10 := t9.trans s10
          have ep10 := t10 _ _ ep
          obtain ⟨lo, hi, dx, l1, l2, hno⟩ : ∃ lo hi, Dt B H9 x (eB lo hi) ∧ lo.length = wd ∧ hi.length = wd ∧ (cs.map fun c => hol lo c hi).all id = false := by
            match j, hx10 with
            | 0, e => cases e; exact ⟨_, _, d7, llo, lh, not_lo c0 hw hn⟩
            | 1, e => cases e; exact ⟨_, _, d8, ll, lhi, not_hi c0 hw hn⟩
            | j + 2, e => simp at e
          refine ⟨_, rfl, pa, rfl, ⟨_, SqL.of ep10⟩, fun D3 hD3 => ?_⟩
          refine lc_pure (B := []) (walk_list (xs := vs)) hD3 (fun _ h => nomatch h) (fun H' s' => SqL.of (s' _ _ ep10)) (by omega)
            (fun i => (cs.map fun c => PyData.bool (hol lo c hi))[i]?) (fun i x2 H' H'' Ny Nn hi' t1 bk y ky kn => ?_) (fun H11 ws11 s11 eD11 hW11 => ?_)
          · obtain ⟨rfl, y⟩ := y
            obtain ⟨c, a, ec, rfl, na, ea⟩ := colAt hA y
            have mc := List.mem_of_getElem? ec
            have t11 := t10.trans t1
            refine ⟨rfl, lc_yes ⟨_, rfl, _, rfl, B, x, .ref a, lo, hi, c, rfl, dx.s (s10.trans t1), Dt.ofCol na (t11 _ _ ea), by rw [l1, hw c mc], by rw [l2, hw c mc], by rw [hw c mc]; exact w1, fun H12 s12 => ?_⟩⟩
            exact ky _ _ _ (by rw [List.getElem?_map, ec]; rfl) s12 (.bl _)
          · rw [fm_all (by simp; omega)] at hW11
            have hW12 : DtA [D3] H11 ws11 ((cs.map fun c => hol lo c hi).map PyData.bool) := by rw [List.map_map]; exact hW11
            refine ⟨D3, _, rfl, SqL.of (by rw [eD11, hW12.blsV]), ?_⟩
            rw [hno]
            exact ⟨_, rfl, iteF ⟨_, _, _, _, _, rfl, s10.trans s11⟩⟩
        · obtain ⟨y3, y4, y5, y6, y7, rfl, s10⟩ := h10
          exact ⟨_, _, _, _, _, rfl, s39.trans s10⟩
      · obtain ⟨y3, y4, y5, y6, y7, rfl, s4⟩ := h4
        exact q _ (t3.trans s4)
/-! ### palette -/
def cOk (wd : Int) (c : List Int) : Prop := (c.length : Int) = wd ∧ cIn 0 999 c
def spPalette : Sp := fun vs H Q _ => ∃ (L : Addr) (n : Nat) (kv : V) (wd sp : Int), vs = [.ref L, kv] ∧ Lf L H n ∧ n < 10000000 ∧ Dt [L] H kv (eC [wd, sp]) ∧ 0 ≤ wd ∧ wd ≤ 5 ∧ 1 ≤ sp ∧ sp ≤ 1000 ∧
  ∀ (v : V) (H' : Hp) (cs : List (List Int)), Go [L] H H' → Lf L H' (n + 1000) → Dt [L] H' v (eP cs) → 0 < cs.length → cs.length ≤ 40 → (∀ c ∈ cs, cOk wd c) → Q v H'
theorem ok_l_palette (T : Tx K mg) {k : Nat} : FnOk P w K mg base CX0 (k + 4) T.f_l_palette T.d_l_palette ["_law_left_here", "_law_kind_here"] spPalette := by
  refine T.F_l_palette.ok sc_l_palette (fun vs H Q E h => ?_) (fun cdv A outer s H vs Q E hr h => ?_)
  · obtain ⟨L, n, kv, wd, sp, rfl, _⟩ := h
    rfl
  · obtain ⟨L, n, kv, wd, sp, rfl, hL, hn, hk, w0, w1, s0, s1, q⟩ := h
    refine ⟨_, (pss_cons (ps_set (i := 2) sc_l_palette.nd rfl (.inl rfl) (pe_ix (ix_listK K) (pe_lst (pa_cons pe_int (pa_cons pe_int (pa_cons pe_int (pa_cons pe_int (pa_cons pe_int (pa_cons pe_int (pa_cons pe_int (pa_cons (pe_op op_add pe_int (pe_call (ok_l_pick T (k := k + 1)) hr (by rfl) T.g_l_pick T.F_l_pick.kp T.b_l_pick .nil pass0 (pa_cons (pv 0) (pa_cons pe_int pa_nil)))) pa_nil))))))))) (pe_call (ok_l_pick T (k := k + 1)) hr (by rfl) T.g_l_pick T.F_l_pick.kp T.b_l_pick .nil pass0 (pa_cons (pv 0) (pa_cons pe_int pa_nil))) (fun _ _ => rfl)))
      (pss_cons (ps_set (i := 3) sc_l_palette.nd rfl (.inl rfl) (pe_lst pa_nil))
      (pss_cons (ps_for PassesOwn.never rfl (pi_range1 (by rfl) T.z_range (pa_cons (pv 2) pa_nil)) (pg_name (i := 4) sc_l_palette.nd rfl (.inl rfl)) (pss_cons (ps_set (i := 5) sc_l_palette.nd rfl (.inl rfl) (pe_call (ok_l_colour T (k := k)) hr (by rfl) T.g_l_colour T.F_l_colour.kp T.b_l_colour .nil pass0 (pa_cons (pv 0) (pa_cons (pv 1) pa_nil))))
      (Evl.pss_cut (ps_if (PW.pt (pw_and (pt_cmpR (op_neDK K hr.units) (pv 3) (pe_lst pa_nil) (nomark _)) (pw_and1 (pt_cmpR op_eq (pe_call (ok_l_pick T (k := k + 1)) hr (by rfl) T.g_l_pick T.F_l_pick.kp T.b_l_pick .nil pass0 (pa_cons (pv 0) (pa_cons pe_int pa_nil))) pe_int (nomark _))))) (pss_one (ps_set (i := 5) sc_l_palette.nd rfl (.inl rfl) (pe_ix (ix_listK K) (pv 3) (pe_call (ok_l_pick T (k := k + 1)) hr (by rfl) T.g_l_pick T.F_l_pick.kp T.b_l_pick .nil pass0 (pa_cons (pv 0) (pa_cons (pe_callB (len_K K) (by rfl) T.z_len PySem.boot_len (pa_cons (pv 3) pa_nil)) pa_nil))) (fun _ _ => rfl)))) pss_nil)
      (pss_one (ps_expr (pe_bm PySem.F.plainAttrs_list PySem.F.slot_list_append PySem.F.type_list_append mt_append (pv 3) (pa_cons (pv 5) pa_nil)))))))
      (pss_one (ps_ret (pv 3)))))), ?_⟩
    refine ⟨_, rfl, L, 31, n, rfl, hL, by omega, by decide, by decide, fun r1 H1 g1 l1 a1 b1 => ?_⟩
    refine ⟨_, _, rfl, rfl, (by show 8 ≤ sizeLine; decide), fun p hp => ?_⟩
    refine ⟨_, rfl, L, 8, n + 1, rfl, l1.new hp, by omega, by decide, by decide, fun r2 H2 g2 l2 a2 b2 => ?_⟩
    have e2 : H2 p = some (.lst ([1, 2, 3, 4, 5, 7, 9, 10 + r1].map V.int)) := g2.k p _ (l1.bk.ne hp) upd_same
    obtain ⟨m, mm, em⟩ := at_int (ns := [1, 2, 3, 4, 5, 7, 9, 10 + r1]) a2 b2
    refine ⟨p, _, r2, .int m, rfl, rfl, SqL.of e2, em, ?_⟩
    have hm : 1 ≤ m ∧ m ≤ 40 := by
      simp at mm
      omega
    have gH : Go [L] H H2 := (g1.trans (Go.new hp)).trans g2
    refine ⟨Nat.zero_le _, fun D hD => ?_⟩
    have hD0 : H D = none := gH.free hD
    refine ⟨_, rfl, m, rfl, by omega, by omega, for_range (lo := 0) (n := m.toNat) (fun i σ H' => ∃ y4 y5 vs cs, σ = [some (.ref L), some kv, some (.int m), some (.ref D), y4, y5] ∧ Go [L] H H' ∧ Lf L H' (n + 2 + 12 * i) ∧ H' D = some (.lst vs) ∧ DtA [D, L] H' vs (cs.map eC) ∧ cs.length = i ∧ ∀ c ∈ cs, cOk wd c)
      ⟨none, none, [], [], rfl, gH.mut hD0, (l2.new hD).mono (by omega), upd_same, .nil, rfl, fun _ h => nomatch h⟩ (fun i σ H3 hi h3 => ?_) (fun σ H3 h3 => ?_)⟩
    · obtain ⟨y4, y5, vs, cs, rfl, g3, l3, eD, hA, hl, hc⟩ := h3
      have nD : D ∉ [L] := hL.bk.ne hD0
      have bk3 : Bk [D, L] H3 := l3.bk.cons eD
      refine ⟨_, rfl, _, rfl, L, [D, L], n + 2 + 12 * i, kv, wd, sp, rfl, l3, by simp, bk3, by omega, hk.g g3, w0, w1, s0, s1, fun v H4 ns g4 l4 d4 n4 c4 => ?_⟩
      have eD4 := g4.k D _ nD eD
      refine ⟨fun σ' H' => ∃ y4 v c, σ' = [some (.ref L), some kv, some (.int m), some (.ref D), y4, some v] ∧ Go [L] H3 H' ∧ Lf L H' (n + 2 + 12 * i + 12) ∧ Dt [D, L] H' v (eC c) ∧ cOk wd c, ?_, fun σ' H' hM => ?_⟩
      · refine ⟨_, rfl, Nat.zero_le _, fun z hz => ⟨eP cs, .list [], ?_, .lst (SqL.of upd_same) .nil, ?_, rfl, _, rfl, ite2 (fun e => ?_) (fun e => ?_)⟩⟩
        · exact Dt.dP (B := [L]) (.lst nD ((Go.new (B := [L]) hz).k D _ nD eD4) (((hA.g (g4.w1 (by simp))).un).g (Go.new hz)))
        · exact (sh_eP (by omega) fun c h => by have := (hc c h).1; omega).sh (by omega)
        · have hcs : cs ≠ [] := fun z => by
            subst z
            exact absurd e (by decide)
          have hlen : 0 < cs.length := List.length_pos_iff.mpr hcs
          refine ⟨_, rfl, L, 6, n + 2 + 12 * i + 10, rfl, l4.new hz, by omega, by decide, by decide, fun r5 H5 g5 l5 a5 b5 => ?_⟩
          have g45 : Go [L] H4 H5 := (Go.new hz).trans g5
          refine ⟨rfl, _, rfl, ite2 (fun e => ?_) (fun e => ?_)⟩
          · have eD5 := g45.k D _ nD eD4
            have hA5 := hA.g ((g4.trans g45).w1 (B := [D, L]) (by simp))
            have lv := hA5.len
            rw [List.length_map] at lv
            refine ⟨_, rfl, _, rfl, _, rfl, D, _, rfl, .inl (SqL.of eD5), L, _, n + 2 + 12 * i + 11, rfl, l5, by omega, by omega, by omega, fun r6 H6 g6 l6 a6 b6 => ?_⟩
            have eD6 := g6.k D _ nD eD5
            have hr6 : r6.toNat < cs.length := by omega
            obtain ⟨v6, f6, d6⟩ := (hA5.g (g6.w1 (B := [D, L]) (by simp))).get (i := r6.toNat) (d := eC cs[r6.toNat]) (by rw [List.getElem?_map, List.getElem?_eq_getElem hr6]; rfl)
            refine ⟨D, _, _, _, rfl, rfl, SqL.of eD6, at0 a6 f6, ?_⟩
            exact ⟨_, v6, _, rfl, (g4.trans g45).trans g6, l6.mono (by omega), d6, hc _ (List.getElem_mem hr6)⟩
          · exact ⟨_, v, ns, rfl, g4.trans g45, l5.mono (by omega), d4.g (g45.w1 (by simp)), n4, c4⟩
        · exact iteF ⟨_, v, ns, rfl, g4.trans (Go.new hz), (l4.new hz).mono (by omega), d4.g (Go.new hz), n4, c4⟩
      · obtain ⟨z4, v7, c7, rfl, g7, l7, d7, o7⟩ := hM
        have eD7 := g7.k D _ nD eD
        have hA7 := hA.g (g7.w1 (B := [D, L]) (by simp))
        have lv := hA7.len
        rw [List.length_map] at lv
        have gm : Go [D, L] H' (upd H' D (.lst (vs ++ [v7]))) := Go.refl.at (by simp)
        refine ⟨_, rfl, .inl ⟨rfl, _, SqL.of eD7⟩, _, rfl, D, _, _, rfl, rfl, eD7, sz (by omega), ?_⟩
        refine ⟨z4, some v7, vs ++ [v7], cs ++ [c7], rfl, (g3.trans g7).mut hD0, (l7.up (hL.ne hD0)).mono (by omega), upd_same, ?_, by simp; omega, fun c h => ?_⟩
        · rw [List.map_append]
          exact (hA7.g gm).app (.one (d7.g gm))
        · rcases List.mem_append.mp h with h | h
          · exact hc c h
          · rw [List.mem_singleton.mp h]
            exact o7
    · obtain ⟨y4, y5, vs, cs, rfl, g3, l3, eD, hA, hl, hc⟩ := h3
      exact ⟨_, rfl, q _ _ cs g3 (l3.mono (by omega)) (.lst (hL.bk.ne hD0) eD hA.un) (by omega) (by omega) hc⟩
/-! ### what the law promises -/
def spLaw (K : PySem.W.Frag) : Sp := fun vs H Q _ => ∃ (a : Addr) (ns : List Int), vs = [.ref a] ∧ SqL K H a (ns.map V.int) ∧ ns.length ≤ 63 ∧ ∀ H', Q (.bl true) H'
/-! ### the law -/
theorem mem_cut {cs : List (List Int)} {m : Nat} (h1 : 1 ≤ m) (c : List Int) : c ∈ cs ↔ c ∈ cs.take m ∨ c ∈ cs.drop (m - 1) := by
  constructor
  · intro h
    have e := List.take_append_drop (m - 1) cs
    rw [← e] at h
    rcases List.mem_append.mp h with z | z
    · left
      have : cs.take (m - 1) = (cs.take m).take (m - 1) := by rw [List.take_take, Nat.min_eq_left (by omega)]
      rw [this] at z
      exact List.mem_of_mem_take z
    · exact .inr z
  · intro h
    rcases h with z | z
    · exact List.mem_of_mem_take z
    · exact List.mem_of_mem_drop z
theorem DtA.cutTo {B : List Addr} {H : Hp} {vs : List V} {cs : List (List Int)} (h : DtA B H vs (cs.map eC)) {n : Int} (h0 : 0 ≤ n) : DtA B H (cutV vs none (some n)) ((cs.take n.toNat).map eC) := by
  have := h.cut none (some n)
  rw [cutL_map, cut_to cs h0] at this
  exact this
theorem DtA.cutFrom {B : List Addr} {H : Hp} {vs : List V} {cs : List (List Int)} (h : DtA B H vs (cs.map eC)) {n : Int} (h0 : 0 ≤ n) : DtA B H (cutV vs (some n) none) ((cs.drop n.toNat).map eC) := by
  have := h.cut (some n) none
  rw [cutL_map, cut_from cs h0] at this
  exact this
set_option maxHeartbeats 2000000 in
theorem ok_law (T : Tx K mg) {f : Addr} {fd : FuncData} (F : Fun K "law" "law" s_law f fd) {k : Nat} (hk : k ≤ 10) : FnOk P w K mg base CX0 (k + 5) f fd ["_law_script"] (spLaw K) := by
  refine F.ok sc_law (fun vs H Q E h => ?_) (fun cdv A outer s H vs Q E hr h => ?_)
  · obtain ⟨a, ns, rfl, _⟩ := h
    rfl
  · obtain ⟨a, ns, rfl, hS, hlen, q⟩ := h
    refine ⟨_, (pss_cons (ps_for PassesOwn.never rfl (pi_range1 (by rfl) T.z_range (pa_cons (pe_op op_add pe_int (pe_callB (len_K K) (by rfl) T.z_len PySem.boot_len (pa_cons (pe_slice (sl_listK K) (pv 0) po_none (po_some pe_int)) pa_nil))) pa_nil)) (pg_name (i := 1) sc_law.nd rfl (.inl rfl)) (pss_cons (ps_set (i := 2) sc_law.nd rfl (.inl rfl) (pe_call (ok_l_left T (k := k + 3)) hr (by rfl) T.g_l_left T.F_l_left.kp T.b_l_left .nil pass0 (pa_cons (pv 0) (pa_cons (pv 1) pa_nil))))
      (pss_cons (ps_set (i := 3) sc_law.nd rfl (.inl rfl) (pe_call (ok_l_kind T (k := k + 1)) hr (by rfl) T.g_l_kind T.F_l_kind.kp T.b_l_kind .nil pass0 (pa_cons (pv 2) pa_nil)))
      (pss_cons (ps_set (i := 4) sc_law.nd rfl (.inl rfl) (pe_call (ok_l_palette T (k := k)) hr (by rfl) T.g_l_palette T.F_l_palette.kp T.b_l_palette .nil pass0 (pa_cons (pv 2) (pa_cons (pv 3) pa_nil))))
      (pss_cons (ps_set (i := 5) sc_law.nd rfl (.inl rfl) (pe_callTy (list_K K) (by rfl) T.z_list (by decide +kernel) (pa_cons (pv 4) pa_nil)))
      (pss_cons (ps_set (i := 6) sc_law.nd rfl (.inl rfl) (pe_call (ok_box_of T (k := k + 2)) hr (by rfl) T.g_box_of T.F_box_of.kp T.b_box_of .nil pass0 (pa_cons (pv 4) pa_nil)))
      (pss_cons (ps_if (PW.pt (pw_or (pt_not (pt_val (pe_call (ok_l_same T (k := k + 3)) hr (by rfl) T.g_l_same T.F_l_same.kp T.b_l_same .nil pass0 (pa_cons (pv 6) (pa_cons (pe_call (ok_l_box T (k := k + 3)) hr (by rfl) T.g_l_box T.F_l_box.kp T.b_l_box .nil pass0 (pa_cons (pv 4) pa_nil)) pa_nil))))) (pw_or (pt_not (pt_val (pe_call (ok_l_least T (k := k)) hr (by rfl) T.g_l_least T.F_l_least.kp T.b_l_least .nil pass0 (pa_cons (pv 6) (pa_cons (pv 4) (pa_cons (pe_ix (ix_tupK K) (pv 3) pe_int (fun _ _ => rfl)) pa_nil)))))) (pw_or1 (pt_cmpR (op_neDK K hr.units) (pv 4) (pv 5) (nomark _)))))) (pss_one (ps_ret pe_bl)) pss_nil)
      (pss_cons (ps_set (i := 7) sc_law.nd rfl (.inl rfl) (pe_op op_cat (pe_revL (pv 4)) (pe_slice (sl_listK K) (pv 4) po_none (po_some pe_int))))
      (pss_cons (ps_set (i := 8) sc_law.nd rfl (.inl rfl) (pe_op op_add pe_int (pe_call (ok_l_pick T (k := k + 2)) hr (by rfl) T.g_l_pick T.F_l_pick.kp T.b_l_pick .nil pass0 (pa_cons (pv 2) (pa_cons (pe_callB (len_K K) (by rfl) T.z_len PySem.boot_len (pa_cons (pv 4) pa_nil)) pa_nil)))))
      (pss_cons (ps_par (i := 9) (j := 10) (by rfl) sc_law.nd rfl rfl (by decide) rfl rfl (pa_cons (pe_slice (sl_listK K) (pv 4) po_none (po_some (pv 8))) (pa_cons (pe_slice (sl_listK K) (pv 4) (po_some (pe_op op_sub (pv 8) pe_int)) po_none) pa_nil)) (by rfl))
      (pss_cons (ps_set (i := 11) sc_law.nd rfl (.inl rfl) (pe_lst (pa_cons (pe_call (ok_box_of T (k := k + 2)) hr (by rfl) T.g_box_of T.F_box_of.kp T.b_box_of .nil pass0 (pa_cons (pv 7) pa_nil)) (pa_cons (pe_call (ok_both_boxes T (k := k + 1)) hr (by rfl) T.g_both_boxes T.F_both_boxes.kp T.b_both_boxes .nil pass0 (pa_cons (pe_call (ok_box_of T (k := k + 2)) hr (by rfl) T.g_box_of T.F_box_of.kp T.b_box_of .nil pass0 (pa_cons (pv 9) pa_nil)) (pa_cons (pe_call (ok_box_of T (k := k + 2)) hr (by rfl) T.g_box_of T.F_box_of.kp T.b_box_of .nil pass0 (pa_cons (pv 10) pa_nil)) pa_nil))) (pa_cons (pe_call (ok_both_boxes T (k := k + 1)) hr (by rfl) T.g_both_boxes T.F_both_boxes.kp T.b_both_boxes .nil pass0 (pa_cons (pe_call (ok_box_of T (k := k + 2)) hr (by rfl) T.g_box_of T.F_box_of.kp T.b_box_of .nil pass0 (pa_cons (pv 10) pa_nil)) (pa_cons (pe_call (ok_box_of T (k := k + 2)) hr (by rfl) T.g_box_of T.F_box_of.kp T.b_box_of .nil pass0 (pa_cons (pv 9) pa_nil)) pa_nil))) pa_nil)))))
      (pss_cons (ps_if (pt_not (pt_val (pe_call (ok_l_same T (k := k + 3)) hr (by rfl) T.g_l_same T.F_l_same.kp T.b_l_same .nil pass0 (pa_cons (pv 11) (pa_cons (pe_lst (pa_cons (pv 6) (pa_cons (pv 6) (pa_cons (pv 6) pa_nil)))) pa_nil))))) (pss_one (ps_ret pe_bl)) pss_nil)
      (pss_one (ps_if (pt_not (pt_val (pe_call (ok_l_same T (k := k + 3)) hr (by rfl) T.g_l_same T.F_l_same.kp T.b_l_same .nil pass0 (pa_cons (pe_call (ok_both_boxes T (k := k + 1)) hr (by rfl) T.g_both_boxes T.F_both_boxes.kp T.b_both_boxes .nil pass0 (pa_cons (pv 6) (pa_cons (pe_call (ok_box_of T (k := k + 2)) hr (by rfl) T.g_box_of T.F_box_of.kp T.b_box_of .nil pass0 (pa_cons (pv 9) pa_nil)) pa_nil))) (pa_cons (pv 6) pa_nil))))) (pss_one (ps_ret pe_bl)) pss_nil))))))))))))))
      (pss_one (ps_ret pe_bl))), ?_⟩
    refine ⟨_, rfl, 8, rfl, a, _, rfl, hS, fun cp hcp => ?_⟩
    have lc := cutV_length (ns.map V.int) none (some 8)
    rw [List.length_map] at lc
    refine ⟨cp, _, rfl, .inl (SqL.of upd_same), _, _, rfl, rfl, _, rfl, by omega, by omega, ?_⟩
    have s0 := sm_new (o := .lst (cutV (ns.map V.int) none (some 8))) hcp
    refine for_range (lo := 0) (fun i σ H' => ∃ y1 y2 y3 y4 y5 y6 y7 y8 y9 y10 y11, σ = [some (.ref a), y1, y2, y3, y4, y5, y6, y7, y8, y9, y10, y11] ∧ Same H H')
      ⟨none, none, none, none, none, none, none, none, none, none, none, rfl, s0⟩ (fun i σ H1 hi h1 => ?_) (fun σ H1 h1 => ?_)
    · obtain ⟨y1, y2, y3, y4, y5, y6, y7, y8, y9, y10, y11, rfl, s1⟩ := h1
      refine ⟨_, rfl, _, rfl, a, ns, _, rfl, s1.seq hS, by omega, fun L x0 y0 hL0 x0n => ?_⟩
      have lf1 : Lf L (upd H1 L (.lst [.int x0, .int y0, .int 0])) 0 := ⟨x0, y0, 0, upd_same, x0n, by omega, by omega⟩
      have s2 := sm_mut (o := .lst [.int x0, .int y0, .int 0]) s1 (s1.free hL0)
      have hLH : H L = none := s1.free hL0
      generalize upd H1 L (.lst [.int x0, .int y0, .int 0]) = H2 at *
      have nB : ∀ b ∈ [L], H b = none := fun b hb => by rw [List.mem_singleton.mp hb]; exact hLH
      refine ⟨_, rfl, L, 0, rfl, lf1, by omega, fun kv H3 wd0 sp g3 l3 w0 w1 p0 p1 d3 => ?_⟩
      obtain ⟨wd, rfl⟩ : ∃ wd : Nat, wd0 = (wd : Int) := ⟨wd0.toNat, by omega⟩
      refine ⟨_, rfl, _, rfl, L, 2, kv, (wd : Int), sp, rfl, l3, by omega, d3, by omega, w1, by omega, p1, fun pl H4 cs g4 l4 d4 c0 c1 cok => ?_⟩
      obtain ⟨pa, vs, rfl, np, ep, hA⟩ := d4.pal
      have lv := hA.len
      rw [List.length_map] at lv
      have hw : ∀ c ∈ cs, c.length = wd := fun c hc => by have := (cok c hc).1; omega
      have s4 : Same H H4 := (g3.trans g4).sm s2 nB
      have d34 := d3.g g4
      refine ⟨_, rfl, pa, _, rfl, .inl (SqL.of ep), fun kp hkp => ?_⟩
      have s5 := sm_new (o := .lst vs) hkp
      have dk5 : Dt [L] (upd H4 kp (.lst vs)) (.ref kp) (eP cs) := .lst (l4.bk.ne hkp) upd_same (hA.s s5)
      have dp5 := d4.s s5
      have l5 := l4.same s5
      have hA5 := hA.s s5
      have ep5 := s5 _ _ ep
      have d35 := d34.s s5
      have sH5 := s4.trans s5
      generalize upd H4 kp (.lst vs) = H5 at *
      have w100 : wd ≤ 100 := by omega
      refine ⟨_, rfl, [L], .ref pa, cs, wd, rfl, dp5, l5.bk, c0, by omega, w100, hw, fun fv H6 s6 d6 => ?_⟩
      have shb : Sh (eB (boxLo cs wd) (boxHi cs wd)) 2 := sh_tup (by simp) fun d hd => by
        simp only [List.mem_cons, List.not_mem_nil, or_false] at hd
        rcases hd with rfl | rfl
        · exact sh_eC (by rw [boxLo_len]; omega)
        · exact sh_eC (by rw [boxHi_len]; omega)
      refine ⟨_, rfl, _, rfl, [L], .ref pa, cs, wd, rfl, dp5.s s6, (l5.same s6).bk, c0, by omega, w100, hw, fun v7 H7 s7 d7 => ?_⟩
      refine ⟨[L], fv, v7, _, rfl, d6.s s7, d7, shb.mono (by omega), by omega, fun H8 s8 => ?_⟩
      refine ⟨_, rfl, iteF ?_⟩
      have t8 := (s6.trans s7).trans s8
      obtain ⟨kk, rfl, nk, ek⟩ := (d35.s t8).col
      refine ⟨_, rfl, _, rfl, _, rfl, kk, _, 0, .int (wd : Int), rfl, rfl, SqT.of ek, rfl, [L], fv, .ref pa, cs, wd, rfl, d6.s (s7.trans s8), dp5.s t8, (l5.same t8).bk, c0, by omega, w100, hw, fun H9 s9 => ?_⟩
      refine ⟨_, rfl, iteF ?_⟩
      have t9 := t8.trans s9
      have she : Sh (eP cs) 2 := sh_eP (by omega) fun x hx => by rw [hw x hx]; omega
      refine ⟨_, rfl, _, rfl, _, _, (dp5.s t9).dP, (dk5.s t9).dP, she.sh (by omega), she.sh (by omega), _, rfl, iteN (by rw [eqv_sh she]; rfl) ?_⟩
      have l9 := l5.same t9
      have hA9 := hA5.s t9
      have ep9 := t9 _ _ ep5
      have d69 := d6.s ((s7.trans s8).trans s9)
      have dp9 := dp5.s t9
      -- turned
      refine ⟨_, rfl, pa, _, rfl, SqL.of ep9, fun rp hrp => ?_⟩
      have s10 := sm_new (o := .lst vs.reverse) hrp
      have er10 : (upd H9 rp (.lst vs.reverse)) rp = some (.lst vs.reverse) := upd_same
      generalize upd H9 rp (.lst vs.reverse) = H10 at *
      have ep10 := s10 _ _ ep9
      refine ⟨_, rfl, 1, rfl, pa, _, rfl, SqL.of ep10, fun c11 hc11 => ?_⟩
      have s11 := sm_new (o := .lst (cutV vs none (some 1))) hc11
      have e11 : (upd H10 c11 (.lst (cutV vs none (some 1)))) c11 = some (.lst (cutV vs none (some 1))) := upd_same
      have er11 := s11 _ _ er10
      generalize upd H10 c11 (.lst (cutV vs none (some 1))) = H11 at *
      have t11 := s10.trans s11
      have hA11 := hA9.s t11
      have lcut := cutV_length vs none (some 1)
      refine ⟨rp, c11, _, _, rfl, rfl, er11, e11, (by rw [List.length_reverse]; exact Nat.le_of_lt (sz (by omega))), fun tp htp => ?_⟩
      have s12 := sm_new (o := .lst (vs.reverse ++ cutV vs none (some 1))) htp
      have hT12 : DtA [L] (upd H11 tp (.lst (vs.reverse ++ cutV vs none (some 1)))) (vs.reverse ++ cutV vs none (some 1)) ((cs.reverse ++ cs.take 1).map eC) := by
        rw [List.map_append, List.map_reverse]
        exact ((hA11.s s12).rev).app ((hA11.s s12).cutTo (n := 1) (by decide))
      have l11 := l9.same t11
      have dt12 : Dt [L] (upd H11 tp (.lst (vs.reverse ++ cutV vs none (some 1)))) (.ref tp) (eP (cs.reverse ++ cs.take 1)) := .lst (l11.bk.ne htp) upd_same hT12
      have t12 := t11.trans s12
      generalize upd H11 tp (.lst (vs.reverse ++ cutV vs none (some 1))) = H12 at *
      have l12 := l9.same t12
      have ep12 := t12 _ _ ep9
      -- cut
      refine ⟨_, rfl, _, rfl, pa, _, rfl, .inl (SqL.of ep12), L, _, 1002, rfl, l12.mono (by omega), by omega, by omega, by omega, fun r13 H13 g13 l13 a13 b13 => ?_⟩
      refine ⟨_, _, rfl, rfl, ?_⟩
      have ep13 := g13.k _ _ np ep12
      have hA13 := (hA9.s t12).g g13
      have dt13 := dt12.g g13
      have d613 := (d69.s t12).g g13
      refine ⟨_, rfl, _, rfl, 1 + r13, rfl, pa, _, rfl, SqL.of ep13, fun c14 hc14 => ?_⟩
      have s14 := sm_new (o := .lst (cutV vs none (some (1 + r13)))) hc14
      have d14 : Dt [L] (upd H13 c14 (.lst (cutV vs none (some (1 + r13))))) (.ref c14) (eP (cs.take (1 + r13).toNat)) := .lst (l13.bk.ne hc14) upd_same ((hA13.s s14).cutTo (by omega))
      have ep14 := s14 _ _ ep13
      have l14 := l13.same s14
      generalize upd H13 c14 (.lst (cutV vs none (some (1 + r13)))) = H14 at *
      refine ⟨_, rfl, _, rfl, _, _, rfl, rfl, 1 + r13 - 1, rfl, pa, _, rfl, SqL.of ep14, fun c15 hc15 => ?_⟩
      have s15 := sm_new (o := .lst (cutV vs (some (1 + r13 - 1)) none)) hc15
      have d15 : Dt [L] (upd H14 c15 (.lst (cutV vs (some (1 + r13 - 1)) none))) (.ref c15) (eP (cs.drop (1 + r13 - 1).toNat)) := .lst (l14.bk.ne hc15) upd_same (((hA13.s s14).s s15).cutFrom (by omega))
      have d14 := d14.s s15
      have l15 := l14.same s15
      have t15 := s14.trans s15
      have dt15 := dt13.s t15
      have d615 := d613.s t15
      have gg : Go [L] H12 (upd H14 c15 (.lst (cutV vs (some (1 + r13 - 1)) none))) := g13.trans (Go.of t15)
      generalize upd H14 c15 (.lst (cutV vs (some (1 + r13 - 1)) none)) = H15 at *
      refine ⟨_, _, rfl, ?_⟩
      have m1 : (1 + r13 - 1).toNat = (1 + r13).toNat - 1 := by omega
      rw [m1] at d15
      have m2 : 1 ≤ (1 + r13).toNat := by omega
      have m3 : (1 + r13).toNat ≤ cs.length := by omega
      generalize (1 + r13).toNat = mm at *
      have hw1 : ∀ c ∈ cs.take mm, c.length = wd := fun c hc => hw c (List.mem_of_mem_take hc)
      have hw2 : ∀ c ∈ cs.drop (mm - 1), c.length = wd := fun c hc => hw c (List.mem_of_mem_drop hc)
      have o1 : 0 < (cs.take mm).length := by rw [List.length_take]; omega
      have o2 : 0 < (cs.drop (mm - 1)).length := by rw [List.length_drop]; omega
      have o3 : (cs.take mm).length ≤ 1000 := by rw [List.length_take]; omega
      have o4 : (cs.drop (mm - 1)).length ≤ 1000 := by rw [List.length_drop]; omega
      have mt : ∀ c, c ∈ cs.reverse ++ cs.take 1 ↔ c ∈ cs := fun c => by
        rw [List.mem_append, List.mem_reverse]
        exact ⟨fun h => h.elim id List.mem_of_mem_take, .inl⟩
      have ct : 0 < (cs.reverse ++ cs.take 1).length := by rw [List.length_append, List.length_reverse]; omega
      -- both
      refine ⟨_, rfl, [L], .ref tp, _, wd, rfl, dt15, l15.bk, ct, by rw [List.length_append, List.length_reverse, List.length_take]; omega, w100, fun c hc => hw c ((mt c).mp hc), fun v16 H16 s16 d16 => ?_⟩
      rw [boxLo_same ct mt, boxHi_same ct mt] at d16
      refine ⟨_, rfl, [L], .ref c14, _, wd, rfl, d14.s s16, (l15.same s16).bk, o1, o3, w100, hw1, fun v17 H17 s17 d17 => ?_⟩
      have t17 := s16.trans s17
      refine ⟨_, rfl, [L], .ref c15, _, wd, rfl, d15.s t17, (l15.same t17).bk, o2, o4, w100, hw2, fun v18 H18 s18 d18 => ?_⟩
      have t18 := t17.trans s18
      have four : ∀ a b : List (List Int), ∀ c ∈ [boxLo a wd, boxHi a wd, boxLo b wd, boxHi b wd], c.length = wd := fun a b c hc => by
        simp only [List.mem_cons, List.not_mem_nil, or_false] at hc
        rcases hc with rfl | rfl | rfl | rfl
        · exact boxLo_len _ _
        · exact boxHi_len _ _
        · exact boxLo_len _ _
        · exact boxHi_len _ _
      refine ⟨[L], v17, v18, _, _, _, _, wd, rfl, d17.s s18, d18, (l15.same t18).bk, w100, four _ _, fun v19 H19 s19 d19 => ?_⟩
      rw [both_lo o1 o2 (mem_cut m2), both_hi o1 o2 (mem_cut m2)] at d19
      have t19 := t18.trans s19
      refine ⟨_, rfl, [L], .ref c15, _, wd, rfl, d15.s t19, (l15.same t19).bk, o2, o4, w100, hw2, fun v20 H20 s20 d20 => ?_⟩
      have t20 := t19.trans s20
      refine ⟨_, rfl, [L], .ref c14, _, wd, rfl, d14.s t20, (l15.same t20).bk, o1, o3, w100, hw1, fun v21 H21 s21 d21 => ?_⟩
      have t21 := t20.trans s21
      refine ⟨[L], v20, v21, _, _, _, _, wd, rfl, d20.s s21, d21, (l15.same t21).bk, w100, four _ _, fun v22 H22 s22 d22 => ?_⟩
      have mc2 : ∀ c, c ∈ cs ↔ c ∈ cs.drop (mm - 1) ∨ c ∈ cs.take mm := fun c => (mem_cut m2 c).trans Or.comm
      rw [both_lo o2 o1 mc2, both_hi o2 o1 mc2] at d22
      have t22 := t21.trans s22
      refine ⟨(by show 3 ≤ sizeLine; decide), fun p23 hp23 => ?_⟩
      have s23 := sm_new (o := .lst [v16, v19, v22]) hp23
      have l22 := l15.same t22
      have db : Dt [L] (upd H22 p23 (.lst [v16, v19, v22])) (.ref p23) (.list [eB (boxLo cs wd) (boxHi cs wd), eB (boxLo cs wd) (boxHi cs wd), eB (boxLo cs wd) (boxHi cs wd)]) := .lst (l22.bk.ne hp23) upd_same (.cons ((d16.s (((((s17.trans s18).trans s19).trans s20).trans s21).trans s22)).s s23) (.cons ((d19.s ((s20.trans s21).trans s22)).s s23) (.one (d22.s s23))))
      have t23 := t22.trans s23
      generalize upd H22 p23 (.lst [v16, v19, v22]) = H23 at *
      refine ⟨_, rfl, _, rfl, _, rfl, _, rfl, (by show 3 ≤ sizeLine; decide), fun p24 hp24 => ?_⟩
      have s24 := sm_new (o := .lst [fv, fv, fv]) hp24
      have t24 := t23.trans s24
      have df24 := d615.s t24
      have dd : Dt [L] (upd H23 p24 (.lst [fv, fv, fv])) (.ref p24) (.list [eB (boxLo cs wd) (boxHi cs wd), eB (boxLo cs wd) (boxHi cs wd), eB (boxLo cs wd) (boxHi cs wd)]) := .lst ((l15.same t23).bk.ne hp24) upd_same (.cons df24 (.cons df24 (.one df24)))
      have db := db.s s24
      generalize upd H23 p24 (.lst [fv, fv, fv]) = H24 at *
      have shl : Sh (.list [eB (boxLo cs wd) (boxHi cs wd), eB (boxLo cs wd) (boxHi cs wd), eB (boxLo cs wd) (boxHi cs wd)]) 3 := sh_lst (by simp) fun d hd => by
        simp only [List.mem_cons, List.not_mem_nil, or_false] at hd
        rcases hd with rfl | rfl | rfl <;> exact shb
      refine ⟨[L], .ref p23, .ref p24, _, rfl, db, dd, shl.mono (by omega), by omega, fun H25 s25 => ?_⟩
      refine ⟨_, rfl, iteF ?_⟩
      have t25 := t24.trans s25
      refine ⟨_, rfl, _, rfl, [L], .ref c14, _, wd, rfl, d14.s t25, (l15.same t25).bk, o1, o3, w100, hw1, fun v26 H26 s26 d26 => ?_⟩
      have t26 := t25.trans s26
      refine ⟨[L], fv, v26, _, _, _, _, wd, rfl, d615.s t26, d26, (l15.same t26).bk, w100, four _ _, fun v27 H27 s27 d27 => ?_⟩
      have mc3 : ∀ c, c ∈ cs ↔ c ∈ cs ∨ c ∈ cs.take mm := fun c => ⟨.inl, fun h => h.elim id List.mem_of_mem_take⟩
      rw [both_lo c0 o1 mc3, both_hi c0 o1 mc3] at d27
      have t27 := t26.trans s27
      refine ⟨_, rfl, [L], v27, fv, _, rfl, d27, d615.s t27, shb.mono (by omega), by omega, fun H28 s28 => ?_⟩
      refine ⟨_, rfl, iteF ?_⟩
      exact ⟨_, _, _, _, _, _, _, _, _, _, _, rfl, (gg.trans (Go.of (t27.trans s28))).sm (sH5.trans (t9.trans t12)) nB⟩
    · obtain ⟨y1, y2, y3, y4, y5, y6, y7, y8, y9, y10, y11, rfl, s1⟩ := h1
      exact q _

end
theorem all_mk {l : PySem.W.OpenLaw} {w : World} {K : PySem.W.Frag} {h : Heap} {mg : Str → Option Value} {fa : Addr} (X : K.In h) (G : h.Ns mainGlobals mg) (hfa : mg "law" = some (.ref fa))
    {f0 : Addr} {od0 an0 : Option Addr} {sl0 : Array (Option Value)} {oc0 kV0 dc0 pm0 cd0 ct0 : Value}
    (a0 : PySem.W.nsIn K mainGlobals "is_number" = some (some (.ref f0))) (l0 : K.lookup f0 = some ⟨oc0, od0, .func (PySem.W.fnOf "is_number" "is_number" (defArgs s_is_number) (defBody s_is_number) (defScope s_is_number) .none kV0 dc0 pm0 an0 cd0 ct0), sl0⟩) (c0 : PySem.W.codeIn K cd0 "is_number" = true) (k0 : PySem.W.keepIn K (.ref f0) = true)
    {f1 : Addr} {od1 an1 : Option Addr} {sl1 : Array (Option Value)} {oc1 kV1 dc1 pm1 cd1 ct1 : Value}
    (a1 : PySem.W.nsIn K mainGlobals "is_colour" = some (some (.ref f1))) (l1 : K.lookup f1 = some ⟨oc1, od1, .func (PySem.W.fnOf "is_colour" "is_colour" (defArgs s_is_colour) (defBody s_is_colour) (defScope s_is_colour) .none kV1 dc1 pm1 an1 cd1 ct1), sl1⟩) (c1 : PySem.W.codeIn K cd1 "is_colour" = true) (k1 : PySem.W.keepIn K (.ref f1) = true)
    {f2 : Addr} {od2 an2 : Option Addr} {sl2 : Array (Option Value)} {oc2 kV2 dc2 pm2 cd2 ct2 : Value}
    (a2 : PySem.W.nsIn K mainGlobals "is_box" = some (some (.ref f2))) (l2 : K.lookup f2 = some ⟨oc2, od2, .func (PySem.W.fnOf "is_box" "is_box" (defArgs s_is_box) (defBody s_is_box) (defScope s_is_box) .none kV2 dc2 pm2 an2 cd2 ct2), sl2⟩) (c2 : PySem.W.codeIn K cd2 "is_box" = true) (k2 : PySem.W.keepIn K (.ref f2) = true)
    {f3 : Addr} {od3 an3 : Option Addr} {sl3 : Array (Option Value)} {oc3 kV3 dc3 pm3 cd3 ct3 : Value}
    (a3 : PySem.W.nsIn K mainGlobals "holds" = some (some (.ref f3))) (l3 : K.lookup f3 = some ⟨oc3, od3, .func (PySem.W.fnOf "holds" "holds" (defArgs s_holds) (defBody s_holds) (defScope s_holds) .none kV3 dc3 pm3 an3 cd3 ct3), sl3⟩) (c3 : PySem.W.codeIn K cd3 "holds" = true) (k3 : PySem.W.keepIn K (.ref f3) = true)
    {f4 : Addr} {od4 an4 : Option Addr} {sl4 : Array (Option Value)} {oc4 kV4 dc4 pm4 cd4 ct4 : Value}
    (a4 : PySem.W.nsIn K mainGlobals "least_numbers" = some (some (.ref f4))) (l4 : K.lookup f4 = some ⟨oc4, od4, .func (PySem.W.fnOf "least_numbers" "least_numbers" (defArgs s_least_numbers) (defBody s_least_numbers) (defScope s_least_numbers) .none kV4 dc4 pm4 an4 cd4 ct4), sl4⟩) (c4 : PySem.W.codeIn K cd4 "least_numbers" = true) (k4 : PySem.W.keepIn K (.ref f4) = true)
    {f5 : Addr} {od5 an5 : Option Addr} {sl5 : Array (Option Value)} {oc5 kV5 dc5 pm5 cd5 ct5 : Value}
    (a5 : PySem.W.nsIn K mainGlobals "greatest_numbers" = some (some (.ref f5))) (l5 : K.lookup f5 = some ⟨oc5, od5, .func (PySem.W.fnOf "greatest_numbers" "greatest_numbers" (defArgs s_greatest_numbers) (defBody s_greatest_numbers) (defScope s_greatest_numbers) .none kV5 dc5 pm5 an5 cd5 ct5), sl5⟩) (c5 : PySem.W.codeIn K cd5 "greatest_numbers" = true) (k5 : PySem.W.keepIn K (.ref f5) = true)
    {f6 : Addr} {od6 an6 : Option Addr} {sl6 : Array (Option Value)} {oc6 kV6 dc6 pm6 cd6 ct6 : Value}
    (a6 : PySem.W.nsIn K mainGlobals "box_of" = some (some (.ref f6))) (l6 : K.lookup f6 = some ⟨oc6, od6, .func (PySem.W.fnOf "box_of" "box_of" (defArgs s_box_of) (defBody s_box_of) (defScope s_box_of) .none kV6 dc6 pm6 an6 cd6 ct6), sl6⟩) (c6 : PySem.W.codeIn K cd6 "box_of" = true) (k6 : PySem.W.keepIn K (.ref f6) = true)
    {f7 : Addr} {od7 an7 : Option Addr} {sl7 : Array (Option Value)} {oc7 kV7 dc7 pm7 cd7 ct7 : Value}
    (a7 : PySem.W.nsIn K mainGlobals "both_boxes" = some (some (.ref f7))) (l7 : K.lookup f7 = some ⟨oc7, od7, .func (PySem.W.fnOf "both_boxes" "both_boxes" (defArgs s_both_boxes) (defBody s_both_boxes) (defScope s_both_boxes) .none kV7 dc7 pm7 an7 cd7 ct7), sl7⟩) (c7 : PySem.W.codeIn K cd7 "both_boxes" = true) (k7 : PySem.W.keepIn K (.ref f7) = true)
    {f8 : Addr} {od8 an8 : Option Addr} {sl8 : Array (Option Value)} {oc8 kV8 dc8 pm8 cd8 ct8 : Value}
    (a8 : PySem.W.nsIn K mainGlobals "_law_mix" = some (some (.ref f8))) (l8 : K.lookup f8 = some ⟨oc8, od8, .func (PySem.W.fnOf "_law_mix" "_law_mix" (defArgs s_l_mix) (defBody s_l_mix) (defScope s_l_mix) .none kV8 dc8 pm8 an8 cd8 ct8), sl8⟩) (c8 : PySem.W.codeIn K cd8 "_law_mix" = true) (k8 : PySem.W.keepIn K (.ref f8) = true)
    {f9 : Addr} {od9 an9 : Option Addr} {sl9 : Array (Option Value)} {oc9 kV9 dc9 pm9 cd9 ct9 : Value}
    (a9 : PySem.W.nsIn K mainGlobals "_law_left" = some (some (.ref f9))) (l9 : K.lookup f9 = some ⟨oc9, od9, .func (PySem.W.fnOf "_law_left" "_law_left" (defArgs s_l_left) (defBody s_l_left) (defScope s_l_left) .none kV9 dc9 pm9 an9 cd9 ct9), sl9⟩) (c9 : PySem.W.codeIn K cd9 "_law_left" = true) (k9 : PySem.W.keepIn K (.ref f9) = true)
    {f10 : Addr} {od10 an10 : Option Addr} {sl10 : Array (Option Value)} {oc10 kV10 dc10 pm10 cd10 ct10 : Value}
    (a10 : PySem.W.nsIn K mainGlobals "_law_pick" = some (some (.ref f10))) (l10 : K.lookup f10 = some ⟨oc10, od10, .func (PySem.W.fnOf "_law_pick" "_law_pick" (defArgs s_l_pick) (defBody s_l_pick) (defScope s_l_pick) .none kV10 dc10 pm10 an10 cd10 ct10), sl10⟩) (c10 : PySem.W.codeIn K cd10 "_law_pick" = true) (k10 : PySem.W.keepIn K (.ref f10) = true)
    {f11 : Addr} {od11 an11 : Option Addr} {sl11 : Array (Option Value)} {oc11 kV11 dc11 pm11 cd11 ct11 : Value}
    (a11 : PySem.W.nsIn K mainGlobals "_law_kind" = some (some (.ref f11))) (l11 : K.lookup f11 = some ⟨oc11, od11, .func (PySem.W.fnOf "_law_kind" "_law_kind" (defArgs s_l_kind) (defBody s_l_kind) (defScope s_l_kind) .none kV11 dc11 pm11 an11 cd11 ct11), sl11⟩) (c11 : PySem.W.codeIn K cd11 "_law_kind" = true) (k11 : PySem.W.keepIn K (.ref f11) = true)
    {f12 : Addr} {od12 an12 : Option Addr} {sl12 : Array (Option Value)} {oc12 kV12 dc12 pm12 cd12 ct12 : Value}
    (a12 : PySem.W.nsIn K mainGlobals "_law_colour" = some (some (.ref f12))) (l12 : K.lookup f12 = some ⟨oc12, od12, .func (PySem.W.fnOf "_law_colour" "_law_colour" (defArgs s_l_colour) (defBody s_l_colour) (defScope s_l_colour) .none kV12 dc12 pm12 an12 cd12 ct12), sl12⟩) (c12 : PySem.W.codeIn K cd12 "_law_colour" = true) (k12 : PySem.W.keepIn K (.ref f12) = true)
    {f13 : Addr} {od13 an13 : Option Addr} {sl13 : Array (Option Value)} {oc13 kV13 dc13 pm13 cd13 ct13 : Value}
    (a13 : PySem.W.nsIn K mainGlobals "_law_palette" = some (some (.ref f13))) (l13 : K.lookup f13 = some ⟨oc13, od13, .func (PySem.W.fnOf "_law_palette" "_law_palette" (defArgs s_l_palette) (defBody s_l_palette) (defScope s_l_palette) .none kV13 dc13 pm13 an13 cd13 ct13), sl13⟩) (c13 : PySem.W.codeIn K cd13 "_law_palette" = true) (k13 : PySem.W.keepIn K (.ref f13) = true)
    {f14 : Addr} {od14 an14 : Option Addr} {sl14 : Array (Option Value)} {oc14 kV14 dc14 pm14 cd14 ct14 : Value}
    (a14 : PySem.W.nsIn K mainGlobals "_law_same" = some (some (.ref f14))) (l14 : K.lookup f14 = some ⟨oc14, od14, .func (PySem.W.fnOf "_law_same" "_law_same" (defArgs s_l_same) (defBody s_l_same) (defScope s_l_same) .none kV14 dc14 pm14 an14 cd14 ct14), sl14⟩) (c14 : PySem.W.codeIn K cd14 "_law_same" = true) (k14 : PySem.W.keepIn K (.ref f14) = true)
    {f15 : Addr} {od15 an15 : Option Addr} {sl15 : Array (Option Value)} {oc15 kV15 dc15 pm15 cd15 ct15 : Value}
    (a15 : PySem.W.nsIn K mainGlobals "_law_put_at" = some (some (.ref f15))) (l15 : K.lookup f15 = some ⟨oc15, od15, .func (PySem.W.fnOf "_law_put_at" "_law_put_at" (defArgs s_l_put_at) (defBody s_l_put_at) (defScope s_l_put_at) .none kV15 dc15 pm15 an15 cd15 ct15), sl15⟩) (c15 : PySem.W.codeIn K cd15 "_law_put_at" = true) (k15 : PySem.W.keepIn K (.ref f15) = true)
    {f16 : Addr} {od16 an16 : Option Addr} {sl16 : Array (Option Value)} {oc16 kV16 dc16 pm16 cd16 ct16 : Value}
    (a16 : PySem.W.nsIn K mainGlobals "_law_box" = some (some (.ref f16))) (l16 : K.lookup f16 = some ⟨oc16, od16, .func (PySem.W.fnOf "_law_box" "_law_box" (defArgs s_l_box) (defBody s_l_box) (defScope s_l_box) .none kV16 dc16 pm16 an16 cd16 ct16), sl16⟩) (c16 : PySem.W.codeIn K cd16 "_law_box" = true) (k16 : PySem.W.keepIn K (.ref f16) = true)
    {f17 : Addr} {od17 an17 : Option Addr} {sl17 : Array (Option Value)} {oc17 kV17 dc17 pm17 cd17 ct17 : Value}
    (a17 : PySem.W.nsIn K mainGlobals "_law_least" = some (some (.ref f17))) (l17 : K.lookup f17 = some ⟨oc17, od17, .func (PySem.W.fnOf "_law_least" "_law_least" (defArgs s_l_least) (defBody s_l_least) (defScope s_l_least) .none kV17 dc17 pm17 an17 cd17 ct17), sl17⟩) (c17 : PySem.W.codeIn K cd17 "_law_least" = true) (k17 : PySem.W.keepIn K (.ref f17) = true)
    {f18 : Addr} {od18 an18 : Option Addr} {sl18 : Array (Option Value)} {oc18 kV18 dc18 pm18 cd18 ct18 : Value}
    (a18 : PySem.W.nsIn K mainGlobals "law" = some (some (.ref f18))) (l18 : K.lookup f18 = some ⟨oc18, od18, .func (PySem.W.fnOf "law" "law" (defArgs s_law) (defBody s_law) (defScope s_law) .none kV18 dc18 pm18 an18 cd18 ct18), sl18⟩) (c18 : PySem.W.codeIn K cd18 "law" = true) (k18 : PySem.W.keepIn K (.ref f18) = true)
    (z_abs : PySem.W.nsIn K mainGlobals "abs" = some none)
    (z_all : PySem.W.nsIn K mainGlobals "all" = some none)
    (z_bool : PySem.W.nsIn K mainGlobals "bool" = some none)
    (z_enumerate : PySem.W.nsIn K mainGlobals "enumerate" = some none)
    (z_int : PySem.W.nsIn K mainGlobals "int" = some none)
    (z_isinstance : PySem.W.nsIn K mainGlobals "isinstance" = some none)
    (z_len : PySem.W.nsIn K mainGlobals "len" = some none)
    (z_list : PySem.W.nsIn K mainGlobals "list" = some none)
    (z_max : PySem.W.nsIn K mainGlobals "max" = some none)
    (z_min : PySem.W.nsIn K mainGlobals "min" = some none)
    (z_range : PySem.W.nsIn K mainGlobals "range" = some none)
    (z_str : PySem.W.nsIn K mainGlobals "str" = some none)
    (z_tuple : PySem.W.nsIn K mainGlobals "tuple" = some none)
    (z_zip : PySem.W.nsIn K mainGlobals "zip" = some none)
    : ∃ fd : FuncData, (∀ (s : Shared) (v : Value), BindsTo s fd ⟨[v], []⟩ [("_law_script", v)]) ∧ ∀ base : Heap, K.In base → base.Ns mainGlobals mg → FnOk l.prog w K mg base CX0 5 fa fd ["_law_script"] (spLaw K) := by
  have e := hfa.symm.trans (PySem.W.mg_of X G a18)
  cases e
  exact ⟨_, fun s v => .of_eq rfl, fun base _ _ => ok_law (k := 0) {
      f_is_number := f0, d_is_number := _, F_is_number := fun_mk (st := s_is_number) l0 c0 k0, b_is_number := (fun_mk (st := s_is_number) l0 c0 k0).binds (ps := ["thing"]) fun _ _ _ _ _ _ us hl => match us, hl with | [_], _ => rfl, g_is_number := PySem.W.mg_of X G a0,
      f_is_colour := f1, d_is_colour := _, F_is_colour := fun_mk (st := s_is_colour) l1 c1 k1, b_is_colour := (fun_mk (st := s_is_colour) l1 c1 k1).binds (ps := ["thing", "wide"]) fun _ _ _ _ _ _ us hl => match us, hl with | [_, _], _ => rfl, g_is_colour := PySem.W.mg_of X G a1,
      f_is_box := f2, d_is_box := _, F_is_box := fun_mk (st := s_is_box) l2 c2 k2, b_is_box := (fun_mk (st := s_is_box) l2 c2 k2).binds (ps := ["thing", "wide"]) fun _ _ _ _ _ _ us hl => match us, hl with | [_, _], _ => rfl, g_is_box := PySem.W.mg_of X G a2,
      f_holds := f3, d_holds := _, F_holds := fun_mk (st := s_holds) l3 c3 k3, b_holds := (fun_mk (st := s_holds) l3 c3 k3).binds (ps := ["box", "colour"]) fun _ _ _ _ _ _ us hl => match us, hl with | [_, _], _ => rfl, g_holds := PySem.W.mg_of X G a3,
      f_least_numbers := f4, d_least_numbers := _, F_least_numbers := fun_mk (st := s_least_numbers) l4 c4 k4, b_least_numbers := (fun_mk (st := s_least_numbers) l4 c4 k4).binds (ps := ["colours"]) fun _ _ _ _ _ _ us hl => match us, hl with | [_], _ => rfl, g_least_numbers := PySem.W.mg_of X G a4,
      f_greatest_numbers := f5, d_greatest_numbers := _, F_greatest_numbers := fun_mk (st := s_greatest_numbers) l5 c5 k5, b_greatest_numbers := (fun_mk (st := s_greatest_numbers) l5 c5 k5).binds (ps := ["colours"]) fun _ _ _ _ _ _ us hl => match us, hl with | [_], _ => rfl, g_greatest_numbers := PySem.W.mg_of X G a5,
      f_box_of := f6, d_box_of := _, F_box_of := fun_mk (st := s_box_of) l6 c6 k6, b_box_of := (fun_mk (st := s_box_of) l6 c6 k6).binds (ps := ["colours"]) fun _ _ _ _ _ _ us hl => match us, hl with | [_], _ => rfl, g_box_of := PySem.W.mg_of X G a6,
      f_both_boxes := f7, d_both_boxes := _, F_both_boxes := fun_mk (st := s_both_boxes) l7 c7 k7, b_both_boxes := (fun_mk (st := s_both_boxes) l7 c7 k7).binds (ps := ["one", "other"]) fun _ _ _ _ _ _ us hl => match us, hl with | [_, _], _ => rfl, g_both_boxes := PySem.W.mg_of X G a7,
      f_l_mix := f8, d_l_mix := _, F_l_mix := fun_mk (st := s_l_mix) l8 c8 k8, b_l_mix := (fun_mk (st := s_l_mix) l8 c8 k8).binds (ps := ["_law_cell", "_law_k"]) fun _ _ _ _ _ _ us hl => match us, hl with | [_, _], _ => rfl, g_l_mix := PySem.W.mg_of X G a8,
      f_l_left := f9, d_l_left := _, F_l_left := fun_mk (st := s_l_left) l9 c9 k9, b_l_left := (fun_mk (st := s_l_left) l9 c9 k9).binds (ps := ["_law_script", "_law_k"]) fun _ _ _ _ _ _ us hl => match us, hl with | [_, _], _ => rfl, g_l_left := PySem.W.mg_of X G a9,
      f_l_pick := f10, d_l_pick := _, F_l_pick := fun_mk (st := s_l_pick) l10 c10 k10, b_l_pick := (fun_mk (st := s_l_pick) l10 c10 k10).binds (ps := ["_law_left_here", "_law_many"]) fun _ _ _ _ _ _ us hl => match us, hl with | [_, _], _ => rfl, g_l_pick := PySem.W.mg_of X G a10,
      f_l_kind := f11, d_l_kind := _, F_l_kind := fun_mk (st := s_l_kind) l11 c11 k11, b_l_kind := (fun_mk (st := s_l_kind) l11 c11 k11).binds (ps := ["_law_left_here"]) fun _ _ _ _ _ _ us hl => match us, hl with | [_], _ => rfl, g_l_kind := PySem.W.mg_of X G a11,
      f_l_colour := f12, d_l_colour := _, F_l_colour := fun_mk (st := s_l_colour) l12 c12 k12, b_l_colour := (fun_mk (st := s_l_colour) l12 c12 k12).binds (ps := ["_law_left_here", "_law_kind_here"]) fun _ _ _ _ _ _ us hl => match us, hl with | [_, _], _ => rfl, g_l_colour := PySem.W.mg_of X G a12,
      f_l_palette := f13, d_l_palette := _, F_l_palette := fun_mk (st := s_l_palette) l13 c13 k13, b_l_palette := (fun_mk (st := s_l_palette) l13 c13 k13).binds (ps := ["_law_left_here", "_law_kind_here"]) fun _ _ _ _ _ _ us hl => match us, hl with | [_, _], _ => rfl, g_l_palette := PySem.W.mg_of X G a13,
      f_l_same := f14, d_l_same := _, F_l_same := fun_mk (st := s_l_same) l14 c14 k14, b_l_same := (fun_mk (st := s_l_same) l14 c14 k14).binds (ps := ["_law_found", "_law_due"]) fun _ _ _ _ _ _ us hl => match us, hl with | [_, _], _ => rfl, g_l_same := PySem.W.mg_of X G a14,
      f_l_put_at := f15, d_l_put_at := _, F_l_put_at := fun_mk (st := s_l_put_at) l15 c15 k15, b_l_put_at := (fun_mk (st := s_l_put_at) l15 c15 k15).binds (ps := ["_law_row", "_law_k", "_law_thing"]) fun _ _ _ _ _ _ us hl => match us, hl with | [_, _, _], _ => rfl, g_l_put_at := PySem.W.mg_of X G a15,
      f_l_box := f16, d_l_box := _, F_l_box := fun_mk (st := s_l_box) l16 c16 k16, b_l_box := (fun_mk (st := s_l_box) l16 c16 k16).binds (ps := ["_law_colours"]) fun _ _ _ _ _ _ us hl => match us, hl with | [_], _ => rfl, g_l_box := PySem.W.mg_of X G a16,
      f_l_least := f17, d_l_least := _, F_l_least := fun_mk (st := s_l_least) l17 c17 k17, b_l_least := (fun_mk (st := s_l_least) l17 c17 k17).binds (ps := ["_law_box_here", "_law_colours", "_law_wide"]) fun _ _ _ _ _ _ us hl => match us, hl with | [_, _, _], _ => rfl, g_l_least := PySem.W.mg_of X G a17,
      z_abs := PySem.W.mg_none_of X G z_abs,
      z_all := PySem.W.mg_none_of X G z_all,
      z_bool := PySem.W.mg_none_of X G z_bool,
      z_enumerate := PySem.W.mg_none_of X G z_enumerate,
      z_int := PySem.W.mg_none_of X G z_int,
      z_isinstance := PySem.W.mg_none_of X G z_isinstance,
      z_len := PySem.W.mg_none_of X G z_len,
      z_list := PySem.W.mg_none_of X G z_list,
      z_max := PySem.W.mg_none_of X G z_max,
      z_min := PySem.W.mg_none_of X G z_min,
      z_range := PySem.W.mg_none_of X G z_range,
      z_str := PySem.W.mg_none_of X G z_str,
      z_tuple := PySem.W.mg_none_of X G z_tuple,
      z_zip := PySem.W.mg_none_of X G z_zip } (fun_mk (st := s_law) l18 c18 k18) (by decide)⟩
end Z
open PySem PySem.W PyProof.Rows
set_option maxHeartbeats 0 in
theorem PySem.Challenge.cw_fewcolours_k03_boxes_of_colours_holds : PySem.Challenge.rw_fewcolours_k03_boxes_of_colours.Holds := by
  w_on; o_law; k_head; (case hw => w_witness2)
  k_fill
  refine L2.walk_of (l := PySem.Challenge.rw_fewcolours_k03_boxes_of_colours) (n := 63) (k := 5) (x := "_law_script") (CX := fun _ => L2.CX0) (sp := fun w => Z.spLaw _) rfl (by decide) rfl ⟨rfl, by decide, by decide⟩ (fun w h Y => PySem.W.kIn_of Y) ?F (fun _ _ a ns hl _ hS => ⟨a, ns, rfl, hS, hl, fun _ => rfl⟩) (fun _ _ _ _ _ h => h)
  case F =>
    intro w mg fa h KX G hmg
    refine' Z.all_mk KX G hmg ?a0 ?l0 ?c0 ?k0 ?a1 ?l1 ?c1 ?k1 ?a2 ?l2 ?c2 ?k2 ?a3 ?l3 ?c3 ?k3 ?a4 ?l4 ?c4 ?k4 ?a5 ?l5 ?c5 ?k5 ?a6 ?l6 ?c6 ?k6 ?a7 ?l7 ?c7 ?k7 ?a8 ?l8 ?c8 ?k8 ?a9 ?l9 ?c9 ?k9 ?a10 ?l10 ?c10 ?k10 ?a11 ?l11 ?c11 ?k11 ?a12 ?l12 ?c12 ?k12 ?a13 ?l13 ?c13 ?k13 ?a14 ?l14 ?c14 ?k14 ?a15 ?l15 ?c15 ?k15 ?a16 ?l16 ?c16 ?k16 ?a17 ?l17 ?c17 ?k17 ?a18 ?l18 ?c18 ?k18 ?z_abs ?z_all ?z_bool ?z_enumerate ?z_int ?z_isinstance ?z_len ?z_list ?z_max ?z_min ?z_range ?z_str ?z_tuple ?z_zip
    case a0 => k_is
    case l0 => k_is
    case c0 => k_is
    case k0 => k_is
    case a1 => k_is
    case l1 => k_is
    case c1 => k_is
    case k1 => k_is
    case a2 => k_is
    case l2 => k_is
    case c2 => k_is
    case k2 => k_is
    case a3 => k_is
    case l3 => k_is
    case c3 => k_is
    case k3 => k_is
    case a4 => k_is
    case l4 => k_is
    case c4 => k_is
    case k4 => k_is
    case a5 => k_is
    case l5 => k_is
    case c5 => k_is
    case k5 => k_is
    case a6 => k_is
    case l6 => k_is
    case c6 => k_is
    case k6 => k_is
    case a7 => k_is
    case l7 => k_is
    case c7 => k_is
    case k7 => k_is
    case a8 => k_is
    case l8 => k_is
    case c8 => k_is
    case k8 => k_is
    case a9 => k_is
    case l9 => k_is
    case c9 => k_is
    case k9 => k_is
    case a10 => k_is
    case l10 => k_is
    case c10 => k_is
    case k10 => k_is
    case a11 => k_is
    case l11 => k_is
    case c11 => k_is
    case k11 => k_is
    case a12 => k_is
    case l12 => k_is
    case c12 => k_is
    case k12 => k_is
    case a13 => k_is
    case l13 => k_is
    case c13 => k_is
    case k13 => k_is
    case a14 => k_is
    case l14 => k_is
    case c14 => k_is
    case k14 => k_is
    case a15 => k_is
    case l15 => k_is
    case c15 => k_is
    case k15 => k_is
    case a16 => k_is
    case l16 => k_is
    case c16 => k_is
    case k16 => k_is
    case a17 => k_is
    case l17 => k_is
    case c17 => k_is
    case k17 => k_is
    case a18 => k_is
    case l18 => k_is
    case c18 => k_is
    case k18 => k_is
    case z_abs => k_is
    case z_all => k_is
    case z_bool => k_is
    case z_enumerate => k_is
    case z_int => k_is
    case z_isinstance => k_is
    case z_len => k_is
    case z_list => k_is
    case z_max => k_is
    case z_min => k_is
    case z_range => k_is
    case z_str => k_is
    case z_tuple => k_is
    case z_zip => k_is

