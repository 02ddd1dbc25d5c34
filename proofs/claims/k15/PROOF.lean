import PyProof.Rows.All
import Wide.All
import OpenK.AllK
import Wide.FinOn
import HandS.ForMost
import HandS.Zip
import HandS.IsInst
import HandS.TupAny
import HandS.SortRule
import HandS.Style
import HandS.Walk
import HandS.Evl
import KE.DataMinMax
import HandS.SortInts
import PySem.Challenge.RW_fewcolours_k15_tables_of_a_line
set_option Elab.async false
set_option linter.all false
set_option maxRecDepth 100000
namespace Z
open PySem PySem.Spec PyProof.Rows L2
/-! ### heaps but for some addresses -/
def Dom (H H' : Hp) : Prop := ∀ a, H a ≠ none → H' a ≠ none
structure Go (B : List Addr) (H H' : Hp) : Prop where
  k : ∀ a o, a ∉ B → H a = some o → H' a = some o
  d : Dom H H'
def Bk (B : List Addr) (H : Hp) : Prop := ∀ a ∈ B, H a ≠ none
section
variable {B C : List Addr} {H H' H1 H2 : Hp} {p L : Addr} {o : HO}
theorem dom_new : Dom H (upd H p o) := fun a h => by
  by_cases e : a = p
  · subst e
    rw [upd_same]
    exact fun z => nomatch z
  · rw [upd_ne e]
    exact h
theorem dom_mut (d : Dom H H') : Dom H (upd H' p o) := fun a h => dom_new a (d a h)
theorem Go.refl : Go B H H := ⟨fun _ _ _ h => h, fun _ h => h⟩
theorem Go.trans (a : Go B H H1) (b : Go B H1 H2) : Go B H H2 := ⟨fun c o n h => b.k c o n (a.k c o n h), fun c h => b.d c (a.d c h)⟩
theorem same_dom (s : Same H H') : Dom H H' := fun a h => by
  cases q : H a with
  | none => exact absurd q h
  | some o => rw [s a o q]; exact fun z => nomatch z
theorem Go.of (s : Same H H') : Go B H H' := ⟨fun a o _ h => s a o h, same_dom s⟩
theorem Go.new (h : H p = none) : Go B H (upd H p o) := ⟨fun a u _ e => by
  rw [upd_ne (ne_of_none e h)]
  exact e, dom_new⟩
theorem Go.mut (g : Go B H H') (h : H p = none) : Go B H (upd H' p o) := ⟨fun a u n e => by
  rw [upd_ne (ne_of_none e h)]
  exact g.k a u n e, dom_mut g.d⟩
theorem Go.at (g : Go B H H') (h : p ∈ B) : Go B H (upd H' p o) := ⟨fun a u n e => by
  rw [upd_ne (show a ≠ p from fun z => n (by rw [z]; exact h))]
  exact g.k a u n e, dom_mut g.d⟩
theorem Go.w (g : Go C H H') (s : ∀ a ∈ C, a ∈ B) : Go B H H' := ⟨fun a o n h => g.k a o (fun q => n (s a q)) h, g.d⟩
theorem Go.w1 (g : Go [L] H H') (s : L ∈ B) : Go B H H' := g.w fun a h => by rw [List.mem_singleton.mp h]; exact s
theorem Go.free (g : Go B H H') (h : H' p = none) : H p = none := by
  cases q : H p with
  | none => rfl
  | some o => exact absurd h (g.d p (by rw [q]; exact fun z => nomatch z))
theorem Bk.go (b : Bk B H) (g : Go C H H') : Bk B H' := fun a h => g.d a (b a h)
theorem Bk.ne (b : Bk B H) (h : H p = none) : p ∉ B := fun q => b p q h
theorem Bk.cons (b : Bk B H) (h : H p = some o) : Bk (p :: B) H := fun a q => by
  rcases List.mem_cons.mp q with e | e
  · subst e
    rw [h]
    exact fun z => nomatch z
  · exact b a e
theorem Bk.up (b : Bk B H) : Bk B (upd H p o) := fun a h => dom_new a (b a h)
theorem sm_new (h : H p = none) : Same H (upd H p o) := fun b x e => by
  rw [upd_ne (ne_of_none e h)]
  exact e
theorem sm_mut (s : Same H H') (h : H p = none) : Same H (upd H' p o) := fun b x e => by
  rw [upd_ne (ne_of_none e h)]
  exact s b x e
/-- what was new behind H, and is in B, may change -/
theorem Go.sm (g : Go B H1 H2) (s : Same H H1) (n : ∀ a ∈ B, H a = none) : Same H H2 := fun a o h => g.k a o (fun q => by rw [n a q] at h; cases h) (s a o h)
theorem Go.cons (g : Go (p :: B) H1 H2) (s : Go B H H1) (h : H p = none) : Go B H H2 := ⟨fun a o n e => g.k a o (fun q => by
  rcases List.mem_cons.mp q with z | z
  · rw [z, h] at e
    cases e
  · exact n z) (s.k a o n e), fun a e => g.d a (s.d a e)⟩
end
/-! ### the list that is drawn from -/
def Lf (L : Addr) (H : Hp) (n : Nat) : Prop := ∃ a b c : Int, H L = some (.lst [.int a, .int b, .int c]) ∧ 0 ≤ a ∧ 0 ≤ c ∧ c ≤ (n : Int)
section
variable {L p : Addr} {H H' : Hp} {n m : Nat} {o : HO} {B : List Addr}
theorem Lf.mono (h : Lf L H n) (l : n ≤ m) : Lf L H m := by
  obtain ⟨a, b, c, e, h1, h2, h3⟩ := h
  exact ⟨a, b, c, e, h1, h2, by omega⟩
theorem Lf.same (h : Lf L H n) (s : Same H H') : Lf L H' n := by
  obtain ⟨a, b, c, e, h1, h2, h3⟩ := h
  exact ⟨a, b, c, s _ _ e, h1, h2, h3⟩
theorem Lf.go (h : Lf L H n) (g : Go B H H') (i : L ∉ B) : Lf L H' n := by
  obtain ⟨a, b, c, e, h1, h2, h3⟩ := h
  exact ⟨a, b, c, g.k _ _ i e, h1, h2, h3⟩
theorem Lf.ne (h : Lf L H n) (e : H p = none) : p ≠ L := fun q => by
  obtain ⟨a, b, c, e', _⟩ := h
  rw [q, e'] at e
  cases e
theorem Lf.up (h : Lf L H n) (e : p ≠ L) : Lf L (upd H p o) n := by
  obtain ⟨a, b, c, e', h1, h2, h3⟩ := h
  refine ⟨a, b, c, ?_, h1, h2, h3⟩
  rw [upd_ne (Ne.symm e)]
  exact e'
theorem Lf.new (h : Lf L H n) (e : H p = none) : Lf L (upd H p o) n := h.up (h.ne e)
theorem Lf.bk (h : Lf L H n) : Bk [L] H := fun a q => by
  obtain ⟨_, _, _, e, _⟩ := h
  rw [List.mem_singleton.mp q, e]
  exact fun z => nomatch z
end
/-! ### data apart from some addresses -/
mutual
inductive Dt (B : List Addr) (H : Hp) : V → PyData → Prop
  | non : Dt B H .non .none
  | bl (b : Bool) : Dt B H (.bl b) (.bool b)
  | int (i : Int) : Dt B H (.int i) (.int i)
  | str (x : Str) : Dt B H (.str x) (.str x)
  | lst {a : Addr} {xs : List V} {ds : List PyData} : a ∉ B → H a = some (.lst xs) → DtA B H xs ds → Dt B H (.ref a) (.list ds)
  | tup {a : Addr} {xs : List V} {ds : List PyData} : a ∉ B → H a = some (.tup xs) → DtA B H xs ds → Dt B H (.ref a) (.tuple ds)
inductive DtA (B : List Addr) (H : Hp) : List V → List PyData → Prop
  | nil : DtA B H [] []
  | cons {v : V} {vs : List V} {d : PyData} {ds : List PyData} : Dt B H v d → DtA B H vs ds → DtA B H (v :: vs) (d :: ds)
end
section
variable {B C : List Addr} {H H' : Hp} {p L : Addr}
mutual
/-- the general way from one to another -/
theorem Dt.to (f : ∀ a o, a ∉ B → H a = some o → a ∉ C ∧ H' a = some o) : ∀ (d : PyData) (v : V), Dt B H v d → Dt C H' v d
  | .none, _, h => by cases h; exact .non
  | .bool b, _, h => by cases h; exact .bl b
  | .int i, _, h => by cases h; exact .int i
  | .str x, _, h => by cases h; exact .str x
  | .list ds, _, h => by
    cases h with
    | lst n hs ha => exact .lst (f _ _ n hs).1 (f _ _ n hs).2 (DtA.to f ds _ ha)
  | .tuple ds, _, h => by
    cases h with
    | tup n hs ha => exact .tup (f _ _ n hs).1 (f _ _ n hs).2 (DtA.to f ds _ ha)
  | .dict _, _, h => by cases h
theorem DtA.to (f : ∀ a o, a ∉ B → H a = some o → a ∉ C ∧ H' a = some o) : ∀ (ds : List PyData) (vs : List V), DtA B H vs ds → DtA C H' vs ds
  | [], _, h => by cases h; exact .nil
  | d :: ds, _, h => by
    cases h with
    | cons h1 h2 => exact .cons (Dt.to f d _ h1) (DtA.to f ds _ h2)
end
mutual
theorem Dt.dp {K : PySem.W.Frag} : ∀ (d : PyData) (v : V), Dt B H v d → Dp K H v d
  | .none, _, h => by cases h; exact .non
  | .bool b, _, h => by cases h; exact .bl b
  | .int i, _, h => by cases h; exact .int i
  | .str x, _, h => by cases h; exact .str x
  | .list ds, _, h => by
    cases h with
    | lst n hs ha => exact .lst (SqL.of hs) (DtA.dp ds _ ha)
  | .tuple ds, _, h => by
    cases h with
    | tup n hs ha => exact .tup (SqT.of hs) (DtA.dp ds _ ha)
  | .dict _, _, h => by cases h
theorem DtA.dp {K : PySem.W.Frag} : ∀ (ds : List PyData) (vs : List V), DtA B H vs ds → DpAll K H vs ds
  | [], _, h => by cases h; exact .nil
  | d :: ds, _, h => by
    cases h with
    | cons h1 h2 => exact .cons (Dt.dp d _ h1) (DtA.dp ds _ h2)
end
variable {d : PyData} {v : V} {ds : List PyData} {vs ws : List V}
theorem Dt.g (h : Dt B H v d) (g : Go B H H') : Dt B H' v d := Dt.to (fun a o n e => ⟨n, g.k a o n e⟩) d v h
theorem DtA.g (h : DtA B H vs ds) (g : Go B H H') : DtA B H' vs ds := DtA.to (fun a o n e => ⟨n, g.k a o n e⟩) ds vs h
theorem Dt.s (h : Dt B H v d) (s : Same H H') : Dt B H' v d := h.g (Go.of s)
theorem DtA.s (h : DtA B H vs ds) (s : Same H H') : DtA B H' vs ds := h.g (Go.of s)
/-- a new address may change, too -/
theorem Dt.fr (h : Dt B H v d) (e : H p = none) : Dt (p :: B) H v d := Dt.to (fun a o n q => ⟨fun z => by
  rcases List.mem_cons.mp z with y | y
  · rw [y, e] at q
    cases q
  · exact n y, q⟩) d v h
theorem DtA.fr (h : DtA B H vs ds) (e : H p = none) : DtA (p :: B) H vs ds := DtA.to (fun a o n q => ⟨fun z => by
  rcases List.mem_cons.mp z with y | y
  · rw [y, e] at q
    cases q
  · exact n y, q⟩) ds vs h
theorem Dt.un (h : Dt (p :: B) H v d) : Dt B H v d := Dt.to (fun a o n q => ⟨fun z => n (List.mem_cons_of_mem _ z), q⟩) d v h
theorem DtA.un (h : DtA (p :: B) H vs ds) : DtA B H vs ds := DtA.to (fun a o n q => ⟨fun z => n (List.mem_cons_of_mem _ z), q⟩) ds vs h
theorem Dt.sub (h : Dt B H v d) (s : ∀ a ∈ C, a ∈ B) : Dt C H v d := Dt.to (fun a o n q => ⟨fun z => n (s a z), q⟩) d v h
theorem DtA.sub (h : DtA B H vs ds) (s : ∀ a ∈ C, a ∈ B) : DtA C H vs ds := DtA.to (fun a o n q => ⟨fun z => n (s a z), q⟩) ds vs h
theorem Dt.dP {K : PySem.W.Frag} (h : Dt B H v d) : Dp K H v d := Dt.dp d v h
theorem DtA.len {vs : List V} : ∀ {ds : List PyData}, DtA B H vs ds → vs.length = ds.length := by
  induction vs with
  | nil => intro ds h; cases h; rfl
  | cons v vs ih => intro ds h; cases h with | cons h1 h2 => rw [List.length_cons, List.length_cons, ih h2]
theorem DtA.get {vs : List V} : ∀ {ds : List PyData} {i : Nat} {d : PyData}, DtA B H vs ds → ds[i]? = some d → ∃ v, vs[i]? = some v ∧ Dt B H v d := by
  induction vs with
  | nil => intro ds i d h e; cases h; simp at e
  | cons v vs ih =>
    intro ds i d h e
    cases h with
    | cons h1 h2 =>
      cases i with
      | zero => cases e; exact ⟨v, rfl, h1⟩
      | succ i => exact ih (i := i) h2 (by simpa using e)
theorem DtA.getV {vs : List V} : ∀ {ds : List PyData} {i : Nat} {v : V}, DtA B H vs ds → vs[i]? = some v → ∃ d, ds[i]? = some d ∧ Dt B H v d := by
  induction vs with
  | nil => intro ds i d h e; simp at e
  | cons v vs ih =>
    intro ds i d h e
    cases h with
    | cons h1 h2 =>
      cases i with
      | zero => cases e; exact ⟨_, rfl, h1⟩
      | succ i => exact ih (i := i) h2 (by simpa using e)
theorem DtA.app {vs ws : List V} : ∀ {ds es : List PyData}, DtA B H vs ds → DtA B H ws es → DtA B H (vs ++ ws) (ds ++ es) := by
  induction vs with
  | nil => intro ds es h h2; cases h; exact h2
  | cons v vs ih =>
    intro ds es h h2
    cases h with
    | cons h1 h3 => exact .cons h1 (ih h3 h2)
theorem DtA.one (h : Dt B H v d) : DtA B H [v] [d] := .cons h .nil
theorem DtA.ints : ∀ ns : List Int, DtA B H (ns.map V.int) (ns.map PyData.int)
  | [] => .nil
  | n :: ns => .cons (.int n) (DtA.ints ns)
theorem DtA.intsV : ∀ {ns : List Int} {vs : List V}, DtA B H vs (ns.map PyData.int) → vs = ns.map V.int
  | [], _, h => by cases h; rfl
  | n :: ns, _, h => by
    cases h with
    | cons h1 h2 =>
      cases h1
      rw [DtA.intsV h2]
      rfl
theorem DtA.blsV : ∀ {ns : List Bool} {vs : List V}, DtA B H vs (ns.map PyData.bool) → vs = ns.map V.bl
  | [], _, h => by cases h; rfl
  | n :: ns, _, h => by
    cases h with
    | cons h1 h2 =>
      cases h1
      rw [DtA.blsV h2]
      rfl
/-- a colour; a list of ints; a palette -/
def eC (ns : List Int) : PyData := .tuple (ns.map .int)
def eI (ns : List Int) : PyData := .list (ns.map .int)
def eP (cs : List (List Int)) : PyData := .list (cs.map eC)
theorem Dt.col {v : V} {ns : List Int} (h : Dt B H v (eC ns)) : ∃ a, v = .ref a ∧ a ∉ B ∧ H a = some (.tup (ns.map V.int)) := by
  cases h with
  | tup n hs ha =>
    have e := DtA.intsV ha
    subst e
    exact ⟨_, rfl, n, hs⟩
theorem Dt.ofCol {a : Addr} {ns : List Int} (n : a ∉ B) (h : H a = some (.tup (ns.map V.int))) : Dt B H (.ref a) (eC ns) := .tup n h (DtA.ints ns)
theorem Dt.ofInts {a : Addr} {ns : List Int} (n : a ∉ B) (h : H a = some (.lst (ns.map V.int))) : Dt B H (.ref a) (eI ns) := .lst n h (DtA.ints ns)
theorem Dt.ints {v : V} {ns : List Int} (h : Dt B H v (eI ns)) : ∃ a, v = .ref a ∧ a ∉ B ∧ H a = some (.lst (ns.map V.int)) := by
  cases h with
  | lst n hs ha =>
    have e := DtA.intsV ha
    subst e
    exact ⟨_, rfl, n, hs⟩
theorem Dt.tupI {v : V} {ds : List PyData} (h : Dt B H v (.tuple ds)) : ∃ a vs, v = .ref a ∧ a ∉ B ∧ H a = some (.tup vs) ∧ DtA B H vs ds := by
  cases h with
  | tup n hs ha => exact ⟨_, _, rfl, n, hs, ha⟩
theorem Dt.lstI {v : V} {ds : List PyData} (h : Dt B H v (.list ds)) : ∃ a vs, v = .ref a ∧ a ∉ B ∧ H a = some (.lst vs) ∧ DtA B H vs ds := by
  cases h with
  | lst n hs ha => exact ⟨_, _, rfl, n, hs, ha⟩
theorem Dt.pal {v : V} {cs : List (List Int)} (h : Dt B H v (eP cs)) : ∃ a vs, v = .ref a ∧ a ∉ B ∧ H a = some (.lst vs) ∧ DtA B H vs (cs.map eC) := Dt.lstI h
theorem Dt.intI {v : V} {i : Int} (h : Dt B H v (.int i)) : v = .int i := by
  cases h
  rfl
end
/-! ### the rules that speak of the written part, with it named -/
def rLenS (K : PySem.W.Frag) : List V → Hp → VK → Prop := fun xs H Q => ∃ p ys, xs = [.ref p] ∧ (SqL K H p ys ∨ SqT K H p ys) ∧ Q (.int ys.length) H
def rListOf (K : PySem.W.Frag) : List V → Hp → VK → Prop := fun xs H Q => ∃ p ys, xs = [.ref p] ∧ (SqL K H p ys ∨ SqT K H p ys) ∧ ∀ l, H l = none → Q (.ref l) (upd H l (.lst ys))
def rTupOf (K : PySem.W.Frag) : List V → Hp → VK → Prop := fun xs H Q => ∃ p ys, xs = [.ref p] ∧ ((SqL K H p ys ∧ ∀ l, H l = none → Q (.ref l) (upd H l (.tup ys))) ∨ (SqT K H p ys ∧ Q (.ref p) H))
section
variable (K : PySem.W.Frag) {X : Cx}
theorem ix_listK (h : X.K = K := by rfl) : IxR X (rIxL K) := h ▸ ix_list
theorem ix_tupK (h : X.K = K := by rfl) : IxR X (rIxT K) := h ▸ ix_tup
theorem sl_listK (h : X.K = K := by rfl) : SlR X (rSlL K) := h ▸ sl_list
theorem sl_tupAK (h : X.K = K := by rfl) : SlR X (rSlA K) := h ▸ sl_tupA
theorem op_catAK (h : X.K = K := by rfl) : OpR X (binaryOp .Add) (rCatA K) := h ▸ op_catA
theorem op_eqDK (hu : X.A.units + 64 < cLine) (h : X.K = K := by rfl) : OpR X (compareOp .Eq) (rEqD K) := h ▸ op_eqD hu
theorem op_neDK (hu : X.A.units + 64 < cLine) (h : X.K = K := by rfl) : OpR X (compareOp .NotEq) (rNeD K) := h ▸ op_neD hu
theorem len_K (h : X.K = K := by rfl) : CallR X (.builtin "len") (rLenS K) := h ▸ call_len_seq
theorem list_K (h : X.K = K := by rfl) : CallR X (.type "list") (rListOf K) := h ▸ call_list_of
theorem tuple_K (h : X.K = K := by rfl) : CallR X (.type "tuple") (rTupOf K) := h ▸ call_tuple_of
theorem cr_sumK (hc : X.calm = true) (h : X.K = K := by rfl) : CallR X (.builtin "sum") (rSum K) := h ▸ cr_sum hc
theorem cr_maxK (hc : X.calm = true) (h : X.K = K := by rfl) : CallR X (.builtin "max") (rMax K) := h ▸ cr_max hc
theorem cr_minK (hc : X.calm = true) (h : X.K = K := by rfl) : CallR X (.builtin "min") (rMin K) := h ▸ cr_min hc
theorem cr_anyK (hc : X.calm = true) (h : X.K = K := by rfl) : CallR X (.builtin "any") (rAny K) := h ▸ cr_any hc
theorem cr_allK (hc : X.calm = true) (h : X.K = K := by rfl) : CallR X (.builtin "all") (rAll K) := h ▸ cr_all hc
theorem call_isiK1 (h : X.K = K := by rfl) : CallR X (.builtin "isinstance") (rIsi K) := h ▸ call_isi
theorem call_isiTK (h : X.K = K := by rfl) : CallR X (.builtin "isinstance") (rIsiT K) := h ▸ call_isiT
theorem cr_sortedK (h : X.K = K := by rfl) : CallR X (.builtin "sorted") (rSortedPO K) := h ▸ cr_sortedPO
theorem mt_indexK (h : X.K = K := by rfl) : MtR X "list.index" (rIndex K) := h ▸ mt_index
theorem pi_listK {tg l : Expr} {tl : TE} (hl : PE X l tl) (h : X.K = K := by rfl) : PI X tg l (iList K tl) := h ▸ pi_list hl
theorem pg_tupK {pos : Pos} {es : List Expr} {kk : Nat} {t : TGs} {n : Nat} (hc : X.calm = true) (h : PGs X es t) (hn : (assignEach es X.env).length = n := by rfl) (hst : (assignEach es X.env).findIdx? (·.1) = none := by rfl) (h2 : X.K = K := by rfl) : PG X (.Tuple es kk pos) (gTup K n t) :=
  h2 ▸ pg_tup hc h hn hst
theorem pi_tupK {tg l : Expr} {tl : TE} (hl : PE X l tl) (h : X.K = K := by rfl) : PI X tg l (iTup K tl) := h ▸ pi_tup hl
end
/-! ### shapes -/
mutual
def wide : PyData → Bool
  | .none | .bool _ | .int _ | .str _ => true
  | .list xs | .tuple xs => decide (xs.length ≤ 100000) && wideAll xs
  | .dict _ => false
def wideAll : List PyData → Bool
  | [] => true
  | x :: xs => wide x && wideAll xs
end
def Sh (d : PyData) (k : Nat) : Prop := d.canLay0 = true ∧ d.depth ≤ k ∧ wide d = true
theorem sh_all : ∀ {ds : List PyData} {k : Nat}, (∀ d ∈ ds, Sh d k) → PyData.canLayAll0 ds = true ∧ PyData.depthAll ds ≤ k ∧ wideAll ds = true
  | [], _, _ => ⟨rfl, Nat.zero_le _, by rw [wideAll]⟩
  | d :: ds, k, h => by
    obtain ⟨h1, h2, h4⟩ := sh_all (ds := ds) (k := k) fun x hx => h x (List.mem_cons_of_mem _ hx)
    have h3 := h d (List.mem_cons_self ..)
    refine ⟨?_, ?_, ?_⟩
    · rw [PyData.canLayAll0, h1, h3.1]; rfl
    · rw [PyData.depthAll]
      exact Nat.max_le.mpr ⟨h3.2.1, h2⟩
    · rw [wideAll, h4, h3.2.2]; rfl
theorem sh_mem : ∀ {ds : List PyData} {k : Nat}, PyData.canLayAll0 ds = true → PyData.depthAll ds ≤ k → wideAll ds = true → ∀ d ∈ ds, Sh d k
  | [], _, _, _, _, _, h => nomatch h
  | d :: ds, k, h1, h2, h3, x, hx => by
    rw [PyData.canLayAll0] at h1
    rw [PyData.depthAll] at h2
    rw [wideAll] at h3
    have a := Bool.and_eq_true_iff.mp h1
    have b := Nat.max_le.mp h2
    have c := Bool.and_eq_true_iff.mp h3
    rcases List.mem_cons.mp hx with e | e
    · rw [e]; exact ⟨a.1, b.1, c.1⟩
    · exact sh_mem a.2 b.2 c.2 x e
theorem sh_tup {ds : List PyData} {k : Nat} (l : ds.length ≤ 100000) (h : ∀ d ∈ ds, Sh d k) : Sh (.tuple ds) (k + 1) := by
  obtain ⟨h1, h2, h3⟩ := sh_all h
  exact ⟨by rw [PyData.canLay0]; exact h1, by rw [PyData.depth]; omega, by rw [wide, h3, decide_eq_true l]; rfl⟩
theorem sh_lst {ds : List PyData} {k : Nat} (l : ds.length ≤ 100000) (h : ∀ d ∈ ds, Sh d k) : Sh (.list ds) (k + 1) := by
  obtain ⟨h1, h2, h3⟩ := sh_all h
  exact ⟨by rw [PyData.canLay0]; exact h1, by rw [PyData.depth]; omega, by rw [wide, h3, decide_eq_true l]; rfl⟩
theorem sh_int (i : Int) (k : Nat) : Sh (.int i) k := ⟨rfl, by rw [PyData.depth]; omega, by rw [wide]⟩
theorem sh_bool (i : Bool) (k : Nat) : Sh (.bool i) k := ⟨rfl, by rw [PyData.depth]; omega, by rw [wide]⟩
theorem sh_none (k : Nat) : Sh .none k := ⟨rfl, by rw [PyData.depth]; omega, by rw [wide]⟩
theorem sh_eC {ns : List Int} (l : ns.length ≤ 100000) : Sh (eC ns) 1 := sh_tup (by simpa using l) fun d hd => by
  obtain ⟨n, _, rfl⟩ := List.mem_map.mp hd
  exact sh_int n 0
theorem sh_eI {ns : List Int} (l : ns.length ≤ 100000) : Sh (eI ns) 1 := sh_lst (by simpa using l) fun d hd => by
  obtain ⟨n, _, rfl⟩ := List.mem_map.mp hd
  exact sh_int n 0
theorem sh_eP {cs : List (List Int)} (l : cs.length ≤ 100000) (h : ∀ c ∈ cs, c.length ≤ 100000) : Sh (eP cs) 2 := sh_lst (by simpa using l) fun d hd => by
  obtain ⟨n, m, rfl⟩ := List.mem_map.mp hd
  exact sh_eC (h n m)
theorem Sh.mono {d : PyData} {j k : Nat} (h : Sh d j) (l : j ≤ k) : Sh d k := ⟨h.1, Nat.le_trans h.2.1 l, h.2.2⟩
theorem Sh.sh {d : PyData} {k : Nat} (h : Sh d k) (l : k ≤ 64) : SeqAt.shaped d = true := by
  unfold SeqAt.shaped
  rw [h.1, decide_eq_true (Nat.le_trans h.2.1 l)]
  rfl
theorem Sh.tupI {ds : List PyData} {k : Nat} (h : Sh (.tuple ds) k) : ∃ j, k = j + 1 ∧ (∀ d ∈ ds, Sh d j) ∧ ds.length ≤ 100000 := by
  obtain ⟨h1, h2, h3⟩ := h
  rw [PyData.canLay0] at h1
  rw [PyData.depth] at h2
  rw [wide] at h3
  have c := Bool.and_eq_true_iff.mp h3
  exact ⟨k - 1, by omega, sh_mem h1 (by omega) c.2, of_decide_eq_true c.1⟩
theorem Sh.lstI {ds : List PyData} {k : Nat} (h : Sh (.list ds) k) : ∃ j, k = j + 1 ∧ (∀ d ∈ ds, Sh d j) ∧ ds.length ≤ 100000 := by
  obtain ⟨h1, h2, h3⟩ := h
  rw [PyData.canLay0] at h1
  rw [PyData.depth] at h2
  rw [wide] at h3
  have c := Bool.and_eq_true_iff.mp h3
  exact ⟨k - 1, by omega, sh_mem h1 (by omega) c.2, of_decide_eq_true c.1⟩
/-! ### isinstance -/
def tyn : PyData → String
  | .none => "NoneType" | .bool _ => "bool" | .int _ => "int" | .str _ => "str" | .list _ => "list" | .tuple _ => "tuple" | .dict _ => "dict"
theorem Dt.ty {K : PySem.W.Frag} {B : List Addr} {H : Hp} {v : V} {d : PyData} (h : Dt B H v d) : TyX K H v (.type (tyn d)) := by
  cases h with
  | non => exact .base .non
  | bl b => exact .base (.bl b)
  | int i => exact .base (.int i)
  | str x => exact .base (.str x)
  | lst n hs ha => exact .base (.lst hs)
  | tup n hs ha => exact .base (.tup hs)
theorem r_isi {K : PySem.W.Frag} {H : Hp} {Q : VK} {x : V} {t n : String} {b : Bool} (h : TyX K H x (.type t)) (e : kitB t n = some b) (q : Q (.bl b) H) : rIsi K [x, .ty n] H Q := ⟨x, .ty n, _, _, b, rfl, .ty n, h, kit_ty e, q⟩
theorem iteD {c A B : Prop} [Decidable c] (hc : c) (h : A) : if decide c = true then A else B := by
  rw [if_pos (decide_eq_true hc)]
  exact h
theorem iteE {A B : Prop} {c : Bool} (hc : c = true) (h : A) : if c = true then A else B := by
  rw [if_pos hc]
  exact h
theorem iteN {A B : Prop} {c : Bool} (hc : c = false) (h : B) : if c = true then A else B := by
  rw [hc, if_neg Bool.false_ne_true]
  exact h
/-! ### comprehensions -/
theorem lc_yes {te : TE} {σ : L2.St} {H : Hp} {Qy : VK} {N : Hp → Prop} (h : te σ H Qy) : tYes σ H (fun b H3 => if b = true then te σ H3 Qy else N H3) := by
  show if true = true then te σ H Qy else N H
  rw [if_pos rfl]
  exact h
theorem walk_zipT {K : PySem.W.Frag} {a b : Addr} {xs ys : List V} {n : Nat} (hn : n = min xs.length ys.length) : Walk (RZ.ItzT K a b) n (fun H => SqT K H a xs ∧ SqT K H b ys) (YPair (fun i => xs[i]?) (fun i => ys[i]?)) := by
  subst hn
  refine ⟨fun i _ hi q => ?_, fun _ q => ⟨xs, ys, q.1, q.2, by omega⟩, fun i H v H' _ q y => ?_⟩
  · have h1 : i < xs.length := by omega
    have h2 : i < ys.length := by omega
    exact ⟨xs, ys, xs[i], ys[i], q.1, q.2, by simp [h1], by simp [h2]⟩
  · obtain ⟨T, x, z, h1, h2, h3, h4, h5⟩ := y
    exact ⟨T, x, z, h1, h2, h3, h4 xs q.1, h5 ys q.2⟩
theorem sz {n : Nat} (h : n ≤ 100000) : n < sizeLine := Nat.lt_of_le_of_lt h (by decide)
/-- a comprehension that leaves all as it was: what it makes, item by item -/
theorem lc_pure {J : It} {n : Nat} {G : Hp → Prop} {Y : Nat → Hp → V → Hp → Prop} (w : Walk J n G Y) {g : TG} {tt : TT} {te : TE} {vs : List Nat} {σ : L2.St} {H1 : Hp} {D : Addr} {Qd : Hp → Prop} {B : List Addr}
    (hD : H1 D = none) (hB : Bk B H1) (hG : ∀ H', Same H1 H' → G H') (hn : n ≤ 100000) (e : Nat → Option PyData)
    (hs : ∀ (i : Nat) (x : V) (H' H'' : Hp) (Ny : V → Hp → Prop) (Nn : Hp → Prop), i < n → Same H1 H' → Bk (D :: B) H' → Y i H' x H'' → (∀ y H4 d, e i = some d → Same H' H4 → Dt (D :: B) H4 y d → Ny y H4) → (∀ H3, e i = none → Same H' H3 → Nn H3) →
      g x (wipe σ vs) H'' fun σ2 H2 => wipe σ2 vs = wipe σ vs ∧ tt σ2 H2 fun b H3 => if b = true then te σ2 H3 Ny else Nn H3)
    (hd : ∀ (H' : Hp) (ws : List V), Same H1 H' → H' D = some (.lst ws) → DtA (D :: B) H' ws ((List.range n).filterMap e) → Qd H') :
    ∃ W : Nat → Nat → Hp → Prop, (∃ m, W 0 m (upd H1 D (.lst []))) ∧ ∀ i m H, W i m H →
      (J.stop i H ∧ Qd H) ∨ (J.go i H ∧ ∃ Nx : Hp → Prop, (∀ H', Nx H' → ∃ m', m' < m ∧ W (i + 1) m' H') ∧ ∀ x H', J.yld i H x H' → g x (wipe σ vs) H' fun σ2 H2 => wipe σ2 vs = wipe σ vs ∧ tt σ2 H2 fun b H3 =>
        if b = true then te σ2 H3 fun y H4 => ∃ acc, H4 D = some (.lst acc) ∧ acc.length < sizeLine ∧ Nx (upd H4 D (.lst (acc ++ [y]))) else Nx H3) := by
  refine lc_it w (fun i H' => Same H1 H' ∧ ∃ ws, H' D = some (.lst ws) ∧ DtA (D :: B) H' ws ((List.range i).filterMap e) ∧ ws.length ≤ i) ⟨sm_new hD, [], upd_same, .nil, Nat.le_refl _⟩ (fun i H' _ h => hG H' h.1) (fun i x H' H'' hi h y => ?_) (fun H' h => ?_)
  · obtain ⟨s1, ws, eD, hA, hl⟩ := h
    have hb : Bk (D :: B) H' := (hB.go (Go.of (B := B) s1)).cons eD
    refine hs i x H' H'' _ _ hi s1 hb y (fun y H4 d ed s4 hy => ?_) (fun H3 ed s3 => ?_)
    · refine ⟨ws, s4 _ _ eD, sz (by omega), sm_mut (s1.trans s4) hD, ws ++ [y], upd_same, ?_, by simp; omega⟩
      rw [List.range_succ, List.filterMap_append]
      have g4 : Go (D :: B) H4 (upd H4 D (.lst (ws ++ [y]))) := Go.refl.at (List.mem_cons_self ..)
      refine DtA.app ((hA.s s4).g g4) ?_
      simp only [List.filterMap_cons, List.filterMap_nil, ed]
      exact .one (hy.g g4)
    · refine ⟨s1.trans s3, ws, s3 _ _ eD, ?_, by omega⟩
      rw [List.range_succ, List.filterMap_append]
      simp only [List.filterMap_cons, List.filterMap_nil, ed, List.append_nil]
      exact hA.s s3
  · obtain ⟨s1, ws, eD, hA, hl⟩ := h
    exact hd H' ws s1 eD hA
theorem fm_take {α : Type} (ys : List α) : ∀ n, (List.range n).filterMap (fun i => ys[i]?) = ys.take n
  | 0 => by simp
  | n + 1 => by
    rw [List.range_succ, List.filterMap_append, fm_take ys n, List.take_add_one]
    cases h : ys[n]? <;> simp [h]
theorem fm_all {α : Type} {ys : List α} {n : Nat} (h : ys.length = n) : (List.range n).filterMap (fun i => ys[i]?) = ys := by
  rw [fm_take, ← h, List.take_length]
theorem at0 {α : Type} {xs : List α} {i : Int} {v : α} (h : 0 ≤ i) (e : xs[i.toNat]? = some v) : atI xs i = some v := by
  have := atI_nat e
  rw [Int.toNat_of_nonneg h] at this
  exact this
theorem bit_ok (b : Bool) : (-(2 ^ 64) : Int) < (if b = true then 1 else 0) ∧ (if b = true then 1 else 0 : Int) < 2 ^ 64 := by cases b <;> decide
theorem md {j : Int} (h : 0 < j) : 0 < j := h
theorem at_in {xs : List V} {r : Int} (h0 : 0 ≤ r) (h1 : r < xs.length) : ∃ v, v ∈ xs ∧ atI xs r = some v := by
  have h : r.toNat < xs.length := by omega
  exact ⟨xs[r.toNat], List.getElem_mem h, at0 h0 (List.getElem?_eq_getElem h)⟩
theorem at_int {ns : List Int} {r : Int} (h0 : 0 ≤ r) (h1 : r < ns.length) : ∃ z, z ∈ ns ∧ atI (ns.map V.int) r = some (.int z) := by
  have h : r.toNat < ns.length := by omega
  exact ⟨ns[r.toNat], List.getElem_mem h, at0 h0 (by rw [List.getElem?_map, List.getElem?_eq_getElem h]; rfl)⟩
theorem at2 (x y : V) (b : Bool) : atI [x, y] (if b = true then 1 else 0) = some (if b = true then y else x) := by cases b <;> rfl
/-- numbers within bounds -/
def cIn (lo hi : Int) (ns : List Int) : Prop := ∀ x ∈ ns, lo ≤ x ∧ x ≤ hi
theorem cIn.app {lo hi x : Int} {ns : List Int} (h : cIn lo hi ns) (h1 : lo ≤ x) (h2 : x ≤ hi) : cIn lo hi (ns ++ [x]) := fun y hy => by
  rcases List.mem_append.mp hy with q | q
  · exact h y q
  · rw [List.mem_singleton.mp q]
    exact ⟨h1, h2⟩
theorem cIn.nil {lo hi : Int} : cIn lo hi [] := fun _ h => nomatch h
theorem cIn.mono {lo hi lo' hi' : Int} {ns : List Int} (h : cIn lo hi ns) (h1 : lo' ≤ lo) (h2 : hi ≤ hi') : cIn lo' hi' ns := fun x hx => by
  have := h x hx
  omega
/-- a comprehension of drawn numbers -/
theorem lc_ints {J : It} {n : Nat} {G : Hp → Prop} {Y : Nat → Hp → V → Hp → Prop} (w : Walk J n G Y) {g : TG} {tt : TT} {te : TE} {vs : List Nat} {σ : L2.St} {H1 : Hp} {D L : Addr} {Qd : Hp → Prop} (N u : Nat) (lo hi : Int)
    (hD : H1 D = none) (hL : Lf L H1 N) (hG : ∀ H', Go [L] H1 H' → G H') (hn : n ≤ 100000)
    (hs : ∀ (i : Nat) (x : V) (H' H'' : Hp) (Ny : V → Hp → Prop) (Nn : Hp → Prop), i < n → Go [L] H1 H' → Lf L H' (N + u * i) → Y i H' x H'' → (∀ (z : Int) H4, Go [L] H' H4 → Lf L H4 (N + u * i + u) → lo ≤ z → z ≤ hi → Ny (.int z) H4) →
      g x (wipe σ vs) H'' fun σ2 H2 => wipe σ2 vs = wipe σ vs ∧ tt σ2 H2 fun b H3 => if b = true then te σ2 H3 Ny else Nn H3)
    (hd : ∀ (H' : Hp) (ns : List Int), Go [L] H1 H' → Lf L H' (N + u * n) → H' D = some (.lst (ns.map V.int)) → ns.length = n → cIn lo hi ns → Qd H') :
    ∃ W : Nat → Nat → Hp → Prop, (∃ m, W 0 m (upd H1 D (.lst []))) ∧ ∀ i m H, W i m H →
      (J.stop i H ∧ Qd H) ∨ (J.go i H ∧ ∃ Nx : Hp → Prop, (∀ H', Nx H' → ∃ m', m' < m ∧ W (i + 1) m' H') ∧ ∀ x H', J.yld i H x H' → g x (wipe σ vs) H' fun σ2 H2 => wipe σ2 vs = wipe σ vs ∧ tt σ2 H2 fun b H3 =>
        if b = true then te σ2 H3 fun y H4 => ∃ acc, H4 D = some (.lst acc) ∧ acc.length < sizeLine ∧ Nx (upd H4 D (.lst (acc ++ [y]))) else Nx H3) := by
  have nD : D ∉ [L] := hL.bk.ne hD
  refine lc_it w (fun i H' => Go [L] H1 H' ∧ Lf L H' (N + u * i) ∧ ∃ ns : List Int, H' D = some (.lst (ns.map V.int)) ∧ ns.length = i ∧ cIn lo hi ns) ⟨Go.new hD, hL.new hD, [], upd_same, rfl, cIn.nil⟩ (fun i H' _ h => hG H' h.1) (fun i x H' H'' hi h y => ?_) (fun H' h => ?_)
  · obtain ⟨g1, l1, ns, eD, en, cn⟩ := h
    refine hs i x H' H'' _ _ hi g1 l1 y (fun z H4 g4 l4 z0 z1 => ?_)
    refine ⟨ns.map V.int, g4.k D _ nD eD, sz (by rw [List.length_map]; omega), (g1.trans g4).mut hD, (l4.up (hL.ne hD)).mono (by rw [Nat.mul_succ]; omega), ns ++ [z], ?_, by simp; omega, cn.app z0 z1⟩
    rw [upd_same, List.map_append]
    rfl
  · obtain ⟨g1, l1, ns, eD, en, cn⟩ := h
    exact hd H' ns g1 l1 eD en cn
theorem mat {a : List Int} {i : Nat} {x : V} (h : i < a.length) (e : (a.map V.int)[i]? = some x) : x = .int a[i] := by
  rw [List.getElem?_map, List.getElem?_eq_getElem h] at e
  exact (Option.some.inj e).symm
end Z

set_option Elab.async false
set_option linter.all false
set_option maxRecDepth 100000
namespace Z
open PySem PySem.Spec PyProof.Rows L2
open PySem.W (dataLt minD alike alikeAll dataLt_tuple dataLt_all_yes dataLt_all_no dataLt_int min_list_data readsAll_at reads_keeps AlikeAll)
/-! ### the least of pairs -/
def enc (p : Int × Int) : PyData := eC [p.1, p.2]
theorem enc_inj {p q : Int × Int} (h : enc p = enc q) : p = q := by
  have h1 : [PyData.int p.1, PyData.int p.2] = [PyData.int q.1, PyData.int q.2] := by
    unfold enc eC at h
    exact PyData.tuple.inj h
  have h2 := (List.cons.inj h1)
  have h3 := (List.cons.inj h2.2)
  exact Prod.ext (PyData.int.inj h2.1) (PyData.int.inj h3.1)
theorem lt_enc (p q : Int × Int) : dataLt (enc p) (enc q) = SrtO.lexB p q := by
  unfold enc eC
  rw [dataLt_tuple]
  simp only [List.map_cons, List.map_nil]
  unfold SrtO.lexB
  by_cases h : p.1 = q.1
  · rw [if_pos h, dataLt_all_yes (by rfl) (by simp [PyData.eqv, h])]
    by_cases h2 : p.2 = q.2
    · rw [dataLt_all_yes (by rfl) (by simp [PyData.eqv, h2]), decide_eq_false (by omega)]
      rfl
    · rw [dataLt_all_no (by rfl) (by simp [PyData.eqv, h2]), dataLt_int]
  · rw [if_neg h, dataLt_all_no (by rfl) (by simp [PyData.eqv, h]), dataLt_int]
def minP (p : Int × Int) (ps : List (Int × Int)) : Int × Int := ps.foldl (fun a y => if SrtO.lexB y a then y else a) p
theorem minD_enc (p : Int × Int) (ps : List (Int × Int)) : minD (enc p) (ps.map enc) = enc (minP p ps) := by
  unfold minD minP
  induction ps generalizing p with
  | nil => rfl
  | cons x r ih =>
    rw [List.map_cons, List.foldl_cons, List.foldl_cons, lt_enc]
    by_cases h : SrtO.lexB x p = true
    · rw [if_pos h, if_pos h]; exact ih x
    · rw [if_neg h, if_neg h]; exact ih p
theorem minP_le (p : Int × Int) (ps : List (Int × Int)) : ∀ q ∈ p :: ps, SrtO.lexB q (minP p ps) = false := by
  unfold minP
  induction ps generalizing p with
  | nil =>
    intro q hq
    rw [List.mem_singleton.mp hq]
    exact SrtO.lexB_no.mpr (by simp only [List.foldl_nil]; omega)
  | cons x r ih =>
    intro q hq
    rw [List.foldl_cons]
    by_cases h : SrtO.lexB x p = true
    · rw [if_pos h]
      rcases List.mem_cons.mp hq with e | e
      · have i1 := SrtO.lexB_no.mp (ih x x (List.mem_cons_self ..))
        have i2 := SrtO.lexB_iff.mp h
        rw [e]
        exact SrtO.lexB_no.mpr (by omega)
      · exact ih x q e
    · rw [if_neg h]
      rcases List.mem_cons.mp hq with e | e
      · exact ih p q (by rw [e]; exact List.mem_cons_self ..)
      · rcases List.mem_cons.mp e with e | e
        · have i1 := SrtO.lexB_no.mp (ih p p (List.mem_cons_self ..))
          have i2 := SrtO.lexB_no.mp (Bool.eq_false_iff.mpr h)
          rw [e]
          exact SrtO.lexB_no.mpr (by omega)
        · exact ih p q (List.mem_cons_of_mem _ e)
theorem alike_enc (p q : Int × Int) : alike (enc p) (enc q) = true := by
  unfold enc eC
  simp [alike, alikeAll]
theorem dep_enc : ∀ ps : List (Int × Int), PyData.depthAll (ps.map enc) ≤ 1
  | [] => Nat.zero_le _
  | p :: ps => by
    rw [List.map_cons, PyData.depthAll]
    exact Nat.max_le.mpr ⟨(sh_eC (ns := [p.1, p.2]) (by simp)).2.1, dep_enc ps⟩
/-- min(xs), xs a list of pairs of ints: one of the least -/
def rMinP (K : PySem.W.Frag) : List V → Hp → VK → Prop := fun vs H Q => ∃ (a : Addr) (xs : List V) (p : Int × Int) (ps : List (Int × Int)), vs = [V.ref a] ∧ SqL K H a xs ∧ DpAll K H xs ((p :: ps).map enc) ∧
  ∀ (i : Nat) (x : V), xs[i]? = some x → (p :: ps)[i]? = some (minP p ps) → Q x H
theorem cr_minP (K : PySem.W.Frag) {X : Cx} (hc : X.calm = true) (hu : X.A.units + 64 < cLine) (hK : X.K = K := by rfl) : CallR X (.builtin "min") (rMinP K) := by
  subst hK
  intro pins s σ H vs us Q I r h
  obtain ⟨a, xs, p, ps, rfl, hs, hd, q⟩ := h
  obtain ⟨its, rv, hl, hz⟩ := I.list hs
  obtain ⟨u, rfl, ru⟩ := vals1 r
  obtain rfl : u = Value.ref a := ru
  obtain ⟨as, hr⟩ := Dp.readsAll I _ xs its hd rv
  rw [List.map_cons] at hr
  have hdep := dep_enc (p :: ps)
  rw [List.map_cons] at hdep
  refine min_list_data (x := enc p) (xs := ps.map enc) (I.ok.hd hc) hl.isList (by simpa using hr) ⟨fun x hx y hy => ?_, fun x hx => ?_⟩ (by omega) fun i v h' tk bs hv rd hk => ?_
  · rw [← List.map_cons] at hx hy
    obtain ⟨x, _, rfl⟩ := List.mem_map.mp hx
    obtain ⟨y, _, rfl⟩ := List.mem_map.mp hy
    exact alike_enc x y
  · rw [← List.map_cons] at hx
    obtain ⟨x, _, rfl⟩ := List.mem_map.mp hx
    intro z
    unfold enc eC at z
    cases z
  · have hv2 : its[i]? = some v := by simpa using hv
    have hi : i < its.length := (List.getElem?_eq_some_iff.mp hv2).1
    have hi2 : i < xs.length := by rw [rv.length]; exact hi
    obtain ⟨w, hw, rw1⟩ := rv.get (List.getElem?_eq_getElem hi2)
    have ew : w = v := Option.some.inj (hw.symm.trans hv2)
    subst ew
    obtain ⟨cs, r1, l1, m1, _⟩ := readsAll_at hr i w hv2
    rw [← List.map_cons] at l1 m1 r1
    rw [List.length_map] at l1
    have eg : ((p :: ps).map enc).getD i .none = enc (p :: ps)[i] := by
      rw [List.getD_eq_getElem?_getD, List.getElem?_map, List.getElem?_eq_getElem l1]
      rfl
    rw [eg] at r1
    rw [minD_enc] at rd
    have ee := SeqAt.Reads.unique _ _ _ _ _ (sh_eC (ns := [((p :: ps)[i]).1, ((p :: ps)[i]).2]) (by simp)).1 (reads_keeps hk r1) rd
    have ep : (p :: ps)[i] = minP p ps := enc_inj ee
    exact ⟨xs[i], H, I.kept (t' := tk) hk, rw1, q i _ (List.getElem?_eq_getElem hi2) (by rw [List.getElem?_eq_getElem l1, ep])⟩
theorem DtA.rev {B : List Addr} {H : Hp} : ∀ {vs : List V} {ds : List PyData}, DtA B H vs ds → DtA B H vs.reverse ds.reverse
  | [], _, h => by
    cases h
    exact .nil
  | v :: vs, _, h => by
    cases h with
    | cons h1 h2 =>
      rw [List.reverse_cons, List.reverse_cons]
      exact (DtA.rev h2).app (.one h1)
theorem DtA.dP {K : PySem.W.Frag} {B : List Addr} {H : Hp} {vs : List V} {ds : List PyData} (h : DtA B H vs ds) : DpAll K H vs ds := DtA.dp ds vs h
/-- a comprehension of drawn data -/
theorem lc_dtsB {J : It} {n : Nat} {G : Hp → Prop} {Y : Nat → Hp → V → Hp → Prop} (w : Walk J n G Y) {g : TG} {tt : TT} {te : TE} {vs : List Nat} {σ : L2.St} {H1 : Hp} {D L : Addr} {B : List Addr} {Qd : Hp → Prop} (N u : Nat) (Pd : PyData → Prop)
    (hD : H1 D = none) (hL : Lf L H1 N) (LB : L ∈ B) (hB : Bk B H1) (hG : ∀ H', Go [L] H1 H' → G H') (hn : n ≤ 100000)
    (hs : ∀ (i : Nat) (x : V) (H' H'' : Hp) (Ny : V → Hp → Prop) (Nn : Hp → Prop), i < n → Go [L] H1 H' → Lf L H' (N + u * i) → Bk (D :: B) H' → Y i H' x H'' → (∀ (v : V) (d : PyData) H4, Go [L] H' H4 → Lf L H4 (N + u * i + u) → Dt (D :: B) H4 v d → Pd d → Ny v H4) →
      g x (wipe σ vs) H'' fun σ2 H2 => wipe σ2 vs = wipe σ vs ∧ tt σ2 H2 fun b H3 => if b = true then te σ2 H3 Ny else Nn H3)
    (hd : ∀ (H' : Hp) (ws : List V) (ds : List PyData), Go [L] H1 H' → Lf L H' (N + u * n) → H' D = some (.lst ws) → DtA (D :: B) H' ws ds → ds.length = n → (∀ d ∈ ds, Pd d) → Qd H') :
    ∃ W : Nat → Nat → Hp → Prop, (∃ m, W 0 m (upd H1 D (.lst []))) ∧ ∀ i m H, W i m H →
      (J.stop i H ∧ Qd H) ∨ (J.go i H ∧ ∃ Nx : Hp → Prop, (∀ H', Nx H' → ∃ m', m' < m ∧ W (i + 1) m' H') ∧ ∀ x H', J.yld i H x H' → g x (wipe σ vs) H' fun σ2 H2 => wipe σ2 vs = wipe σ vs ∧ tt σ2 H2 fun b H3 =>
        if b = true then te σ2 H3 fun y H4 => ∃ acc, H4 D = some (.lst acc) ∧ acc.length < sizeLine ∧ Nx (upd H4 D (.lst (acc ++ [y]))) else Nx H3) := by
  have nD : D ∉ [L] := hL.bk.ne hD
  refine lc_it w (fun i H' => Go [L] H1 H' ∧ Lf L H' (N + u * i) ∧ ∃ ws ds, H' D = some (.lst ws) ∧ DtA (D :: B) H' ws ds ∧ ds.length = i ∧ ∀ d ∈ ds, Pd d) ⟨Go.new hD, hL.new hD, [], [], upd_same, .nil, rfl, fun _ h => (nomatch h)⟩ (fun i H' _ h => hG H' h.1) (fun i x H' H'' hi h y => ?_) (fun H' h => ?_)
  · obtain ⟨g1, l1, ws, ds, eD, hA, en, hp⟩ := h
    refine hs i x H' H'' _ _ hi g1 l1 ((hB.go g1).cons eD) y (fun z d H4 g4 l4 dz pd => ?_)
    have gm : Go (D :: B) H4 (upd H4 D (.lst (ws ++ [z]))) := Go.refl.at (List.mem_cons_self ..)
    have lw := hA.len
    refine ⟨ws, g4.k D _ nD eD, sz (by omega), (g1.trans g4).mut hD, (l4.up (hL.ne hD)).mono (by rw [Nat.mul_succ]; omega), ws ++ [z], ds ++ [d], upd_same, ((hA.g (g4.w1 (List.mem_cons_of_mem _ LB))).g gm).app (.one (dz.g gm)), by simp; omega, fun e he => ?_⟩
    rcases List.mem_append.mp he with he | he
    · exact hp e he
    · rw [List.mem_singleton.mp he]
      exact pd
  · obtain ⟨g1, l1, ws, ds, eD, hA, en, hp⟩ := h
    exact hd H' ws ds g1 l1 eD hA en hp
/-- a part of a list -/
def cutL {α : Type} (xs : List α) (lo hi : Option Int) : List α := (xs.drop (HT.sIx xs.length 0 lo)).take (HT.sIx xs.length xs.length hi - HT.sIx xs.length 0 lo)
theorem cutL_sub {α : Type} {xs : List α} {lo hi : Option Int} {x : α} (h : x ∈ cutL xs lo hi) : x ∈ xs := List.mem_of_mem_drop (List.mem_of_mem_take h)
theorem cutL_len {α : Type} (xs : List α) (lo hi : Option Int) : (cutL xs lo hi).length ≤ xs.length := by
  unfold cutL
  rw [List.length_take, List.length_drop]
  omega
theorem DtA.drop {B : List Addr} {H : Hp} : ∀ (n : Nat) {vs : List V} {ds : List PyData}, DtA B H vs ds → DtA B H (vs.drop n) (ds.drop n)
  | 0, _, _, h => h
  | n + 1, [], _, h => by cases h; exact .nil
  | n + 1, v :: vs, _, h => by
    cases h with
    | cons h1 h2 => exact DtA.drop n h2
theorem DtA.take {B : List Addr} {H : Hp} : ∀ (n : Nat) {vs : List V} {ds : List PyData}, DtA B H vs ds → DtA B H (vs.take n) (ds.take n)
  | 0, _, _, h => .nil
  | n + 1, [], _, h => by cases h; exact .nil
  | n + 1, v :: vs, _, h => by
    cases h with
    | cons h1 h2 => exact .cons h1 (DtA.take n h2)
theorem DtA.cut {B : List Addr} {H : Hp} {vs : List V} {ds : List PyData} (h : DtA B H vs ds) (lo hi : Option Int) : DtA B H (cutV vs lo hi) (cutL ds lo hi) := by
  unfold cutV cutL
  rw [h.len]
  exact DtA.take _ (DtA.drop _ h)
theorem slice_dt {K : PySem.W.Frag} {B : List Addr} {H : Hp} {x : V} {ds : List PyData} {lo hi : Option Int} {Q : VK} (hx : Dt B H x (.tuple ds)) (hB : Bk B H) (q : ∀ v H', Same H H' → Dt B H' v (.tuple (cutL ds lo hi)) → Q v H') : rSlA K x lo hi H Q := by
  obtain ⟨a, vs, rfl, na, ha, hA⟩ := hx.tupI
  refine ⟨a, vs, rfl, SqT.of ha, fun h => q _ H (Same.refl _) ?_, fun _ p hp => q _ _ (sm_new hp) (.tup (hB.ne hp) upd_same ((hA.cut lo hi).s (sm_new hp)))⟩
  have e : cutL ds lo hi = ds := by
    unfold cutL
    rw [← hA.len, h.1, h.2, List.drop_zero, Nat.sub_zero, hA.len, List.take_length]
  rw [e]
  exact hx
theorem cat_dt {K : PySem.W.Frag} {B : List Addr} {H : Hp} {x y : V} {xs ys : List PyData} {Q : VK} (hx : Dt B H x (.tuple xs)) (hy : Dt B H y (.tuple ys)) (hB : Bk B H) (l : xs.length + ys.length ≤ 100000) (q : ∀ v H', Same H H' → Dt B H' v (.tuple (xs ++ ys)) → Q v H') : rCatA K x y H Q := by
  obtain ⟨a, vs, rfl, na, ha, hA⟩ := hx.tupI
  obtain ⟨b, ws, rfl, nb, hb, hC⟩ := hy.tupI
  have l1 := hA.len
  have l2 := hC.len
  refine ⟨a, b, vs, ws, rfl, rfl, SqT.of ha, SqT.of hb, Nat.le_of_lt (sz (by omega)), fun e => ?_, fun _ e => ?_, fun _ _ p hp => q _ _ (sm_new hp) (.tup (hB.ne hp) upd_same ((hA.app hC).s (sm_new hp)))⟩
  · subst e
    have : xs = [] := List.eq_nil_of_length_eq_zero (by rw [← l1]; rfl)
    subst this
    exact q _ H (Same.refl _) hy
  · subst e
    have : ys = [] := List.eq_nil_of_length_eq_zero (by rw [← l2]; rfl)
    subst this
    exact q _ H (Same.refl _) (by rw [List.append_nil]; exact hx)
theorem sh_cut {ds : List PyData} {k : Nat} {lo hi : Option Int} (h : Sh (.tuple ds) k) : Sh (.tuple (cutL ds lo hi)) k := by
  obtain ⟨j, rfl, h1, h2⟩ := h.tupI
  exact sh_tup (Nat.le_trans (cutL_len _ _ _) h2) fun d hd => h1 d (cutL_sub hd)
theorem sh_cat {xs ys : List PyData} {k : Nat} (h1 : Sh (.tuple xs) k) (h2 : Sh (.tuple ys) k) (l : xs.length + ys.length ≤ 100000) : Sh (.tuple (xs ++ ys)) k := by
  obtain ⟨j, rfl, a1, a2⟩ := h1.tupI
  obtain ⟨j', e, b1, b2⟩ := h2.tupI
  have : j = j' := by omega
  subst this
  exact sh_tup (by simpa using l) fun d hd => by
    rcases List.mem_append.mp hd with h | h
    · exact a1 d h
    · exact b1 d h
end Z

set_option Elab.async false
set_option linter.all false
set_option maxRecDepth 100000
namespace Z
open PySem PySem.Spec PyProof.Rows L2
/-! ### sorted ints -/
theorem cr_sortedIK (K : PySem.W.Frag) {X : Cx} (h : X.K = K := by rfl) : CallR X (.builtin "sorted") (rSortedI K) := h ▸ cr_sortedI
end Z

set_option Elab.async false
set_option linter.all false
set_option maxRecDepth 100000
namespace Z
open PySem PySem.Spec PyProof.Rows L2
def topS (i : Nat) : Stmt := PySem.Challenge.pw_fewcolours_k15_tables_of_a_line.main.body.getD i (.Pass ⟨0, 0, 0, 0⟩)
abbrev s_apart : Stmt := topS 1
abbrev N_apart : List Str := ["one", "other", "a", "b"]
theorem sc_apart : FnScope N_apart ["one", "other"] (defScope s_apart) := ⟨rfl, rfl, rfl, by decide +kernel, rfl, by decide +kernel, by decide +kernel⟩
abbrev s_nearest : Stmt := topS 3
abbrev N_nearest : List Str := ["palette", "colour", "squares", "one"]
theorem sc_nearest : FnScope N_nearest ["palette", "colour"] (defScope s_nearest) := ⟨rfl, rfl, rfl, by decide +kernel, rfl, by decide +kernel, by decide +kernel⟩
abbrev s_first_places : Stmt := topS 5
abbrev N_first_places : List Str := ["palette", "pairs", "firsts", "place", "number", "colour"]
theorem sc_first_places : FnScope N_first_places ["palette"] (defScope s_first_places) := ⟨rfl, rfl, rfl, by decide +kernel, rfl, by decide +kernel, by decide +kernel⟩
abbrev s_begin_between : Stmt := topS 6
abbrev N_begin_between : List Str := ["left", "right", "both"]
theorem sc_begin_between : FnScope N_begin_between ["left", "right"] (defScope s_begin_between) := ⟨rfl, rfl, rfl, by decide +kernel, rfl, by decide +kernel, by decide +kernel⟩
abbrev s_line_table : Stmt := topS 7
abbrev N_line_table : List Str := ["palette", "low", "high", "firsts", "rows", "left", "right", "begin"]
theorem sc_line_table : FnScope N_line_table ["palette", "low", "high"] (defScope s_line_table) := ⟨rfl, rfl, rfl, by decide +kernel, rfl, by decide +kernel, by decide +kernel⟩
abbrev s_l_mix : Stmt := topS 9
abbrev N_l_mix : List Str := ["_law_cell", "_law_k", "_law_m"]
theorem sc_l_mix : FnScope N_l_mix ["_law_cell", "_law_k"] (defScope s_l_mix) := ⟨rfl, rfl, rfl, by decide +kernel, rfl, by decide +kernel, by decide +kernel⟩
abbrev s_l_left : Stmt := topS 10
abbrev N_l_left : List Str := ["_law_script", "_law_k", "_law_cell"]
theorem sc_l_left : FnScope N_l_left ["_law_script", "_law_k"] (defScope s_l_left) := ⟨rfl, rfl, rfl, by decide +kernel, rfl, by decide +kernel, by decide +kernel⟩
abbrev s_l_pick : Stmt := topS 11
abbrev N_l_pick : List Str := ["_law_left_here", "_law_many", "_law_digit"]
theorem sc_l_pick : FnScope N_l_pick ["_law_left_here", "_law_many"] (defScope s_l_pick) := ⟨rfl, rfl, rfl, by decide +kernel, rfl, by decide +kernel, by decide +kernel⟩
abbrev s_l_colour : Stmt := topS 12
abbrev N_l_colour : List Str := ["_law_left_here", "_law_kind", "_law_wide", "_law_span", "_law_place"]
theorem sc_l_colour : FnScope N_l_colour ["_law_left_here", "_law_kind"] (defScope s_l_colour) := ⟨rfl, rfl, rfl, by decide +kernel, rfl, by decide +kernel, by decide +kernel⟩
abbrev s_l_palette : Stmt := topS 13
abbrev N_l_palette : List Str := ["_law_left_here", "_law_kind", "_law_many", "_law_found", "_law_k", "_law_colour_here"]
theorem sc_l_palette : FnScope N_l_palette ["_law_left_here", "_law_kind"] (defScope s_l_palette) := ⟨rfl, rfl, rfl, by decide +kernel, rfl, by decide +kernel, by decide +kernel⟩
abbrev s_l_line : Stmt := topS 14
abbrev N_l_line : List Str := ["_law_left_here", "_law_palette_here", "_law_low"]
theorem sc_l_line : FnScope N_l_line ["_law_left_here"] (defScope s_l_line) := ⟨rfl, rfl, rfl, by decide +kernel, rfl, by decide +kernel, by decide +kernel⟩
abbrev s_l_apart : Stmt := topS 15
abbrev N_l_apart : List Str := ["_law_one", "_law_other", "_law_a", "_law_b"]
theorem sc_l_apart : FnScope N_l_apart ["_law_one", "_law_other"] (defScope s_l_apart) := ⟨rfl, rfl, rfl, by decide +kernel, rfl, by decide +kernel, by decide +kernel⟩
abbrev s_l_nearest : Stmt := topS 16
abbrev N_l_nearest : List Str := ["_law_palette_here", "_law_colour_here", "_law_k", "_law_one"]
theorem sc_l_nearest : FnScope N_l_nearest ["_law_palette_here", "_law_colour_here"] (defScope s_l_nearest) := ⟨rfl, rfl, rfl, by decide +kernel, rfl, by decide +kernel, by decide +kernel⟩
abbrev s_l_rows_due : Stmt := topS 17
abbrev N_l_rows_due : List Str := ["_law_palette_here", "_law_low", "_law_high", "_law_values", "_law_spots", "_law_one", "_law_other", "_law_found", "_law_n", "_law_number", "_law_colour_here"]
theorem sc_l_rows_due : FnScope N_l_rows_due ["_law_palette_here", "_law_low", "_law_high"] (defScope s_l_rows_due) := ⟨rfl, rfl, rfl, by decide +kernel, rfl, by decide +kernel, by decide +kernel⟩
abbrev s_l_number_of : Stmt := topS 18
abbrev N_l_number_of : List Str := ["_law_table", "_law_n", "_law_begin", "_law_number"]
theorem sc_l_number_of : FnScope N_l_number_of ["_law_table", "_law_n"] (defScope s_l_number_of) := ⟨rfl, rfl, rfl, by decide +kernel, rfl, by decide +kernel, by decide +kernel⟩
abbrev s_l_same : Stmt := topS 19
abbrev N_l_same : List Str := ["_law_found", "_law_due", "_law_one", "_law_other"]
theorem sc_l_same : FnScope N_l_same ["_law_found", "_law_due"] (defScope s_l_same) := ⟨rfl, rfl, rfl, by decide +kernel, rfl, by decide +kernel, by decide +kernel⟩
abbrev s_law : Stmt := topS 20
abbrev N_law : List Str := ["_law_script", "_law_k", "_law_left_here", "_law_palette_here", "_law_low", "_law_high", "_law_handed", "_law_due", "_law_far", "_law_n"]
theorem sc_law : FnScope N_law ["_law_script"] (defScope s_law) := ⟨rfl, rfl, rfl, by decide +kernel, rfl, by decide +kernel, by decide +kernel⟩
structure Tx (K : PySem.W.Frag) (mg : Str → Option Value) where
  f_apart : Addr
  d_apart : FuncData
  F_apart : Fun K "apart" "apart" s_apart f_apart d_apart
  b_apart : Binds K d_apart ["one", "other"] []
  g_apart : mg "apart" = some (.ref f_apart)
  f_nearest : Addr
  d_nearest : FuncData
  F_nearest : Fun K "nearest" "nearest" s_nearest f_nearest d_nearest
  b_nearest : Binds K d_nearest ["palette", "colour"] []
  g_nearest : mg "nearest" = some (.ref f_nearest)
  f_first_places : Addr
  d_first_places : FuncData
  F_first_places : Fun K "first_places" "first_places" s_first_places f_first_places d_first_places
  b_first_places : Binds K d_first_places ["palette"] []
  g_first_places : mg "first_places" = some (.ref f_first_places)
  f_begin_between : Addr
  d_begin_between : FuncData
  F_begin_between : Fun K "begin_between" "begin_between" s_begin_between f_begin_between d_begin_between
  b_begin_between : Binds K d_begin_between ["left", "right"] []
  g_begin_between : mg "begin_between" = some (.ref f_begin_between)
  f_line_table : Addr
  d_line_table : FuncData
  F_line_table : Fun K "line_table" "line_table" s_line_table f_line_table d_line_table
  b_line_table : Binds K d_line_table ["palette", "low", "high"] []
  g_line_table : mg "line_table" = some (.ref f_line_table)
  f_l_mix : Addr
  d_l_mix : FuncData
  F_l_mix : Fun K "_law_mix" "_law_mix" s_l_mix f_l_mix d_l_mix
  b_l_mix : Binds K d_l_mix ["_law_cell", "_law_k"] []
  g_l_mix : mg "_law_mix" = some (.ref f_l_mix)
  f_l_left : Addr
  d_l_left : FuncData
  F_l_left : Fun K "_law_left" "_law_left" s_l_left f_l_left d_l_left
  b_l_left : Binds K d_l_left ["_law_script", "_law_k"] []
  g_l_left : mg "_law_left" = some (.ref f_l_left)
  f_l_pick : Addr
  d_l_pick : FuncData
  F_l_pick : Fun K "_law_pick" "_law_pick" s_l_pick f_l_pick d_l_pick
  b_l_pick : Binds K d_l_pick ["_law_left_here", "_law_many"] []
  g_l_pick : mg "_law_pick" = some (.ref f_l_pick)
  f_l_colour : Addr
  d_l_colour : FuncData
  F_l_colour : Fun K "_law_colour" "_law_colour" s_l_colour f_l_colour d_l_colour
  b_l_colour : Binds K d_l_colour ["_law_left_here", "_law_kind"] []
  g_l_colour : mg "_law_colour" = some (.ref f_l_colour)
  f_l_palette : Addr
  d_l_palette : FuncData
  F_l_palette : Fun K "_law_palette" "_law_palette" s_l_palette f_l_palette d_l_palette
  b_l_palette : Binds K d_l_palette ["_law_left_here", "_law_kind"] []
  g_l_palette : mg "_law_palette" = some (.ref f_l_palette)
  f_l_line : Addr
  d_l_line : FuncData
  F_l_line : Fun K "_law_line" "_law_line" s_l_line f_l_line d_l_line
  b_l_line : Binds K d_l_line ["_law_left_here"] []
  g_l_line : mg "_law_line" = some (.ref f_l_line)
  f_l_apart : Addr
  d_l_apart : FuncData
  F_l_apart : Fun K "_law_apart" "_law_apart" s_l_apart f_l_apart d_l_apart
  b_l_apart : Binds K d_l_apart ["_law_one", "_law_other"] []
  g_l_apart : mg "_law_apart" = some (.ref f_l_apart)
  f_l_nearest : Addr
  d_l_nearest : FuncData
  F_l_nearest : Fun K "_law_nearest" "_law_nearest" s_l_nearest f_l_nearest d_l_nearest
  b_l_nearest : Binds K d_l_nearest ["_law_palette_here", "_law_colour_here"] []
  g_l_nearest : mg "_law_nearest" = some (.ref f_l_nearest)
  f_l_rows_due : Addr
  d_l_rows_due : FuncData
  F_l_rows_due : Fun K "_law_rows_due" "_law_rows_due" s_l_rows_due f_l_rows_due d_l_rows_due
  b_l_rows_due : Binds K d_l_rows_due ["_law_palette_here", "_law_low", "_law_high"] []
  g_l_rows_due : mg "_law_rows_due" = some (.ref f_l_rows_due)
  f_l_number_of : Addr
  d_l_number_of : FuncData
  F_l_number_of : Fun K "_law_number_of" "_law_number_of" s_l_number_of f_l_number_of d_l_number_of
  b_l_number_of : Binds K d_l_number_of ["_law_table", "_law_n"] []
  g_l_number_of : mg "_law_number_of" = some (.ref f_l_number_of)
  f_l_same : Addr
  d_l_same : FuncData
  F_l_same : Fun K "_law_same" "_law_same" s_l_same f_l_same d_l_same
  b_l_same : Binds K d_l_same ["_law_found", "_law_due"] []
  g_l_same : mg "_law_same" = some (.ref f_l_same)
  z_abs : mg "abs" = none
  z_all : mg "all" = none
  z_bool : mg "bool" = none
  z_enumerate : mg "enumerate" = none
  z_int : mg "int" = none
  z_isinstance : mg "isinstance" = none
  z_len : mg "len" = none
  z_list : mg "list" = none
  z_max : mg "max" = none
  z_min : mg "min" = none
  z_range : mg "range" = none
  z_sorted : mg "sorted" = none
  z_str : mg "str" = none
  z_sum : mg "sum" = none
  z_tuple : mg "tuple" = none
  z_zip : mg "zip" = none
section
variable {P : Program} {w : World} {K : PySem.W.Frag} {mg : Str → Option Value} {base : Heap}
/-! ### mix -/
def spMix : Sp := fun vs H Q _ => ∃ c n : Int, vs = [.int c, .int n] ∧ 0 ≤ n ∧ n < 2000000000 ∧ ∀ r : Int, 0 ≤ r → r < 1999999973 → Q (.int r) H
theorem ok_l_mix (T : Tx K mg) {k : Nat} : FnOk P w K mg base CX0 (k + 1) T.f_l_mix T.d_l_mix ["_law_cell", "_law_k"] spMix := by
  refine T.F_l_mix.ok sc_l_mix (fun vs H Q E h => ?_) (fun cdv A outer s H vs Q E hr h => ?_)
  · obtain ⟨c, n, rfl, _⟩ := h
    rfl
  · obtain ⟨c, n, rfl, h1, h2, q⟩ := h
    refine ⟨_, (pss_cons (ps_set (i := 2) sc_l_mix.nd rfl (.inl rfl) (pe_op op_mod (pe_op op_mul (pe_op op_add (pe_op op_add (pe_op op_mod (pv 0) pe_int) (pe_op op_mul (pe_op op_mul (pv 1) (pv 1)) pe_int)) pe_int) pe_int) pe_int))
      (pss_one (ps_ret (pe_op op_mod (pe_op op_mul (pv 2) (pv 2)) pe_int)))), ?_⟩
    refine ⟨.int c, rfl, _, _, rfl, rfl, md (by decide), .int n, rfl, .int n, rfl, _, _, rfl, rfl, .inl ⟨by omega, by omega⟩, _, _, rfl, rfl, .inr ⟨by decide, by decide⟩, _, _, rfl, rfl, _, _, rfl, rfl, _, _, rfl, rfl, .inr ⟨by decide, by decide⟩, _, _, rfl, rfl, md (by decide), ?_⟩
    refine ⟨_, rfl, _, rfl, _, _, rfl, rfl, .inl ⟨?_, ?_⟩, _, _, rfl, rfl, md (by decide), ?_⟩
    · omega
    · omega
    · exact q _ (Int.emod_nonneg _ (by decide)) (Int.emod_lt_of_pos _ (by decide))
/-! ### left -/
def spLeft (K : PySem.W.Frag) : Sp := fun vs H Q _ => ∃ (a : Addr) (ns : List Int) (n : Int), vs = [.ref a, .int n] ∧ SqL K H a (ns.map V.int) ∧ 0 ≤ n ∧ ∀ (p : Addr) (x y : Int), H p = none → 0 ≤ x → Q (.ref p) (upd H p (.lst [.int x, .int y, .int 0]))
theorem left_end {c n : Int} {H : Hp} {Q : VK} (q : ∀ (p : Addr) (x y : Int), H p = none → 0 ≤ x → Q (.ref p) (upd H p (.lst [.int x, .int y, .int 0]))) (p : Addr) (hp : H p = none) (b : Bool) :
    Q (.ref p) (upd H p (.lst [.int ((if c < 0 then -c else c) * (if b = true then 1 else 0)), .int (c + 1000003 * n), .int 0])) := by
  refine q p _ _ hp ?_
  cases b <;> simp <;> split <;> omega
theorem ok_l_left (T : Tx K mg) {k : Nat} : FnOk P w K mg base CX0 (k + 1) T.f_l_left T.d_l_left ["_law_script", "_law_k"] (spLeft K) := by
  refine T.F_l_left.ok sc_l_left (fun vs H Q E h => ?_) (fun cdv A outer s H vs Q E hr h => ?_)
  · obtain ⟨a, ns, n, rfl, _⟩ := h
    rfl
  · obtain ⟨a, ns, n, rfl, hS, h1, q⟩ := h
    refine ⟨_, (pss_cons (ps_set (i := 2) sc_l_left.nd rfl (.inl rfl) (pe_ifExp (pt_cmpR op_lt (pv 1) (pe_callB (len_K K) (by rfl) T.z_len PySem.boot_len (pa_cons (pv 0) pa_nil)) (nomark _)) (pe_ix (ix_listK K) (pv 0) (pv 1) (fun _ _ => rfl)) pe_int))
      (pss_one (ps_ret (pe_lst (pa_cons (pe_op op_mul (pe_callB call_abs (by rfl) T.z_abs (by decide +kernel) (pa_cons (pv 2) pa_nil)) (pe_callTy call_int1 (by rfl) T.z_int (by decide +kernel) (pa_cons (pe_cmpR op_ge (pe_callB call_abs (by rfl) T.z_abs (by decide +kernel) (pa_cons (pv 2) pa_nil)) (pe_op op_pow pe_int pe_int) (nomark _)) pa_nil))) (pa_cons (pe_op op_add (pv 2) (pe_op op_mul pe_int (pv 1))) (pa_cons pe_int pa_nil))))))), ?_⟩
    refine ⟨_, rfl, _, rfl, a, _, rfl, .inl hS, _, _, rfl, rfl, _, rfl, ite2 (fun e => ?_) (fun e => ?_)⟩
    · have e1 : n < (ns.map V.int).length := of_decide_eq_true e
      rw [List.length_map] at e1
      have g : atI (ns.map V.int) n = some (.int (ns[n.toNat]'(by omega))) := at0 h1 (by rw [List.getElem?_map, List.getElem?_eq_getElem]; rfl)
      refine ⟨_, rfl, _, rfl, a, _, _, _, rfl, rfl, hS, g, ?_⟩
      exact ⟨_, rfl, _, rfl, _, rfl, _, rfl, _, _, rfl, rfl, ⟨by decide, by decide, by decide⟩, _, _, rfl, rfl, .inr ⟨_, rfl, _, _, rfl, rfl, .inr (bit_ok _), _, rfl, _, rfl, _, _, rfl, rfl, .inl ⟨by decide, by decide⟩, _, _, rfl, rfl, (by show 3 ≤ sizeLine; decide), fun p hp => left_end q p hp _⟩⟩
    · exact ⟨_, rfl, _, rfl, _, rfl, _, rfl, _, _, rfl, rfl, ⟨by decide, by decide, by decide⟩, _, _, rfl, rfl, .inr ⟨_, rfl, _, _, rfl, rfl, .inr (bit_ok _), _, rfl, _, rfl, _, _, rfl, rfl, .inl ⟨by decide, by decide⟩, _, _, rfl, rfl, (by show 3 ≤ sizeLine; decide), fun p hp => left_end q p hp _⟩⟩
/-! ### pick -/
def spPick : Sp := fun vs H Q _ => ∃ (L : Addr) (m : Int) (n : Nat), vs = [.ref L, .int m] ∧ Lf L H n ∧ n < 1000000000 ∧ 0 < m ∧ m < 1073741824 ∧ ∀ (r : Int) (H' : Hp), Go [L] H H' → Lf L H' (n + 1) → 0 ≤ r → r < m → Q (.int r) H'
theorem ok_l_pick (T : Tx K mg) {k : Nat} : FnOk P w K mg base CX0 (k + 2) T.f_l_pick T.d_l_pick ["_law_left_here", "_law_many"] spPick := by
  refine T.F_l_pick.ok sc_l_pick (fun vs H Q E h => ?_) (fun cdv A outer s H vs Q E hr h => ?_)
  · obtain ⟨L, m, n, rfl, _⟩ := h
    rfl
  · obtain ⟨L, m, n, rfl, ⟨a, b, c, hL, a0, c0, cn⟩, hn, m0, m1, q⟩ := h
    refine ⟨_, (pss_cons (ps_asg (pe_op op_add (pe_ix (ix_listK K) (pv 0) pe_int (fun _ _ => rfl)) pe_int) (pg_sub (pv 0) pe_int set_list))
      (pss_cons (ps_if (pt_cmpR op_gt (pe_ix (ix_listK K) (pv 0) pe_int (fun _ _ => rfl)) pe_int (nomark _)) (pss_cons (ps_set (i := 2) sc_l_pick.nd rfl (.inl rfl) (pe_op op_mod (pe_ix (ix_listK K) (pv 0) pe_int (fun _ _ => rfl)) (pv 1)))
      (pss_cons (ps_asg (pe_op op_fdiv (pe_ix (ix_listK K) (pv 0) pe_int (fun _ _ => rfl)) (pv 1)) (pg_sub (pv 0) pe_int set_list))
      (pss_one (ps_ret (pv 2))))) pss_nil)
      (pss_one (ps_ret (pe_op op_mod (pe_op op_fdiv (pe_call (ok_l_mix T (k := k)) hr (by rfl) T.g_l_mix T.F_l_mix.kp T.b_l_mix .nil pass0 (pa_cons (pe_call (ok_l_mix T (k := k)) hr (by rfl) T.g_l_mix T.F_l_mix.kp T.b_l_mix .nil pass0 (pa_cons (pe_ix (ix_listK K) (pv 0) pe_int (fun _ _ => rfl)) (pa_cons (pe_ix (ix_listK K) (pv 0) pe_int (fun _ _ => rfl)) pa_nil))) (pa_cons (pe_op op_add (pe_ix (ix_listK K) (pv 0) pe_int (fun _ _ => rfl)) pe_int) pa_nil))) pe_int) (pv 1)))))), ?_⟩
    refine ⟨_, rfl, L, _, 2, .int c, rfl, rfl, SqL.of hL, rfl, _, _, rfl, rfl, _, rfl, L, _, _, 2, rfl, rfl, hL, rfl, ?_⟩
    generalize hH : upd H L (.lst (List.set [V.int a, V.int b, V.int c] 2 (V.int (c + 1)))) = H1
    have hL1 : H1 L = some (.lst [.int a, .int b, .int (c + 1)]) := by rw [← hH]; exact upd_same
    have g1 : Go [L] H H1 := by rw [← hH]; exact Go.refl.at (List.mem_singleton.mpr rfl)
    refine ⟨_, rfl, L, _, 0, .int a, rfl, rfl, SqL.of hL1, rfl, _, _, rfl, rfl, _, rfl, ite2 (fun e => ?_) (fun e => ?_)⟩
    · have e1 : 0 < a := of_decide_eq_true e
      refine ⟨_, rfl, L, _, 0, .int a, rfl, rfl, SqL.of hL1, rfl, _, rfl, _, _, rfl, rfl, md m0, ?_⟩
      refine ⟨_, rfl, L, _, 0, .int a, rfl, rfl, SqL.of hL1, rfl, _, rfl, _, _, rfl, rfl, ⟨m0, m1⟩, _, rfl, L, _, _, 0, rfl, rfl, hL1, rfl, ?_⟩
      refine ⟨_, rfl, ?_⟩
      exact q _ _ (g1.at (List.mem_singleton.mpr rfl)) ⟨a / m, b, c + 1, upd_same, Int.ediv_nonneg a0 (by omega), by omega, by omega⟩ (Int.emod_nonneg _ (by omega)) (Int.emod_lt_of_pos _ m0)
    · refine ⟨_, rfl, L, _, 1, .int b, rfl, rfl, SqL.of hL1, rfl, _, rfl, L, _, 2, .int (c + 1), rfl, rfl, SqL.of hL1, rfl, _, _, rfl, by omega, by omega, fun r1 _ _ => ?_⟩
      refine ⟨_, rfl, L, _, 2, .int (c + 1), rfl, rfl, SqL.of hL1, rfl, _, _, rfl, rfl, _, _, rfl, by omega, by omega, fun r2 _ _ => ?_⟩
      refine ⟨_, _, rfl, rfl, ⟨by decide, by decide⟩, _, rfl, _, _, rfl, rfl, md m0, ?_⟩
      exact q _ _ g1 ⟨a, b, c + 1, hL1, a0, by omega, by omega⟩ (Int.emod_nonneg _ (by omega)) (Int.emod_lt_of_pos _ m0)
/-! ### colour -/
def spColour : Sp := fun vs H Q _ => ∃ (L : Addr) (B : List Addr) (n : Nat) (kv : V) (wd sp : Int), vs = [.ref L, kv] ∧ Lf L H n ∧ L ∈ B ∧ Bk B H ∧ n < 100000000 ∧ Dt [L] H kv (eC [wd, sp]) ∧ 0 ≤ wd ∧ wd ≤ 5 ∧ 1 ≤ sp ∧ sp ≤ 1000 ∧
  ∀ (v : V) (H' : Hp) (ns : List Int), Go [L] H H' → Lf L H' (n + 10) → Dt B H' v (eC ns) → (ns.length : Int) = wd → cIn 0 999 ns → Q v H'
theorem ok_l_colour (T : Tx K mg) {k : Nat} : FnOk P w K mg base CX0 (k + 3) T.f_l_colour T.d_l_colour ["_law_left_here", "_law_kind"] spColour := by
  refine T.F_l_colour.ok sc_l_colour (fun vs H Q E h => ?_) (fun cdv A outer s H vs Q E hr h => ?_)
  · obtain ⟨L, B, n, kv, wd, sp, rfl, _⟩ := h
    rfl
  · obtain ⟨L, B, n, kv, wd, sp, rfl, hL, LB, hB, hn, hk, w0, w1, s0, s1, q⟩ := h
    obtain ⟨ka, rfl, nk, hkT⟩ := hk.col
    refine ⟨_, (pss_cons (ps_asg (pv 1) (pg_tupK K (n := 2) rfl (pgs_cons (pg_name (i := 2) sc_l_colour.nd rfl (.inl rfl)) (pgs_cons (pg_name (i := 3) sc_l_colour.nd rfl (.inr rfl)) pgs_nil))))
      (pss_one (ps_ret (pe_callTy (tuple_K K) (by rfl) T.z_tuple (by decide +kernel) (pa_cons (pe_lc (own := [("_law_place", 4)]) (by rfl) sc_l_colour.nd (pi_range1 (by rfl) T.z_range (pa_cons (pv 2) pa_nil)) (blkOk_by (own := [("_law_place", 4)]) (N := N_l_colour) (sc := defScope s_l_colour) (by decide +kernel)) (fun _ _ _ _ _ => (pg_name (i := 4) sc_l_colour.nd rfl (.inl rfl))) (fun _ _ _ _ _ => pts_nil) (fun _ _ _ _ _ => (pe_ix (ix_listK K) (pe_lst (pa_cons (pe_call (ok_l_pick T (k := k)) hr (by rfl) T.g_l_pick T.F_l_pick.kp T.b_l_pick .nil pass0 (pa_cons (pv 0) (pa_cons (pv 3) pa_nil))) (pa_cons pe_int pa_nil))) (pe_callTy call_int1 (by rfl) T.z_int (by decide +kernel) (pa_cons (pe_cmpR op_eq (pe_call (ok_l_pick T (k := k)) hr (by rfl) T.g_l_pick T.F_l_pick.kp T.b_l_pick .nil pass0 (pa_cons (pv 0) (pa_cons pe_int pa_nil))) pe_int (nomark _)) pa_nil)) (fun _ _ => rfl)))) pa_nil))))), ?_⟩
    refine ⟨_, rfl, ka, [.int wd, .int sp], rfl, SqT.of hkT, rfl, .int wd, _, rfl, .int sp, _, rfl, rfl, ?_⟩
    refine ⟨_, rfl, wd, rfl, by omega, by omega, fun D hD => ?_⟩
    refine lc_range (lo := 0) (n := wd.toNat) (fun i H' => ∃ ns : List Int, ns.length = i ∧ cIn 0 999 ns ∧ Go [L] H H' ∧ Lf L H' (n + 2 * i) ∧ H' D = some (.lst (ns.map V.int)))
      ⟨[], rfl, cIn.nil, Go.new hD, hL.new hD, upd_same⟩ (fun i H1 hi h1 => ?_) (fun H1 h1 => ?_)
    · obtain ⟨ns, en, cn, g, l, eD⟩ := h1
      have nD : D ∉ [L] := hL.bk.ne hD
      refine ⟨rfl, lc_yes ?_⟩
      refine ⟨_, rfl, _, rfl, L, sp, n + 2 * i, rfl, l, by omega, by omega, by omega, fun r1 H2 g2 l2 a1 b1 => ?_⟩
      refine ⟨(by show 2 ≤ sizeLine; decide), fun p hp => ?_⟩
      refine ⟨_, rfl, L, 8, n + 2 * i + 1, rfl, l2.new hp, by omega, by decide, by decide, fun r2 H3 g3 l3 a2 b2 => ?_⟩
      have e3 : H3 p = some (.lst [.int r1, .int 999]) := g3.k p _ (l2.bk.ne hp) upd_same
      refine ⟨rfl, .inr ⟨_, rfl, p, _, _, _, rfl, rfl, SqL.of e3, at2 _ _ _, ns.map V.int, ?_⟩⟩
      have gg : Go [L] H1 H3 := (g2.trans (Go.new hp)).trans g3
      obtain ⟨x, ex, x0, x1⟩ : ∃ x : Int, (if decide (V.int r2 = V.int 0) = true then V.int 999 else V.int r1) = .int x ∧ 0 ≤ x ∧ x ≤ 999 := by
        by_cases hb : decide (V.int r2 = V.int 0) = true
        · rw [if_pos hb]
          exact ⟨999, rfl, by decide, by decide⟩
        · rw [if_neg hb]
          exact ⟨r1, rfl, by omega, by omega⟩
      refine ⟨gg.k D _ nD eD, sz (by rw [List.length_map]; omega), ns ++ [x], ?_, cn.app x0 x1, (g.trans gg).mut hD, (l3.up (hL.ne hD)).mono (by omega), ?_⟩
      · rw [List.length_append]
        simp
        omega
      · rw [upd_same, List.map_append, ex]
        rfl
    · obtain ⟨ns, en, cn, g, l, eD⟩ := h1
      refine ⟨D, _, rfl, .inl ⟨SqL.of eD, fun t ht => ?_⟩⟩
      exact q _ _ ns (g.trans (Go.new ht)) ((l.new ht).mono (by omega)) (Dt.ofCol ((hB.go g).ne ht) upd_same) (by omega) cn
/-! ### apart, both ways -/
def ap (a b : List Int) : Int := ((a.zip b).map fun p => (p.1 - p.2) ^ 2).sum
theorem ap_len (a b : List Int) : ((a.zip b).map fun p => (p.1 - p.2) ^ 2).length = min a.length b.length := by simp
theorem sq_ok {x y : Int} (h1 : -100000000 ≤ x) (h2 : x ≤ 100000000) (h3 : -100000000 ≤ y) (h4 : y ≤ 100000000) : CPow (x - y) 2 := ⟨by decide, by decide, by omega⟩
theorem zat {a b : List Int} {i : Nat} {f : Int × Int → PyData} (h1 : i < a.length) (h2 : i < b.length) : ((a.zip b).map f)[i]? = some (f (a[i], b[i])) := by
  rw [List.getElem?_map, List.getElem?_eq_getElem (by simp; omega)]
  simp
def spApart : Sp := fun vs H Q _ => ∃ (B : List Addr) (x y : V) (a b : List Int), vs = [x, y] ∧ Dt B H x (eC a) ∧ Dt B H y (eC b) ∧ a.length = b.length ∧ b.length ≤ 100 ∧ cIn (-100000000) 100000000 a ∧ cIn (-100000000) 100000000 b ∧ ∀ H', Same H H' → Q (.int (ap a b)) H'
theorem ok_apart (T : Tx K mg) {k : Nat} : FnOk P w K mg base CX0 (k + 1) T.f_apart T.d_apart ["one", "other"] spApart := by
  refine T.F_apart.ok sc_apart (fun vs H Q E h => ?_) (fun cdv A outer s H vs Q E hr h => ?_)
  · obtain ⟨B, x, y, a, b, rfl, _⟩ := h
    rfl
  · obtain ⟨B, x, y, a, b, rfl, ha, hb, hl, hz, ca, cb, q⟩ := h
    obtain ⟨pa, rfl, na, ta⟩ := ha.col
    obtain ⟨pb, rfl, nb, tb⟩ := hb.col
    refine ⟨_, (pss_one (ps_ret (pe_callB (cr_sumK K rfl) (by rfl) T.z_sum (by decide +kernel) (pa_cons (pe_lc (own := [("a", 2), ("b", 3)]) (by rfl) sc_apart.nd (RZ.pi_zipA (by rfl) T.z_zip (pa_cons (pv 0) (pa_cons (pv 1) pa_nil))) (blkOk_by (own := [("a", 2), ("b", 3)]) (N := N_apart) (sc := defScope s_apart) (by decide +kernel)) (fun _ _ _ _ _ => (pg_tupK K (n := 2) rfl (pgs_cons (pg_name (i := 2) sc_apart.nd rfl (.inl rfl)) (pgs_cons (pg_name (i := 3) sc_apart.nd rfl (.inl rfl)) pgs_nil)))) (fun _ _ _ _ _ => pts_nil) (fun _ _ _ _ _ => (pe_op op_pow (pe_op op_sub (pv 2) (pv 3)) pe_int))) pa_nil)))), ?_⟩
    refine ⟨_, rfl, _, rfl, pa, pb, _, _, rfl, .inr ⟨SqT.of ta, SqT.of tb, fun D hD => ?_⟩⟩
    refine lc_pure (B := []) (walk_zipT (n := a.length) (xs := a.map V.int) (ys := b.map V.int) (by simp; omega)) hD (fun _ h => nomatch h) (fun H' s' => ⟨SqT.of (s' _ _ ta), SqT.of (s' _ _ tb)⟩) (by omega)
      (fun i => ((a.zip b).map fun p => PyData.int ((p.1 - p.2) ^ 2))[i]?) (fun i x H' H'' Ny Nn hi s1 bk y ky kn => ?_) (fun H' ws s1 eD hA => ?_)
    · obtain ⟨t, x, y, rfl, ht, rfl, e1, e2⟩ := y
      have i2 : i < b.length := by omega
      have x1 := mat hi e1
      have x2 := mat i2 e2
      have c1 := ca _ (List.getElem_mem hi)
      have c2 := cb _ (List.getElem_mem i2)
      refine ⟨t, [x, y], rfl, SqT.of upd_same, rfl, x, _, rfl, y, _, rfl, rfl, rfl, lc_yes ?_⟩
      refine ⟨_, rfl, _, rfl, _, _, x1, x2, _, _, rfl, rfl, sq_ok c1.1 c1.2 c2.1 c2.2, ?_⟩
      exact ky _ _ _ (zat hi i2) (sm_new ht) (.int _)
    · rw [fm_all (by simp; omega)] at hA
      have hA2 : DtA (D :: []) H' ws (((a.zip b).map fun p => (p.1 - p.2) ^ 2).map PyData.int) := by rw [List.map_map]; exact hA
      refine ⟨D, _, rfl, SqL.of (by rw [eD, hA2.intsV]), ?_⟩
      exact q _ s1
/-! ### the law's own apart -/
theorem ok_l_apart (T : Tx K mg) {k : Nat} : FnOk P w K mg base CX0 (k + 1) T.f_l_apart T.d_l_apart ["_law_one", "_law_other"] spApart := by
  refine T.F_l_apart.ok sc_l_apart (fun vs H Q E h => ?_) (fun cdv A outer s H vs Q E hr h => ?_)
  · obtain ⟨B, x, y, a, b, rfl, _⟩ := h
    rfl
  · obtain ⟨B, x, y, a, b, rfl, ha, hb, hl, hz, ca, cb, q⟩ := h
    obtain ⟨pa, rfl, na, ta⟩ := ha.col
    obtain ⟨pb, rfl, nb, tb⟩ := hb.col
    refine ⟨_, (pss_one (ps_ret (pe_callB (cr_sumK K rfl) (by rfl) T.z_sum (by decide +kernel) (pa_cons (pe_lc (own := [("_law_a", 2), ("_law_b", 3)]) (by rfl) sc_l_apart.nd (RZ.pi_zipA (by rfl) T.z_zip (pa_cons (pv 0) (pa_cons (pv 1) pa_nil))) (blkOk_by (own := [("_law_a", 2), ("_law_b", 3)]) (N := N_l_apart) (sc := defScope s_l_apart) (by decide +kernel)) (fun _ _ _ _ _ => (pg_tupK K (n := 2) rfl (pgs_cons (pg_name (i := 2) sc_l_apart.nd rfl (.inl rfl)) (pgs_cons (pg_name (i := 3) sc_l_apart.nd rfl (.inl rfl)) pgs_nil)))) (fun _ _ _ _ _ => pts_nil) (fun _ _ _ _ _ => (pe_op op_mul (pe_op op_sub (pv 2) (pv 3)) (pe_op op_sub (pv 2) (pv 3))))) pa_nil)))), ?_⟩
    refine ⟨_, rfl, _, rfl, pa, pb, _, _, rfl, .inr ⟨SqT.of ta, SqT.of tb, fun D hD => ?_⟩⟩
    refine lc_pure (B := []) (walk_zipT (n := a.length) (xs := a.map V.int) (ys := b.map V.int) (by simp; omega)) hD (fun _ h => nomatch h) (fun H' s' => ⟨SqT.of (s' _ _ ta), SqT.of (s' _ _ tb)⟩) (by omega)
      (fun i => ((a.zip b).map fun p => PyData.int ((p.1 - p.2) ^ 2))[i]?) (fun i x H' H'' Ny Nn hi s1 bk y ky kn => ?_) (fun H' ws s1 eD hA => ?_)
    · obtain ⟨t, x, y, rfl, ht, rfl, e1, e2⟩ := y
      have i2 : i < b.length := by omega
      have x1 := mat hi e1
      have x2 := mat i2 e2
      have c1 := ca _ (List.getElem_mem hi)
      have c2 := cb _ (List.getElem_mem i2)
      refine ⟨t, [x, y], rfl, SqT.of upd_same, rfl, x, _, rfl, y, _, rfl, rfl, rfl, lc_yes ?_⟩
      refine ⟨_, rfl, _, rfl, _, _, x1, x2, _, rfl, _, rfl, _, _, x1, x2, _, _, rfl, rfl, .inl ⟨by omega, by omega⟩, ?_⟩
      exact ky _ _ _ (zat hi i2) (sm_new ht) (by rw [Int.pow_succ, Int.pow_succ, Int.pow_zero, Int.one_mul]; exact .int _)
    · rw [fm_all (by simp; omega)] at hA
      have hA2 : DtA (D :: []) H' ws (((a.zip b).map fun p => (p.1 - p.2) ^ 2).map PyData.int) := by rw [List.map_map]; exact hA
      refine ⟨D, _, rfl, SqL.of (by rw [eD, hA2.intsV]), ?_⟩
      exact q _ s1
/-! ### same -/
def spSame : Nat → Sp
  | 0 => fun _ _ _ _ => False
  | k + 1 => fun vs H Q _ => ∃ (B : List Addr) (x y : V) (d : PyData), vs = [x, y] ∧ Dt B H x d ∧ Dt B H y d ∧ Sh d k ∧ k ≤ 60 ∧ ∀ H', Same H H' → Q (.bl true) H'
theorem kT {K : PySem.W.Frag} : PySem.W.kitAny K (.type "tuple") [.type "list", .type "tuple"] = some true := kitAny_cons (b := false) (kit_ty (by decide +kernel)) (fun _ => kitAny_cons (b := true) (kit_ty (by decide +kernel)) (fun h => Bool.noConfusion h) (fun _ => rfl)) (fun h => Bool.noConfusion h)
theorem kL {K : PySem.W.Frag} : PySem.W.kitAny K (.type "list") [.type "list", .type "tuple"] = some true := kitAny_cons (b := true) (kit_ty (by decide +kernel)) (fun h => Bool.noConfusion h) (fun _ => rfl)
theorem kF {K : PySem.W.Frag} {t : String} (h1 : kitB t "list" = some false) (h2 : kitB t "tuple" = some false) : PySem.W.kitAny K (.type t) [.type "list", .type "tuple"] = some false :=
  kitAny_cons (kit_ty (b := "list") h1) (fun _ => kitAny_cons (kit_ty (b := "tuple") h2) (fun _ => kitAny_nil) (fun h => nomatch h)) (fun h => nomatch h)
theorem eqv_sh {d : PyData} {k : Nat} (h : Sh d k) : PyData.eqv d d = true := SeqAt.eqv_refl d h.1
theorem allT : ∀ n : Nat, (List.range n).filterMap (fun _ => some (PyData.bool true)) = (List.replicate n true).map PyData.bool
  | 0 => rfl
  | n + 1 => by
    rw [List.range_succ, List.filterMap_append, allT n, List.replicate_succ', List.map_append]
    rfl
theorem same_all (T : Tx K mg) (k : Nat) : FnOk P w K mg base CX0 k T.f_l_same T.d_l_same ["_law_found", "_law_due"] (spSame k) := by
  induction k with
  | zero => exact ⟨fun _ _ _ _ h => h.elim, fun _ _ _ _ _ _ _ _ _ _ _ _ _ h => h.elim⟩
  | succ k GS =>
    refine T.F_l_same.ok sc_l_same (fun vs H Q E h => ?_) (fun cdv A outer s H vs Q E hr h => ?_)
    · obtain ⟨B, x, y, d, rfl, _⟩ := h
      rfl
    · obtain ⟨B, x, y, d, rfl, hx, hy, hd, k60, q⟩ := h
      have hrS := hr
      refine ⟨_, (pss_cons (ps_if (pt_val (pe_callB (call_isiTK K) (by rfl) T.z_isinstance (by decide +kernel) (pa_cons (pv 1) (pa_cons (pe_tup (pa_cons (pe_bltn (v := .ty "list") (by rfl) T.z_list (by decide +kernel) rfl) (pa_cons (pe_bltn (v := .ty "tuple") (by rfl) T.z_tuple (by decide +kernel) rfl) pa_nil))) pa_nil)))) (pss_cons (ps_if (PW.pt (pw_or (pt_cmpR op_ne (pe_callB (call_isiK1 K) (by rfl) T.z_isinstance (by decide +kernel) (pa_cons (pv 0) (pa_cons (pe_bltn (v := .ty "list") (by rfl) T.z_list (by decide +kernel) rfl) pa_nil))) (pe_callB (call_isiK1 K) (by rfl) T.z_isinstance (by decide +kernel) (pa_cons (pv 1) (pa_cons (pe_bltn (v := .ty "list") (by rfl) T.z_list (by decide +kernel) rfl) pa_nil))) (nomark _)) (pw_or1 (pt_cmpR op_ne (pe_callB (call_isiK1 K) (by rfl) T.z_isinstance (by decide +kernel) (pa_cons (pv 0) (pa_cons (pe_bltn (v := .ty "tuple") (by rfl) T.z_tuple (by decide +kernel) rfl) pa_nil))) (pe_callB (call_isiK1 K) (by rfl) T.z_isinstance (by decide +kernel) (pa_cons (pv 1) (pa_cons (pe_bltn (v := .ty "tuple") (by rfl) T.z_tuple (by decide +kernel) rfl) pa_nil))) (nomark _))))) (pss_one (ps_ret pe_bl)) pss_nil)
      (pss_one (ps_ret (pe_and (pe_cmpR op_eq (pe_callB (len_K K) (by rfl) T.z_len PySem.boot_len (pa_cons (pv 0) pa_nil)) (pe_callB (len_K K) (by rfl) T.z_len PySem.boot_len (pa_cons (pv 1) pa_nil)) (nomark _)) (pe_one (pe_callB (cr_allK K rfl) (by rfl) T.z_all (by decide +kernel) (pa_cons (pe_lc (own := [("_law_one", 2), ("_law_other", 3)]) (by rfl) sc_l_same.nd (RZ.pi_zipA (by rfl) T.z_zip (pa_cons (pv 0) (pa_cons (pv 1) pa_nil))) (blkOk_by (own := [("_law_one", 2), ("_law_other", 3)]) (N := N_l_same) (sc := defScope s_l_same) (by decide +kernel)) (fun _ _ _ _ _ => (pg_tupK K (n := 2) rfl (pgs_cons (pg_name (i := 2) sc_l_same.nd rfl (.inl rfl)) (pgs_cons (pg_name (i := 3) sc_l_same.nd rfl (.inl rfl)) pgs_nil)))) (fun _ _ _ _ _ => pts_nil) (fun _ _ _ _ _ => (pe_call GS hrS (by rfl) T.g_l_same T.F_l_same.kp T.b_l_same .nil pass0 (pa_cons (pv 2) (pa_cons (pv 3) pa_nil))))) pa_nil))))))) pss_nil)
      (pss_cons (ps_if (PW.pt (pw_or (pt_cmpR op_isN (pv 1) pe_non (nomark _)) (pw_or1 (pt_val (pe_callB (call_isiK1 K) (by rfl) T.z_isinstance (by decide +kernel) (pa_cons (pv 1) (pa_cons (pe_bltn (v := .ty "str") (by rfl) T.z_str (by decide +kernel) rfl) pa_nil))))))) (pss_one (ps_ret (pe_and (pe_cmpR (op_eqDK K hr.units) (pv 0) (pv 1) (nomark _)) (pe_one (pe_cmpR op_eq (pe_callB (call_isiK1 K) (by rfl) T.z_isinstance (by decide +kernel) (pa_cons (pv 0) (pa_cons (pe_bltn (v := .ty "str") (by rfl) T.z_str (by decide +kernel) rfl) pa_nil))) (pe_callB (call_isiK1 K) (by rfl) T.z_isinstance (by decide +kernel) (pa_cons (pv 1) (pa_cons (pe_bltn (v := .ty "str") (by rfl) T.z_str (by decide +kernel) rfl) pa_nil))) (nomark _)))))) pss_nil)
      (pss_cons (ps_if (pt_val (pe_callB (call_isiK1 K) (by rfl) T.z_isinstance (by decide +kernel) (pa_cons (pv 1) (pa_cons (pe_bltn (v := .ty "bool") (by rfl) T.z_bool (by decide +kernel) rfl) pa_nil)))) (pss_one (ps_ret (pe_and (pe_callB (call_isiK1 K) (by rfl) T.z_isinstance (by decide +kernel) (pa_cons (pv 0) (pa_cons (pe_bltn (v := .ty "bool") (by rfl) T.z_bool (by decide +kernel) rfl) pa_nil))) (pe_one (pe_cmpR (op_eqDK K hr.units) (pv 0) (pv 1) (nomark _)))))) pss_nil)
      (pss_one (ps_ret (pe_and (pe_callB (call_isiK1 K) (by rfl) T.z_isinstance (by decide +kernel) (pa_cons (pv 0) (pa_cons (pe_bltn (v := .ty "int") (by rfl) T.z_int (by decide +kernel) rfl) pa_nil))) (pe_and (pe_not (pe_callB (call_isiK1 K) (by rfl) T.z_isinstance (by decide +kernel) (pa_cons (pv 0) (pa_cons (pe_bltn (v := .ty "bool") (by rfl) T.z_bool (by decide +kernel) rfl) pa_nil)))) (pe_one (pe_cmpR (op_eqDK K hr.units) (pv 0) (pv 1) (nomark _)))))))))), ?_⟩
      refine ⟨_, rfl, (by show 2 ≤ sizeLine; decide), fun tp htp => ?_⟩
      have s1 : Same H (upd H tp (.tup [.ty "list", .ty "tuple"])) := sm_new htp
      have hx1 := hx.s s1
      have hy1 := hy.s s1
      have hT : (upd H tp (.tup [.ty "list", .ty "tuple"])) tp = some (.tup [.ty "list", .ty "tuple"]) := upd_same
      generalize upd H tp (.tup [.ty "list", .ty "tuple"]) = H1 at *
      cases d with
      | list ds =>
        have tx : TyX K H1 x (.type "list") := hx1.ty
        have ty : TyX K H1 y (.type "list") := hy1.ty
        refine ⟨y, tp, _, _, [.type "list", .type "tuple"], true, rfl, hT, .cons (.ty _) (.cons (.ty _) .nil), ty, kL, true, rfl, iteT ?_⟩
        refine ⟨_, rfl, _, _, _, _, true, rfl, .ty _, tx, kit_ty (by decide +kernel), _, rfl, _, _, _, _, true, rfl, .ty _, ty, kit_ty (by decide +kernel), rfl, _, rfl, iteNS rfl ?_⟩
        refine ⟨_, rfl, _, _, _, _, false, rfl, .ty _, tx, kit_ty (by decide +kernel), _, rfl, _, _, _, _, false, rfl, .ty _, ty, kit_ty (by decide +kernel), rfl, _, rfl, iteNS rfl ?_⟩
        obtain ⟨a, xs, rfl, na, ha, hA⟩ := hx1.lstI
        obtain ⟨b, ys, rfl, nb, hb, hB⟩ := hy1.lstI
        have l1 := hA.len
        have l2 := hB.len
        refine ⟨_, rfl, a, _, rfl, .inl (SqL.of ha), _, rfl, b, _, rfl, .inl (SqL.of hb), rfl, _, rfl, iteD (by rw [l1, l2]) ?_⟩
        refine ⟨_, rfl, _, rfl, a, b, _, _, rfl, .inl ⟨SqL.of ha, SqL.of hb, fun D hD => ?_⟩⟩
        obtain ⟨j, rfl, hs, hl⟩ := hd.lstI
        refine lc_pure (B := []) (walk_zip (n := ds.length) (xs := xs) (ys := ys) (by rw [l1, l2, Nat.min_self])) hD (fun _ h => nomatch h) (fun H' s' => ⟨SqL.of (s' _ _ ha), SqL.of (s' _ _ hb)⟩) hl
          (fun i => some (.bool true)) (fun i x H' H'' Ny Nn hi s2 bk y ky kn => ?_) (fun H' ws s2 eD hW => ?_)
        · obtain ⟨t, x, y, rfl, ht, rfl, e1, e2⟩ := y
          obtain ⟨d1, f1, g1⟩ := hA.getV e1
          obtain ⟨d2, f2, g2⟩ := hB.getV e2
          have ed : d1 = d2 := Option.some.inj (f1.symm.trans f2)
          subst ed
          refine ⟨t, [x, y], rfl, SqT.of upd_same, rfl, x, _, rfl, y, _, rfl, rfl, rfl, lc_yes ?_⟩
          refine ⟨_, rfl, _, rfl, B, x, y, d1, rfl, (g1.s s2).s (sm_new ht), (g2.s s2).s (sm_new ht), hs _ (List.mem_of_getElem? f1), by omega, fun H3 s3 => ?_⟩
          exact ky _ _ _ rfl ((sm_new ht).trans s3) (.bl _)
        · rw [allT] at hW
          refine ⟨D, _, rfl, SqL.of (by rw [eD, hW.blsV]), ?_⟩
          rw [show (List.replicate ds.length true).all id = true by simp]
          exact q _ (s1.trans s2)
      | tuple ds =>
        have tx : TyX K H1 x (.type "tuple") := hx1.ty
        have ty : TyX K H1 y (.type "tuple") := hy1.ty
        refine ⟨y, tp, _, _, [.type "list", .type "tuple"], true, rfl, hT, .cons (.ty _) (.cons (.ty _) .nil), ty, kT, true, rfl, iteT ?_⟩
        refine ⟨_, rfl, _, _, _, _, false, rfl, .ty _, tx, kit_ty (by decide +kernel), _, rfl, _, _, _, _, false, rfl, .ty _, ty, kit_ty (by decide +kernel), rfl, _, rfl, iteNS rfl ?_⟩
        refine ⟨_, rfl, _, _, _, _, true, rfl, .ty _, tx, kit_ty (by decide +kernel), _, rfl, _, _, _, _, true, rfl, .ty _, ty, kit_ty (by decide +kernel), rfl, _, rfl, iteNS rfl ?_⟩
        obtain ⟨a, xs, rfl, na, ha, hA⟩ := hx1.tupI
        obtain ⟨b, ys, rfl, nb, hb, hB⟩ := hy1.tupI
        have l1 := hA.len
        have l2 := hB.len
        refine ⟨_, rfl, a, _, rfl, .inr (SqT.of ha), _, rfl, b, _, rfl, .inr (SqT.of hb), rfl, _, rfl, iteD (by rw [l1, l2]) ?_⟩
        refine ⟨_, rfl, _, rfl, a, b, _, _, rfl, .inr ⟨SqT.of ha, SqT.of hb, fun D hD => ?_⟩⟩
        obtain ⟨j, rfl, hs, hl⟩ := hd.tupI
        refine lc_pure (B := []) (walk_zipT (n := ds.length) (xs := xs) (ys := ys) (by rw [l1, l2, Nat.min_self])) hD (fun _ h => nomatch h) (fun H' s' => ⟨SqT.of (s' _ _ ha), SqT.of (s' _ _ hb)⟩) hl
          (fun i => some (.bool true)) (fun i x H' H'' Ny Nn hi s2 bk y ky kn => ?_) (fun H' ws s2 eD hW => ?_)
        · obtain ⟨t, x, y, rfl, ht, rfl, e1, e2⟩ := y
          obtain ⟨d1, f1, g1⟩ := hA.getV e1
          obtain ⟨d2, f2, g2⟩ := hB.getV e2
          have ed : d1 = d2 := Option.some.inj (f1.symm.trans f2)
          subst ed
          refine ⟨t, [x, y], rfl, SqT.of upd_same, rfl, x, _, rfl, y, _, rfl, rfl, rfl, lc_yes ?_⟩
          refine ⟨_, rfl, _, rfl, B, x, y, d1, rfl, (g1.s s2).s (sm_new ht), (g2.s s2).s (sm_new ht), hs _ (List.mem_of_getElem? f1), by omega, fun H3 s3 => ?_⟩
          exact ky _ _ _ rfl ((sm_new ht).trans s3) (.bl _)
        · rw [allT] at hW
          refine ⟨D, _, rfl, SqL.of (by rw [eD, hW.blsV]), ?_⟩
          rw [show (List.replicate ds.length true).all id = true by simp]
          exact q _ (s1.trans s2)
      | none =>
        have tx : TyX K H1 x (.type "NoneType") := hx1.ty
        have ty : TyX K H1 y (.type "NoneType") := hy1.ty
        refine ⟨y, tp, _, _, [.type "list", .type "tuple"], false, rfl, hT, .cons (.ty _) (.cons (.ty _) .nil), ty, kF (by decide +kernel) (by decide +kernel), false, rfl, iteF ?_⟩
        have ey : y = .non := by cases hy1; rfl
        subst ey
        refine ⟨_, rfl, rfl, _, rfl, iteD rfl ?_⟩
        refine iteT ?_
        refine ⟨_, rfl, _, rfl, _, _, hx1.dP, hy1.dP, hd.sh (by omega), hd.sh (by omega), _, rfl, iteE (eqv_sh hd) ?_⟩
        refine ⟨_, rfl, _, _, _, _, false, rfl, .ty _, tx, kit_ty (by decide +kernel), _, rfl, _, _, _, _, false, rfl, .ty _, ty, kit_ty (by decide +kernel), rfl, ?_⟩
        exact q _ s1
      | bool b =>
        have tx : TyX K H1 x (.type "bool") := hx1.ty
        have ty : TyX K H1 y (.type "bool") := hy1.ty
        refine ⟨y, tp, _, _, [.type "list", .type "tuple"], false, rfl, hT, .cons (.ty _) (.cons (.ty _) .nil), ty, kF (by decide +kernel) (by decide +kernel), false, rfl, iteF ?_⟩
        have ey : y = .bl b := by cases hy1; rfl
        subst ey
        refine ⟨_, rfl, rfl, _, rfl, iteN (decide_eq_false (fun h => nomatch h)) ?_⟩
        refine ⟨_, rfl, _, _, _, _, false, rfl, .ty _, ty, kit_ty (by decide +kernel), _, rfl, iteF ?_⟩
        refine ⟨_, rfl, _, _, _, _, true, rfl, .ty _, ty, kit_ty (by decide +kernel), _, rfl, iteT ?_⟩
        refine ⟨_, rfl, _, _, _, _, true, rfl, .ty _, tx, kit_ty (by decide +kernel), _, rfl, iteT ?_⟩
        refine ⟨_, rfl, _, rfl, _, _, hx1.dP, hy1.dP, hd.sh (by omega), hd.sh (by omega), ?_⟩
        rw [eqv_sh hd]
        exact q _ s1
      | int i =>
        have tx : TyX K H1 x (.type "int") := hx1.ty
        have ty : TyX K H1 y (.type "int") := hy1.ty
        refine ⟨y, tp, _, _, [.type "list", .type "tuple"], false, rfl, hT, .cons (.ty _) (.cons (.ty _) .nil), ty, kF (by decide +kernel) (by decide +kernel), false, rfl, iteF ?_⟩
        have ey := hy1.intI
        subst ey
        refine ⟨_, rfl, rfl, _, rfl, iteN (decide_eq_false (fun h => nomatch h)) ?_⟩
        refine ⟨_, rfl, _, _, _, _, false, rfl, .ty _, ty, kit_ty (by decide +kernel), _, rfl, iteF ?_⟩
        refine ⟨_, rfl, _, _, _, _, false, rfl, .ty _, ty, kit_ty (by decide +kernel), _, rfl, iteF ?_⟩
        refine ⟨_, rfl, _, _, _, _, true, rfl, .ty _, tx, kit_ty (by decide +kernel), _, rfl, iteT ?_⟩
        refine ⟨_, rfl, _, _, _, _, false, rfl, .ty _, tx, kit_ty (by decide +kernel), _, rfl, _, rfl, iteT ?_⟩
        refine ⟨_, rfl, _, rfl, _, _, hx1.dP, hy1.dP, hd.sh (by omega), hd.sh (by omega), ?_⟩
        rw [eqv_sh hd]
        exact q _ s1
      | str z =>
        have tx : TyX K H1 x (.type "str") := hx1.ty
        have ty : TyX K H1 y (.type "str") := hy1.ty
        refine ⟨y, tp, _, _, [.type "list", .type "tuple"], false, rfl, hT, .cons (.ty _) (.cons (.ty _) .nil), ty, kF (by decide +kernel) (by decide +kernel), false, rfl, iteF ?_⟩
        have ey : y = .str z := by cases hy1; rfl
        subst ey
        refine ⟨_, rfl, rfl, _, rfl, iteN (decide_eq_false (fun h => nomatch h)) ?_⟩
        refine ⟨_, rfl, _, _, _, _, true, rfl, .ty _, ty, kit_ty (by decide +kernel), _, rfl, iteT ?_⟩
        refine ⟨_, rfl, _, rfl, _, _, hx1.dP, hy1.dP, hd.sh (by omega), hd.sh (by omega), _, rfl, iteE (eqv_sh hd) ?_⟩
        refine ⟨_, rfl, _, _, _, _, true, rfl, .ty _, tx, kit_ty (by decide +kernel), _, rfl, _, _, _, _, true, rfl, .ty _, ty, kit_ty (by decide +kernel), rfl, ?_⟩
        exact q _ s1
      | dict kvs => cases hx
theorem ok_l_same (T : Tx K mg) {k : Nat} : FnOk P w K mg base CX0 (k + 1) T.f_l_same T.d_l_same ["_law_found", "_law_due"] (spSame (k + 1)) := same_all T (k + 1)
/-! ### palette -/
def cOk (wd : Int) (c : List Int) : Prop := (c.length : Int) = wd ∧ cIn 0 999 c
def spPalette : Sp := fun vs H Q _ => ∃ (L : Addr) (n : Nat) (kv : V) (wd sp : Int), vs = [.ref L, kv] ∧ Lf L H n ∧ n < 10000000 ∧ Dt [L] H kv (eC [wd, sp]) ∧ 0 ≤ wd ∧ wd ≤ 5 ∧ 1 ≤ sp ∧ sp ≤ 1000 ∧
  ∀ (v : V) (H' : Hp) (cs : List (List Int)), Go [L] H H' → Lf L H' (n + 1000) → Dt [L] H' v (eP cs) → 0 < cs.length → cs.length ≤ 40 → (∀ c ∈ cs, cOk wd c) → Q v H'
theorem ok_l_palette (T : Tx K mg) {k : Nat} : FnOk P w K mg base CX0 (k + 4) T.f_l_palette T.d_l_palette ["_law_left_here", "_law_kind"] spPalette := by
  refine T.F_l_palette.ok sc_l_palette (fun vs H Q E h => ?_) (fun cdv A outer s H vs Q E hr h => ?_)
  · obtain ⟨L, n, kv, wd, sp, rfl, _⟩ := h
    rfl
  · obtain ⟨L, n, kv, wd, sp, rfl, hL, hn, hk, w0, w1, s0, s1, q⟩ := h
    refine ⟨_, (pss_cons (ps_set (i := 2) sc_l_palette.nd rfl (.inl rfl) (pe_ix (ix_listK K) (pe_lst (pa_cons pe_int (pa_cons pe_int (pa_cons pe_int (pa_cons pe_int (pa_cons pe_int (pa_cons pe_int (pa_cons pe_int (pa_cons (pe_op op_add pe_int (pe_call (ok_l_pick T (k := k + 1)) hr (by rfl) T.g_l_pick T.F_l_pick.kp T.b_l_pick .nil pass0 (pa_cons (pv 0) (pa_cons pe_int pa_nil)))) pa_nil))))))))) (pe_call (ok_l_pick T (k := k + 1)) hr (by rfl) T.g_l_pick T.F_l_pick.kp T.b_l_pick .nil pass0 (pa_cons (pv 0) (pa_cons pe_int pa_nil))) (fun _ _ => rfl)))
      (pss_cons (ps_set (i := 3) sc_l_palette.nd rfl (.inl rfl) (pe_lst pa_nil))
      (pss_cons (ps_for PassesOwn.never rfl (pi_range1 (by rfl) T.z_range (pa_cons (pv 2) pa_nil)) (pg_name (i := 4) sc_l_palette.nd rfl (.inl rfl)) (pss_cons (ps_set (i := 5) sc_l_palette.nd rfl (.inl rfl) (pe_call (ok_l_colour T (k := k)) hr (by rfl) T.g_l_colour T.F_l_colour.kp T.b_l_colour .nil pass0 (pa_cons (pv 0) (pa_cons (pv 1) pa_nil))))
      (Evl.pss_cut (ps_if (PW.pt (pw_and (pt_cmpR (op_neDK K hr.units) (pv 3) (pe_lst pa_nil) (nomark _)) (pw_and1 (pt_cmpR op_eq (pe_call (ok_l_pick T (k := k + 1)) hr (by rfl) T.g_l_pick T.F_l_pick.kp T.b_l_pick .nil pass0 (pa_cons (pv 0) (pa_cons pe_int pa_nil))) pe_int (nomark _))))) (pss_one (ps_set (i := 5) sc_l_palette.nd rfl (.inl rfl) (pe_ix (ix_listK K) (pv 3) (pe_call (ok_l_pick T (k := k + 1)) hr (by rfl) T.g_l_pick T.F_l_pick.kp T.b_l_pick .nil pass0 (pa_cons (pv 0) (pa_cons (pe_callB (len_K K) (by rfl) T.z_len PySem.boot_len (pa_cons (pv 3) pa_nil)) pa_nil))) (fun _ _ => rfl)))) pss_nil)
      (pss_one (ps_expr (pe_bm PySem.F.plainAttrs_list PySem.F.slot_list_append PySem.F.type_list_append mt_append (pv 3) (pa_cons (pv 5) pa_nil)))))))
      (pss_one (ps_ret (pv 3)))))), ?_⟩
    refine ⟨_, rfl, L, 31, n, rfl, hL, by omega, by decide, by decide, fun r1 H1 g1 l1 a1 b1 => ?_⟩
    refine ⟨_, _, rfl, rfl, (by show 8 ≤ sizeLine; decide), fun p hp => ?_⟩
    refine ⟨_, rfl, L, 8, n + 1, rfl, l1.new hp, by omega, by decide, by decide, fun r2 H2 g2 l2 a2 b2 => ?_⟩
    have e2 : H2 p = some (.lst ([1, 2, 3, 4, 5, 7, 9, 10 + r1].map V.int)) := g2.k p _ (l1.bk.ne hp) upd_same
    obtain ⟨m, mm, em⟩ := at_int (ns := [1, 2, 3, 4, 5, 7, 9, 10 + r1]) a2 b2
    refine ⟨p, _, r2, .int m, rfl, rfl, SqL.of e2, em, ?_⟩
    have hm : 1 ≤ m ∧ m ≤ 40 := by
      simp at mm
      omega
    have gH : Go [L] H H2 := (g1.trans (Go.new hp)).trans g2
    refine ⟨Nat.zero_le _, fun D hD => ?_⟩
    have hD0 : H D = none := gH.free hD
    refine ⟨_, rfl, m, rfl, by omega, by omega, for_range (lo := 0) (n := m.toNat) (fun i σ H' => ∃ y4 y5 vs cs, σ = [some (.ref L), some kv, some (.int m), some (.ref D), y4, y5] ∧ Go [L] H H' ∧ Lf L H' (n + 2 + 12 * i) ∧ H' D = some (.lst vs) ∧ DtA [D, L] H' vs (cs.map eC) ∧ cs.length = i ∧ ∀ c ∈ cs, cOk wd c)
      ⟨none, none, [], [], rfl, gH.mut hD0, (l2.new hD).mono (by omega), upd_same, .nil, rfl, fun _ h => nomatch h⟩ (fun i σ H3 hi h3 => ?_) (fun σ H3 h3 => ?_)⟩
    · obtain ⟨y4, y5, vs, cs, rfl, g3, l3, eD, hA, hl, hc⟩ := h3
      have nD : D ∉ [L] := hL.bk.ne hD0
      have bk3 : Bk [D, L] H3 := l3.bk.cons eD
      refine ⟨_, rfl, _, rfl, L, [D, L], n + 2 + 12 * i, kv, wd, sp, rfl, l3, by simp, bk3, by omega, hk.g g3, w0, w1, s0, s1, fun v H4 ns g4 l4 d4 n4 c4 => ?_⟩
      have eD4 := g4.k D _ nD eD
      refine ⟨fun σ' H' => ∃ y4 v c, σ' = [some (.ref L), some kv, some (.int m), some (.ref D), y4, some v] ∧ Go [L] H3 H' ∧ Lf L H' (n + 2 + 12 * i + 12) ∧ Dt [D, L] H' v (eC c) ∧ cOk wd c, ?_, fun σ' H' hM => ?_⟩
      · refine ⟨_, rfl, Nat.zero_le _, fun z hz => ⟨eP cs, .list [], ?_, .lst (SqL.of upd_same) .nil, ?_, rfl, _, rfl, ite2 (fun e => ?_) (fun e => ?_)⟩⟩
        · exact Dt.dP (B := [L]) (.lst nD ((Go.new (B := [L]) hz).k D _ nD eD4) (((hA.g (g4.w1 (by simp))).un).g (Go.new hz)))
        · exact (sh_eP (by omega) fun c h => by have := (hc c h).1; omega).sh (by omega)
        · have hcs : cs ≠ [] := fun z => by
            subst z
            exact absurd e (by decide)
          have hlen : 0 < cs.length := List.length_pos_iff.mpr hcs
          refine ⟨_, rfl, L, 6, n + 2 + 12 * i + 10, rfl, l4.new hz, by omega, by decide, by decide, fun r5 H5 g5 l5 a5 b5 => ?_⟩
          have g45 : Go [L] H4 H5 := (Go.new hz).trans g5
          refine ⟨rfl, _, rfl, ite2 (fun e => ?_) (fun e => ?_)⟩
          · have eD5 := g45.k D _ nD eD4
            have hA5 := hA.g ((g4.trans g45).w1 (B := [D, L]) (by simp))
            have lv := hA5.len
            rw [List.length_map] at lv
            refine ⟨_, rfl, _, rfl, _, rfl, D, _, rfl, .inl (SqL.of eD5), L, _, n + 2 + 12 * i + 11, rfl, l5, by omega, by omega, by omega, fun r6 H6 g6 l6 a6 b6 => ?_⟩
            have eD6 := g6.k D _ nD eD5
            have hr6 : r6.toNat < cs.length := by omega
            obtain ⟨v6, f6, d6⟩ := (hA5.g (g6.w1 (B := [D, L]) (by simp))).get (i := r6.toNat) (d := eC cs[r6.toNat]) (by rw [List.getElem?_map, List.getElem?_eq_getElem hr6]; rfl)
            refine ⟨D, _, _, _, rfl, rfl, SqL.of eD6, at0 a6 f6, ?_⟩
            exact ⟨_, v6, _, rfl, (g4.trans g45).trans g6, l6.mono (by omega), d6, hc _ (List.getElem_mem hr6)⟩
          · exact ⟨_, v, ns, rfl, g4.trans g45, l5.mono (by omega), d4.g (g45.w1 (by simp)), n4, c4⟩
        · exact iteF ⟨_, v, ns, rfl, g4.trans (Go.new hz), (l4.new hz).mono (by omega), d4.g (Go.new hz), n4, c4⟩
      · obtain ⟨z4, v7, c7, rfl, g7, l7, d7, o7⟩ := hM
        have eD7 := g7.k D _ nD eD
        have hA7 := hA.g (g7.w1 (B := [D, L]) (by simp))
        have lv := hA7.len
        rw [List.length_map] at lv
        have gm : Go [D, L] H' (upd H' D (.lst (vs ++ [v7]))) := Go.refl.at (by simp)
        refine ⟨_, rfl, .inl ⟨rfl, _, SqL.of eD7⟩, _, rfl, D, _, _, rfl, rfl, eD7, sz (by omega), ?_⟩
        refine ⟨z4, some v7, vs ++ [v7], cs ++ [c7], rfl, (g3.trans g7).mut hD0, (l7.up (hL.ne hD0)).mono (by omega), upd_same, ?_, by simp; omega, fun c h => ?_⟩
        · rw [List.map_append]
          exact (hA7.g gm).app (.one (d7.g gm))
        · rcases List.mem_append.mp h with h | h
          · exact hc c h
          · rw [List.mem_singleton.mp h]
            exact o7
    · obtain ⟨y4, y5, vs, cs, rfl, g3, l3, eD, hA, hl, hc⟩ := h3
      exact ⟨_, rfl, q _ _ cs g3 (l3.mono (by omega)) (.lst (hL.bk.ne hD0) eD hA.un) (by omega) (by omega) hc⟩
/-! ### the nearest -/
def near (cs : List (List Int)) (c : List Int) (i : Nat) : Prop := ∃ h : i < cs.length, ∀ (j : Nat) (hj : j < cs.length), ap cs[i] c < ap cs[j] c ∨ (ap cs[i] c = ap cs[j] c ∧ i ≤ j)
theorem near_one {cs : List (List Int)} {c : List Int} {i j : Nat} (h1 : near cs c i) (h2 : near cs c j) : i = j := by
  obtain ⟨a, f⟩ := h1
  obtain ⟨b, g⟩ := h2
  have x := f j b
  have y := g i a
  omega
def pOk (cs : List (List Int)) (c : List Int) : Prop := cs.length ≤ 1000 ∧ c.length ≤ 100 ∧ cIn (-100000000) 100000000 c ∧ ∀ x ∈ cs, x.length = c.length ∧ cIn (-100000000) 100000000 x
def spNear : Sp := fun vs H Q _ => ∃ (B : List Addr) (pl cv : V) (cs : List (List Int)) (c : List Int), vs = [pl, cv] ∧ Dt B H pl (eP cs) ∧ Dt B H cv (eC c) ∧ pOk cs c ∧ 0 < cs.length ∧
  ∀ H' (i : Nat), Same H H' → near cs c i → Q (.int i) H'
theorem first_at {ns : List Int} {m : Int} (h : m ∈ ns) : ∃ j : Nat, ns[j]? = some m ∧ ∀ i x, i < j → ns[i]? = some x → x ≠ m := by
  induction ns with
  | nil => cases h
  | cons n ns ih =>
    by_cases e : n = m
    · exact ⟨0, by rw [e]; rfl, fun i x hi => by omega⟩
    · have hm : m ∈ ns := by
        rcases List.mem_cons.mp h with z | z
        · exact absurd z.symm e
        · exact z
      obtain ⟨j, h1, h2⟩ := ih hm
      refine ⟨j + 1, h1, fun i x hi hx => ?_⟩
      cases i with
      | zero =>
        have : n = x := Option.some.inj hx
        rw [← this]; exact e
      | succ i => exact h2 i x (by omega) hx
theorem near_of {cs : List (List Int)} {c : List Int} {j : Nat} {m : Int} (hle : ∀ y ∈ cs.map (fun x => ap x c), m ≤ y) (h1 : (cs.map fun x => ap x c)[j]? = some m) (h2 : ∀ i x, i < j → (cs.map fun x => ap x c)[i]? = some x → x ≠ m) : near cs c j := by
  have hj : j < cs.length := by
    have := (List.getElem?_eq_some_iff.mp h1).1
    rwa [List.length_map] at this
  rw [List.getElem?_map, List.getElem?_eq_getElem hj] at h1
  have e : ap cs[j] c = m := Option.some.inj h1
  refine ⟨hj, fun i hi => ?_⟩
  have l := hle (ap cs[i] c) (List.mem_map.mpr ⟨_, List.getElem_mem hi, rfl⟩)
  by_cases hij : i < j
  · have := h2 i (ap cs[i] c) hij (by rw [List.getElem?_map, List.getElem?_eq_getElem hi]; rfl)
    omega
  · omega
theorem flat_ints (ns : List Int) : (ns.map V.int).all flatV = true := by
  induction ns with
  | nil => rfl
  | cons n ns ih => rw [List.map_cons, List.all_cons, ih]; rfl
theorem ok_nearest (T : Tx K mg) {k : Nat} : FnOk P w K mg base CX0 (k + 2) T.f_nearest T.d_nearest ["palette", "colour"] spNear := by
  refine T.F_nearest.ok sc_nearest (fun vs H Q E h => ?_) (fun cdv A outer s H vs Q E hr h => ?_)
  · obtain ⟨B, pl, cv, cs, c, rfl, _⟩ := h
    rfl
  · obtain ⟨B, pl, cv, cs, c, rfl, hp, hc, ⟨o1, o2, o3, o4⟩, c0, q⟩ := h
    obtain ⟨pa, vs, rfl, np, ep, hA⟩ := hp.pal
    have lv := hA.len
    rw [List.length_map] at lv
    refine ⟨_, (pss_cons (ps_setLc (i := 2) (own := [("one", 3)]) (by rfl) sc_nearest.nd rfl rfl (sw_true rfl rfl rfl (by decide +kernel)) (pi_listK K (pv 0)) (blkOk_by (own := [("one", 3)]) (N := N_nearest) (sc := defScope s_nearest) (by decide +kernel)) (fun _ _ _ _ _ => (pg_name (i := 3) sc_nearest.nd rfl (.inl rfl))) (fun _ _ _ _ _ => pts_nil) (fun _ _ _ _ _ => (pe_call (ok_apart T (k := k)) hr (by rfl) T.g_apart T.F_apart.kp T.b_apart .nil pass0 (pa_cons (pv 3) (pa_cons (pv 1) pa_nil)))))
      (pss_one (ps_ret (pe_bm PySem.F.plainAttrs_list PySem.F.slot_list_index PySem.F.type_list_index (mt_indexK K) (pv 2) (pa_cons (pe_callB (cr_minK K rfl) (by rfl) T.z_min (by decide +kernel) (pa_cons (pv 2) pa_nil)) pa_nil))))), ?_⟩
    refine ⟨_, rfl, pa, rfl, ⟨_, SqL.of ep⟩, fun D hD => ?_⟩
    refine lc_pure (B := []) (walk_list (xs := vs)) hD (fun _ h => nomatch h) (fun H' s' => SqL.of (s' _ _ ep)) (by omega)
      (fun i => (cs.map fun x => PyData.int (ap x c))[i]?) (fun i x H' H'' Ny Nn hi t1 bk y ky kn => ?_) (fun H8 ws s8 eS hW => ?_)
    · obtain ⟨rfl, y⟩ := y
      obtain ⟨d1, f1, h1⟩ := hA.getV y
      have hi2 : i < cs.length := by omega
      rw [List.getElem?_map, List.getElem?_eq_getElem hi2] at f1
      have ed : d1 = eC cs[i] := (Option.some.inj f1).symm
      subst ed
      have oc := o4 _ (List.getElem_mem hi2)
      refine ⟨rfl, lc_yes ⟨_, rfl, _, rfl, B, x, cv, cs[i], c, rfl, h1.s t1, hc.s t1, oc.1, o2, oc.2, o3, fun H3 s3 => ?_⟩⟩
      exact ky _ _ _ (by rw [List.getElem?_map, List.getElem?_eq_getElem hi2]; rfl) s3 (.int _)
    · rw [fm_all (by simp; omega)] at hW
      have hW2 : DtA [D] H8 ws ((cs.map fun x => ap x c).map PyData.int) := by rw [List.map_map]; exact hW
      have ews := hW2.intsV
      subst ews
      refine ⟨_, rfl, .inl ⟨rfl, _, SqL.of eS⟩, _, rfl, D, _, rfl, SqL.of eS, (by rw [List.length_map]; omega), fun m hm hle => ?_⟩
      obtain ⟨j, h1, h2⟩ := first_at hm
      refine ⟨D, _, _, j, .int m, rfl, rfl, SqL.of eS, rfl, flat_ints _, (by rw [List.getElem?_map, h1]; rfl), (by unfold eqV; simp), fun i z hi hz => ?_, ?_⟩
      · rw [List.getElem?_map] at hz
        cases hx : (cs.map fun x => ap x c)[i]? with
        | none => rw [hx] at hz; cases hz
        | some x =>
          rw [hx] at hz
          have ez : V.int x = z := Option.some.inj hz
          rw [← ez]
          have := h2 i x hi hx
          unfold eqV
          simp [this]
      · exact q _ j s8 (near_of hle h1 h2)
/-! ### the law's own nearest -/
def prF (cs : List (List Int)) (c : List Int) (i : Nat) : Option (Int × Int) := (cs[i]?).map fun x => (ap x c, (i : Int))
def prs (cs : List (List Int)) (c : List Int) : List (Int × Int) := (List.range cs.length).filterMap (prF cs c)
theorem prs_map (cs : List (List Int)) (c : List Int) : (List.range cs.length).filterMap (fun i => (prF cs c i).map enc) = (prs cs c).map enc := by
  unfold prs
  rw [List.map_filterMap]
theorem prs_at (cs : List (List Int)) (c : List Int) : prs cs c = cs.zipIdx.map fun x => (ap x.1 c, (x.2 : Int)) := by
  have e : prF cs c = fun i => (cs.zipIdx.map fun x => (ap x.1 c, (x.2 : Int)))[i]? := by
    funext i
    unfold prF
    rw [List.getElem?_map, List.getElem?_zipIdx]
    cases cs[i]? <;> simp
  unfold prs
  rw [e, fm_all (by simp)]
theorem near_min {cs : List (List Int)} {c : List Int} {p : Int × Int} {ps : List (Int × Int)} {i : Nat} (e : prs cs c = p :: ps) (h : (p :: ps)[i]? = some (minP p ps)) : near cs c i ∧ (minP p ps).2 = i := by
  have le := minP_le p ps
  rw [← e, prs_at] at le h
  have hi : i < cs.length := by
    have := (List.getElem?_eq_some_iff.mp h).1
    simpa using this
  rw [List.getElem?_map, List.getElem?_zipIdx, List.getElem?_eq_getElem hi] at h
  have em : (ap cs[i] c, (i : Int)) = minP p ps := by
    have := Option.some.inj h
    simpa using this
  rw [← em] at le
  refine ⟨⟨hi, fun j hj => ?_⟩, by rw [← em]⟩
  have := SrtO.lexB_no.mp (le (ap cs[j] c, (j : Int)) (List.mem_map.mpr ⟨(cs[j], j), by
    rw [List.mem_iff_getElem?]
    exact ⟨j, by rw [List.getElem?_zipIdx, List.getElem?_eq_getElem hj]; simp⟩, rfl⟩))
  simp only at this
  omega
theorem ok_l_nearest (T : Tx K mg) {k : Nat} : FnOk P w K mg base CX0 (k + 2) T.f_l_nearest T.d_l_nearest ["_law_palette_here", "_law_colour_here"] spNear := by
  refine T.F_l_nearest.ok sc_l_nearest (fun vs H Q E h => ?_) (fun cdv A outer s H vs Q E hr h => ?_)
  · obtain ⟨B, pl, cv, cs, c, rfl, _⟩ := h
    rfl
  · obtain ⟨B, pl, cv, cs, c, rfl, hp, hc, ⟨o1, o2, o3, o4⟩, c0, q⟩ := h
    obtain ⟨pa, vs, rfl, np, ep, hA⟩ := hp.pal
    have lv := hA.len
    rw [List.length_map] at lv
    refine ⟨_, (pss_one (ps_ret (pe_ix (ix_tupK K) (pe_callB (cr_minP K rfl hr.units) (by rfl) T.z_min (by decide +kernel) (pa_cons (pe_lc (own := [("_law_k", 2), ("_law_one", 3)]) (by rfl) sc_l_nearest.nd (pi_enum (by rfl) T.z_enumerate (pa_cons (pv 0) pa_nil)) (blkOk_by (own := [("_law_k", 2), ("_law_one", 3)]) (N := N_l_nearest) (sc := defScope s_l_nearest) (by decide +kernel)) (fun _ _ _ _ _ => (pg_tupK K (n := 2) rfl (pgs_cons (pg_name (i := 2) sc_l_nearest.nd rfl (.inl rfl)) (pgs_cons (pg_name (i := 3) sc_l_nearest.nd rfl (.inl rfl)) pgs_nil)))) (fun _ _ _ _ _ => pts_nil) (fun _ _ _ _ _ => (pe_tup (pa_cons (pe_call (ok_l_apart T (k := k)) hr (by rfl) T.g_l_apart T.F_l_apart.kp T.b_l_apart .nil pass0 (pa_cons (pv 3) (pa_cons (pv 1) pa_nil))) (pa_cons (pv 2) pa_nil))))) pa_nil)) pe_int (fun _ _ => rfl)))), ?_⟩
    refine ⟨_, rfl, pa, _, rfl, SqL.of ep, fun D hD => ?_⟩
    refine lc_pure (B := []) (walk_enum (xs := vs)) hD (fun _ h => nomatch h) (fun H' s' => SqL.of (s' _ _ ep)) (by omega)
      (fun i => (prF cs c i).map enc) (fun i x H' H'' Ny Nn hi s1 bk y ky kn => ?_) (fun H1 ws s1 eD hW => ?_)
    · obtain ⟨t, x, y, rfl, ht, rfl, e1, e2⟩ := y
      obtain ⟨d1, f1, g1⟩ := hA.getV e2
      have hi2 : i < cs.length := by omega
      rw [List.getElem?_map, List.getElem?_eq_getElem hi2] at f1
      have ed : d1 = eC cs[i] := (Option.some.inj f1).symm
      subst ed
      have ex : V.int i = x := Option.some.inj e1
      subst ex
      have oc := o4 _ (List.getElem_mem hi2)
      refine ⟨t, _, rfl, SqT.of upd_same, rfl, _, _, rfl, y, _, rfl, rfl, rfl, lc_yes ?_⟩
      refine ⟨_, rfl, _, rfl, B, y, cv, cs[i], c, rfl, (g1.s s1).s (sm_new ht), (hc.s s1).s (sm_new ht), oc.1, o2, oc.2, o3, fun H3 s3 => ?_⟩
      refine ⟨_, rfl, (by show 2 ≤ sizeLine; decide), fun t2 ht2 => ?_⟩
      have s4 := (sm_new ht).trans s3
      refine ky _ _ (enc (ap cs[i] c, (i : Int))) ?_ (s4.trans (sm_new ht2)) (Dt.ofCol ((bk.go (Go.of (B := []) s4)).ne ht2) upd_same)
      unfold prF
      rw [List.getElem?_eq_getElem hi2]
      rfl
    · rw [lv, prs_map] at hW
      have hl : (prs cs c).length = cs.length := by rw [prs_at]; simp
      obtain ⟨p, ps, e⟩ : ∃ p ps, prs cs c = p :: ps := by
        cases h : prs cs c with
        | nil => rw [h] at hl; simp at hl; omega
        | cons p ps => exact ⟨p, ps, rfl⟩
      rw [e] at hW
      refine ⟨D, ws, p, ps, rfl, SqL.of eD, hW.dP, fun i x hx hm => ?_⟩
      obtain ⟨hn, h2⟩ := near_min e hm
      obtain ⟨d, fd', gd⟩ := hW.getV hx
      rw [List.getElem?_map, hm] at fd'
      have ed : d = enc (minP p ps) := (Option.some.inj fd').symm
      subst ed
      obtain ⟨t, rfl, _, et⟩ := gd.col
      refine ⟨t, _, 1, .int (minP p ps).2, rfl, rfl, SqT.of et, rfl, ?_⟩
      rw [h2]
      exact q _ i s1 hn
/-! ### pairs, sorted -/
def key (H : Hp) : V → Int × Int
  | .ref t => match H t with
    | some (.tup [.int a, .int b]) => (a, b)
    | _ => (0, 0)
  | _ => (0, 0)
theorem key_of {H : Hp} {t : Addr} {a b : Int} (h : H t = some (.tup [.int a, .int b])) : key H (.ref t) = (a, b) := by
  simp only [key, h]
theorem keys {B : List Addr} {H : Hp} : ∀ {ps : List (Int × Int)} {ws : List V}, DtA B H ws (ps.map enc) → (∀ x ∈ ws, ∃ t, x = .ref t ∧ H t = some (.tup [.int (key H x).1, .int (key H x).2])) ∧ ws.map (key H) = ps
  | [], _, h => by
    cases h
    exact ⟨fun _ h => (nomatch h), rfl⟩
  | p :: ps, _, h => by
    cases h with
    | cons h1 h2 =>
      obtain ⟨t, rfl, _, e⟩ := h1.col
      obtain ⟨i1, i2⟩ := keys h2
      have ek : key H (.ref t) = (p.1, p.2) := key_of e
      refine ⟨fun x hx => ?_, ?_⟩
      · rcases List.mem_cons.mp hx with z | z
        · rw [z, ek]
          exact ⟨t, rfl, e⟩
        · exact i1 x z
      · rw [List.map_cons, i2, ek]
def Rs (l : List (Int × Int)) : Prop := l.Pairwise fun x y => SrtO.lexB y x = false
theorem rs_one {l m : List (Int × Int)} (p : l.Perm m) (h1 : Rs l) (h2 : Rs m) : l = m := by
  refine p.eq_of_pairwise (fun a b _ _ x y => ?_) h1 h2
  have u := SrtO.lexB_no.mp x
  have v := SrtO.lexB_no.mp y
  have e1 : a.1 = b.1 := by omega
  have e2 : a.2 = b.2 := by omega
  exact Prod.ext e1 e2
/-! ### tables on a line -/
def bb (l r : Int × Int) : Int := if (l.1 + r.1) % 2 = 0 ∧ r.2 < l.2 then (l.1 + r.1) / 2 else (l.1 + r.1) / 2 + 1
def gg1 (n : Int) (q : Int × Int) : Int := (q.1 - n) * (q.1 - n)
def lt2 (n : Int) (l r : Int × Int) : Prop := gg1 n l < gg1 n r ∨ (gg1 n l = gg1 n r ∧ l.2 < r.2)
def le2 (n : Int) (l r : Int × Int) : Prop := gg1 n l < gg1 n r ∨ (gg1 n l = gg1 n r ∧ l.2 ≤ r.2)
theorem le2.tr {n : Int} {a b c : Int × Int} (h1 : le2 n a b) (h2 : le2 n b c) : le2 n a c := by
  unfold le2 at *
  omega
theorem sq_diff (n : Int) (l r : Int × Int) : gg1 n r - gg1 n l = (r.1 - l.1) * (r.1 + l.1 - 2 * n) := by
  unfold gg1
  generalize l.1 = x
  generalize r.1 = y
  have e1 : (y - n) * (y - n) = y * y - 2 * (n * y) + n * n := by
    rw [Int.sub_mul, Int.mul_sub, Int.mul_sub, Int.mul_comm y n]
    omega
  have e2 : (x - n) * (x - n) = x * x - 2 * (n * x) + n * n := by
    rw [Int.sub_mul, Int.mul_sub, Int.mul_sub, Int.mul_comm x n]
    omega
  have e3 : (y - x) * (y + x - 2 * n) = y * y - x * x - 2 * (n * y) + 2 * (n * x) := by
    rw [Int.sub_mul, Int.mul_sub, Int.mul_sub, Int.mul_add, Int.mul_add, Int.mul_comm x y, Int.mul_left_comm y 2 n, Int.mul_left_comm x 2 n, Int.mul_comm y n, Int.mul_comm x n]
    omega
  rw [e1, e2, e3]
  omega
theorem beat {n : Int} {l r : Int × Int} (h : l.1 < r.1) : bb l r ≤ n → le2 n r l := by
  intro hb
  have e := sq_diff n l r
  have hs : r.1 + l.1 < 2 * n ∨ (r.1 + l.1 = 2 * n ∧ r.2 < l.2) := by
    unfold bb at hb
    split at hb <;> omega
  rcases hs with hs | ⟨hs, hk⟩
  · left
    have : (r.1 - l.1) * (r.1 + l.1 - 2 * n) < 0 := Int.mul_neg_of_pos_of_neg (by omega) (by omega)
    omega
  · right
    rw [show r.1 + l.1 - 2 * n = 0 by omega, Int.mul_zero] at e
    omega
theorem keep {n : Int} {l r : Int × Int} (h : l.1 < r.1) : n < bb l r → le2 n l r := by
  intro hb
  have e := sq_diff n l r
  have hs : 2 * n < r.1 + l.1 ∨ (r.1 + l.1 = 2 * n ∧ l.2 ≤ r.2) := by
    unfold bb at hb
    split at hb <;> omega
  rcases hs with hs | ⟨hs, hk⟩
  · left
    have : 0 < (r.1 - l.1) * (r.1 + l.1 - 2 * n) := Int.mul_pos (by omega) (by omega)
    omega
  · right
    rw [show r.1 + l.1 - 2 * n = 0 by omega, Int.mul_zero] at e
    omega
def at2q (qs : List (Int × Int)) (i : Nat) : Int × Int := qs.getD i (0, 0)
def bq (qs : List (Int × Int)) (i : Nat) : Int := bb (at2q qs i) (at2q qs (i + 1))
def Up (qs : List (Int × Int)) : Prop := ∀ i, i + 1 < qs.length → (at2q qs i).1 < (at2q qs (i + 1)).1
theorem bq_up {qs : List (Int × Int)} (u : Up qs) {i : Nat} (h : i + 2 < qs.length) : bq qs i ≤ bq qs (i + 1) := by
  have h1 := u i (by omega)
  have h2 := u (i + 1) (by omega)
  unfold bq bb
  split <;> split <;> omega
theorem bq_mono {qs : List (Int × Int)} (u : Up qs) {i : Nat} : ∀ {j : Nat}, i ≤ j → j + 1 < qs.length → bq qs i ≤ bq qs j
  | 0, h, _ => by
    have : i = 0 := by omega
    subst this
    exact Int.le_refl _
  | j + 1, h, hj => by
    by_cases e : i = j + 1
    · subst e
      exact Int.le_refl _
    · exact Int.le_trans (bq_mono u (j := j) (by omega) (by omega)) (bq_up u (by omega))
def Tn (qs : List (Int × Int)) (n : Int) (t : Nat) : Prop := t < qs.length ∧ (∀ i, i < t → bq qs i ≤ n) ∧ ∀ i, t ≤ i → i + 1 < qs.length → n < bq qs i
theorem tn_ex {qs : List (Int × Int)} (u : Up qs) (h0 : 0 < qs.length) (n : Int) : ∃ t, Tn qs n t := by
  have step : ∀ m, m + 1 ≤ qs.length → ∃ t, t ≤ m ∧ (∀ i, i < t → bq qs i ≤ n) ∧ ∀ i, t ≤ i → i < m → n < bq qs i := by
    intro m
    induction m with
    | zero => exact fun _ => ⟨0, Nat.le_refl _, fun i hi => by omega, fun i _ hi => by omega⟩
    | succ m ih =>
      intro hm
      obtain ⟨t, h1, h2, h3⟩ := ih (by omega)
      by_cases ht : t = m
      · by_cases hb : bq qs m ≤ n
        · refine ⟨m + 1, Nat.le_refl _, fun i hi => ?_, fun i hi hi2 => by omega⟩
          by_cases e : i = m
          · rw [e]; exact hb
          · exact h2 i (by omega)
        · refine ⟨m, by omega, fun i hi => h2 i (by omega), fun i hi hi2 => ?_⟩
          have : i = m := by omega
          rw [this]
          omega
      · refine ⟨t, by omega, h2, fun i hi hi2 => ?_⟩
        by_cases e : i = m
        · rw [e]
          have a := h3 t (Nat.le_refl _) (by omega)
          have b := bq_mono u (i := t) (j := m) (by omega) (by omega)
          omega
        · exact h3 i hi (by omega)
  obtain ⟨t, h1, h2, h3⟩ := step (qs.length - 1) (by omega)
  exact ⟨t, by omega, h2, fun i hi hi2 => h3 i hi (by omega)⟩
theorem tn_best {qs : List (Int × Int)} (u : Up qs) {n : Int} {t : Nat} (h : Tn qs n t) : ∀ j, j < qs.length → le2 n (at2q qs t) (at2q qs j) := by
  obtain ⟨h0, h1, h2⟩ := h
  have up : ∀ d, t + d < qs.length → le2 n (at2q qs t) (at2q qs (t + d)) := by
    intro d
    induction d with
    | zero => exact fun _ => .inr ⟨rfl, Int.le_refl _⟩
    | succ d ih => exact fun hd => (ih (by omega)).tr (keep (u (t + d) hd) (h2 (t + d) (by omega) hd))
  have down : ∀ d, d ≤ t → le2 n (at2q qs t) (at2q qs (t - d)) := by
    intro d
    induction d with
    | zero => exact fun _ => .inr ⟨rfl, Int.le_refl _⟩
    | succ d ih =>
      intro hd
      have e : t - (d + 1) + 1 = t - d := by omega
      have k := beat (n := n) (u (t - (d + 1)) (by omega)) (h1 (t - (d + 1)) (by omega))
      rw [e] at k
      exact (ih (by omega)).tr k
  intro j hj
  by_cases hjt : t ≤ j
  · have := up (j - t) (by omega)
    rwa [show t + (j - t) = j by omega] at this
  · have := down (t - j) (by omega)
    rwa [show t - (t - j) = j by omega] at this
theorem tn_mono {qs : List (Int × Int)} {n m : Int} {t r : Nat} (h : n ≤ m) (a : Tn qs n t) (b : Tn qs m r) : t ≤ r := by
  obtain ⟨a0, a1, a2⟩ := a
  obtain ⟨b0, b1, b2⟩ := b
  rcases Nat.lt_or_ge r t with c | c
  · have x := a1 r c
    have y := b2 r (Nat.le_refl _) (by omega)
    omega
  · exact c
/-- the palette's unlike places, each with its least number -/
structure Fst (cs : List (List Int)) (qs : List (Int × Int)) : Prop where
  pos : 0 < qs.length
  up : Up qs
  own : ∀ q ∈ qs, ∃ i : Nat, q.2 = (i : Int) ∧ cs[i]? = some [q.1]
  all : ∀ (i : Nat) (p : Int), cs[i]? = some [p] → ∃ q ∈ qs, q.1 = p ∧ q.2 ≤ (i : Int)
theorem ap1 (p n : Int) : ap [p] [n] = gg1 n (p, 0) := by
  show (p - n) ^ 2 + 0 = (p - n) * (p - n)
  rw [Int.pow_succ, Int.pow_succ, Int.pow_zero, Int.one_mul, Int.add_zero]
theorem at2q_mem {qs : List (Int × Int)} {i : Nat} (h : i < qs.length) : at2q qs i ∈ qs := by
  unfold at2q
  rw [List.getD_eq_getElem?_getD, List.getElem?_eq_getElem h]
  exact List.getElem_mem h
theorem tn_near {cs : List (List Int)} {qs : List (Int × Int)} (F : Fst cs qs) (h1 : ∀ c ∈ cs, c.length = 1) {n : Int} {t : Nat} (h : Tn qs n t) : ∃ i : Nat, (at2q qs t).2 = (i : Int) ∧ near cs [n] i := by
  obtain ⟨i, e1, e2⟩ := F.own _ (at2q_mem h.1)
  obtain ⟨hi, e3⟩ := List.getElem?_eq_some_iff.mp e2
  refine ⟨i, e1, hi, fun j hj => ?_⟩
  obtain ⟨p, ep⟩ : ∃ p, cs[j] = [p] := by
    have := h1 _ (List.getElem_mem hj)
    match cs[j], this with
    | [p], _ => exact ⟨p, rfl⟩
  obtain ⟨q, hq, q1, q2⟩ := F.all j p (by rw [List.getElem?_eq_getElem hj, ep])
  obtain ⟨m, hm, em⟩ := List.mem_iff_getElem.mp hq
  have b := tn_best F.up h m hm
  have eq : at2q qs m = q := by
    unfold at2q
    rw [List.getD_eq_getElem?_getD, List.getElem?_eq_getElem hm, em]
    rfl
  rw [eq] at b
  have g1 : ap cs[i] [n] = gg1 n (at2q qs t) := by rw [e3, ap1]; rfl
  have g2 : ap cs[j] [n] = gg1 n q := by rw [ep, ap1, ← q1]; rfl
  rw [g1, g2]
  unfold le2 at b
  omega
/-- the rows, and what is read off them -/
def rowF (qs : List (Int × Int)) (low high : Int) (i : Nat) : Option (Int × Int) := if low < bq qs i ∧ bq qs i ≤ high then some (bq qs i, (at2q qs (i + 1)).2) else none
def bt (rs : List (Int × Int)) (n t0 : Int) : Int := rs.foldl (fun t r => if r.1 ≤ n then r.2 else t) t0
theorem bt_rows {qs : List (Int × Int)} {low high n : Int} {t0 t : Nat} (h0 : Tn qs low t0) (h : Tn qs n t) (hl : low ≤ n) (hh : n ≤ high) : ∀ m, m + 1 ≤ qs.length →
    bt ((List.range m).filterMap (rowF qs low high)) n (at2q qs t0).2 = (at2q qs (if m ≤ t0 then t0 else if m ≤ t then m else t)).2 := by
  have tt := tn_mono hl h0 h
  obtain ⟨a0, a1, a2⟩ := h0
  obtain ⟨b0, b1, b2⟩ := h
  intro m
  induction m with
  | zero =>
    intro _
    rw [if_pos (Nat.zero_le _)]
    rfl
  | succ m ih =>
    intro hm
    have ih := ih (by omega)
    rw [List.range_succ, List.filterMap_append]
    unfold bt at ih ⊢
    rw [List.foldl_append, ih]
    have x1 := a1 m
    have x2 := fun h => a2 m h (by omega)
    have y1 := b1 m
    have y2 := fun h => b2 m h (by omega)
    simp only [List.filterMap_cons, List.filterMap_nil]
    by_cases hc : low < bq qs m ∧ bq qs m ≤ high
    · have er : rowF qs low high m = some (bq qs m, (at2q qs (m + 1)).2) := if_pos hc
      rw [er]
      simp only [List.foldl_cons, List.foldl_nil]
      have m0 : t0 ≤ m := by
        rcases Nat.lt_or_ge m t0 with c | c
        · have := x1 c
          omega
        · exact c
      by_cases hn : bq qs m ≤ n
      · rw [if_pos hn]
        have : m < t := by
          rcases Nat.lt_or_ge m t with c | c
          · exact c
          · have := y2 c
            omega
        rw [if_neg (show ¬ m + 1 ≤ t0 by omega), if_pos (show m + 1 ≤ t by omega)]
      · rw [if_neg hn]
        have : t ≤ m := by
          rcases Nat.lt_or_ge m t with c | c
          · have := y1 c
            omega
          · exact c
        rw [if_neg (show ¬ m + 1 ≤ t0 by omega), if_neg (show ¬ m + 1 ≤ t by omega)]
        by_cases hm0 : m ≤ t0
        · rw [if_pos hm0]
          have : t0 = t := by omega
          rw [this]
        · rw [if_neg hm0]
          by_cases hmt : m ≤ t
          · rw [if_pos hmt]
            have : m = t := by omega
            rw [this]
          · rw [if_neg hmt]
    · have er : rowF qs low high m = none := if_neg hc
      rw [er]
      simp only [List.foldl_nil]
      have mo : m < t0 ∨ t ≤ m := by
        rcases Nat.lt_or_ge m t0 with c | c
        · exact .inl c
        · right
          rcases Nat.lt_or_ge m t with d | d
          · have u1 := x2 c
            have u2 := y1 d
            exact absurd ⟨u1, by omega⟩ hc
          · exact d
      rcases mo with c | c
      · rw [if_pos (show m ≤ t0 by omega), if_pos (show m + 1 ≤ t0 by omega)]
      · rw [if_neg (show ¬ m + 1 ≤ t by omega)]
        by_cases hm0 : m ≤ t0
        · rw [if_pos hm0]
          by_cases hm1 : m + 1 ≤ t0
          · rw [if_pos hm1]
          · rw [if_neg hm1]
            have : t0 = t := by omega
            rw [this]
        · rw [if_neg hm0, if_neg (show ¬ m + 1 ≤ t0 by omega)]
          by_cases hmt : m ≤ t
          · rw [if_pos hmt]
            have : m = t := by omega
            rw [this]
          · rw [if_neg hmt]
theorem bt_near {cs : List (List Int)} {qs : List (Int × Int)} (F : Fst cs qs) (h1 : ∀ c ∈ cs, c.length = 1) {low high n : Int} {i0 : Nat} (hi0 : near cs [low] i0) (hl : low ≤ n) (hh : n ≤ high) (one : ∀ {c : List Int} {i j : Nat}, near cs c i → near cs c j → i = j) :
    ∃ i : Nat, near cs [n] i ∧ bt ((low, (i0 : Int)) :: (List.range (qs.length - 1)).filterMap (rowF qs low high)) n (i0 : Int) = (i : Int) := by
  obtain ⟨t0, T0⟩ := tn_ex F.up F.pos low
  obtain ⟨t, Tt⟩ := tn_ex F.up F.pos n
  obtain ⟨j0, e0, n0⟩ := tn_near F h1 T0
  obtain ⟨j, e, nj⟩ := tn_near F h1 Tt
  have : i0 = j0 := one hi0 n0
  subst this
  refine ⟨j, nj, ?_⟩
  have b := bt_rows T0 Tt hl hh (qs.length - 1) (by have := F.pos; omega)
  have tt := tn_mono hl T0 Tt
  unfold bt at b ⊢
  rw [List.foldl_cons]
  simp only [if_pos hl]
  rw [← e0, b, ← e]
  have l0 := T0.1
  have l1 := Tt.1
  congr 2
  split
  · omega
  · split <;> omega
/-! ### the palette's unlike places -/
def ppF (cs : List (List Int)) (i : Nat) : Option (Int × Int) := (cs[i]?).map fun c => (c.headD 0, (i : Int))
def pps (cs : List (List Int)) : List (Int × Int) := (List.range cs.length).filterMap (ppF cs)
theorem pps_map (cs : List (List Int)) : (List.range cs.length).filterMap (fun i => (ppF cs i).map enc) = (pps cs).map enc := by
  unfold pps
  rw [List.map_filterMap]
theorem pps_mem {cs : List (List Int)} {q : Int × Int} (h : q ∈ pps cs) : ∃ (i : Nat) (c : List Int), cs[i]? = some c ∧ q = (c.headD 0, (i : Int)) := by
  obtain ⟨i, _, e⟩ := List.mem_filterMap.mp h
  unfold ppF at e
  cases hc : cs[i]? with
  | none => rw [hc] at e; cases e
  | some c =>
    rw [hc] at e
    exact ⟨i, c, hc, (Option.some.inj e).symm⟩
theorem pps_has {cs : List (List Int)} {i : Nat} {c : List Int} (h : cs[i]? = some c) : (c.headD 0, (i : Int)) ∈ pps cs := by
  refine List.mem_filterMap.mpr ⟨i, List.mem_range.mpr (List.getElem?_eq_some_iff.mp h).1, ?_⟩
  unfold ppF
  rw [h]
  rfl
theorem at2q_l {acc : List (Int × Int)} {x : Int × Int} {i : Nat} (h : i < acc.length) : at2q (acc ++ [x]) i = at2q acc i := by
  unfold at2q
  rw [List.getD_eq_getElem?_getD, List.getD_eq_getElem?_getD, List.getElem?_append_left h]
theorem at2q_r {acc : List (Int × Int)} {x : Int × Int} : at2q (acc ++ [x]) acc.length = x := by
  unfold at2q
  rw [List.getD_eq_getElem?_getD, List.getElem?_append_right (Nat.le_refl _), Nat.sub_self]
  rfl
theorem at_end {us : List V} {v : V} (h : us[us.length - 1]? = some v) : atI us (-1) = some v := by
  have h2 : us.getLast? = some v := by rw [List.getLast?_eq_getElem?]; exact h
  obtain ⟨xs, e⟩ := List.getLast?_eq_some_iff.mp h2
  rw [e]
  exact atI_last _ _
def fpS (acc : List (Int × Int)) (q : Int × Int) : List (Int × Int) := if acc = [] ∨ (acc.getLastD (0, 0)).1 ≠ q.1 then acc ++ [q] else acc
def fp (l : List (Int × Int)) : List (Int × Int) := l.foldl fpS []
structure FpOk2 (pre acc : List (Int × Int)) : Prop where
  sub : ∀ q ∈ acc, q ∈ pre
  up : Up acc
  all : ∀ x ∈ pre, ∃ q ∈ acc, q.1 = x.1 ∧ q.2 ≤ x.2
  last : ∀ x ∈ acc, x.1 ≤ (acc.getLastD (0, 0)).1
theorem fp_inv : ∀ (post pre acc : List (Int × Int)), FpOk2 pre acc → Rs (pre ++ post) → FpOk2 (pre ++ post) (post.foldl fpS acc)
  | [], pre, acc, h, _ => by rw [List.append_nil]; exact h
  | x :: post, pre, acc, h, hr => by
    have hr2 : Rs ((pre ++ [x]) ++ post) := by rw [List.append_assoc]; exact hr
    have goal : FpOk2 (pre ++ [x]) (fpS acc x) → FpOk2 (pre ++ x :: post) ((x :: post).foldl fpS acc) := fun g => by
      have := fp_inv post (pre ++ [x]) (fpS acc x) g hr2
      rw [List.append_assoc] at this
      exact this
    refine goal ?_
    have le : ∀ y ∈ pre, ¬ (x.1 < y.1 ∨ x.1 = y.1 ∧ x.2 < y.2) := fun y hy => by
      have hp := List.pairwise_append.mp hr
      exact SrtO.lexB_no.mp (hp.2.2 y hy x (List.mem_cons_self ..))
    unfold fpS
    by_cases hc : acc = [] ∨ (acc.getLastD (0, 0)).1 ≠ x.1
    · rw [if_pos hc]
      refine ⟨fun q hq => ?_, fun i hi => ?_, fun y hy => ?_, fun y hy => ?_⟩
      · rcases List.mem_append.mp hq with hq | hq
        · exact List.mem_append.mpr (.inl (h.sub q hq))
        · exact List.mem_append.mpr (.inr hq)
      · rw [List.length_append, List.length_singleton] at hi
        by_cases hl : i + 1 < acc.length
        · have := h.up i hl
          rw [at2q_l (by omega), at2q_l hl]
          exact this
        · have hi2 : i + 1 = acc.length := by omega
          rw [at2q_l (by omega), hi2, at2q_r]
          have hne : acc ≠ [] := fun z => by rw [z] at hi2; simp at hi2
          have e1 : at2q acc i = acc.getLastD (0, 0) := by
            unfold at2q
            rw [List.getLastD_eq_getLast?, List.getLast?_eq_getElem?, List.getD_eq_getElem?_getD, show acc.length - 1 = i by omega]
          have hm : acc.getLastD (0, 0) ∈ acc := by
            rw [← e1]
            exact at2q_mem (by omega)
          have hlt := le _ (h.sub _ hm)
          rw [e1]
          rcases hc with hc | hc
          · exact absurd hc hne
          · show (acc.getLastD (0, 0)).1 < x.1
            omega
      · rcases List.mem_append.mp hy with hy | hy
        · obtain ⟨q, hq, a, b⟩ := h.all y hy
          exact ⟨q, List.mem_append.mpr (.inl hq), a, b⟩
        · rw [List.mem_singleton.mp hy]
          exact ⟨x, List.mem_append.mpr (.inr (List.mem_singleton.mpr rfl)), rfl, Int.le_refl _⟩
      · have el : (acc ++ [x]).getLastD (0, 0) = x := by
          rw [List.getLastD_eq_getLast?, List.getLast?_append]
          rfl
        rw [el]
        rcases List.mem_append.mp hy with hy | hy
        · have := le _ (h.sub y hy)
          omega
        · rw [List.mem_singleton.mp hy]
          exact Int.le_refl _
    · rw [if_neg hc]
      have hne : acc ≠ [] := fun z => hc (.inl z)
      have hx : (acc.getLastD (0, 0)).1 = x.1 := Classical.byContradiction fun z => hc (.inr z)
      have hm : acc.getLastD (0, 0) ∈ acc := by
        rw [List.getLastD_eq_getLast?]
        cases hg : acc.getLast? with
        | none => exact absurd (List.getLast?_eq_none_iff.mp hg) hne
        | some z => exact List.mem_of_getLast? hg
      refine ⟨fun q hq => List.mem_append.mpr (.inl (h.sub q hq)), h.up, fun y hy => ?_, h.last⟩
      rcases List.mem_append.mp hy with hy | hy
      · exact h.all y hy
      · rw [List.mem_singleton.mp hy]
        have := le _ (h.sub _ hm)
        exact ⟨_, hm, hx, by omega⟩
theorem fp_fst {cs : List (List Int)} {l : List (Int × Int)} (hp : l.Perm (pps cs)) (hr : Rs l) (h0 : 0 < cs.length) (h1 : ∀ c ∈ cs, c.length = 1) : Fst cs (fp l) := by
  have F := fp_inv l [] [] ⟨fun _ h => (nomatch h), fun i hi => by simp at hi, fun _ h => (nomatch h), fun _ h => (nomatch h)⟩ (by rw [List.nil_append]; exact hr)
  rw [List.nil_append] at F
  have hd : ∀ c : List Int, c.length = 1 → c = [c.headD 0] := fun c hc => by
    match c, hc with
    | [x], _ => rfl
  refine ⟨?_, F.up, fun q hq => ?_, fun i p hip => ?_⟩
  · obtain ⟨q, hq, _⟩ := F.all _ (hp.mem_iff.mpr (pps_has (List.getElem?_eq_getElem h0)))
    exact List.length_pos_of_mem hq
  · obtain ⟨i, c, hc, e⟩ := pps_mem (hp.mem_iff.mp (F.sub q hq))
    refine ⟨i, by rw [e], ?_⟩
    rw [hc, e]
    exact congrArg some (hd c (h1 c (List.mem_of_getElem? hc)))
  · obtain ⟨q, hq, a, b⟩ := F.all _ (hp.mem_iff.mpr (pps_has hip))
    exact ⟨q, hq, a, b⟩
theorem fp_len : ∀ (l acc : List (Int × Int)), (l.foldl fpS acc).length ≤ acc.length + l.length
  | [], acc => Nat.le_refl _
  | x :: l, acc => by
    have := fp_len l (fpS acc x)
    have h2 : (fpS acc x).length ≤ acc.length + 1 := by
      unfold fpS
      split
      · rw [List.length_append]; exact Nat.le_refl _
      · omega
    rw [List.foldl_cons, List.length_cons]
    omega
def eR (rs : List (Int × Int)) : PyData := .tuple (rs.map enc)
def wOk (cs : List (List Int)) : Prop := 0 < cs.length ∧ cs.length ≤ 100 ∧ ∀ c ∈ cs, c.length = 1 ∧ cIn 0 999 c
def spFirst : Sp := fun vs H Q _ => ∃ (B : List Addr) (pl : V) (cs : List (List Int)), vs = [pl] ∧ Dt B H pl (eP cs) ∧ Bk B H ∧ wOk cs ∧
  ∀ v H' (qs : List (Int × Int)), Same H H' → Dt B H' v (.list (qs.map enc)) → Fst cs qs → qs.length ≤ 100 → Q v H'
theorem emp2 (xs : List PyData) : PyData.eqv (.list xs) (.list []) = xs.isEmpty := by
  cases xs <;> simp [PyData.eqv, PyData.eqvAll]
theorem ok_first_places (T : Tx K mg) {k : Nat} : FnOk P w K mg base CX0 (k + 1) T.f_first_places T.d_first_places ["palette"] spFirst := by
  refine T.F_first_places.ok sc_first_places (fun vs H Q E h => ?_) (fun cdv A outer s H vs Q E hr h => ?_)
  · obtain ⟨B, pl, cs, rfl, _⟩ := h
    rfl
  · obtain ⟨B, pl, cs, rfl, hp, hB, ⟨c0, c1, c2⟩, q⟩ := h
    obtain ⟨pa, vs, rfl, np, ep, hA⟩ := hp.pal
    have lv := hA.len
    rw [List.length_map] at lv
    refine ⟨_, (pss_cons (ps_set (i := 1) sc_first_places.nd rfl (.inl rfl) (pe_callB (cr_sortedK K) (by rfl) T.z_sorted (by decide +kernel) (pa_cons (pe_lc (own := [("number", 4), ("colour", 5)]) (by rfl) sc_first_places.nd (pi_enum (by rfl) T.z_enumerate (pa_cons (pv 0) pa_nil)) (blkOk_by (own := [("number", 4), ("colour", 5)]) (N := N_first_places) (sc := defScope s_first_places) (by decide +kernel)) (fun _ _ _ _ _ => (pg_tupK K (n := 2) rfl (pgs_cons (pg_name (i := 4) sc_first_places.nd rfl (.inl rfl)) (pgs_cons (pg_name (i := 5) sc_first_places.nd rfl (.inl rfl)) pgs_nil)))) (fun _ _ _ _ _ => pts_nil) (fun _ _ _ _ _ => (pe_tup (pa_cons (pe_ix (ix_tupK K) (pv 5) pe_int (fun _ _ => rfl)) (pa_cons (pv 4) pa_nil))))) pa_nil)))
      (pss_cons (ps_set (i := 2) sc_first_places.nd rfl (.inl rfl) (pe_lst pa_nil))
      (pss_cons (ps_for PassesOwn.never rfl (pi_listK K (pv 1)) (pg_tupK K (n := 2) rfl (pgs_cons (pg_name (i := 3) sc_first_places.nd rfl (.inl rfl)) (pgs_cons (pg_name (i := 4) sc_first_places.nd rfl (.inl rfl)) pgs_nil))) (pss_one (ps_if (PW.pt (pw_or (pt_cmpR (op_eqDK K hr.units) (pv 2) (pe_lst pa_nil) (nomark _)) (pw_or1 (pt_cmpR (op_neDK K hr.units) (pe_ix (ix_tupK K) (pe_ix (ix_listK K) (pv 2) (pe_un un_neg pe_int) (fun _ _ => rfl)) pe_int (fun _ _ => rfl)) (pv 3) (nomark _))))) (pss_one (ps_expr (pe_bm PySem.F.plainAttrs_list PySem.F.slot_list_append PySem.F.type_list_append mt_append (pv 2) (pa_cons (pe_tup (pa_cons (pv 3) (pa_cons (pv 4) pa_nil))) pa_nil)))) pss_nil)))
      (pss_one (ps_ret (pv 2)))))), ?_⟩
    refine ⟨_, rfl, pa, _, rfl, SqL.of ep, fun D hD => ?_⟩
    refine lc_pure (B := B) (walk_enum (xs := vs)) hD hB (fun H' s' => SqL.of (s' _ _ ep)) (by omega)
      (fun i => (ppF cs i).map enc) (fun i x H' H'' Ny Nn hi s1 bk y ky kn => ?_) (fun H1 ws s1 eD hW => ?_)
    · obtain ⟨t, x, y, rfl, ht, rfl, e1, e2⟩ := y
      obtain ⟨d1, f1, g1⟩ := hA.getV e2
      have hi2 : i < cs.length := by omega
      rw [List.getElem?_map, List.getElem?_eq_getElem hi2] at f1
      have ed : d1 = eC cs[i] := (Option.some.inj f1).symm
      subst ed
      have ex : V.int i = x := Option.some.inj e1
      subst ex
      have oc := c2 _ (List.getElem_mem hi2)
      obtain ⟨z, ez⟩ : ∃ z, cs[i] = [z] := by
        match cs[i], oc.1 with
        | [z], _ => exact ⟨z, rfl⟩
      rw [ez] at g1
      have s2 := sm_new (o := .tup [.int (i : Int), y]) ht
      obtain ⟨ya, rfl, ny, ey⟩ := ((g1.s s1).s s2).col
      refine ⟨t, _, rfl, SqT.of upd_same, rfl, _, _, rfl, _, _, rfl, rfl, rfl, lc_yes ?_⟩
      refine ⟨_, rfl, ya, _, 0, .int z, rfl, rfl, SqT.of ey, rfl, _, rfl, (by show 2 ≤ sizeLine; decide), fun t2 ht2 => ?_⟩
      refine ky _ _ (enc (z, (i : Int))) ?_ (s2.trans (sm_new ht2)) (Dt.ofCol ((bk.go (Go.of (B := []) s2)).ne ht2) upd_same)
      unfold ppF
      rw [List.getElem?_eq_getElem hi2, ez]
      rfl
    · rw [lv, pps_map] at hW
      obtain ⟨k1, k2⟩ := keys hW
      refine ⟨D, ws, key H1, rfl, SqL.of eD, k1, fun ys p hs hb hp2 => ?_⟩
      have py : (ys.map (key H1)).Perm (pps cs) := by
        rw [← k2]
        exact hb.perm.map _
      have ry : Rs (ys.map (key H1)) := List.pairwise_map.mpr hs
      have lp : (pps cs).length ≤ 100 := by
        unfold pps
        refine Nat.le_trans (List.length_filterMap_le _ _) ?_
        rw [List.length_range]
        exact c1
      have ly : ys.length ≤ 100 := by
        have := py.length_eq
        rw [List.length_map] at this
        omega
      have B1 := hB.go (Go.of (B := B) s1)
      have s2 : Same H1 (upd H1 p (.lst ys)) := sm_new hp2
      have ep2 : (upd H1 p (.lst ys)) p = some (.lst ys) := upd_same
      generalize upd H1 p (.lst ys) = H2 at *
      refine ⟨Nat.zero_le _, fun F hF => ?_⟩
      have s3 := sm_new (o := .lst []) hF
      have hF0 : H F = none := s1.free (s2.free hF)
      have hF1 : H1 F = none := s2.free hF
      refine ⟨_, rfl, p, rfl, ⟨_, SqL.of (s3 _ _ ep2)⟩, for_list (xs := ys) (fun i σ H' => ∃ y3 y4 y5 us, σ = [some (.ref pa), some (.ref p), some (.ref F), y3, y4, y5] ∧ Same H2 H' ∧ H' F = some (.lst us) ∧ DtA (F :: B) H' us ((fp ((ys.map (key H1)).take i)).map enc))
        ⟨_, _, _, [], rfl, s3, upd_same, .nil⟩ (fun i σ H' _ h => ?_) (fun i x σ H3 hx h3 => ?_) (fun σ H3 h3 => ?_)⟩
      · obtain ⟨y3, y4, y5, us, rfl, s4, eF, hU⟩ := h
        exact SqL.of (s4 _ _ ep2)
      · obtain ⟨y3, y4, y5, us, rfl, s4, eF, hU⟩ := h3
        obtain ⟨t, rfl, et⟩ := k1 x (hb.perm.mem_iff.mp (List.mem_of_getElem? hx))
        have et3 := s4 _ _ (s2 _ _ et)
        have il := (List.getElem?_eq_some_iff.mp hx).1
        have B3 := (B1.go (Go.of (B := B) (s2.trans s4))).cons eF
        have stp : fp ((ys.map (key H1)).take (i + 1)) = fpS (fp ((ys.map (key H1)).take i)) (key H1 (.ref t)) := by
          unfold fp
          rw [List.take_add_one, List.foldl_append, List.getElem?_map, hx]
          rfl
        have lfp : (fp ((ys.map (key H1)).take i)).length ≤ 100 := by
          have := fp_len ((ys.map (key H1)).take i) []
          have h5 : ((ys.map (key H1)).take i).length ≤ ys.length := by rw [List.length_take, List.length_map]; omega
          unfold fp
          simp only [List.length_nil] at this
          omega
        generalize hqs : fp ((ys.map (key H1)).take i) = qs at *
        generalize hkk : key H1 (.ref t) = kq at *
        have lu := hU.len
        rw [List.length_map] at lu
        have shq : Sh (.list (qs.map enc)) 2 := sh_lst (by rw [List.length_map]; omega) fun d hd => by
          obtain ⟨z, _, rfl⟩ := List.mem_map.mp hd
          exact sh_eC (by simp)
        refine ⟨t, [.int kq.1, .int kq.2], rfl, SqT.of et3, rfl, _, _, rfl, _, _, rfl, rfl, ?_⟩
        refine ⟨_, rfl, Nat.zero_le _, fun z hz => ⟨.list (qs.map enc), .list [], ?_, .lst (SqL.of upd_same) .nil, shq.sh (by omega), rfl, _, rfl, ?_⟩⟩
        · have s5 := sm_new (o := .lst []) hz
          exact .lst (SqL.of (s5 _ _ eF)) (hU.s s5).dP
        have s5 := sm_new (o := .lst []) hz
        rw [emp2]
        refine ite2 (fun e => ?_) (fun e => ?_)
        · have hc : qs = [] ∨ (qs.getLastD (0, 0)).1 ≠ kq.1 := .inl (by
            have := List.isEmpty_iff.mp e
            exact List.map_eq_nil_iff.mp this)
          refine iteT ?_
          have eF4 := s5 _ _ eF
          have hU4 := hU.s s5
          have B4 := B3.go (Go.of (B := []) s5)
          refine ⟨_, rfl, .inl ⟨rfl, _, SqL.of eF4⟩, _, rfl, _, rfl, (by show 2 ≤ sizeLine; decide), fun t2 ht2 => ?_⟩
          have s6 := sm_new (o := .tup [.int kq.1, .int kq.2]) ht2
          have dn : Dt (F :: B) (upd (upd H3 z (.lst [])) t2 (.tup [.int kq.1, .int kq.2])) (.ref t2) (enc kq) := Dt.ofCol (B4.ne ht2) upd_same
          have eF5 := s6 _ _ eF4
          have hU5 := hU4.s s6
          have s45 : Same H2 (upd (upd H3 z (.lst [])) t2 (.tup [.int kq.1, .int kq.2])) := (s4.trans s5).trans s6
          refine ⟨F, _, _, rfl, rfl, eF5, sz (by omega), ?_⟩
          generalize upd (upd H3 z (.lst [])) t2 (.tup [.int kq.1, .int kq.2]) = H6 at *
          have gm : Go (F :: B) H6 (upd H6 F (.lst (us ++ [.ref t2]))) := Go.refl.at (List.mem_cons_self ..)
          refine ⟨_, _, _, us ++ [.ref t2], rfl, sm_mut s45 hF, upd_same, ?_⟩
          rw [stp, show fpS qs kq = qs ++ [kq] from if_pos hc, List.map_append]
          exact (hU5.g gm).app (.one (dn.g gm))
        · have hne : qs ≠ [] := fun z2 => e (by rw [z2]; rfl)
          have hl0 : 0 < qs.length := List.length_pos_iff.mpr hne
          obtain ⟨w, fw, dw⟩ := (hU.s s5).get (i := qs.length - 1) (d := enc (qs.getLastD (0, 0))) (by
            rw [List.getElem?_map, List.getLastD_eq_getLast?, List.getLast?_eq_getElem?, List.getElem?_eq_getElem (by omega)]
            rfl)
          obtain ⟨wa, rfl, _, ew⟩ := dw.col
          refine ⟨_, rfl, _, rfl, F, _, _, .ref wa, rfl, rfl, SqL.of (s5 _ _ eF), at_end (by rw [lu]; exact fw), wa, _, 0, .int (qs.getLastD (0, 0)).1, rfl, rfl, SqT.of ew, rfl, _, rfl, .int (qs.getLastD (0, 0)).1, .int kq.1, .int _, .int _, (sh_int _ 0).sh (by omega), (sh_int _ 0).sh (by omega), _, rfl, ite2 (fun e2 => ?_) (fun e2 => ?_)⟩
          · have hc : qs = [] ∨ (qs.getLastD (0, 0)).1 ≠ kq.1 := .inr (fun z2 => by
              rw [z2] at e2
              simp [PyData.eqv] at e2)
            have eF4 := s5 _ _ eF
            have hU4 := hU.s s5
            have B4 := B3.go (Go.of (B := []) s5)
            refine ⟨_, rfl, .inl ⟨rfl, _, SqL.of eF4⟩, _, rfl, _, rfl, (by show 2 ≤ sizeLine; decide), fun t2 ht2 => ?_⟩
            have s6 := sm_new (o := .tup [.int kq.1, .int kq.2]) ht2
            have dn : Dt (F :: B) (upd (upd H3 z (.lst [])) t2 (.tup [.int kq.1, .int kq.2])) (.ref t2) (enc kq) := Dt.ofCol (B4.ne ht2) upd_same
            have eF5 := s6 _ _ eF4
            have hU5 := hU4.s s6
            have s45 : Same H2 (upd (upd H3 z (.lst [])) t2 (.tup [.int kq.1, .int kq.2])) := (s4.trans s5).trans s6
            refine ⟨F, _, _, rfl, rfl, eF5, sz (by omega), ?_⟩
            generalize upd (upd H3 z (.lst [])) t2 (.tup [.int kq.1, .int kq.2]) = H6 at *
            have gm : Go (F :: B) H6 (upd H6 F (.lst (us ++ [.ref t2]))) := Go.refl.at (List.mem_cons_self ..)
            refine ⟨_, _, _, us ++ [.ref t2], rfl, sm_mut s45 hF, upd_same, ?_⟩
            rw [stp, show fpS qs kq = qs ++ [kq] from if_pos hc, List.map_append]
            exact (hU5.g gm).app (.one (dn.g gm))
          · have hx2 : (qs.getLastD (0, 0)).1 = kq.1 := by simpa [PyData.eqv] using e2
            have hn : ¬ (qs = [] ∨ (qs.getLastD (0, 0)).1 ≠ kq.1) := fun z2 => by
              rcases z2 with z2 | z2
              · exact hne z2
              · exact z2 hx2
            refine ⟨_, _, _, us, rfl, s4.trans s5, s5 _ _ eF, ?_⟩
            rw [stp, show fpS qs kq = qs from if_neg hn]
            exact hU.s s5
      · obtain ⟨y3, y4, y5, us, rfl, s4, eF, hU⟩ := h3
        have tk : (ys.map (key H1)).take ys.length = ys.map (key H1) := by
          rw [← List.length_map (f := key H1)]
          exact List.take_length
        rw [tk] at hU
        have lfp : (fp (ys.map (key H1))).length ≤ 100 := by
          have := fp_len (ys.map (key H1)) []
          rw [List.length_map] at this
          unfold fp
          simp only [List.length_nil] at this
          omega
        exact ⟨_, rfl, q _ _ (fp (ys.map (key H1))) ((s1.trans s2).trans s4) (.lst (hB.ne hF0) eF hU.un) (fp_fst py ry c0 fun c hc => (c2 c hc).1) lfp⟩
/-! ### where the next one begins -/
def spBegin : Sp := fun vs H Q _ => ∃ (B : List Addr) (x y : V) (l r : Int × Int), vs = [x, y] ∧ Dt B H x (enc l) ∧ Dt B H y (enc r) ∧ Q (.int (bb l r)) H
theorem ok_begin_between (T : Tx K mg) {k : Nat} : FnOk P w K mg base CX0 (k + 1) T.f_begin_between T.d_begin_between ["left", "right"] spBegin := by
  refine T.F_begin_between.ok sc_begin_between (fun vs H Q E h => ?_) (fun cdv A outer s H vs Q E hr h => ?_)
  · obtain ⟨B, x, y, l, r, rfl, _⟩ := h
    rfl
  · obtain ⟨B, x, y, l, r, rfl, hx, hy, q⟩ := h
    obtain ⟨la, rfl, _, el⟩ := hx.col
    obtain ⟨ra, rfl, _, er⟩ := hy.col
    refine ⟨_, (pss_cons (ps_set (i := 2) sc_begin_between.nd rfl (.inl rfl) (pe_op op_add (pe_ix (ix_tupK K) (pv 0) pe_int (fun _ _ => rfl)) (pe_ix (ix_tupK K) (pv 1) pe_int (fun _ _ => rfl))))
      (pss_cons (ps_if (PW.pt (pw_and (pt_cmpR op_eq (pe_op op_mod (pv 2) pe_int) pe_int (nomark _)) (pw_and1 (pt_cmpR op_lt (pe_ix (ix_tupK K) (pv 1) pe_int (fun _ _ => rfl)) (pe_ix (ix_tupK K) (pv 0) pe_int (fun _ _ => rfl)) (nomark _))))) (pss_one (ps_ret (pe_op op_fdiv (pv 2) pe_int))) pss_nil)
      (pss_one (ps_ret (pe_op op_add (pe_op op_fdiv (pv 2) pe_int) pe_int))))), ?_⟩
    refine ⟨_, rfl, la, _, 0, .int l.1, rfl, rfl, SqT.of el, rfl, _, rfl, ra, _, 0, .int r.1, rfl, rfl, SqT.of er, rfl, _, _, rfl, rfl, ?_⟩
    refine ⟨_, rfl, _, _, rfl, rfl, md (by decide), rfl, _, rfl, ite2 (fun e => ?_) (fun e => ?_)⟩
    · have e1 : (l.1 + r.1) % 2 = 0 := by simpa using e
      refine ⟨_, rfl, ra, _, 1, .int r.2, rfl, rfl, SqT.of er, rfl, _, rfl, la, _, 1, .int l.2, rfl, rfl, SqT.of el, rfl, _, _, rfl, rfl, _, rfl, ite2 (fun e2 => ?_) (fun e2 => ?_)⟩
      · have e3 : r.2 < l.2 := of_decide_eq_true e2
        refine ⟨_, rfl, _, _, rfl, rfl, ⟨by decide, by decide⟩, ?_⟩
        unfold bb at q
        rw [if_pos ⟨e1, e3⟩] at q
        exact q
      · have e3 : ¬ r.2 < l.2 := fun h => e2 (decide_eq_true h)
        refine ⟨_, rfl, _, _, rfl, rfl, ⟨by decide, by decide⟩, _, _, rfl, rfl, ?_⟩
        unfold bb at q
        rw [if_neg (fun h => e3 h.2)] at q
        exact q
    · have e1 : ¬ (l.1 + r.1) % 2 = 0 := by simpa using e
      refine iteF ⟨_, rfl, _, _, rfl, rfl, ⟨by decide, by decide⟩, _, _, rfl, rfl, ?_⟩
      unfold bb at q
      rw [if_neg (fun h => e1 h.1)] at q
      exact q
/-! ### the first row -/
def hd2 (rs : List (Int × Int)) : Int × Int := rs.headD (0, 0)
theorem hd_get {rs : List (Int × Int)} (h : 0 < rs.length) : rs[0]? = some (hd2 rs) := by
  match rs, h with
  | r :: rs, _ => rfl
/-! ### the law's own reading of a table -/
def noF (n : Int) (r : Int × Int) : Option Int := if r.1 ≤ n then some r.2 else none
theorem bt_last : ∀ (rs : List (Int × Int)) (n t0 : Int), bt rs n t0 = (rs.filterMap (noF n)).getLastD t0
  | [], _, _ => rfl
  | r :: rs, n, t0 => by
    have ih := bt_last rs n (if r.1 ≤ n then r.2 else t0)
    unfold bt at ih ⊢
    rw [List.foldl_cons, ih, List.filterMap_cons]
    unfold noF
    by_cases h : r.1 ≤ n
    · simp only [if_pos h]
      rw [List.getLastD_cons]
    · simp only [if_neg h]
theorem fmb {α β : Type} (ds : List α) (f : α → Option β) : (List.range ds.length).filterMap (fun i => (ds[i]?).bind f) = ds.filterMap f := by
  have h := List.filterMap_filterMap (f := fun i : Nat => ds[i]?) (g := f) (l := List.range ds.length)
  rw [fm_all rfl] at h
  exact h.symm
def spNoOf : Sp := fun vs H Q _ => ∃ (B : List Addr) (tv : V) (rs : List (Int × Int)) (n : Int), vs = [tv, .int n] ∧ Dt B H tv (eR rs) ∧ 0 < rs.length ∧ rs.length ≤ 1000 ∧ (hd2 rs).1 ≤ n ∧ ∀ H', Same H H' → Q (.int (bt rs n (hd2 rs).2)) H'
theorem ok_l_number_of (T : Tx K mg) {k : Nat} : FnOk P w K mg base CX0 (k + 1) T.f_l_number_of T.d_l_number_of ["_law_table", "_law_n"] spNoOf := by
  refine T.F_l_number_of.ok sc_l_number_of (fun vs H Q E h => ?_) (fun cdv A outer s H vs Q E hr h => ?_)
  · obtain ⟨B, tv, rs, n, rfl, _⟩ := h
    rfl
  · obtain ⟨B, tv, rs, n, rfl, ht, h0, h1, hn, q⟩ := h
    obtain ⟨ta, vs, rfl, na, et, hA⟩ := ht.tupI
    have lv := hA.len
    rw [List.length_map] at lv
    refine ⟨_, (pss_one (ps_ret (pe_ix (ix_listK K) (pe_lc (own := [("_law_begin", 2), ("_law_number", 3)]) (by rfl) sc_l_number_of.nd (pi_tupK K (pv 0)) (blkOk_by (own := [("_law_begin", 2), ("_law_number", 3)]) (N := N_l_number_of) (sc := defScope s_l_number_of) (by decide +kernel)) (fun _ _ _ _ _ => (pg_tupK K (n := 2) rfl (pgs_cons (pg_name (i := 2) sc_l_number_of.nd rfl (.inl rfl)) (pgs_cons (pg_name (i := 3) sc_l_number_of.nd rfl (.inl rfl)) pgs_nil)))) (fun _ _ _ _ _ => pts_one (pt_cmpR op_le (pv 2) (pv 1) (nomark _))) (fun _ _ _ _ _ => (pv 3))) (pe_un un_neg pe_int) (fun _ _ => rfl)))), ?_⟩
    refine ⟨_, rfl, ta, rfl, ⟨_, SqT.of et⟩, fun D hD => ?_⟩
    refine lc_pure (B := []) (walk_tup (xs := vs)) hD (fun _ h => nomatch h) (fun H' s' => SqT.of (s' _ _ et)) (by omega)
      (fun i => (rs[i]?).bind fun r => (noF n r).map PyData.int) (fun i x H' H'' Ny Nn hi t1 bk y ky kn => ?_) (fun H8 ws s8 eS hW => ?_)
    · obtain ⟨rfl, y⟩ := y
      obtain ⟨d, fd', gd⟩ := hA.getV y
      have il : i < rs.length := by omega
      rw [List.getElem?_map, List.getElem?_eq_getElem il] at fd'
      have ed : d = enc rs[i] := (Option.some.inj fd').symm
      subst ed
      obtain ⟨xa, rfl, _, ex⟩ := (gd.s t1).col
      refine ⟨xa, [.int rs[i].1, .int rs[i].2], rfl, SqT.of ex, rfl, _, _, rfl, _, _, rfl, rfl, rfl, ?_⟩
      refine ⟨_, rfl, _, rfl, _, _, rfl, rfl, _, rfl, ite2 (fun e => ?_) (fun e => ?_)⟩
      · refine ⟨_, rfl, ky _ _ (.int rs[i].2) ?_ (Same.refl _) (.int _)⟩
        rw [List.getElem?_eq_getElem il]
        show (noF n rs[i]).map PyData.int = _
        unfold noF
        rw [if_pos (of_decide_eq_true e)]
        rfl
      · refine kn _ ?_ (Same.refl _)
        rw [List.getElem?_eq_getElem il]
        show (noF n rs[i]).map PyData.int = _
        unfold noF
        rw [if_neg (fun h => e (decide_eq_true h))]
        rfl
    · rw [lv, fmb, ← List.map_filterMap] at hW
      have ew := hW.intsV
      subst ew
      have ne : rs.filterMap (noF n) ≠ [] := fun z => by
        have := List.filterMap_eq_nil_iff.mp z (hd2 rs) (List.mem_of_getElem? (hd_get h0))
        unfold noF at this
        rw [if_pos hn] at this
        cases this
      obtain ⟨ys, z, ez⟩ : ∃ ys z, rs.filterMap (noF n) = ys ++ [z] := ⟨_, _, (List.dropLast_concat_getLast ne).symm⟩
      have eb : bt rs n (hd2 rs).2 = z := by
        rw [bt_last, ez, List.getLastD_eq_getLast?, List.getLast?_append]
        rfl
      refine ⟨_, rfl, D, _, _, .int z, rfl, rfl, SqL.of eS, ?_, ?_⟩
      · rw [ez, List.map_append]
        exact atI_last _ _
      · rw [← eb]
        exact q _ s8
/-! ### the table of a line -/
def rowsOf (qs : List (Int × Int)) (low high i0 : Int) : List (Int × Int) := (low, i0) :: (List.range (qs.length - 1)).filterMap (rowF qs low high)
def spLine : Sp := fun vs H Q _ => ∃ (B : List Addr) (pl : V) (cs : List (List Int)) (low high : Int), vs = [pl, .int low, .int high] ∧ Dt B H pl (eP cs) ∧ Bk B H ∧ wOk cs ∧ -10000000 ≤ low ∧ low ≤ 10000000 ∧
  ∀ v H' (qs : List (Int × Int)) (i0 : Nat), Same H H' → Dt B H' v (eR (rowsOf qs low high (i0 : Int))) → Fst cs qs → near cs [low] i0 → qs.length ≤ 100 → Q v H'
theorem at2q_get {qs : List (Int × Int)} {i : Nat} (h : i < qs.length) : qs[i]? = some (at2q qs i) := by
  unfold at2q
  rw [List.getD_eq_getElem?_getD, List.getElem?_eq_getElem h]
  rfl
theorem cut1 (xs : List V) : cutV xs (some 1) none = xs.drop 1 := by
  unfold cutV
  have e1 : HT.sIx xs.length 0 (some 1) = min 1 xs.length := HT.sIx_nat xs.length 0 1
  have e2 : HT.sIx xs.length xs.length none = xs.length := rfl
  rw [e1, e2]
  cases xs with
  | nil => rfl
  | cons x r =>
    rw [List.length_cons, show min 1 (r.length + 1) = 1 by omega, Nat.add_sub_cancel]
    show r.take r.length = r
    exact List.take_length
theorem ok_line_table (T : Tx K mg) {k : Nat} : FnOk P w K mg base CX0 (k + 3) T.f_line_table T.d_line_table ["palette", "low", "high"] spLine := by
  refine T.F_line_table.ok sc_line_table (fun vs H Q E h => ?_) (fun cdv A outer s H vs Q E hr h => ?_)
  · obtain ⟨B, pl, cs, low, high, rfl, _⟩ := h
    rfl
  · obtain ⟨B, pl, cs, low, high, rfl, hp, hB, wo, w1, w2, q⟩ := h
    refine ⟨_, (pss_cons (ps_set (i := 3) sc_line_table.nd rfl (.inl rfl) (pe_call (ok_first_places T (k := k + 1)) hr (by rfl) T.g_first_places T.F_first_places.kp T.b_first_places .nil pass0 (pa_cons (pv 0) pa_nil)))
      (pss_cons (ps_set (i := 4) sc_line_table.nd rfl (.inl rfl) (pe_lst (pa_cons (pe_tup (pa_cons (pv 1) (pa_cons (pe_call (ok_nearest T (k := k)) hr (by rfl) T.g_nearest T.F_nearest.kp T.b_nearest .nil pass0 (pa_cons (pv 0) (pa_cons (pe_tup (pa_cons (pv 1) pa_nil)) pa_nil))) pa_nil))) pa_nil)))
      (pss_cons (ps_for PassesOwn.never rfl (RZ.pi_zipA (by rfl) T.z_zip (pa_cons (pv 3) (pa_cons (pe_slice (sl_listK K) (pv 3) (po_some pe_int) po_none) pa_nil))) (pg_tupK K (n := 2) rfl (pgs_cons (pg_name (i := 5) sc_line_table.nd rfl (.inl rfl)) (pgs_cons (pg_name (i := 6) sc_line_table.nd rfl (.inl rfl)) pgs_nil))) (pss_cons (ps_set (i := 7) sc_line_table.nd rfl (.inl rfl) (pe_call (ok_begin_between T (k := k + 1)) hr (by rfl) T.g_begin_between T.F_begin_between.kp T.b_begin_between .nil pass0 (pa_cons (pv 5) (pa_cons (pv 6) pa_nil))))
      (pss_one (ps_if (pt_chain op_lt op_le (pv 1) (pv 7) (pv 2)) (pss_one (ps_expr (pe_bm PySem.F.plainAttrs_list PySem.F.slot_list_append PySem.F.type_list_append mt_append (pv 4) (pa_cons (pe_tup (pa_cons (pv 7) (pa_cons (pe_ix (ix_tupK K) (pv 6) pe_int (fun _ _ => rfl)) pa_nil))) pa_nil)))) pss_nil))))
      (pss_one (ps_ret (pe_callTy (tuple_K K) (by rfl) T.z_tuple (by decide +kernel) (pa_cons (pv 4) pa_nil))))))), ?_⟩
    refine ⟨_, rfl, B, pl, cs, rfl, hp, hB, wo, fun fv H1 qs s1 d1 F1 n1 => ?_⟩
    obtain ⟨fa, fs, rfl, nfa, efa, hA⟩ := d1.lstI
    have lf := hA.len
    rw [List.length_map] at lf
    refine ⟨_, rfl, _, rfl, _, rfl, (by show 1 ≤ sizeLine; decide), fun t ht => ?_⟩
    have s2 := sm_new (o := .tup [.int low]) ht
    have B1 := hB.go (Go.of (B := B) s1)
    have dt : Dt B (upd H1 t (.tup [.int low])) (.ref t) (eC [low]) := Dt.ofCol (B1.ne ht) upd_same
    have po : pOk cs [low] := ⟨by have := wo.2.1; omega, by simp, fun x hx => by rw [List.mem_singleton.mp hx]; omega, fun x hx => ⟨(wo.2.2 x hx).1, (wo.2.2 x hx).2.mono (by decide) (by decide)⟩⟩
    refine ⟨B, pl, .ref t, cs, [low], rfl, (hp.s s1).s s2, dt, po, wo.1, fun H3 i0 s3 hi0 => ?_⟩
    have s13 := s2.trans s3
    have B3 := B1.go (Go.of (B := B) s13)
    refine ⟨(by show 2 ≤ sizeLine; decide), fun t2 ht2 => ?_⟩
    have s4 := sm_new (o := .tup [.int low, .int (i0 : Int)]) ht2
    have d2 : Dt B (upd H3 t2 (.tup [.int low, .int (i0 : Int)])) (.ref t2) (enc (low, (i0 : Int))) := Dt.ofCol (B3.ne ht2) upd_same
    have B4 := B3.go (Go.of (B := B) s4)
    have t14 := s13.trans s4
    generalize upd H3 t2 (.tup [.int low, .int (i0 : Int)]) = H4 at *
    refine ⟨(by show 1 ≤ sizeLine; decide), fun R hR => ?_⟩
    have s5 := sm_new (o := .lst [.ref t2]) hR
    have eR5 : (upd H4 R (.lst [.ref t2])) R = some (.lst [.ref t2]) := upd_same
    have nR : R ∉ B := B4.ne hR
    have d2' : Dt (R :: B) (upd H4 R (.lst [.ref t2])) (.ref t2) (enc (low, (i0 : Int))) := (d2.fr hR).s s5
    have hA5 := (((hA.s t14).fr hR)).s s5
    have efa5 := s5 _ _ (t14 _ _ efa)
    have B5 : Bk B (upd H4 R (.lst [.ref t2])) := B4.up
    generalize upd H4 R (.lst [.ref t2]) = H5 at *
    refine ⟨_, rfl, _, rfl, 1, rfl, fa, _, rfl, SqL.of efa5, fun sl hsl => ?_⟩
    have s6 := sm_new (o := .lst (cutV fs (some 1) none)) hsl
    have esl : (upd H5 sl (.lst (cutV fs (some 1) none))) sl = some (.lst (fs.drop 1)) := by rw [upd_same, cut1]
    generalize upd H5 sl (.lst (cutV fs (some 1) none)) = H6 at *
    have efa6 := s6 _ _ efa5
    have hA6 := hA5.s s6
    have hR6 := s6 _ _ eR5
    have nsl : sl ≠ R := fun z => by rw [z, eR5] at hsl; cases hsl
    have nfR : fa ≠ R := fun z => by
      have := t14 _ _ efa
      rw [z, hR] at this
      cases this
    refine ⟨fa, sl, _, _, rfl, .inl ⟨SqL.of efa6, SqL.of esl, ?_⟩⟩
    refine for_it (walk_zip (n := qs.length - 1) (xs := fs) (ys := fs.drop 1) (by rw [List.length_drop]; omega)) (fun i σ H' => ∃ y5 y6 y7 us, σ = [some pl, some (.int low), some (.int high), some (.ref fa), some (.ref R), y5, y6, y7] ∧ Go [R] H6 H' ∧ H' R = some (.lst us) ∧ DtA (R :: B) H' us (((low, (i0 : Int)) :: (List.range i).filterMap (rowF qs low high)).map enc) ∧ us.length ≤ i + 1)
      ⟨_, _, _, [.ref t2], rfl, Go.refl, hR6, .one (d2'.s s6), Nat.le_refl _⟩ (fun i σ H' _ h => ?_) (fun i x σ H7 H8 hi h7 y => ?_) (fun σ H7 h7 => ?_)
    · obtain ⟨y5, y6, y7, us, rfl, g7, eR7, hU, lU⟩ := h
      exact ⟨SqL.of (g7.k _ _ (by simpa using nfR) efa6), SqL.of (g7.k _ _ (by simpa using nsl) esl)⟩
    · obtain ⟨y5, y6, y7, us, rfl, g7, eR7, hU, lU⟩ := h7
      obtain ⟨t, x, y, rfl, ht, rfl, f1, f2⟩ := y
      have f1' : fs[i]? = some x := f1
      have f2' : fs[i + 1]? = some y := by
        have : (fs.drop 1)[i]? = some y := f2
        rwa [List.getElem?_drop, Nat.add_comm] at this
      have hA7 := hA6.g (g7.w1 (B := R :: B) (List.mem_cons_self ..))
      obtain ⟨dx, fx, gx⟩ := hA7.getV f1'
      obtain ⟨dy, fy, gy⟩ := hA7.getV f2'
      rw [List.getElem?_map, at2q_get (by omega)] at fx fy
      have ex : dx = enc (at2q qs i) := (Option.some.inj fx).symm
      have ey : dy = enc (at2q qs (i + 1)) := (Option.some.inj fy).symm
      subst ex ey
      have s8 := sm_new (o := .tup [x, y]) ht
      have gx8 := gx.s s8
      have gy8 := gy.s s8
      have eR8 := s8 _ _ eR7
      have hU8 := hU.s s8
      have g8 : Go [R] H6 (upd H7 t (.tup [x, y])) := g7.trans (Go.of s8)
      have B8 : Bk (R :: B) (upd H7 t (.tup [x, y])) := ((B5.go (Go.of (B := B) s6)).go g8).cons eR8
      refine ⟨t, _, rfl, SqT.of upd_same, rfl, _, _, rfl, _, _, rfl, rfl, ?_⟩
      generalize upd H7 t (.tup [x, y]) = H8 at *
      refine ⟨_, rfl, _, rfl, R :: B, x, y, at2q qs i, at2q qs (i + 1), rfl, gx8, gy8, ?_⟩
      have erow : ((low, (i0 : Int)) :: (List.range (i + 1)).filterMap (rowF qs low high)).map enc = ((low, (i0 : Int)) :: (List.range i).filterMap (rowF qs low high)).map enc ++ ((rowF qs low high i).toList).map enc := by
        rw [List.range_succ, List.filterMap_append, ← List.cons_append, List.map_append]
        congr 2
      obtain ⟨ya, rfl, nya, eya⟩ := gy8.col
      have skip : ¬ (low < bq qs i ∧ bq qs i ≤ high) → ∃ y5' y6' y7' us', [some pl, some (.int low), some (.int high), some (.ref fa), some (.ref R), some x, some (.ref ya), some (.int (bq qs i))] = [some pl, some (.int low), some (.int high), some (.ref fa), some (.ref R), y5', y6', y7'] ∧ Go [R] H6 H8 ∧ H8 R = some (.lst us') ∧ DtA (R :: B) H8 us' (((low, (i0 : Int)) :: (List.range (i + 1)).filterMap (rowF qs low high)).map enc) ∧ us'.length ≤ i + 1 + 1 := fun hn => by
        refine ⟨_, _, _, us, rfl, g8, eR8, ?_, by omega⟩
        rw [erow, show rowF qs low high i = none from if_neg hn]
        rw [Option.toList_none, List.map_nil, List.append_nil]
        exact hU8
      refine ⟨_, rfl, _, rfl, _, _, rfl, rfl, _, rfl, ite2 (fun e => ?_) (fun e => ?_)⟩
      · refine ⟨_, rfl, _, _, rfl, rfl, _, rfl, ite2 (fun e2 => ?_) (fun e2 => ?_)⟩
        · have hc : low < bq qs i ∧ bq qs i ≤ high := ⟨of_decide_eq_true e, of_decide_eq_true e2⟩
          refine ⟨_, rfl, .inl ⟨rfl, _, SqL.of eR8⟩, _, rfl, _, rfl, ya, _, 1, .int (at2q qs (i + 1)).2, rfl, rfl, SqT.of eya, rfl, (by show 2 ≤ sizeLine; decide), fun t9 ht9 => ?_⟩
          have s9 := sm_new (o := .tup [.int (bq qs i), .int (at2q qs (i + 1)).2]) ht9
          have d9 : Dt (R :: B) (upd H8 t9 (.tup [.int (bq qs i), .int (at2q qs (i + 1)).2])) (.ref t9) (enc (bq qs i, (at2q qs (i + 1)).2)) := Dt.ofCol (B8.ne ht9) upd_same
          have g9 : Go [R] H6 (upd H8 t9 (.tup [.int (bq qs i), .int (at2q qs (i + 1)).2])) := g8.trans (Go.of s9)
          have eR9 := s9 _ _ eR8
          have hU9 := hU8.s s9
          refine ⟨R, _, _, rfl, rfl, eR9, sz (by omega), ?_⟩
          have gm : Go (R :: B) (upd H8 t9 (.tup [.int (bq qs i), .int (at2q qs (i + 1)).2])) (upd (upd H8 t9 (.tup [.int (bq qs i), .int (at2q qs (i + 1)).2])) R (.lst (us ++ [.ref t9]))) := Go.refl.at (List.mem_cons_self ..)
          refine ⟨_, _, _, us ++ [.ref t9], rfl, g9.at (by simp), upd_same, ?_, by simp; omega⟩
          rw [erow, show rowF qs low high i = some (bq qs i, (at2q qs (i + 1)).2) from if_pos hc]
          exact (hU9.g gm).app (.one (d9.g gm))
        · exact skip (fun h => e2 (decide_eq_true h.2))
      · exact ⟨false, rfl, iteF (skip (fun h => e (decide_eq_true h.1)))⟩
    · obtain ⟨y5, y6, y7, us, rfl, g7, eR7, hU, lU⟩ := h7
      refine ⟨_, rfl, R, _, rfl, .inl ⟨SqL.of eR7, fun t ht => ?_⟩⟩
      have g47 : Same H4 H7 := g7.sm (s5.trans s6) (fun a ha => by rw [List.mem_singleton.mp ha]; exact hR)
      have B7 : Bk B H7 := B4.go (Go.of (B := B) g47)
      refine q _ _ qs i0 (((s1.trans t14).trans g47).trans (sm_new ht)) (.tup (B7.ne ht) upd_same (hU.un.s (sm_new ht))) F1 hi0 n1
/-! ### a palette on a line, and a stretch -/
theorem bit_01 (b : Bool) : 0 ≤ (if b = true then (1 : Int) else 0) ∧ (if b = true then (1 : Int) else 0) ≤ 1 := by cases b <;> decide
def spLL : Sp := fun vs H Q _ => ∃ (L : Addr) (n : Nat), vs = [.ref L] ∧ Lf L H n ∧ n < 1000000 ∧
  ∀ (t pa : Addr) (H' : Hp) (cs : List (List Int)) (low high : Int), Go [L] H H' → Lf L H' (n + 1010) → H' t = some (.tup [.ref pa, .int low, .int high]) → Dt [L] H' (.ref pa) (eP cs) → 0 < cs.length → cs.length ≤ 40 → (∀ c ∈ cs, cOk 1 c) → -2000 ≤ low → low ≤ 999 → low ≤ high → high ≤ low + 100 → Q (.ref t) H'
theorem ok_l_line (T : Tx K mg) {k : Nat} : FnOk P w K mg base CX0 (k + 5) T.f_l_line T.d_l_line ["_law_left_here"] spLL := by
  refine T.F_l_line.ok sc_l_line (fun vs H Q E h => ?_) (fun cdv A outer s H vs Q E hr h => ?_)
  · obtain ⟨L, n, rfl, _⟩ := h
    rfl
  · obtain ⟨L, n, rfl, hL, hn, q⟩ := h
    refine ⟨_, (pss_cons (ps_set (i := 1) sc_l_line.nd rfl (.inl rfl) (pe_call (ok_l_palette T (k := k)) hr (by rfl) T.g_l_palette T.F_l_palette.kp T.b_l_palette .nil pass0 (pa_cons (pv 0) (pa_cons (pe_tup (pa_cons pe_int (pa_cons (pe_ix (ix_listK K) (pe_lst (pa_cons pe_int (pa_cons pe_int (pa_cons pe_int (pa_cons pe_int (pa_cons pe_int (pa_cons pe_int pa_nil))))))) (pe_call (ok_l_pick T (k := k + 2)) hr (by rfl) T.g_l_pick T.F_l_pick.kp T.b_l_pick .nil pass0 (pa_cons (pv 0) (pa_cons pe_int pa_nil))) (fun _ _ => rfl)) pa_nil))) pa_nil))))
      (pss_cons (ps_set (i := 2) sc_l_line.nd rfl (.inl rfl) (pe_op op_sub (pe_op op_sub (pe_ix (ix_tupK K) (pe_ix (ix_listK K) (pv 1) (pe_call (ok_l_pick T (k := k + 2)) hr (by rfl) T.g_l_pick T.F_l_pick.kp T.b_l_pick .nil pass0 (pa_cons (pv 0) (pa_cons (pe_callB (len_K K) (by rfl) T.z_len PySem.boot_len (pa_cons (pv 1) pa_nil)) pa_nil))) (fun _ _ => rfl)) pe_int (fun _ _ => rfl)) (pe_call (ok_l_pick T (k := k + 2)) hr (by rfl) T.g_l_pick T.F_l_pick.kp T.b_l_pick .nil pass0 (pa_cons (pv 0) (pa_cons pe_int pa_nil)))) (pe_op op_mul pe_int (pe_callTy call_int1 (by rfl) T.z_int (by decide +kernel) (pa_cons (pe_cmpR op_eq (pe_call (ok_l_pick T (k := k + 2)) hr (by rfl) T.g_l_pick T.F_l_pick.kp T.b_l_pick .nil pass0 (pa_cons (pv 0) (pa_cons pe_int pa_nil))) pe_int (nomark _)) pa_nil)))))
      (pss_one (ps_ret (pe_tup (pa_cons (pv 1) (pa_cons (pv 2) (pa_cons (pe_op op_add (pv 2) (pe_ix (ix_listK K) (pe_lst (pa_cons pe_int (pa_cons pe_int (pa_cons pe_int (pa_cons (pe_call (ok_l_pick T (k := k + 2)) hr (by rfl) T.g_l_pick T.F_l_pick.kp T.b_l_pick .nil pass0 (pa_cons (pv 0) (pa_cons pe_int pa_nil))) pa_nil))))) (pe_call (ok_l_pick T (k := k + 2)) hr (by rfl) T.g_l_pick T.F_l_pick.kp T.b_l_pick .nil pass0 (pa_cons (pv 0) (pa_cons pe_int pa_nil))) (fun _ _ => rfl))) pa_nil)))))))), ?_⟩
    refine ⟨_, rfl, (by show 6 ≤ sizeLine; decide), fun p hp => ?_⟩
    refine ⟨_, rfl, L, 6, n, rfl, hL.new hp, by omega, by decide, by decide, fun r1 H1 g1 l1 a1 b1 => ?_⟩
    have e1 : H1 p = some (.lst ([4, 12, 40, 256, 1000, 90].map V.int)) := g1.k p _ (hL.bk.ne hp) upd_same
    obtain ⟨sp, ms, es⟩ := at_int (ns := [4, 12, 40, 256, 1000, 90]) a1 b1
    refine ⟨p, _, r1, .int sp, rfl, rfl, SqL.of e1, es, (by show 2 ≤ sizeLine; decide), fun kt hkt => ?_⟩
    simp at ms
    refine ⟨L, n + 1, .ref kt, 1, sp, rfl, l1.new hkt, by omega, Dt.ofCol (l1.bk.ne hkt) upd_same, by omega, by omega, by omega, by omega, fun pl H2 cs g2 l2 d2 c0 c1 cok => ?_⟩
    obtain ⟨pa, vs, rfl, np, ep, hA⟩ := d2.pal
    have lv := hA.len
    rw [List.length_map] at lv
    have gH : Go [L] H H2 := (((Go.new hp).trans g1).trans (Go.new hkt)).trans g2
    refine ⟨_, rfl, _, rfl, _, rfl, pa, _, rfl, .inl (SqL.of ep), L, _, n + 1001, rfl, l2, by omega, by omega, by omega, fun r3 H3 g3 l3 a3 b3 => ?_⟩
    have ep3 := g3.k pa _ np ep
    have hA3 := hA.g g3
    have i3 : r3.toNat < cs.length := by omega
    obtain ⟨v3, f3, d3⟩ := hA3.get (i := r3.toNat) (d := eC cs[r3.toNat]) (by rw [List.getElem?_map, List.getElem?_eq_getElem i3]; rfl)
    have o3 := cok _ (List.getElem_mem i3)
    generalize cs[r3.toNat] = x3 at *
    obtain ⟨z3, rfl⟩ : ∃ z, x3 = [z] := by
      match x3, o3.1 with
      | [z], _ => exact ⟨z, rfl⟩
    have z3b := o3.2 z3 (by simp)
    obtain ⟨ta, rfl, _, u3⟩ := d3.col
    refine ⟨pa, _, _, _, rfl, rfl, SqL.of ep3, at0 a3 f3, ta, _, 0, .int z3, rfl, rfl, SqT.of u3, rfl, ?_⟩
    refine ⟨_, rfl, L, 60, n + 1002, rfl, l3, by omega, by decide, by decide, fun r4 H4 g4 l4 a4 b4 => ?_⟩
    refine ⟨_, _, rfl, rfl, _, rfl, L, 8, n + 1003, rfl, l4, by omega, by decide, by decide, fun r5 H5 g5 l5 a5 b5 => ?_⟩
    refine ⟨rfl, .inr ⟨_, rfl, _, _, rfl, rfl, .inl ⟨by decide, by decide⟩, _, _, rfl, rfl, ?_⟩⟩
    have hb := bit_01 (decide (V.int r5 = V.int 0))
    generalize (if decide (V.int r5 = V.int 0) = true then (1 : Int) else 0) = bit at *
    refine ⟨_, rfl, _, rfl, _, rfl, _, rfl, L, 100, n + 1004, rfl, l5, by omega, by decide, by decide, fun r6 H6 g6 l6 a6 b6 => ?_⟩
    refine ⟨(by show 4 ≤ sizeLine; decide), fun p7 hp7 => ?_⟩
    refine ⟨_, rfl, L, 4, n + 1005, rfl, l6.new hp7, by omega, by decide, by decide, fun r7 H7 g7 l7 a7 b7 => ?_⟩
    have e7 : H7 p7 = some (.lst ([0, 1, 90, r6].map V.int)) := g7.k p7 _ (l6.bk.ne hp7) upd_same
    obtain ⟨z7, m7, f7⟩ := at_int (ns := [0, 1, 90, r6]) a7 b7
    refine ⟨p7, _, r7, .int z7, rfl, rfl, SqL.of e7, f7, _, _, rfl, rfl, (by show 3 ≤ sizeLine; decide), fun t ht => ?_⟩
    have m7' : 0 ≤ z7 ∧ z7 ≤ 99 := by
      simp at m7
      omega
    have g27 : Go [L] H2 (upd H7 t (.tup [.ref pa, .int (z3 - r4 - 900 * bit), .int (z3 - r4 - 900 * bit + z7)])) := ((((((g3.trans g4).trans g5).trans g6).trans (Go.new hp7)).trans g7)).trans (Go.new ht)
    exact q t pa _ cs _ _ (gH.trans g27) ((l7.new ht).mono (by omega)) upd_same (d2.g g27) c0 c1 cok (by omega) (by omega) (by omega) (by omega)
/-! ### a table of as few rows as there can be -/
theorem bq_lt {qs : List (Int × Int)} (u : Up qs) {i : Nat} (h : i + 2 < qs.length) : bq qs i < bq qs (i + 1) := by
  have h1 := u i (by omega)
  have h2 := u (i + 1) (by omega)
  unfold bq bb
  split <;> split <;> omega
def Row (cs : List (List Int)) (low high n : Int) (i : Nat) : Prop := low ≤ n ∧ n ≤ high ∧ near cs [n] i ∧ (n = low ∨ ¬ near cs [n - 1] i)
theorem up_lt {qs : List (Int × Int)} (u : Up qs) {i : Nat} : ∀ {j : Nat}, i < j → j < qs.length → (at2q qs i).1 < (at2q qs j).1
  | 0, h, _ => by omega
  | j + 1, h, hj => by
    have h1 := u j hj
    by_cases e : i = j
    · subst e; exact h1
    · exact Int.lt_trans (up_lt u (j := j) (by omega) (by omega)) h1
theorem num_ne {cs : List (List Int)} {qs : List (Int × Int)} (F : Fst cs qs) {i j : Nat} (h : i < j) (hj : j < qs.length) : (at2q qs i).2 ≠ (at2q qs j).2 := fun e => by
  obtain ⟨a, a1, a2⟩ := F.own _ (at2q_mem (show i < qs.length by omega))
  obtain ⟨b, b1, b2⟩ := F.own _ (at2q_mem hj)
  have : a = b := by omega
  subst this
  rw [a2] at b2
  have e2 := List.cons.inj (Option.some.inj b2)
  have := up_lt F.up h hj
  omega
theorem bq_low {qs : List (Int × Int)} (u : Up qs) {i j : Nat} (h : i < j) (hj : j + 1 < qs.length) : bq qs i < bq qs j := by
  have h1 := bq_mono u (i := i) (j := j - 1) (by omega) (by omega)
  have h2 := bq_lt u (i := j - 1) (by omega)
  rw [show j - 1 + 1 = j by omega] at h2
  omega
/-- where a begin stands -/
theorem tn_at {qs : List (Int × Int)} (u : Up qs) {j : Nat} (h : j + 1 < qs.length) : Tn qs (bq qs j) (j + 1) := by
  refine ⟨h, fun i hi => bq_mono u (by omega) h, fun i hi hi2 => bq_low u (by omega) hi2⟩
theorem tn_pre {qs : List (Int × Int)} (u : Up qs) {j : Nat} (h : j + 1 < qs.length) : Tn qs (bq qs j - 1) j := by
  refine ⟨by omega, fun i hi => ?_, fun i hi hi2 => ?_⟩
  · have := bq_low u hi h
    omega
  · have := bq_mono u hi hi2
    omega
theorem begin_num {cs : List (List Int)} {qs : List (Int × Int)} (F : Fst cs qs) (h1 : ∀ c ∈ cs, c.length = 1) {j : Nat} (h : j + 1 < qs.length) :
    ∃ i : Nat, (at2q qs (j + 1)).2 = (i : Int) ∧ near cs [bq qs j] i ∧ ¬ near cs [bq qs j - 1] i := by
  obtain ⟨i, e, n⟩ := tn_near F h1 (tn_at F.up h)
  obtain ⟨i', e', n'⟩ := tn_near F h1 (tn_pre F.up h)
  refine ⟨i, e, n, fun z => ?_⟩
  have := near_one z n'
  have := num_ne F (show j < j + 1 by omega) h
  omega
/-- the nearest changes at begins only -/
theorem chg {cs : List (List Int)} {qs : List (Int × Int)} (F : Fst cs qs) (h1 : ∀ c ∈ cs, c.length = 1) {n : Int} {i : Nat} (hn : near cs [n] i) (hp : ¬ near cs [n - 1] i) : ∃ j, j + 1 < qs.length ∧ n = bq qs j := by
  obtain ⟨t, T⟩ := tn_ex F.up F.pos n
  obtain ⟨r, R⟩ := tn_ex F.up F.pos (n - 1)
  obtain ⟨x, ex, nx⟩ := tn_near F h1 T
  obtain ⟨y, ey, ny⟩ := tn_near F h1 R
  have rt := tn_mono (by omega) R T
  by_cases e : r = t
  · subst e
    have a := near_one hn nx
    have : x = y := by omega
    subst this
    subst a
    exact absurd ny hp
  · have l := T.1
    have a := T.2.1 r (by omega)
    have b := R.2.2 r (Nat.le_refl _) (by omega)
    exact ⟨r, by omega, by omega⟩
theorem rows_mem {cs : List (List Int)} {qs : List (Int × Int)} (F : Fst cs qs) (h1 : ∀ c ∈ cs, c.length = 1) {low high : Int} {i0 : Nat} (hi0 : near cs [low] i0) (hl : low ≤ high) (n z : Int) :
    (n, z) ∈ rowsOf qs low high (i0 : Int) ↔ ∃ i : Nat, z = (i : Int) ∧ Row cs low high n i := by
  unfold rowsOf
  rw [List.mem_cons, List.mem_filterMap]
  constructor
  · rintro (h | ⟨j, hj, h⟩)
    · cases h
      exact ⟨i0, rfl, Int.le_refl _, hl, hi0, .inl rfl⟩
    · have hj2 : j + 1 < qs.length := by have := List.mem_range.mp hj; omega
      unfold rowF at h
      by_cases c : low < bq qs j ∧ bq qs j ≤ high
      · rw [if_pos c] at h
        cases h
        obtain ⟨i, e, a, b⟩ := begin_num F h1 hj2
        exact ⟨i, e, by omega, c.2, a, .inr b⟩
      · rw [if_neg c] at h
        cases h
  · rintro ⟨i, rfl, a, b, c, d⟩
    by_cases e : n = low
    · subst e
      left
      rw [near_one c hi0]
    · right
      have d' : ¬ near cs [n - 1] i := d.resolve_left e
      obtain ⟨j, hj, rfl⟩ := chg F h1 c d'
      refine ⟨j, List.mem_range.mpr (by omega), ?_⟩
      obtain ⟨i', e', a', b'⟩ := begin_num F h1 hj
      have : i = i' := near_one c a'
      subst this
      unfold rowF
      rw [if_pos ⟨by omega, b⟩, e']
theorem rows_up {cs : List (List Int)} {qs : List (Int × Int)} (F : Fst cs qs) (low high i0 : Int) : (rowsOf qs low high i0).Pairwise (fun a b => a.1 < b.1) := by
  unfold rowsOf
  refine List.pairwise_cons.mpr ⟨fun r hr => ?_, ?_⟩
  · obtain ⟨j, hj, h⟩ := List.mem_filterMap.mp hr
    unfold rowF at h
    by_cases c : low < bq qs j ∧ bq qs j ≤ high
    · rw [if_pos c] at h
      cases h
      exact c.1
    · rw [if_neg c] at h
      cases h
  · refine List.Pairwise.filterMap (R := fun i j : Nat => i < j ∧ j < qs.length - 1) _ (fun i j hij b hb c hc => ?_) ?_
    · unfold rowF at hb hc
      by_cases d1 : low < bq qs i ∧ bq qs i ≤ high
      · by_cases d2 : low < bq qs j ∧ bq qs j ≤ high
        · rw [if_pos d1] at hb
          rw [if_pos d2] at hc
          cases hb
          cases hc
          exact bq_low F.up hij.1 (by omega)
        · rw [if_neg d2] at hc
          cases hc
      · rw [if_neg d1] at hb
        cases hb
    · have := List.pairwise_lt_range (n := qs.length - 1)
      refine List.Pairwise.imp_of_mem (fun {a b} _ hb h => ⟨h, List.mem_range.mp hb⟩) this
theorem rows_uniq : ∀ {xs ys : List (Int × Int)}, xs.Pairwise (fun a b => a.1 < b.1) → ys.Pairwise (fun a b => a.1 < b.1) → (∀ p, p ∈ xs ↔ p ∈ ys) → xs = ys
  | [], [], _, _, _ => rfl
  | [], y :: ys, _, _, h => nomatch (h y).mpr (List.mem_cons_self ..)
  | x :: xs, [], _, _, h => nomatch (h x).mp (List.mem_cons_self ..)
  | x :: xs, y :: ys, hx, hy, h => by
    obtain ⟨x1, x2⟩ := List.pairwise_cons.mp hx
    obtain ⟨y1, y2⟩ := List.pairwise_cons.mp hy
    have e : x = y := by
      rcases List.mem_cons.mp ((h x).mp (List.mem_cons_self ..)) with a | a
      · exact a
      · rcases List.mem_cons.mp ((h y).mpr (List.mem_cons_self ..)) with b | b
        · exact b.symm
        · have := y1 _ a
          have := x1 _ b
          omega
    subst e
    rw [rows_uniq x2 y2 fun p => ?_]
    constructor
    · intro hp
      rcases List.mem_cons.mp ((h p).mp (List.mem_cons_of_mem _ hp)) with a | a
      · have := x1 _ hp
        rw [a] at this
        omega
      · exact a
    · intro hp
      rcases List.mem_cons.mp ((h p).mpr (List.mem_cons_of_mem _ hp)) with a | a
      · have := y1 _ hp
        rw [a] at this
        omega
      · exact a
/-- two places beside each other stand so among all values, too -/
theorem vals_adj {qs : List (Int × Int)} (u : Up qs) {vs : List Int} (hs : vs.Pairwise (· ≤ ·)) (hm : ∀ x, x ∈ vs ↔ ∃ q ∈ qs, q.1 = x) {j : Nat} (hj : j + 1 < qs.length) :
    ∃ m, vs[m]? = some (at2q qs j).1 ∧ vs[m + 1]? = some (at2q qs (j + 1)).1 := by
  have lt := u j hj
  have no : ∀ x ∈ vs, x ≤ (at2q qs j).1 ∨ (at2q qs (j + 1)).1 ≤ x := fun x hx => by
    obtain ⟨q, hq, e⟩ := (hm x).mp hx
    obtain ⟨t, ht, et⟩ := List.mem_iff_getElem.mp hq
    have eq : at2q qs t = q := by
      unfold at2q
      rw [List.getD_eq_getElem?_getD, List.getElem?_eq_getElem ht, et]
      rfl
    rw [← e, ← eq]
    by_cases c : t < j
    · left
      have := up_lt u c (by omega)
      omega
    · by_cases c2 : t = j
      · left; rw [c2]; exact Int.le_refl _
      · right
        by_cases c3 : t = j + 1
        · rw [c3]; exact Int.le_refl _
        · have := up_lt u (i := j + 1) (j := t) (by omega) ht
          omega
  have ma : (at2q qs j).1 ∈ vs := (hm _).mpr ⟨_, at2q_mem (by omega), rfl⟩
  have mb : (at2q qs (j + 1)).1 ∈ vs := (hm _).mpr ⟨_, at2q_mem hj, rfl⟩
  generalize (at2q qs j).1 = a at *
  generalize (at2q qs (j + 1)).1 = b at *
  clear hm
  induction vs with
  | nil => cases ma
  | cons v r ih =>
    obtain ⟨h1, h2⟩ := List.pairwise_cons.mp hs
    by_cases ca : a ∈ r
    · obtain ⟨m, e1, e2⟩ := ih h2 ca (by
        rcases List.mem_cons.mp mb with e | e
        · have := h1 a ca
          omega
        · exact e) (fun x hx => no x (List.mem_cons_of_mem _ hx))
      exact ⟨m + 1, e1, e2⟩
    · have ea : a = v := by
        rcases List.mem_cons.mp ma with e | e
        · exact e
        · exact absurd e ca
      subst ea
      have mb2 : b ∈ r := by
        rcases List.mem_cons.mp mb with e | e
        · omega
        · exact e
      refine ⟨0, rfl, ?_⟩
      match r, h2, mb2, ca, no, h1 with
      | w :: r', h2, mb2, ca, no, h1 =>
        have ww := no w (by simp)
        have w1 := h1 w (by simp)
        have : w ≠ a := fun e => ca (by rw [e]; simp)
        have wb : w ≤ b := by
          rcases List.mem_cons.mp mb2 with e | e
          · omega
          · exact (List.pairwise_cons.mp h2).1 b e
        show some w = some b
        congr 1
        omega
/-- the walk over the spots -/
def dueI (cs : List (List Int)) (low high : Int) (ss : List Int) (i : Nat) (rs : List (Int × Int)) : Prop :=
  (rs = [] ∧ ∀ x ∈ ss.take i, ¬ (low ≤ x ∧ x ≤ high)) ∨
  ∃ (c : Int) (ic : Nat), c ∈ ss.take i ∧ low ≤ c ∧ c ≤ high ∧ (∀ x ∈ ss.take i, x ≤ high → x ≤ c) ∧ near cs [c] ic ∧ rs ≠ [] ∧ (rs.getLastD (0, 0)).2 = (ic : Int) ∧ rs.Pairwise (fun a b => a.1 < b.1) ∧
    ∀ n z, (n, z) ∈ rs ↔ n ≤ c ∧ ∃ j : Nat, z = (j : Int) ∧ Row cs low high n j
def dueS (low high n z : Int) (rs : List (Int × Int)) : List (Int × Int) := if (low ≤ n ∧ n ≤ high) ∧ (rs = [] ∨ (rs.getLastD (0, 0)).2 ≠ z) then rs ++ [(n, z)] else rs
theorem take_mem {ss : List Int} {i : Nat} {n x : Int} (hn : ss[i]? = some n) : x ∈ ss.take (i + 1) ↔ x ∈ ss.take i ∨ x = n := by
  rw [List.take_add_one, hn, List.mem_append]
  simp
theorem take_le {ss : List Int} (hs : ss.Pairwise (· ≤ ·)) {i : Nat} {n x : Int} (hn : ss[i]? = some n) (hx : x ∈ ss.take i) : x ≤ n := by
  obtain ⟨hi, e⟩ := List.getElem?_eq_some_iff.mp hn
  obtain ⟨j, hj, ej⟩ := List.mem_iff_getElem.mp hx
  rw [List.length_take] at hj
  rw [List.getElem_take] at ej
  have := List.pairwise_iff_getElem.mp hs j i (by omega) hi (by omega)
  omega
theorem drop_ge {ss : List Int} (hs : ss.Pairwise (· ≤ ·)) {i : Nat} {n x : Int} (hn : ss[i]? = some n) (hx : x ∈ ss) (hn2 : x ∉ ss.take i) : n ≤ x := by
  obtain ⟨hi, e⟩ := List.getElem?_eq_some_iff.mp hn
  obtain ⟨j, hj, ej⟩ := List.mem_iff_getElem.mp hx
  have ij : i ≤ j := by
    rcases Nat.lt_or_ge j i with c | c
    · exfalso
      refine hn2 (List.mem_iff_getElem.mpr ⟨j, by rw [List.length_take]; omega, ?_⟩)
      rw [List.getElem_take]
      exact ej
    · exact c
  by_cases e2 : i = j
  · subst e2; omega
  · have := List.pairwise_iff_getElem.mp hs i j hi hj (by omega)
    omega
/-- no change where there is no spot -/
theorem flat {cs : List (List Int)} {qs : List (Int × Int)} (F : Fst cs qs) (h1 : ∀ c ∈ cs, c.length = 1) {ss : List Int} (hb : ∀ j, j + 1 < qs.length → bq qs j ∈ ss) {c : Int} {ic : Nat} (hc : near cs [c] ic) : ∀ d : Nat, (∀ x ∈ ss, x ≤ c ∨ c + d < x) → near cs [c + (d : Int)] ic
  | 0, _ => by simpa using hc
  | d + 1, h => by
    have ih := flat F h1 hb hc d (fun x hx => by have := h x hx; omega)
    obtain ⟨t, Tt⟩ := tn_ex F.up F.pos (c + ((d + 1 : Nat) : Int))
    obtain ⟨y, _, ny⟩ := tn_near F h1 Tt
    by_cases e : near cs [c + ((d + 1 : Nat) : Int) - 1] y
    · rw [show c + ((d + 1 : Nat) : Int) - 1 = c + (d : Int) by omega] at e
      rw [near_one ih e]
      exact ny
    · obtain ⟨j, hj, ej⟩ := chg F h1 ny e
      have := h _ (hb j hj)
      omega
theorem getLast_app {rs : List (Int × Int)} {p : Int × Int} : (rs ++ [p]).getLastD (0, 0) = p := by
  rw [List.getLastD_eq_getLast?, List.getLast?_append]
  rfl
theorem dueI_step {cs : List (List Int)} {qs : List (Int × Int)} (F : Fst cs qs) (h1 : ∀ c ∈ cs, c.length = 1) {low high : Int} {ss : List Int} (hs : ss.Pairwise (· ≤ ·)) (hl : low ∈ ss) (hb : ∀ j, j + 1 < qs.length → bq qs j ∈ ss)
    {i : Nat} {n : Int} (hn : ss[i]? = some n) {rs : List (Int × Int)} (h : dueI cs low high ss i rs) {z : Nat} (hz : near cs [n] z) : dueI cs low high ss (i + 1) (dueS low high n (z : Int) rs) := by
  have nm : n ∈ ss := List.mem_of_getElem? hn
  unfold dueS
  rcases h with ⟨rfl, h2⟩ | ⟨c, ic, c1, c2, c3, c4, c5, c6, c7, c8, c9⟩
  · by_cases r : low ≤ n ∧ n ≤ high
    · rw [if_pos ⟨r, .inl rfl⟩]
      have lt : low ∉ ss.take i := fun m => h2 low m ⟨Int.le_refl _, by omega⟩
      have ge := drop_ge hs hn hl lt
      have en : n = low := by omega
      subst en
      right
      refine ⟨n, z, (take_mem hn).mpr (.inr rfl), Int.le_refl _, r.2, fun x hx hxh => ?_, hz, by simp, rfl, by simp, fun m y => ?_⟩
      · rcases (take_mem hn).mp hx with a | a
        · exact take_le hs hn a
        · omega
      · rw [List.nil_append, List.mem_singleton]
        constructor
        · intro e
          cases e
          exact ⟨Int.le_refl _, z, rfl, Int.le_refl _, r.2, hz, .inl rfl⟩
        · rintro ⟨a, j, rfl, b, _, d, _⟩
          have : m = n := by omega
          subst this
          rw [near_one d hz]
    · rw [if_neg (fun q => r q.1)]
      left
      refine ⟨rfl, fun x hx => ?_⟩
      rcases (take_mem hn).mp hx with a | a
      · exact h2 x a
      · rw [a]; exact r
  · have cn : c ≤ n := take_le hs hn c1
    by_cases r : low ≤ n ∧ n ≤ high
    · -- all spots are at most c, or at least n
      have gap : ∀ x ∈ ss, x ≤ c ∨ n ≤ x := fun x hx => by
        by_cases m : x ∈ ss.take i
        · have := take_le hs hn m
          exact .inl (c4 x m (by omega))
        · exact .inr (drop_ge hs hn hx m)
      have pre : c < n → near cs [n - 1] ic := fun l => by
        have := flat F h1 hb c5 (n - 1 - c).toNat (fun x hx => by have := gap x hx; omega)
        rwa [show c + ((n - 1 - c).toNat : Int) = n - 1 by omega] at this
      have top : ∀ x ∈ ss.take (i + 1), x ≤ high → x ≤ n := fun x hx _ => by
        rcases (take_mem hn).mp hx with a | a
        · exact take_le hs hn a
        · omega
      -- between c and n no row begins
      have btw : ∀ m j, c < m → m < n → ¬ Row cs low high m j := fun m j a b q => by
        have q4 := q.2.2.2.resolve_left (by omega)
        obtain ⟨x, hx, ex⟩ := chg F h1 q.2.2.1 q4
        have := gap _ (hb x hx)
        omega
      by_cases e : ic = z
      · subst e
        rw [if_neg (fun q => by
          rcases q.2 with a | a
          · exact c6 a
          · exact a c7)]
        right
        refine ⟨n, ic, (take_mem hn).mpr (.inr rfl), r.1, r.2, top, hz, c6, c7, c8, fun m y => ?_⟩
        rw [c9]
        constructor
        · rintro ⟨a, b⟩
          exact ⟨by omega, b⟩
        · rintro ⟨a, j, rfl, b⟩
          refine ⟨?_, j, rfl, b⟩
          rcases Int.lt_or_le c m with g | g
          · exfalso
            by_cases e2 : m = n
            · subst e2
              have q4 := b.2.2.2.resolve_left (by omega)
              have := near_one b.2.2.1 hz
              subst this
              exact q4 (pre g)
            · exact btw m j g (by omega) b
          · exact g
      · have cn2 : c < n := by
          rcases Int.lt_or_le c n with g | g
          · exact g
          · have : c = n := by omega
            subst this
            exact absurd (near_one c5 hz) e
        have rw1 : Row cs low high n z := ⟨r.1, r.2, hz, .inr (fun q => e (near_one (pre cn2) q))⟩
        rw [if_pos ⟨r, .inr (by rw [c7]; omega)⟩]
        right
        refine ⟨n, z, (take_mem hn).mpr (.inr rfl), r.1, r.2, top, hz, by simp, by rw [getLast_app], ?_, fun m y => ?_⟩
        · refine List.pairwise_append.mpr ⟨c8, by simp, fun a ha b hb2 => ?_⟩
          rw [List.mem_singleton.mp hb2]
          have := ((c9 a.1 a.2).mp ha).1
          show a.1 < n
          omega
        · rw [List.mem_append, c9, List.mem_singleton]
          constructor
          · rintro (⟨a, b⟩ | a)
            · exact ⟨by omega, b⟩
            · cases a
              exact ⟨Int.le_refl _, z, rfl, rw1⟩
          · rintro ⟨a, j, rfl, b⟩
            rcases Int.lt_or_le c m with g | g
            · right
              by_cases e2 : m = n
              · subst e2
                rw [near_one b.2.2.1 hz]
              · exact absurd b (btw m j g (by omega))
            · exact .inl ⟨g, j, rfl, b⟩
    · rw [if_neg (fun q => r q.1)]
      right
      refine ⟨c, ic, (take_mem hn).mpr (.inl c1), c2, c3, fun x hx hxh => ?_, c5, c6, c7, c8, c9⟩
      rcases (take_mem hn).mp hx with a | a
      · exact c4 x a hxh
      · omega
theorem due_end {cs : List (List Int)} {qs : List (Int × Int)} (F : Fst cs qs) (h1 : ∀ c ∈ cs, c.length = 1) {low high : Int} (hlh : low ≤ high) {ss : List Int} (hl : low ∈ ss) (hb : ∀ j, j + 1 < qs.length → bq qs j ∈ ss)
    {i0 : Nat} (hi0 : near cs [low] i0) {rs : List (Int × Int)} (h : dueI cs low high ss ss.length rs) : rs = rowsOf qs low high (i0 : Int) := by
  unfold dueI at h
  rw [List.take_length] at h
  rcases h with ⟨_, h2⟩ | ⟨c, ic, c1, c2, c3, c4, c5, c6, c7, c8, c9⟩
  · exact absurd ⟨Int.le_refl _, hlh⟩ (h2 low hl)
  · refine rows_uniq c8 (rows_up F low high i0) fun p => ?_
    have e1 := c9 p.1 p.2
    have e2 := rows_mem F h1 hi0 hlh p.1 p.2
    rw [show p = (p.1, p.2) from rfl, e1, e2]
    constructor
    · exact fun a => a.2
    · rintro ⟨j, ej, b⟩
      refine ⟨?_, j, ej, b⟩
      rcases Int.lt_or_le c p.1 with g | g
      · have q4 := b.2.2.2.resolve_left (by omega)
        obtain ⟨x, hx, ex⟩ := chg F h1 b.2.2.1 q4
        exact c4 _ (by rw [ex]; exact hb x hx) b.2.1
      · exact g
/-! ### the rows that are due -/
theorem fst_ex {cs : List (List Int)} (h0 : 0 < cs.length) (h1 : ∀ c ∈ cs, c.length = 1) : ∃ qs, Fst cs qs := by
  refine ⟨_, fp_fst (List.mergeSort_perm (pps cs) (fun a b => !SrtO.lexB b a)) ?_ h0 h1⟩
  have := List.pairwise_mergeSort (le := fun a b : Int × Int => !SrtO.lexB b a) (fun a b c h1 h2 => ?_) (fun a b => ?_) (pps cs)
  · refine this.imp fun {a b} h => ?_
    simpa using h
  · simp only [Bool.not_eq_true'] at h1 h2 ⊢
    have x := SrtO.lexB_no.mp h1
    have y := SrtO.lexB_no.mp h2
    exact SrtO.lexB_no.mpr (by omega)
  · simp only [Bool.or_eq_true, Bool.not_eq_true']
    by_cases c : SrtO.lexB b a = true
    · right
      have := SrtO.lexB_iff.mp c
      exact SrtO.lexB_no.mpr (by omega)
    · left
      exact Bool.eq_false_iff.mpr c
def vat (vs : List Int) (i : Nat) : Int := vs.getD i 0
def spo (vs : List Int) (i : Nat) : List Int := (List.range i).flatMap fun j => [(vat vs j + vat vs (j + 1)) / 2, (vat vs j + vat vs (j + 1)) / 2 + 1]
theorem spo_len (vs : List Int) : ∀ i, (spo vs i).length = 2 * i
  | 0 => rfl
  | i + 1 => by
    have := spo_len vs i
    unfold spo at this ⊢
    rw [List.range_succ, List.flatMap_append, List.length_append, this]
    simp
    omega
theorem spo_has {cs : List (List Int)} {qs : List (Int × Int)} (F : Fst cs qs) (h1 : ∀ c ∈ cs, c.length = 1) {vs : List Int} (hp : vs.Perm (cs.map fun c => c.headD 0)) (hs : vs.Pairwise (· ≤ ·)) {j : Nat} (hj : j + 1 < qs.length) : bq qs j ∈ spo vs (vs.length - 1) := by
  have hd : ∀ c : List Int, c.length = 1 → c = [c.headD 0] := fun c hc => by
    match c, hc with
    | [x], _ => rfl
  have hm : ∀ x, x ∈ vs ↔ ∃ q ∈ qs, q.1 = x := fun x => by
    rw [hp.mem_iff, List.mem_map]
    constructor
    · rintro ⟨c, hc, rfl⟩
      obtain ⟨i, hi, e⟩ := List.mem_iff_getElem.mp hc
      obtain ⟨q, hq, a, _⟩ := F.all i (c.headD 0) (by rw [List.getElem?_eq_getElem hi, e]; exact congrArg some (hd c (h1 c hc)))
      exact ⟨q, hq, a⟩
    · rintro ⟨q, hq, rfl⟩
      obtain ⟨i, _, e⟩ := F.own q hq
      exact ⟨_, List.mem_of_getElem? e, rfl⟩
  obtain ⟨m, e1, e2⟩ := vals_adj F.up hs hm hj
  have hml := (List.getElem?_eq_some_iff.mp e2).1
  refine List.mem_flatMap.mpr ⟨m, List.mem_range.mpr (by omega), ?_⟩
  have f1 : vat vs m = (at2q qs j).1 := by unfold vat; rw [List.getD_eq_getElem?_getD, e1]; rfl
  have f2 : vat vs (m + 1) = (at2q qs (j + 1)).1 := by unfold vat; rw [List.getD_eq_getElem?_getD, e2]; rfl
  rw [f1, f2]
  unfold bq bb
  split <;> simp
theorem vat_in {vs : List Int} (h : ∀ y ∈ vs, 0 ≤ y ∧ y ≤ 999) (i : Nat) : 0 ≤ vat vs i ∧ vat vs i ≤ 999 := by
  unfold vat
  rw [List.getD_eq_getElem?_getD]
  cases e : vs[i]? with
  | none => exact ⟨by decide, by decide⟩
  | some y => exact h y (List.mem_of_getElem? e)
theorem spo_in {vs : List Int} (h : ∀ y ∈ vs, 0 ≤ y ∧ y ≤ 999) {i : Nat} {x : Int} (hx : x ∈ spo vs i) : 0 ≤ x ∧ x ≤ 1000 := by
  obtain ⟨j, _, e⟩ := List.mem_flatMap.mp hx
  have a := vat_in h j
  have b := vat_in h (j + 1)
  simp at e
  omega
def spDue : Sp := fun vs H Q _ => ∃ (B : List Addr) (pl : V) (cs : List (List Int)) (low high : Int), vs = [pl, .int low, .int high] ∧ Dt B H pl (eP cs) ∧ Bk B H ∧ wOk cs ∧ -10000000 ≤ low ∧ low ≤ 10000000 ∧ low ≤ high ∧
  ∀ v H' (rs : List (Int × Int)), Same H H' → Dt B H' v (eR rs) → (∀ (qs : List (Int × Int)) (i0 : Nat), Fst cs qs → near cs [low] i0 → rs = rowsOf qs low high (i0 : Int)) → rs.length ≤ 1000 → Q v H'
theorem ok_l_rows_due (T : Tx K mg) {k : Nat} : FnOk P w K mg base CX0 (k + 3) T.f_l_rows_due T.d_l_rows_due ["_law_palette_here", "_law_low", "_law_high"] spDue := by
  refine T.F_l_rows_due.ok sc_l_rows_due (fun vs H Q E h => ?_) (fun cdv A outer s H vs Q E hr h => ?_)
  · obtain ⟨B, pl, cs, low, high, rfl, _⟩ := h
    rfl
  · obtain ⟨B, pl, cs, low, high, rfl, hp, hB, wo, w1, w2, w3, q⟩ := h
    have hp0 := hp
    have c1' : ∀ c ∈ cs, c.length = 1 := fun c hc => (wo.2.2 c hc).1
    obtain ⟨fq, Fq⟩ := fst_ex wo.1 c1'
    obtain ⟨pa, vs, rfl, np, ep, hA⟩ := hp.pal
    have lv := hA.len
    rw [List.length_map] at lv
    have lc := wo.2.1
    refine ⟨_, (pss_cons (ps_set (i := 3) sc_l_rows_due.nd rfl (.inl rfl) (pe_callB (cr_sortedIK K) (by rfl) T.z_sorted (by decide +kernel) (pa_cons (pe_lc (own := [("_law_colour_here", 10)]) (by rfl) sc_l_rows_due.nd (pi_listK K (pv 0)) (blkOk_by (own := [("_law_colour_here", 10)]) (N := N_l_rows_due) (sc := defScope s_l_rows_due) (by decide +kernel)) (fun _ _ _ _ _ => (pg_name (i := 10) sc_l_rows_due.nd rfl (.inl rfl))) (fun _ _ _ _ _ => pts_nil) (fun _ _ _ _ _ => (pe_ix (ix_tupK K) (pv 10) pe_int (fun _ _ => rfl)))) pa_nil)))
      (pss_cons (ps_set (i := 4) sc_l_rows_due.nd rfl (.inl rfl) (pe_lst (pa_cons (pv 1) pa_nil)))
      (pss_cons (ps_for PassesOwn.never rfl (RZ.pi_zipA (by rfl) T.z_zip (pa_cons (pv 3) (pa_cons (pe_slice (sl_listK K) (pv 3) (po_some pe_int) po_none) pa_nil))) (pg_tupK K (n := 2) rfl (pgs_cons (pg_name (i := 5) sc_l_rows_due.nd rfl (.inl rfl)) (pgs_cons (pg_name (i := 6) sc_l_rows_due.nd rfl (.inl rfl)) pgs_nil))) (pss_one (ps_expr (pe_bm PySem.F.plainAttrs_list PySem.F.slot_list_extend PySem.F.type_list_extend mt_extend (pv 4) (pa_cons (pe_lst (pa_cons (pe_op op_fdiv (pe_op op_add (pv 5) (pv 6)) pe_int) (pa_cons (pe_op op_add (pe_op op_fdiv (pe_op op_add (pv 5) (pv 6)) pe_int) pe_int) pa_nil))) pa_nil)))))
      (pss_cons (ps_set (i := 7) sc_l_rows_due.nd rfl (.inl rfl) (pe_lst pa_nil))
      (pss_cons (ps_for PassesOwn.never rfl (pi_listK K (pe_callB (cr_sortedIK K) (by rfl) T.z_sorted (by decide +kernel) (pa_cons (pv 4) pa_nil))) (pg_name (i := 8) sc_l_rows_due.nd rfl (.inl rfl)) (pss_cons (ps_set (i := 9) sc_l_rows_due.nd rfl (.inl rfl) (pe_call (ok_l_nearest T (k := k)) hr (by rfl) T.g_l_nearest T.F_l_nearest.kp T.b_l_nearest .nil pass0 (pa_cons (pv 0) (pa_cons (pe_tup (pa_cons (pv 8) pa_nil)) pa_nil))))
      (pss_one (ps_if (PW.pt (pw_and (pt_chain op_le op_le (pv 1) (pv 8) (pv 2)) (pw_and1 (PW.pt (pw_or (pt_cmpR (op_eqDK K hr.units) (pv 7) (pe_lst pa_nil) (nomark _)) (pw_or1 (pt_cmpR (op_neDK K hr.units) (pe_ix (ix_tupK K) (pe_ix (ix_listK K) (pv 7) (pe_un un_neg pe_int) (fun _ _ => rfl)) pe_int (fun _ _ => rfl)) (pv 9) (nomark _)))))))) (pss_one (ps_expr (pe_bm PySem.F.plainAttrs_list PySem.F.slot_list_append PySem.F.type_list_append mt_append (pv 7) (pa_cons (pe_tup (pa_cons (pv 8) (pa_cons (pv 9) pa_nil))) pa_nil)))) pss_nil))))
      (pss_one (ps_ret (pe_callTy (tuple_K K) (by rfl) T.z_tuple (by decide +kernel) (pa_cons (pv 7) pa_nil))))))))), ?_⟩
    refine ⟨_, rfl, pa, rfl, ⟨_, SqL.of ep⟩, fun D hD => ?_⟩
    refine lc_pure (B := []) (walk_list (xs := vs)) hD (fun _ h => nomatch h) (fun H' s' => SqL.of (s' _ _ ep)) (by omega)
      (fun i => (cs.map fun x => PyData.int (x.headD 0))[i]?) (fun i x H' H'' Ny Nn hi t1 bk y ky kn => ?_) (fun H1 ws s1 eD hW => ?_)
    · obtain ⟨rfl, y⟩ := y
      obtain ⟨d1, f1, g1⟩ := hA.getV y
      have hi2 : i < cs.length := by omega
      rw [List.getElem?_map, List.getElem?_eq_getElem hi2] at f1
      have ed : d1 = eC cs[i] := (Option.some.inj f1).symm
      subst ed
      have oc := c1' _ (List.getElem_mem hi2)
      obtain ⟨z, ez⟩ : ∃ z, cs[i] = [z] := by
        match cs[i], oc with
        | [z], _ => exact ⟨z, rfl⟩
      rw [ez] at g1
      obtain ⟨ya, rfl, ny, ey⟩ := (g1.s t1).col
      refine ⟨rfl, lc_yes ⟨_, rfl, ya, _, 0, .int z, rfl, rfl, SqT.of ey, rfl, ?_⟩⟩
      exact ky _ _ _ (by rw [List.getElem?_map, List.getElem?_eq_getElem hi2, ez]; rfl) (Same.refl _) (.int _)
    · rw [fm_all (by simp; omega)] at hW
      have hW2 : DtA [D] H1 ws ((cs.map fun x => x.headD 0).map PyData.int) := by rw [List.map_map]; exact hW
      have ews := hW2.intsV
      subst ews
      refine ⟨D, _, rfl, SqL.of eD, fun ms p pm sm hp2 => ?_⟩
      have lm : ms.length = cs.length := by rw [pm.length_eq, List.length_map]
      have s2 := s1.trans (sm_new (o := .lst (ms.map V.int)) hp2)
      have ep2 : (upd H1 p (.lst (ms.map V.int))) p = some (.lst (ms.map V.int)) := upd_same
      generalize upd H1 p (.lst (ms.map V.int)) = H2 at *
      refine ⟨_, rfl, (by show 1 ≤ sizeLine; decide), fun S hS => ?_⟩
      have s3 := sm_new (o := .lst [.int low]) hS
      have eS3 : (upd H2 S (.lst [.int low])) S = some (.lst [.int low]) := upd_same
      generalize upd H2 S (.lst [.int low]) = H3 at *
      have ep3 := s3 _ _ ep2
      refine ⟨_, rfl, _, rfl, 1, rfl, p, _, rfl, SqL.of ep3, fun sl hsl => ?_⟩
      have s4 := sm_new (o := .lst (cutV (ms.map V.int) (some 1) none)) hsl
      have esl : (upd H3 sl (.lst (cutV (ms.map V.int) (some 1) none))) sl = some (.lst ((ms.map V.int).drop 1)) := by rw [upd_same, cut1]
      generalize upd H3 sl (.lst (cutV (ms.map V.int) (some 1) none)) = H4 at *
      have ep4 := s4 _ _ ep3
      have eS4 := s4 _ _ eS3
      have nsl : sl ≠ S := fun z => by rw [z, eS3] at hsl; cases hsl
      have npS : p ≠ S := fun z => by rw [z, hS] at ep2; cases ep2
      refine ⟨p, sl, _, _, rfl, .inl ⟨SqL.of ep4, SqL.of esl, ?_⟩⟩
      refine for_it (walk_zip (n := ms.length - 1) (xs := ms.map V.int) (ys := (ms.map V.int).drop 1) (by simp)) (fun i σ H' => ∃ y5 y6 y7 y8 y9 y10, σ = [some (.ref pa), some (.int low), some (.int high), some (.ref p), some (.ref S), y5, y6, y7, y8, y9, y10] ∧ Go [S] H4 H' ∧ H' S = some (.lst ((low :: spo ms i).map V.int)))
        ⟨_, _, _, _, _, _, rfl, Go.refl, eS4⟩ (fun i σ H' _ h => ?_) (fun i x σ H5 H6 hi h5 y => ?_) (fun σ H5 h5 => ?_)
      · obtain ⟨y5, y6, y7, y8, y9, y10, rfl, g5, eS5⟩ := h
        exact ⟨SqL.of (g5.k _ _ (by simpa using npS) ep4), SqL.of (g5.k _ _ (by simpa using nsl) esl)⟩
      · obtain ⟨y5, y6, y7, y8, y9, y10, rfl, g5, eS5⟩ := h5
        obtain ⟨t, x, y, rfl, ht, rfl, f1, f2⟩ := y
        have x1 : x = .int (vat ms i) := by
          have := mat (show i < ms.length by omega) f1
          rw [this]
          unfold vat
          rw [List.getD_eq_getElem?_getD, List.getElem?_eq_getElem (by omega)]
          rfl
        have y1 : y = .int (vat ms (i + 1)) := by
          have f3 : (ms.map V.int)[i + 1]? = some y := by
            have : ((ms.map V.int).drop 1)[i]? = some y := f2
            rwa [List.getElem?_drop, Nat.add_comm] at this
          have := mat (show i + 1 < ms.length by omega) f3
          rw [this]
          unfold vat
          rw [List.getD_eq_getElem?_getD, List.getElem?_eq_getElem (by omega)]
          rfl
        subst x1 y1
        have s6 := sm_new (o := .tup [.int (vat ms i), .int (vat ms (i + 1))]) ht
        have eS6 := s6 _ _ eS5
        have g6 : Go [S] H4 (upd H5 t (.tup [.int (vat ms i), .int (vat ms (i + 1))])) := g5.trans (Go.of s6)
        refine ⟨t, _, rfl, SqT.of upd_same, rfl, _, _, rfl, _, _, rfl, rfl, ?_⟩
        generalize upd H5 t (.tup [.int (vat ms i), .int (vat ms (i + 1))]) = H6 at *
        refine ⟨_, rfl, .inl ⟨rfl, _, SqL.of eS6⟩, _, rfl, _, rfl, _, _, rfl, rfl, _, _, rfl, rfl, ⟨by decide, by decide⟩, _, rfl, _, rfl, _, _, rfl, rfl, _, _, rfl, rfl, ⟨by decide, by decide⟩, _, _, rfl, rfl, (by show 2 ≤ sizeLine; decide), fun p7 hp7 => ?_⟩
        have s7 := sm_new (o := .lst [.int ((vat ms i + vat ms (i + 1)) / 2), .int ((vat ms i + vat ms (i + 1)) / 2 + 1)]) hp7
        have l7 := spo_len ms i
        refine ⟨S, p7, _, _, rfl, rfl, s7 _ _ eS6, upd_same, Nat.le_of_lt (sz (by simp; omega)), ?_⟩
        refine ⟨_, _, _, _, _, _, rfl, (g6.trans (Go.of s7)).at (by simp), ?_⟩
        rw [upd_same]
        have : spo ms (i + 1) = spo ms i ++ [(vat ms i + vat ms (i + 1)) / 2, (vat ms i + vat ms (i + 1)) / 2 + 1] := by
          unfold spo
          rw [List.range_succ, List.flatMap_append]
          simp
        rw [this, ← List.cons_append, List.map_append]
        rfl
      · obtain ⟨y5, y6, y7, y8, y9, y10, rfl, g5, eS5⟩ := h5
        have s05 : Same H H5 := g5.sm ((s2.trans s3).trans s4) (fun a ha => by rw [List.mem_singleton.mp ha]; exact s2.free hS)
        refine ⟨Nat.zero_le _, fun F hF => ?_⟩
        have s6 := sm_new (o := .lst []) hF
        have eS6 := s6 _ _ eS5
        have eF6 : (upd H5 F (.lst [])) F = some (.lst []) := upd_same
        generalize upd H5 F (.lst []) = H6 at *
        refine ⟨_, rfl, S, _, rfl, SqL.of eS6, fun ss p7 pss sss hp7 => ?_⟩
        have s7 := sm_new (o := .lst (ss.map V.int)) hp7
        have e7 : (upd H6 p7 (.lst (ss.map V.int))) p7 = some (.lst (ss.map V.int)) := upd_same
        have eF7 := s7 _ _ eF6
        have n7 : p7 ≠ F := fun z => by rw [z, eF6] at hp7; cases hp7
        generalize upd H6 p7 (.lst (ss.map V.int)) = H7 at *
        have s57 := s6.trans s7
        have lss : ss.length ≤ 201 := by
          have := pss.length_eq
          have h2 := spo_len ms (ms.length - 1)
          simp at this
          omega
        have los : low ∈ ss := pss.mem_iff.mpr (by simp)
        have bos : ∀ j, j + 1 < fq.length → bq fq j ∈ ss := fun j hj => pss.mem_iff.mpr (List.mem_cons_of_mem _ (spo_has Fq c1' pm sm hj))
        have bnd : ∀ x ∈ ss, -10000000 ≤ x ∧ x ≤ 10000000 := fun x hx => by
          rcases List.mem_cons.mp (pss.mem_iff.mp hx) with e | e
          · omega
          · have := spo_in (vs := ms) (fun y hy => by
              obtain ⟨c, hc, rfl⟩ := List.mem_map.mp (pm.mem_iff.mp hy)
              have h3 := wo.2.2 c hc
              match c, h3.1 with
              | [y], _ => exact h3.2 y (by simp)) e
            omega
        refine ⟨p7, rfl, ⟨_, SqL.of e7⟩, for_list (xs := ss.map V.int) (fun i σ H' => ∃ y5 y6 y8 y9 y10 us rs, σ = [some (.ref pa), some (.int low), some (.int high), some (.ref p), some (.ref S), y5, y6, some (.ref F), y8, y9, y10] ∧ Go [F] H7 H' ∧ H' F = some (.lst us) ∧ DtA (F :: B) H' us ((rs : List (Int × Int)).map enc) ∧ dueI cs low high ss i rs ∧ rs.length ≤ i)
          ⟨_, _, _, _, _, [], [], rfl, Go.refl, eF7, .nil, .inl ⟨rfl, fun x hx => by simp at hx⟩, Nat.le_refl _⟩ (fun i σ H' _ h => ?_) (fun i x σ H8 hx h8 => ?_) (fun σ H8 h8 => ?_)⟩
        · obtain ⟨y5, y6, y8, y9, y10, us, rs, rfl, g8, eF8, hU, hI, lI⟩ := h
          exact SqL.of (g8.k _ _ (by simpa using n7) e7)
        · obtain ⟨y5, y6, y8, y9, y10, us, rs, rfl, g8, eF8, hU, hI, lI⟩ := h8
          have il : i < ss.length := by have := (List.getElem?_eq_some_iff.mp hx).1; simpa using this
          have ex := mat il hx
          subst ex
          have nb := bnd _ (List.getElem_mem il)
          have hn : ss[i]? = some ss[i] := List.getElem?_eq_getElem il
          generalize ss[i] = n at *
          have s08 : Same H H8 := g8.sm (s05.trans s57) (fun a ha => by rw [List.mem_singleton.mp ha]; exact s05.free hF)
          have B8 : Bk (F :: B) H8 := (hB.go (Go.of (B := B) s08)).cons eF8
          refine ⟨_, rfl, _, rfl, (by show 1 ≤ sizeLine; decide), fun t ht => ?_⟩
          have s9 := sm_new (o := .tup [.int n]) ht
          have dn : Dt B (upd H8 t (.tup [.int n])) (.ref t) (eC [n]) := Dt.ofCol (fun m => B8.ne ht (List.mem_cons_of_mem _ m)) upd_same
          have po : pOk cs [n] := ⟨by omega, by simp, fun x hx => by rw [List.mem_singleton.mp hx]; omega, fun x hx => ⟨c1' x hx, (wo.2.2 x hx).2.mono (by decide) (by decide)⟩⟩
          refine ⟨B, .ref pa, .ref t, cs, [n], rfl, (hp0.s s08).s s9, dn, po, wo.1, fun H10 z s10 hz => ?_⟩
          have s80 := s9.trans s10
          have eF10 := s80 _ _ eF8
          have hU10 := hU.s s80
          have B10 := B8.go (Go.of (B := []) s80)
          have g10 : Go [F] H7 H10 := g8.trans (Go.of s80)
          have stp := dueI_step Fq c1' sss los bos hn hI hz
          clear hU B8 eF8 dn s9 s10 s80 g8
          have lu := hU10.len
          rw [List.length_map] at lu
          have happ : ((low ≤ n ∧ n ≤ high) ∧ (rs = [] ∨ (rs.getLastD (0, 0)).2 ≠ (z : Int))) → dueI cs low high ss (i + 1) (rs ++ [(n, (z : Int))]) := fun h => by
            unfold dueS at stp
            rwa [if_pos h] at stp
          have hskip : ¬ ((low ≤ n ∧ n ≤ high) ∧ (rs = [] ∨ (rs.getLastD (0, 0)).2 ≠ (z : Int))) → dueI cs low high ss (i + 1) rs := fun h => by
            unfold dueS at stp
            rwa [if_neg h] at stp
          have shq : Sh (.list (rs.map enc)) 2 := sh_lst (by rw [List.length_map]; omega) fun d hd => by
            obtain ⟨z, _, rfl⟩ := List.mem_map.mp hd
            exact sh_eC (by simp)
          refine ⟨_, rfl, _, rfl, _, _, rfl, rfl, _, rfl, ite2 (fun e => ?_) (fun e => ?_)⟩
          · refine ⟨_, rfl, _, _, rfl, rfl, _, rfl, ite2 (fun e2 => ?_) (fun e2 => ?_)⟩
            · have hr1 : low ≤ n ∧ n ≤ high := ⟨of_decide_eq_true e, of_decide_eq_true e2⟩
              refine ⟨_, rfl, Nat.zero_le _, fun e0 he0 => ⟨.list (rs.map enc), .list [], ?_, .lst (SqL.of upd_same) .nil, shq.sh (by omega), rfl, _, rfl, ?_⟩⟩
              · have s5 := sm_new (o := .lst []) he0
                exact .lst (SqL.of (s5 _ _ eF10)) (hU10.s s5).dP
              have s11 := sm_new (o := .lst []) he0
              have eF11 := s11 _ _ eF10
              have hU11 := hU10.s s11
              have B11 := B10.go (Go.of (B := []) s11)
              rw [emp2]
              refine ite2 (fun e3 => ?_) (fun e3 => ?_)
              · have hc : (low ≤ n ∧ n ≤ high) ∧ (rs = [] ∨ (rs.getLastD (0, 0)).2 ≠ (z : Int)) := ⟨hr1, .inl (List.map_eq_nil_iff.mp (List.isEmpty_iff.mp e3))⟩
                refine iteT ?_
                refine ⟨_, rfl, .inl ⟨rfl, _, SqL.of eF11⟩, _, rfl, _, rfl, (by show 2 ≤ sizeLine; decide), fun t2 ht2 => ?_⟩
                have s12 := sm_new (o := .tup [.int n, .int (z : Int)]) ht2
                have dn : Dt (F :: B) (upd (upd H10 e0 (.lst [])) t2 (.tup [.int n, .int (z : Int)])) (.ref t2) (enc (n, (z : Int))) := Dt.ofCol (B11.ne ht2) upd_same
                have eF12 := s12 _ _ eF11
                have hU12 := hU11.s s12
                have g12 : Go [F] H7 (upd (upd H10 e0 (.lst [])) t2 (.tup [.int n, .int (z : Int)])) := (g10.trans (Go.of s11)).trans (Go.of s12)
                refine ⟨F, _, _, rfl, rfl, eF12, sz (by omega), ?_⟩
                have gm : Go (F :: B) (upd (upd H10 e0 (.lst [])) t2 (.tup [.int n, .int (z : Int)])) (upd (upd (upd H10 e0 (.lst [])) t2 (.tup [.int n, .int (z : Int)])) F (.lst (us ++ [.ref t2]))) := Go.refl.at (List.mem_cons_self ..)
                refine ⟨_, _, _, _, _, us ++ [.ref t2], rs ++ [(n, (z : Int))], rfl, g12.at (by simp), upd_same, ?_, happ hc, by simp; omega⟩
                rw [List.map_append]
                exact (hU12.g gm).app (.one (dn.g gm))
              · have hne : rs ≠ [] := fun z2 => e3 (by rw [z2]; rfl)
                have hl0 : 0 < rs.length := List.length_pos_iff.mpr hne
                obtain ⟨w, fw, dw⟩ := hU11.get (i := rs.length - 1) (d := enc (rs.getLastD (0, 0))) (by
                  rw [List.getElem?_map, List.getLastD_eq_getLast?, List.getLast?_eq_getElem?, List.getElem?_eq_getElem (by omega)]
                  rfl)
                obtain ⟨wa, rfl, _, ew⟩ := dw.col
                refine ⟨_, rfl, _, rfl, F, _, _, .ref wa, rfl, rfl, SqL.of eF11, at_end (by rw [lu]; exact fw), wa, _, 1, .int (rs.getLastD (0, 0)).2, rfl, rfl, SqT.of ew, rfl, _, rfl, .int (rs.getLastD (0, 0)).2, .int (z : Int), .int _, .int _, (sh_int _ 0).sh (by omega), (sh_int _ 0).sh (by omega), _, rfl, ite2 (fun e4 => ?_) (fun e4 => ?_)⟩
                · have hc : (low ≤ n ∧ n ≤ high) ∧ (rs = [] ∨ (rs.getLastD (0, 0)).2 ≠ (z : Int)) := ⟨hr1, .inr (fun z2 => by
                    rw [z2] at e4
                    simp [PyData.eqv] at e4)⟩
                  refine ⟨_, rfl, .inl ⟨rfl, _, SqL.of eF11⟩, _, rfl, _, rfl, (by show 2 ≤ sizeLine; decide), fun t2 ht2 => ?_⟩
                  have s12 := sm_new (o := .tup [.int n, .int (z : Int)]) ht2
                  have dn : Dt (F :: B) (upd (upd H10 e0 (.lst [])) t2 (.tup [.int n, .int (z : Int)])) (.ref t2) (enc (n, (z : Int))) := Dt.ofCol (B11.ne ht2) upd_same
                  have eF12 := s12 _ _ eF11
                  have hU12 := hU11.s s12
                  have g12 : Go [F] H7 (upd (upd H10 e0 (.lst [])) t2 (.tup [.int n, .int (z : Int)])) := (g10.trans (Go.of s11)).trans (Go.of s12)
                  refine ⟨F, _, _, rfl, rfl, eF12, sz (by omega), ?_⟩
                  have gm : Go (F :: B) (upd (upd H10 e0 (.lst [])) t2 (.tup [.int n, .int (z : Int)])) (upd (upd (upd H10 e0 (.lst [])) t2 (.tup [.int n, .int (z : Int)])) F (.lst (us ++ [.ref t2]))) := Go.refl.at (List.mem_cons_self ..)
                  refine ⟨_, _, _, _, _, us ++ [.ref t2], rs ++ [(n, (z : Int))], rfl, g12.at (by simp), upd_same, ?_, happ hc, by simp; omega⟩
                  rw [List.map_append]
                  exact (hU12.g gm).app (.one (dn.g gm))
                · refine ⟨_, _, _, _, _, us, rs, rfl, g10.trans (Go.of s11), eF11, hU11, hskip (fun h => ?_), by omega⟩
                  rcases h.2 with h | h
                  · exact hne h
                  · refine e4 ?_
                    generalize (rs.getLastD (0, 0)).2 = gg at h
                    simp [PyData.eqv]
                    exact h
            · refine ⟨_, _, _, _, _, us, rs, rfl, g10, eF10, hU10, hskip (fun h => e2 (decide_eq_true h.1.2)), by omega⟩
          · refine ⟨false, rfl, iteF ⟨_, _, _, _, _, us, rs, rfl, g10, eF10, hU10, hskip (fun h => e (decide_eq_true h.1.1)), by omega⟩⟩
        · obtain ⟨y5, y6, y8, y9, y10, us, rs, rfl, g8, eF8, hU, hI, lI⟩ := h8
          have s08 : Same H H8 := g8.sm (s05.trans s57) (fun a ha => by rw [List.mem_singleton.mp ha]; exact s05.free hF)
          have B8 : Bk B H8 := hB.go (Go.of (B := B) s08)
          rw [List.length_map] at hI lI
          refine ⟨_, rfl, F, _, rfl, .inl ⟨SqL.of eF8, fun t ht => ?_⟩⟩
          exact q _ _ rs (s08.trans (sm_new ht)) (.tup (B8.ne ht) upd_same (hU.un.s (sm_new ht))) (fun qs i0 F0 n0 => due_end F0 c1' w3 los (fun j hj => pss.mem_iff.mpr (List.mem_cons_of_mem _ (spo_has F0 c1' pm sm hj))) n0 hI) (by omega)
/-! ### what the law promises -/
def spLaw (K : PySem.W.Frag) : Sp := fun vs H Q _ => ∃ (a : Addr) (ns : List Int), vs = [.ref a] ∧ SqL K H a (ns.map V.int) ∧ ns.length ≤ 63 ∧ ∀ H', Q (.bl true) H'
/-! ### the law -/
theorem sh_eR {rs : List (Int × Int)} (h : rs.length ≤ 100000) : Sh (eR rs) 2 := sh_tup (by simpa using h) fun d hd => by
  obtain ⟨r, _, rfl⟩ := List.mem_map.mp hd
  exact sh_eC (by simp)
theorem fm_some {α : Type} (f : Nat → α) : ∀ n : Nat, (List.range n).filterMap (fun i => some (f i)) = (List.range n).map f := fun n => by
  rw [← List.filterMap_eq_map]
  rfl
theorem ok_law (T : Tx K mg) {f : Addr} {fd : FuncData} (F : Fun K "law" "law" s_law f fd) {k : Nat} (hk : k ≤ 10) : FnOk P w K mg base CX0 (k + 6) f fd ["_law_script"] (spLaw K) := by
  refine F.ok sc_law (fun vs H Q E h => ?_) (fun cdv A outer s H vs Q E hr h => ?_)
  · obtain ⟨a, ns, rfl, _⟩ := h
    rfl
  · obtain ⟨a, ns, rfl, hS, hlen, q⟩ := h
    refine ⟨_, (pss_cons (ps_for PassesOwn.never rfl (pi_range1 (by rfl) T.z_range (pa_cons (pe_callB (call_max2 rfl) (by rfl) T.z_max (by decide +kernel) (pa_cons pe_int (pa_cons (pe_callB (call_min2 rfl) (by rfl) T.z_min (by decide +kernel) (pa_cons (pe_callB (len_K K) (by rfl) T.z_len PySem.boot_len (pa_cons (pv 0) pa_nil)) (pa_cons pe_int pa_nil))) pa_nil))) pa_nil)) (pg_name (i := 1) sc_law.nd rfl (.inl rfl)) (pss_cons (ps_set (i := 2) sc_law.nd rfl (.inl rfl) (pe_call (ok_l_left T (k := k + 4)) hr (by rfl) T.g_l_left T.F_l_left.kp T.b_l_left .nil pass0 (pa_cons (pv 0) (pa_cons (pv 1) pa_nil))))
      (pss_cons (ps_asg (pe_call (ok_l_line T (k := k)) hr (by rfl) T.g_l_line T.F_l_line.kp T.b_l_line .nil pass0 (pa_cons (pv 2) pa_nil)) (pg_tupK K (n := 3) rfl (pgs_cons (pg_name (i := 3) sc_law.nd rfl (.inr rfl)) (pgs_cons (pg_name (i := 4) sc_law.nd rfl (.inl rfl)) (pgs_cons (pg_name (i := 5) sc_law.nd rfl (.inl rfl)) pgs_nil)))))
      (pss_cons (ps_set (i := 6) sc_law.nd rfl (.inl rfl) (pe_callTy (list_K K) (by rfl) T.z_list (by decide +kernel) (pa_cons (pv 3) pa_nil)))
      (pss_cons (ps_set (i := 7) sc_law.nd rfl (.inr rfl) (pe_call (ok_l_rows_due T (k := k + 2)) hr (by rfl) T.g_l_rows_due T.F_l_rows_due.kp T.b_l_rows_due .nil pass0 (pa_cons (pv 3) (pa_cons (pv 4) (pa_cons (pv 5) pa_nil)))))
      (pss_cons (ps_if (pt_not (pt_val (pe_call (ok_l_same T (k := k + 4)) hr (by rfl) T.g_l_same T.F_l_same.kp T.b_l_same .nil pass0 (pa_cons (pe_lst (pa_cons (pe_call (ok_line_table T (k := k + 2)) hr (by rfl) T.g_line_table T.F_line_table.kp T.b_line_table .nil pass0 (pa_cons (pv 6) (pa_cons (pv 4) (pa_cons (pv 5) pa_nil)))) (pa_cons (pe_call (ok_line_table T (k := k + 2)) hr (by rfl) T.g_line_table T.F_line_table.kp T.b_line_table .nil pass0 (pa_cons (pv 6) (pa_cons (pv 4) (pa_cons (pv 5) pa_nil)))) pa_nil))) (pa_cons (pe_lst (pa_cons (pv 7) (pa_cons (pv 7) pa_nil))) pa_nil))))) (pss_one (ps_ret pe_bl)) pss_nil)
      (pss_cons (ps_if (pt_not (pt_val (pe_callB (cr_allK K rfl) (by rfl) T.z_all (by decide +kernel) (pa_cons (pe_lc (own := [("_law_n", 9)]) (by rfl) sc_law.nd (pi_range2 (by rfl) T.z_range (pa_cons (pv 4) (pa_cons (pe_op op_add (pv 5) pe_int) pa_nil))) (blkOk_by (own := [("_law_n", 9)]) (N := N_law) (sc := defScope s_law) (by decide +kernel)) (fun _ _ _ _ _ => (pg_name (i := 9) sc_law.nd rfl (.inl rfl))) (fun _ _ _ _ _ => pts_nil) (fun _ _ _ _ _ => (pe_cmpR op_eq (pe_call (ok_l_number_of T (k := k + 4)) hr (by rfl) T.g_l_number_of T.F_l_number_of.kp T.b_l_number_of .nil pass0 (pa_cons (pv 7) (pa_cons (pv 9) pa_nil))) (pe_call (ok_l_nearest T (k := k + 3)) hr (by rfl) T.g_l_nearest T.F_l_nearest.kp T.b_l_nearest .nil pass0 (pa_cons (pv 3) (pa_cons (pe_tup (pa_cons (pv 9) pa_nil)) pa_nil))) (nomark _)))) pa_nil)))) (pss_one (ps_ret pe_bl)) pss_nil)
      (pss_cons (ps_set (i := 8) sc_law.nd rfl (.inl rfl) (pe_tup (pa_cons (pe_op op_sub pe_int (pe_call (ok_l_pick T (k := k + 3)) hr (by rfl) T.g_l_pick T.F_l_pick.kp T.b_l_pick .nil pass0 (pa_cons (pv 2) (pa_cons (pe_op op_pow pe_int pe_int) pa_nil)))) (pa_cons (pe_call (ok_l_pick T (k := k + 3)) hr (by rfl) T.g_l_pick T.F_l_pick.kp T.b_l_pick .nil pass0 (pa_cons (pv 2) (pa_cons (pe_op op_pow pe_int pe_int) pa_nil))) pa_nil))))
      (pss_cons (ps_if (pt_not (pt_val (pe_call (ok_l_same T (k := k + 4)) hr (by rfl) T.g_l_same T.F_l_same.kp T.b_l_same .nil pass0 (pa_cons (pe_call (ok_line_table T (k := k + 2)) hr (by rfl) T.g_line_table T.F_line_table.kp T.b_line_table .nil pass0 (pa_cons (pv 6) (pa_cons (pe_ix (ix_tupK K) (pv 8) pe_int (fun _ _ => rfl)) (pa_cons (pe_ix (ix_tupK K) (pv 8) pe_int (fun _ _ => rfl)) pa_nil)))) (pa_cons (pe_call (ok_l_rows_due T (k := k + 2)) hr (by rfl) T.g_l_rows_due T.F_l_rows_due.kp T.b_l_rows_due .nil pass0 (pa_cons (pv 3) (pa_cons (pe_ix (ix_tupK K) (pv 8) pe_int (fun _ _ => rfl)) (pa_cons (pe_ix (ix_tupK K) (pv 8) pe_int (fun _ _ => rfl)) pa_nil)))) pa_nil))))) (pss_one (ps_ret pe_bl)) pss_nil)
      (pss_one (ps_if (pt_cmpR (op_neDK K hr.units) (pv 6) (pv 3) (nomark _)) (pss_one (ps_ret pe_bl)) pss_nil)))))))))))
      (pss_one (ps_ret pe_bl))), ?_⟩
    refine ⟨_, rfl, a, _, rfl, .inl hS, _, _, rfl, _, _, rfl, ?_⟩
    obtain ⟨m, hm⟩ : ∃ m : Int, m = (if (if (8 : Int) < ((ns.map V.int).length : Int) then (8 : Int) else ((ns.map V.int).length : Int)) > 4 then (if (8 : Int) < ((ns.map V.int).length : Int) then (8 : Int) else ((ns.map V.int).length : Int)) else 4) := ⟨_, rfl⟩
    have m0 : 0 ≤ m ∧ m ≤ 8 := by
      rw [hm]
      split <;> split <;> omega
    refine ⟨m, by rw [hm], by omega, by omega, for_range (lo := 0) (n := m.toNat) (fun i σ H' => ∃ y1 y2 y3 y4 y5 y6 y7 y8 y9, σ = [some (.ref a), y1, y2, y3, y4, y5, y6, y7, y8, y9] ∧ Same H H')
      ⟨none, none, none, none, none, none, none, none, none, rfl, Same.refl H⟩ (fun i σ H1 hi h1 => ?_) (fun σ H1 h1 => ?_)⟩
    · obtain ⟨y1, y2, y3, y4, y5, y6, y7, y8, y9, rfl, s1⟩ := h1
      refine ⟨_, rfl, _, rfl, a, ns, _, rfl, s1.seq hS, by omega, fun L x0 y0 hL0 x0n => ?_⟩
      have lf1 : Lf L (upd H1 L (.lst [.int x0, .int y0, .int 0])) 0 := ⟨x0, y0, 0, upd_same, x0n, by omega, by omega⟩
      have s2 := sm_mut (o := .lst [.int x0, .int y0, .int 0]) s1 (s1.free hL0)
      have hLH : H L = none := s1.free hL0
      generalize upd H1 L (.lst [.int x0, .int y0, .int 0]) = H2 at *
      have nB : ∀ b ∈ [L], H b = none := fun b hb => by rw [List.mem_singleton.mp hb]; exact hLH
      refine ⟨_, rfl, L, 0, rfl, lf1, by omega, fun t pa H3 cs low high g3 l3 et d3 c0 c1 cok w1 w2 w3 w4 => ?_⟩
      refine ⟨t, [.ref pa, .int low, .int high], rfl, SqT.of et, rfl, .ref pa, _, rfl, .int low, _, rfl, .int high, _, rfl, rfl, ?_⟩
      have c1' : ∀ c ∈ cs, c.length = 1 := fun c hc => by have := (cok c hc).1; omega
      have wo : wOk cs := ⟨c0, by omega, fun c hc => ⟨c1' c hc, (cok c hc).2⟩⟩
      obtain ⟨vs, ep, np, hA⟩ : ∃ vs, H3 pa = some (.lst vs) ∧ pa ∉ [L] ∧ DtA [L] H3 vs (cs.map eC) := by
        obtain ⟨pa', vs, e, n, h1, h2⟩ := d3.pal
        cases e
        exact ⟨vs, h1, n, h2⟩
      refine ⟨_, rfl, pa, _, rfl, .inl (SqL.of ep), fun hd hhd => ?_⟩
      have s4 := sm_new (o := .lst vs) hhd
      have dh4 : Dt [L] (upd H3 hd (.lst vs)) (.ref hd) (eP cs) := .lst (l3.bk.ne hhd) upd_same (hA.s s4)
      have dp4 := d3.s s4
      have l4 := l3.same s4
      have g4 : Go [L] H2 (upd H3 hd (.lst vs)) := g3.trans (Go.of s4)
      generalize upd H3 hd (.lst vs) = H4 at *
      -- due
      refine ⟨_, rfl, _, rfl, _, rfl, [L], .ref pa, cs, low, high, rfl, dp4, l4.bk, wo, by omega, by omega, w3, fun dv H5 ds s5 d5 u5 n5 => ?_⟩
      have l5 := l4.same s5
      have dh5 := dh4.s s5
      have dp5 := dp4.s s5
      -- told twice
      refine ⟨_, rfl, _, rfl, _, rfl, [L], .ref hd, cs, low, high, rfl, dh5, l5.bk, wo, by omega, by omega, fun t6 H6 q6 i6 s6 d6 F6 e6 n6 => ?_⟩
      refine ⟨_, rfl, _, rfl, _, rfl, [L], .ref hd, cs, low, high, rfl, dh5.s s6, (l5.same s6).bk, wo, by omega, by omega, fun t7 H7 q7 i7 s7 d7 F7 e7 n7 => ?_⟩
      have r6 := u5 q6 i6 F6 e6
      have r7 := u5 q7 i7 F7 e7
      rw [← r6] at d6
      rw [← r7] at d7
      refine ⟨(by show 2 ≤ sizeLine; decide), fun fo hfo => ?_⟩
      refine ⟨_, rfl, _, rfl, (by show 2 ≤ sizeLine; decide), fun du hdu => ?_⟩
      have s67 := s6.trans s7
      have s8 := sm_new (o := .lst [t6, t7]) hfo
      have s9 := sm_new (o := .lst [dv, dv]) hdu
      have dfo : Dt [] (upd (upd H7 fo (.lst [t6, t7])) du (.lst [dv, dv])) (.ref fo) (.list [eR ds, eR ds]) := .lst (fun h => nomatch h) (s9 _ _ upd_same) (.cons ((((d6.s s7).s s8).s s9).sub (fun a h => nomatch h)) (.cons (((d7.s s8).s s9).sub (fun a h => nomatch h)) .nil))
      have ddu : Dt [] (upd (upd H7 fo (.lst [t6, t7])) du (.lst [dv, dv])) (.ref du) (.list [eR ds, eR ds]) := .lst (fun h => nomatch h) upd_same (.cons ((((d5.s s67).s s8).s s9).sub (fun a h => nomatch h)) (.cons ((((d5.s s67).s s8).s s9).sub (fun a h => nomatch h)) .nil))
      have s59 : Same H5 (upd (upd H7 fo (.lst [t6, t7])) du (.lst [dv, dv])) := (s67.trans s8).trans s9
      generalize upd (upd H7 fo (.lst [t6, t7])) du (.lst [dv, dv]) = H9 at *
      have she := sh_eR (rs := ds) (by omega)
      have shl : Sh (.list [eR ds, eR ds]) 3 := sh_lst (by simp) fun d hd => by
        simp at hd
        rw [hd]
        exact she
      refine ⟨[], .ref fo, .ref du, .list [eR ds, eR ds], rfl, dfo, ddu, shl.mono (by omega), by omega, fun H10 s10 => ?_⟩
      refine ⟨_, rfl, iteF ?_⟩
      have t10 := s59.trans s10
      have l10 := l5.same t10
      have dh10 := dh5.s t10
      have dp10 := dp5.s t10
      have d10 := d5.s t10
      have hds : 0 < ds.length := by rw [r6]; simp [rowsOf]
      have hhd2 : hd2 ds = (low, (i6 : Int)) := by rw [r6]; rfl
      -- each n of the stretch
      refine ⟨_, rfl, _, rfl, _, _, rfl, rfl, low, high + 1, rfl, ⟨by omega, by omega, by omega, by omega⟩, fun D hD => ?_⟩
      refine lc_pure (B := [L]) (walk_range (lo := low)) hD l10.bk (fun H' s' => True.intro) (by omega)
        (fun i => some (PyData.bool true)) (fun j x H' H'' Ny Nn hj t1 bk y ky kn => ?_) (fun H11 ws s11 eS hW => ?_)
      · obtain ⟨rfl, rfl⟩ := y
        refine ⟨rfl, lc_yes ⟨_, rfl, _, rfl, [L], dv, ds, _, rfl, d10.s t1, hds, by omega, by rw [hhd2]; show low ≤ low + (j : Int); omega, fun H12 s12 => ?_⟩⟩
        refine ⟨_, rfl, _, rfl, (by show 1 ≤ sizeLine; decide), fun t13 ht13 => ?_⟩
        have s13 := sm_new (o := .tup [.int (low + (j : Int))]) ht13
        have B12 := bk.go (Go.of (B := []) s12)
        have dn : Dt [L] (upd H12 t13 (.tup [.int (low + (j : Int))])) (.ref t13) (eC [low + (j : Int)]) := Dt.ofCol (fun m => B12.ne ht13 (List.mem_cons_of_mem _ m)) upd_same
        have po : pOk cs [low + (j : Int)] := ⟨by omega, by simp, fun x hx => by rw [List.mem_singleton.mp hx]; omega, fun x hx => ⟨c1' x hx, (cok x hx).2.mono (by decide) (by decide)⟩⟩
        refine ⟨[L], .ref pa, .ref t13, cs, [low + (j : Int)], rfl, ((dp10.s t1).s s12).s s13, dn, po, c0, fun H14 i1 s14 n1 => ?_⟩
        obtain ⟨i2, n2, e2⟩ := bt_near F6 c1' (high := high) e6 (n := low + (j : Int)) (by omega) (by omega) near_one
        have e3 := near_one n1 n2
        subst e3
        have e4 : bt ds (low + (j : Int)) (hd2 ds).2 = (i1 : Int) := by
          rw [hhd2, r6]
          exact e2
        rw [e4]
        refine ⟨rfl, ky _ _ (.bool true) rfl ((s12.trans s13).trans s14) ?_⟩
        rw [decide_eq_true rfl]
        exact .bl true
      · rw [fm_some] at hW
        have hW2 : DtA [D, L] H11 ws (((List.range (high + 1 - low).toNat).map fun _ => true).map PyData.bool) := by rw [List.map_map]; exact hW
        refine ⟨D, _, rfl, SqL.of (by rw [eS, hW2.blsV]), ?_⟩
        rw [show ((List.range (high + 1 - low).toNat).map fun _ => true).all id = true by simp]
        refine ⟨_, rfl, iteF ?_⟩
        have l11 := l10.same s11
        -- far
        refine ⟨_, rfl, _, _, rfl, rfl, ⟨by decide, by decide, by decide⟩, L, _, 1010, rfl, l11, by omega, by decide, by decide, fun r12 H12 g12 l12 a12 b12 => ?_⟩
        refine ⟨_, _, rfl, rfl, _, rfl, _, _, rfl, rfl, ⟨by decide, by decide, by decide⟩, L, _, 1011, rfl, l12, by omega, by decide, by decide, fun r13 H13 g13 l13 a13 b13 => ?_⟩
        have b12' : r12 < 1000000 := b12
        have b13' : r13 < 1000000 := b13
        refine ⟨(by show 2 ≤ sizeLine; decide), fun fa hfa => ?_⟩
        have g14 : Go [L] H11 (upd H13 fa (.tup [.int (0 - r12), .int r13])) := (g12.trans g13).trans (Go.new hfa)
        have e14 : (upd H13 fa (.tup [.int (0 - r12), .int r13])) fa = some (.tup [.int (0 - r12), .int r13]) := upd_same
        have l14 := l13.new (o := .tup [.int (0 - r12), .int r13]) hfa
        generalize upd H13 fa (.tup [.int (0 - r12), .int r13]) = H14 at *
        have dh14 := (dh10.s s11).g g14
        have dp14 := (dp10.s s11).g g14
        refine ⟨_, rfl, _, rfl, fa, _, 0, .int (0 - r12), rfl, rfl, SqT.of e14, rfl, _, rfl, fa, _, 1, .int r13, rfl, rfl, SqT.of e14, rfl, ?_⟩
        refine ⟨[L], .ref hd, cs, 0 - r12, r13, rfl, dh14, l14.bk, wo, by omega, by omega, fun t15 H15 q15 i15 s15 d15 F15 e15 n15 => ?_⟩
        refine ⟨_, rfl, _, rfl, fa, _, 0, .int (0 - r12), rfl, rfl, SqT.of (s15 _ _ e14), rfl, _, rfl, fa, _, 1, .int r13, rfl, rfl, SqT.of (s15 _ _ e14), rfl, ?_⟩
        refine ⟨[L], .ref pa, cs, 0 - r12, r13, rfl, dp14.s s15, (l14.same s15).bk, wo, by omega, by omega, by omega, fun t16 H16 d6s s16 d16 u16 n16 => ?_⟩
        have r16 := u16 q15 i15 F15 e15
        rw [← r16] at d15
        have sh16 := sh_eR (rs := d6s) (by omega)
        refine ⟨[L], t15, t16, eR d6s, rfl, d15.s s16, d16, sh16.mono (by omega), by omega, fun H17 s17 => ?_⟩
        refine ⟨_, rfl, iteF ?_⟩
        have t17 := (s15.trans s16).trans s17
        have shp : Sh (eP cs) 2 := sh_eP (by omega) fun x hx => by have := c1' x hx; omega
        refine ⟨_, rfl, _, rfl, _, _, (dh14.s t17).dP, (dp14.s t17).dP, shp.sh (by omega), shp.sh (by omega), _, rfl, iteN (by rw [eqv_sh shp]; rfl) ?_⟩
        refine ⟨_, _, _, _, _, _, _, _, _, rfl, ?_⟩
        exact (((g4.trans (Go.of (s5.trans t10))).trans (Go.of s11)).trans (g14.trans (Go.of t17))).sm s2 nB
    · obtain ⟨y1, y2, y3, y4, y5, y6, y7, y8, y9, rfl, s1⟩ := h1
      exact q _

end
theorem all_mk {l : PySem.W.OpenLaw} {w : World} {K : PySem.W.Frag} {h : Heap} {mg : Str → Option Value} {fa : Addr} (X : K.In h) (G : h.Ns mainGlobals mg) (hfa : mg "law" = some (.ref fa))
    {f0 : Addr} {od0 an0 : Option Addr} {sl0 : Array (Option Value)} {oc0 kV0 dc0 pm0 cd0 ct0 : Value}
    (a0 : PySem.W.nsIn K mainGlobals "apart" = some (some (.ref f0))) (l0 : K.lookup f0 = some ⟨oc0, od0, .func (PySem.W.fnOf "apart" "apart" (defArgs s_apart) (defBody s_apart) (defScope s_apart) .none kV0 dc0 pm0 an0 cd0 ct0), sl0⟩) (c0 : PySem.W.codeIn K cd0 "apart" = true) (k0 : PySem.W.keepIn K (.ref f0) = true)
    {f1 : Addr} {od1 an1 : Option Addr} {sl1 : Array (Option Value)} {oc1 kV1 dc1 pm1 cd1 ct1 : Value}
    (a1 : PySem.W.nsIn K mainGlobals "nearest" = some (some (.ref f1))) (l1 : K.lookup f1 = some ⟨oc1, od1, .func (PySem.W.fnOf "nearest" "nearest" (defArgs s_nearest) (defBody s_nearest) (defScope s_nearest) .none kV1 dc1 pm1 an1 cd1 ct1), sl1⟩) (c1 : PySem.W.codeIn K cd1 "nearest" = true) (k1 : PySem.W.keepIn K (.ref f1) = true)
    {f2 : Addr} {od2 an2 : Option Addr} {sl2 : Array (Option Value)} {oc2 kV2 dc2 pm2 cd2 ct2 : Value}
    (a2 : PySem.W.nsIn K mainGlobals "first_places" = some (some (.ref f2))) (l2 : K.lookup f2 = some ⟨oc2, od2, .func (PySem.W.fnOf "first_places" "first_places" (defArgs s_first_places) (defBody s_first_places) (defScope s_first_places) .none kV2 dc2 pm2 an2 cd2 ct2), sl2⟩) (c2 : PySem.W.codeIn K cd2 "first_places" = true) (k2 : PySem.W.keepIn K (.ref f2) = true)
    {f3 : Addr} {od3 an3 : Option Addr} {sl3 : Array (Option Value)} {oc3 kV3 dc3 pm3 cd3 ct3 : Value}
    (a3 : PySem.W.nsIn K mainGlobals "begin_between" = some (some (.ref f3))) (l3 : K.lookup f3 = some ⟨oc3, od3, .func (PySem.W.fnOf "begin_between" "begin_between" (defArgs s_begin_between) (defBody s_begin_between) (defScope s_begin_between) .none kV3 dc3 pm3 an3 cd3 ct3), sl3⟩) (c3 : PySem.W.codeIn K cd3 "begin_between" = true) (k3 : PySem.W.keepIn K (.ref f3) = true)
    {f4 : Addr} {od4 an4 : Option Addr} {sl4 : Array (Option Value)} {oc4 kV4 dc4 pm4 cd4 ct4 : Value}
    (a4 : PySem.W.nsIn K mainGlobals "line_table" = some (some (.ref f4))) (l4 : K.lookup f4 = some ⟨oc4, od4, .func (PySem.W.fnOf "line_table" "line_table" (defArgs s_line_table) (defBody s_line_table) (defScope s_line_table) .none kV4 dc4 pm4 an4 cd4 ct4), sl4⟩) (c4 : PySem.W.codeIn K cd4 "line_table" = true) (k4 : PySem.W.keepIn K (.ref f4) = true)
    {f5 : Addr} {od5 an5 : Option Addr} {sl5 : Array (Option Value)} {oc5 kV5 dc5 pm5 cd5 ct5 : Value}
    (a5 : PySem.W.nsIn K mainGlobals "_law_mix" = some (some (.ref f5))) (l5 : K.lookup f5 = some ⟨oc5, od5, .func (PySem.W.fnOf "_law_mix" "_law_mix" (defArgs s_l_mix) (defBody s_l_mix) (defScope s_l_mix) .none kV5 dc5 pm5 an5 cd5 ct5), sl5⟩) (c5 : PySem.W.codeIn K cd5 "_law_mix" = true) (k5 : PySem.W.keepIn K (.ref f5) = true)
    {f6 : Addr} {od6 an6 : Option Addr} {sl6 : Array (Option Value)} {oc6 kV6 dc6 pm6 cd6 ct6 : Value}
    (a6 : PySem.W.nsIn K mainGlobals "_law_left" = some (some (.ref f6))) (l6 : K.lookup f6 = some ⟨oc6, od6, .func (PySem.W.fnOf "_law_left" "_law_left" (defArgs s_l_left) (defBody s_l_left) (defScope s_l_left) .none kV6 dc6 pm6 an6 cd6 ct6), sl6⟩) (c6 : PySem.W.codeIn K cd6 "_law_left" = true) (k6 : PySem.W.keepIn K (.ref f6) = true)
    {f7 : Addr} {od7 an7 : Option Addr} {sl7 : Array (Option Value)} {oc7 kV7 dc7 pm7 cd7 ct7 : Value}
    (a7 : PySem.W.nsIn K mainGlobals "_law_pick" = some (some (.ref f7))) (l7 : K.lookup f7 = some ⟨oc7, od7, .func (PySem.W.fnOf "_law_pick" "_law_pick" (defArgs s_l_pick) (defBody s_l_pick) (defScope s_l_pick) .none kV7 dc7 pm7 an7 cd7 ct7), sl7⟩) (c7 : PySem.W.codeIn K cd7 "_law_pick" = true) (k7 : PySem.W.keepIn K (.ref f7) = true)
    {f8 : Addr} {od8 an8 : Option Addr} {sl8 : Array (Option Value)} {oc8 kV8 dc8 pm8 cd8 ct8 : Value}
    (a8 : PySem.W.nsIn K mainGlobals "_law_colour" = some (some (.ref f8))) (l8 : K.lookup f8 = some ⟨oc8, od8, .func (PySem.W.fnOf "_law_colour" "_law_colour" (defArgs s_l_colour) (defBody s_l_colour) (defScope s_l_colour) .none kV8 dc8 pm8 an8 cd8 ct8), sl8⟩) (c8 : PySem.W.codeIn K cd8 "_law_colour" = true) (k8 : PySem.W.keepIn K (.ref f8) = true)
    {f9 : Addr} {od9 an9 : Option Addr} {sl9 : Array (Option Value)} {oc9 kV9 dc9 pm9 cd9 ct9 : Value}
    (a9 : PySem.W.nsIn K mainGlobals "_law_palette" = some (some (.ref f9))) (l9 : K.lookup f9 = some ⟨oc9, od9, .func (PySem.W.fnOf "_law_palette" "_law_palette" (defArgs s_l_palette) (defBody s_l_palette) (defScope s_l_palette) .none kV9 dc9 pm9 an9 cd9 ct9), sl9⟩) (c9 : PySem.W.codeIn K cd9 "_law_palette" = true) (k9 : PySem.W.keepIn K (.ref f9) = true)
    {f10 : Addr} {od10 an10 : Option Addr} {sl10 : Array (Option Value)} {oc10 kV10 dc10 pm10 cd10 ct10 : Value}
    (a10 : PySem.W.nsIn K mainGlobals "_law_line" = some (some (.ref f10))) (l10 : K.lookup f10 = some ⟨oc10, od10, .func (PySem.W.fnOf "_law_line" "_law_line" (defArgs s_l_line) (defBody s_l_line) (defScope s_l_line) .none kV10 dc10 pm10 an10 cd10 ct10), sl10⟩) (c10 : PySem.W.codeIn K cd10 "_law_line" = true) (k10 : PySem.W.keepIn K (.ref f10) = true)
    {f11 : Addr} {od11 an11 : Option Addr} {sl11 : Array (Option Value)} {oc11 kV11 dc11 pm11 cd11 ct11 : Value}
    (a11 : PySem.W.nsIn K mainGlobals "_law_apart" = some (some (.ref f11))) (l11 : K.lookup f11 = some ⟨oc11, od11, .func (PySem.W.fnOf "_law_apart" "_law_apart" (defArgs s_l_apart) (defBody s_l_apart) (defScope s_l_apart) .none kV11 dc11 pm11 an11 cd11 ct11), sl11⟩) (c11 : PySem.W.codeIn K cd11 "_law_apart" = true) (k11 : PySem.W.keepIn K (.ref f11) = true)
    {f12 : Addr} {od12 an12 : Option Addr} {sl12 : Array (Option Value)} {oc12 kV12 dc12 pm12 cd12 ct12 : Value}
    (a12 : PySem.W.nsIn K mainGlobals "_law_nearest" = some (some (.ref f12))) (l12 : K.lookup f12 = some ⟨oc12, od12, .func (PySem.W.fnOf "_law_nearest" "_law_nearest" (defArgs s_l_nearest) (defBody s_l_nearest) (defScope s_l_nearest) .none kV12 dc12 pm12 an12 cd12 ct12), sl12⟩) (c12 : PySem.W.codeIn K cd12 "_law_nearest" = true) (k12 : PySem.W.keepIn K (.ref f12) = true)
    {f13 : Addr} {od13 an13 : Option Addr} {sl13 : Array (Option Value)} {oc13 kV13 dc13 pm13 cd13 ct13 : Value}
    (a13 : PySem.W.nsIn K mainGlobals "_law_rows_due" = some (some (.ref f13))) (l13 : K.lookup f13 = some ⟨oc13, od13, .func (PySem.W.fnOf "_law_rows_due" "_law_rows_due" (defArgs s_l_rows_due) (defBody s_l_rows_due) (defScope s_l_rows_due) .none kV13 dc13 pm13 an13 cd13 ct13), sl13⟩) (c13 : PySem.W.codeIn K cd13 "_law_rows_due" = true) (k13 : PySem.W.keepIn K (.ref f13) = true)
    {f14 : Addr} {od14 an14 : Option Addr} {sl14 : Array (Option Value)} {oc14 kV14 dc14 pm14 cd14 ct14 : Value}
    (a14 : PySem.W.nsIn K mainGlobals "_law_number_of" = some (some (.ref f14))) (l14 : K.lookup f14 = some ⟨oc14, od14, .func (PySem.W.fnOf "_law_number_of" "_law_number_of" (defArgs s_l_number_of) (defBody s_l_number_of) (defScope s_l_number_of) .none kV14 dc14 pm14 an14 cd14 ct14), sl14⟩) (c14 : PySem.W.codeIn K cd14 "_law_number_of" = true) (k14 : PySem.W.keepIn K (.ref f14) = true)
    {f15 : Addr} {od15 an15 : Option Addr} {sl15 : Array (Option Value)} {oc15 kV15 dc15 pm15 cd15 ct15 : Value}
    (a15 : PySem.W.nsIn K mainGlobals "_law_same" = some (some (.ref f15))) (l15 : K.lookup f15 = some ⟨oc15, od15, .func (PySem.W.fnOf "_law_same" "_law_same" (defArgs s_l_same) (defBody s_l_same) (defScope s_l_same) .none kV15 dc15 pm15 an15 cd15 ct15), sl15⟩) (c15 : PySem.W.codeIn K cd15 "_law_same" = true) (k15 : PySem.W.keepIn K (.ref f15) = true)
    {f16 : Addr} {od16 an16 : Option Addr} {sl16 : Array (Option Value)} {oc16 kV16 dc16 pm16 cd16 ct16 : Value}
    (a16 : PySem.W.nsIn K mainGlobals "law" = some (some (.ref f16))) (l16 : K.lookup f16 = some ⟨oc16, od16, .func (PySem.W.fnOf "law" "law" (defArgs s_law) (defBody s_law) (defScope s_law) .none kV16 dc16 pm16 an16 cd16 ct16), sl16⟩) (c16 : PySem.W.codeIn K cd16 "law" = true) (k16 : PySem.W.keepIn K (.ref f16) = true)
    (z_abs : PySem.W.nsIn K mainGlobals "abs" = some none)
    (z_all : PySem.W.nsIn K mainGlobals "all" = some none)
    (z_bool : PySem.W.nsIn K mainGlobals "bool" = some none)
    (z_enumerate : PySem.W.nsIn K mainGlobals "enumerate" = some none)
    (z_int : PySem.W.nsIn K mainGlobals "int" = some none)
    (z_isinstance : PySem.W.nsIn K mainGlobals "isinstance" = some none)
    (z_len : PySem.W.nsIn K mainGlobals "len" = some none)
    (z_list : PySem.W.nsIn K mainGlobals "list" = some none)
    (z_max : PySem.W.nsIn K mainGlobals "max" = some none)
    (z_min : PySem.W.nsIn K mainGlobals "min" = some none)
    (z_range : PySem.W.nsIn K mainGlobals "range" = some none)
    (z_sorted : PySem.W.nsIn K mainGlobals "sorted" = some none)
    (z_str : PySem.W.nsIn K mainGlobals "str" = some none)
    (z_sum : PySem.W.nsIn K mainGlobals "sum" = some none)
    (z_tuple : PySem.W.nsIn K mainGlobals "tuple" = some none)
    (z_zip : PySem.W.nsIn K mainGlobals "zip" = some none)
    : ∃ fd : FuncData, (∀ (s : Shared) (v : Value), BindsTo s fd ⟨[v], []⟩ [("_law_script", v)]) ∧ ∀ base : Heap, K.In base → base.Ns mainGlobals mg → FnOk l.prog w K mg base CX0 6 fa fd ["_law_script"] (spLaw K) := by
  have e := hfa.symm.trans (PySem.W.mg_of X G a16)
  cases e
  exact ⟨_, fun s v => .of_eq rfl, fun base _ _ => ok_law (k := 0) {
      f_apart := f0, d_apart := _, F_apart := fun_mk (st := s_apart) l0 c0 k0, b_apart := (fun_mk (st := s_apart) l0 c0 k0).binds (ps := ["one", "other"]) fun _ _ _ _ _ _ us hl => match us, hl with | [_, _], _ => rfl, g_apart := PySem.W.mg_of X G a0,
      f_nearest := f1, d_nearest := _, F_nearest := fun_mk (st := s_nearest) l1 c1 k1, b_nearest := (fun_mk (st := s_nearest) l1 c1 k1).binds (ps := ["palette", "colour"]) fun _ _ _ _ _ _ us hl => match us, hl with | [_, _], _ => rfl, g_nearest := PySem.W.mg_of X G a1,
      f_first_places := f2, d_first_places := _, F_first_places := fun_mk (st := s_first_places) l2 c2 k2, b_first_places := (fun_mk (st := s_first_places) l2 c2 k2).binds (ps := ["palette"]) fun _ _ _ _ _ _ us hl => match us, hl with | [_], _ => rfl, g_first_places := PySem.W.mg_of X G a2,
      f_begin_between := f3, d_begin_between := _, F_begin_between := fun_mk (st := s_begin_between) l3 c3 k3, b_begin_between := (fun_mk (st := s_begin_between) l3 c3 k3).binds (ps := ["left", "right"]) fun _ _ _ _ _ _ us hl => match us, hl with | [_, _], _ => rfl, g_begin_between := PySem.W.mg_of X G a3,
      f_line_table := f4, d_line_table := _, F_line_table := fun_mk (st := s_line_table) l4 c4 k4, b_line_table := (fun_mk (st := s_line_table) l4 c4 k4).binds (ps := ["palette", "low", "high"]) fun _ _ _ _ _ _ us hl => match us, hl with | [_, _, _], _ => rfl, g_line_table := PySem.W.mg_of X G a4,
      f_l_mix := f5, d_l_mix := _, F_l_mix := fun_mk (st := s_l_mix) l5 c5 k5, b_l_mix := (fun_mk (st := s_l_mix) l5 c5 k5).binds (ps := ["_law_cell", "_law_k"]) fun _ _ _ _ _ _ us hl => match us, hl with | [_, _], _ => rfl, g_l_mix := PySem.W.mg_of X G a5,
      f_l_left := f6, d_l_left := _, F_l_left := fun_mk (st := s_l_left) l6 c6 k6, b_l_left := (fun_mk (st := s_l_left) l6 c6 k6).binds (ps := ["_law_script", "_law_k"]) fun _ _ _ _ _ _ us hl => match us, hl with | [_, _], _ => rfl, g_l_left := PySem.W.mg_of X G a6,
      f_l_pick := f7, d_l_pick := _, F_l_pick := fun_mk (st := s_l_pick) l7 c7 k7, b_l_pick := (fun_mk (st := s_l_pick) l7 c7 k7).binds (ps := ["_law_left_here", "_law_many"]) fun _ _ _ _ _ _ us hl => match us, hl with | [_, _], _ => rfl, g_l_pick := PySem.W.mg_of X G a7,
      f_l_colour := f8, d_l_colour := _, F_l_colour := fun_mk (st := s_l_colour) l8 c8 k8, b_l_colour := (fun_mk (st := s_l_colour) l8 c8 k8).binds (ps := ["_law_left_here", "_law_kind"]) fun _ _ _ _ _ _ us hl => match us, hl with | [_, _], _ => rfl, g_l_colour := PySem.W.mg_of X G a8,
      f_l_palette := f9, d_l_palette := _, F_l_palette := fun_mk (st := s_l_palette) l9 c9 k9, b_l_palette := (fun_mk (st := s_l_palette) l9 c9 k9).binds (ps := ["_law_left_here", "_law_kind"]) fun _ _ _ _ _ _ us hl => match us, hl with | [_, _], _ => rfl, g_l_palette := PySem.W.mg_of X G a9,
      f_l_line := f10, d_l_line := _, F_l_line := fun_mk (st := s_l_line) l10 c10 k10, b_l_line := (fun_mk (st := s_l_line) l10 c10 k10).binds (ps := ["_law_left_here"]) fun _ _ _ _ _ _ us hl => match us, hl with | [_], _ => rfl, g_l_line := PySem.W.mg_of X G a10,
      f_l_apart := f11, d_l_apart := _, F_l_apart := fun_mk (st := s_l_apart) l11 c11 k11, b_l_apart := (fun_mk (st := s_l_apart) l11 c11 k11).binds (ps := ["_law_one", "_law_other"]) fun _ _ _ _ _ _ us hl => match us, hl with | [_, _], _ => rfl, g_l_apart := PySem.W.mg_of X G a11,
      f_l_nearest := f12, d_l_nearest := _, F_l_nearest := fun_mk (st := s_l_nearest) l12 c12 k12, b_l_nearest := (fun_mk (st := s_l_nearest) l12 c12 k12).binds (ps := ["_law_palette_here", "_law_colour_here"]) fun _ _ _ _ _ _ us hl => match us, hl with | [_, _], _ => rfl, g_l_nearest := PySem.W.mg_of X G a12,
      f_l_rows_due := f13, d_l_rows_due := _, F_l_rows_due := fun_mk (st := s_l_rows_due) l13 c13 k13, b_l_rows_due := (fun_mk (st := s_l_rows_due) l13 c13 k13).binds (ps := ["_law_palette_here", "_law_low", "_law_high"]) fun _ _ _ _ _ _ us hl => match us, hl with | [_, _, _], _ => rfl, g_l_rows_due := PySem.W.mg_of X G a13,
      f_l_number_of := f14, d_l_number_of := _, F_l_number_of := fun_mk (st := s_l_number_of) l14 c14 k14, b_l_number_of := (fun_mk (st := s_l_number_of) l14 c14 k14).binds (ps := ["_law_table", "_law_n"]) fun _ _ _ _ _ _ us hl => match us, hl with | [_, _], _ => rfl, g_l_number_of := PySem.W.mg_of X G a14,
      f_l_same := f15, d_l_same := _, F_l_same := fun_mk (st := s_l_same) l15 c15 k15, b_l_same := (fun_mk (st := s_l_same) l15 c15 k15).binds (ps := ["_law_found", "_law_due"]) fun _ _ _ _ _ _ us hl => match us, hl with | [_, _], _ => rfl, g_l_same := PySem.W.mg_of X G a15,
      z_abs := PySem.W.mg_none_of X G z_abs,
      z_all := PySem.W.mg_none_of X G z_all,
      z_bool := PySem.W.mg_none_of X G z_bool,
      z_enumerate := PySem.W.mg_none_of X G z_enumerate,
      z_int := PySem.W.mg_none_of X G z_int,
      z_isinstance := PySem.W.mg_none_of X G z_isinstance,
      z_len := PySem.W.mg_none_of X G z_len,
      z_list := PySem.W.mg_none_of X G z_list,
      z_max := PySem.W.mg_none_of X G z_max,
      z_min := PySem.W.mg_none_of X G z_min,
      z_range := PySem.W.mg_none_of X G z_range,
      z_sorted := PySem.W.mg_none_of X G z_sorted,
      z_str := PySem.W.mg_none_of X G z_str,
      z_sum := PySem.W.mg_none_of X G z_sum,
      z_tuple := PySem.W.mg_none_of X G z_tuple,
      z_zip := PySem.W.mg_none_of X G z_zip } (fun_mk (st := s_law) l16 c16 k16) (by decide)⟩
end Z
open PySem PySem.W PyProof.Rows
set_option maxHeartbeats 0 in
theorem PySem.Challenge.cw_fewcolours_k15_tables_of_a_line_holds : PySem.Challenge.rw_fewcolours_k15_tables_of_a_line.Holds := by
  w_on; o_law; k_head; (case hw => w_witness2)
  k_fill
  refine L2.walk_of (l := PySem.Challenge.rw_fewcolours_k15_tables_of_a_line) (n := 63) (k := 6) (x := "_law_script") (CX := fun _ => L2.CX0) (sp := fun w => Z.spLaw _) rfl (by decide) rfl ⟨rfl, by decide, by decide⟩ (fun w h Y => PySem.W.kIn_of Y) ?F (fun _ _ a ns hl _ hS => ⟨a, ns, rfl, hS, hl, fun _ => rfl⟩) (fun _ _ _ _ _ h => h)
  case F =>
    intro w mg fa h KX G hmg
    refine' Z.all_mk KX G hmg ?a0 ?l0 ?c0 ?k0 ?a1 ?l1 ?c1 ?k1 ?a2 ?l2 ?c2 ?k2 ?a3 ?l3 ?c3 ?k3 ?a4 ?l4 ?c4 ?k4 ?a5 ?l5 ?c5 ?k5 ?a6 ?l6 ?c6 ?k6 ?a7 ?l7 ?c7 ?k7 ?a8 ?l8 ?c8 ?k8 ?a9 ?l9 ?c9 ?k9 ?a10 ?l10 ?c10 ?k10 ?a11 ?l11 ?c11 ?k11 ?a12 ?l12 ?c12 ?k12 ?a13 ?l13 ?c13 ?k13 ?a14 ?l14 ?c14 ?k14 ?a15 ?l15 ?c15 ?k15 ?a16 ?l16 ?c16 ?k16 ?z_abs ?z_all ?z_bool ?z_enumerate ?z_int ?z_isinstance ?z_len ?z_list ?z_max ?z_min ?z_range ?z_sorted ?z_str ?z_sum ?z_tuple ?z_zip
    case a0 => k_is
    case l0 => k_is
    case c0 => k_is
    case k0 => k_is
    case a1 => k_is
    case l1 => k_is
    case c1 => k_is
    case k1 => k_is
    case a2 => k_is
    case l2 => k_is
    case c2 => k_is
    case k2 => k_is
    case a3 => k_is
    case l3 => k_is
    case c3 => k_is
    case k3 => k_is
    case a4 => k_is
    case l4 => k_is
    case c4 => k_is
    case k4 => k_is
    case a5 => k_is
    case l5 => k_is
    case c5 => k_is
    case k5 => k_is
    case a6 => k_is
    case l6 => k_is
    case c6 => k_is
    case k6 => k_is
    case a7 => k_is
    case l7 => k_is
    case c7 => k_is
    case k7 => k_is
    case a8 => k_is
    case l8 => k_is
    case c8 => k_is
    case k8 => k_is
    case a9 => k_is
    case l9 => k_is
    case c9 => k_is
    case k9 => k_is
    case a10 => k_is
    case l10 => k_is
    case c10 => k_is
    case k10 => k_is
    case a11 => k_is
    case l11 => k_is
    case c11 => k_is
    case k11 => k_is
    case a12 => k_is
    case l12 => k_is
    case c12 => k_is
    case k12 => k_is
    case a13 => k_is
    case l13 => k_is
    case c13 => k_is
    case k13 => k_is
    case a14 => k_is
    case l14 => k_is
    case c14 => k_is
    case k14 => k_is
    case a15 => k_is
    case l15 => k_is
    case c15 => k_is
    case k15 => k_is
    case a16 => k_is
    case l16 => k_is
    case c16 => k_is
    case k16 => k_is
    case z_abs => k_is
    case z_all => k_is
    case z_bool => k_is
    case z_enumerate => k_is
    case z_int => k_is
    case z_isinstance => k_is
    case z_len => k_is
    case z_list => k_is
    case z_max => k_is
    case z_min => k_is
    case z_range => k_is
    case z_sorted => k_is
    case z_str => k_is
    case z_sum => k_is
    case z_tuple => k_is
    case z_zip => k_is

