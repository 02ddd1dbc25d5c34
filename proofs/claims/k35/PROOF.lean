import PyProof.Rows.All
import Wide.All
import OpenK.AllK
import Wide.FinOn
import HandS.ForMost
import HandS.Zip
import HandS.IsInst
import HandS.TupAny
import HandS.SortRule
import HandS.Style
import HandS.Walk
import HandS.Evl
import KE.DataMinMax
import HandS.TryOnly
import HandS.Wide
import HandS.Conv
import PyProof.Rows.RuleB_pow
import HandS.TupMul
import HandS.Sort
import KE.KRevSl
import PySem.Challenge.RW_fewcolours_k35_shares_by_themselves
set_option Elab.async false
set_option linter.all false
set_option maxRecDepth 100000
namespace Z
open PySem PySem.Spec PyProof.Rows L2
/-! ### heaps but for some addresses -/
def Dom (H H' : Hp) : Prop := ∀ a, H a ≠ none → H' a ≠ none
structure Go (B : List Addr) (H H' : Hp) : Prop where
  k : ∀ a o, a ∉ B → H a = some o → H' a = some o
  d : Dom H H'
def Bk (B : List Addr) (H : Hp) : Prop := ∀ a ∈ B, H a ≠ none
section
variable {B C : List Addr} {H H' H1 H2 : Hp} {p L : Addr} {o : HO}
theorem dom_new : Dom H (upd H p o) := fun a h => by
  by_cases e : a = p
  · subst e
    rw [upd_same]
    exact fun z => nomatch z
  · rw [upd_ne e]
    exact h
theorem dom_mut (d : Dom H H') : Dom H (upd H' p o) := fun a h => dom_new a (d a h)
theorem Go.refl : Go B H H := ⟨fun _ _ _ h => h, fun _ h => h⟩
theorem Go.trans (a : Go B H H1) (b : Go B H1 H2) : Go B H H2 := ⟨fun c o n h => b.k c o n (a.k c o n h), fun c h => b.d c (a.d c h)⟩
theorem same_dom (s : Same H H') : Dom H H' := fun a h => by
  cases q : H a with
  | none => exact absurd q h
  | some o => rw [s a o q]; exact fun z => nomatch z
theorem Go.of (s : Same H H') : Go B H H' := ⟨fun a o _ h => s a o h, same_dom s⟩
theorem Go.new (h : H p = none) : Go B H (upd H p o) := ⟨fun a u _ e => by
  rw [upd_ne (ne_of_none e h)]
  exact e, dom_new⟩
theorem Go.mut (g : Go B H H') (h : H p = none) : Go B H (upd H' p o) := ⟨fun a u n e => by
  rw [upd_ne (ne_of_none e h)]
  exact g.k a u n e, dom_mut g.d⟩
theorem Go.at (g : Go B H H') (h : p ∈ B) : Go B H (upd H' p o) := ⟨fun a u n e => by
  rw [upd_ne (show a ≠ p from fun z => n (by rw [z]; exact h))]
  exact g.k a u n e, dom_mut g.d⟩
theorem Go.w (g : Go C H H') (s : ∀ a ∈ C, a ∈ B) : Go B H H' := ⟨fun a o n h => g.k a o (fun q => n (s a q)) h, g.d⟩
theorem Go.w1 (g : Go [L] H H') (s : L ∈ B) : Go B H H' := g.w fun a h => by rw [List.mem_singleton.mp h]; exact s
theorem Go.free (g : Go B H H') (h : H' p = none) : H p = none := by
  cases q : H p with
  | none => rfl
  | some o => exact absurd h (g.d p (by rw [q]; exact fun z => nomatch z))
theorem Bk.go (b : Bk B H) (g : Go C H H') : Bk B H' := fun a h => g.d a (b a h)
theorem Bk.ne (b : Bk B H) (h : H p = none) : p ∉ B := fun q => b p q h
theorem Bk.cons (b : Bk B H) (h : H p = some o) : Bk (p :: B) H := fun a q => by
  rcases List.mem_cons.mp q with e | e
  · subst e
    rw [h]
    exact fun z => nomatch z
  · exact b a e
theorem Bk.up (b : Bk B H) : Bk B (upd H p o) := fun a h => dom_new a (b a h)
theorem sm_new (h : H p = none) : Same H (upd H p o) := fun b x e => by
  rw [upd_ne (ne_of_none e h)]
  exact e
theorem sm_mut (s : Same H H') (h : H p = none) : Same H (upd H' p o) := fun b x e => by
  rw [upd_ne (ne_of_none e h)]
  exact s b x e
/-- what was new behind H, and is in B, may change -/
theorem Go.sm (g : Go B H1 H2) (s : Same H H1) (n : ∀ a ∈ B, H a = none) : Same H H2 := fun a o h => g.k a o (fun q => by rw [n a q] at h; cases h) (s a o h)
theorem Go.cons (g : Go (p :: B) H1 H2) (s : Go B H H1) (h : H p = none) : Go B H H2 := ⟨fun a o n e => g.k a o (fun q => by
  rcases List.mem_cons.mp q with z | z
  · rw [z, h] at e
    cases e
  · exact n z) (s.k a o n e), fun a e => g.d a (s.d a e)⟩
end
/-! ### the list that is drawn from -/
def Lf (L : Addr) (H : Hp) (n : Nat) : Prop := ∃ a b c : Int, H L = some (.lst [.int a, .int b, .int c]) ∧ 0 ≤ a ∧ 0 ≤ c ∧ c ≤ (n : Int)
section
variable {L p : Addr} {H H' : Hp} {n m : Nat} {o : HO} {B : List Addr}
theorem Lf.mono (h : Lf L H n) (l : n ≤ m) : Lf L H m := by
  obtain ⟨a, b, c, e, h1, h2, h3⟩ := h
  exact ⟨a, b, c, e, h1, h2, by omega⟩
theorem Lf.same (h : Lf L H n) (s : Same H H') : Lf L H' n := by
  obtain ⟨a, b, c, e, h1, h2, h3⟩ := h
  exact ⟨a, b, c, s _ _ e, h1, h2, h3⟩
theorem Lf.go (h : Lf L H n) (g : Go B H H') (i : L ∉ B) : Lf L H' n := by
  obtain ⟨a, b, c, e, h1, h2, h3⟩ := h
  exact ⟨a, b, c, g.k _ _ i e, h1, h2, h3⟩
theorem Lf.ne (h : Lf L H n) (e : H p = none) : p ≠ L := fun q => by
  obtain ⟨a, b, c, e', _⟩ := h
  rw [q, e'] at e
  cases e
theorem Lf.up (h : Lf L H n) (e : p ≠ L) : Lf L (upd H p o) n := by
  obtain ⟨a, b, c, e', h1, h2, h3⟩ := h
  refine ⟨a, b, c, ?_, h1, h2, h3⟩
  rw [upd_ne (Ne.symm e)]
  exact e'
theorem Lf.new (h : Lf L H n) (e : H p = none) : Lf L (upd H p o) n := h.up (h.ne e)
theorem Lf.bk (h : Lf L H n) : Bk [L] H := fun a q => by
  obtain ⟨_, _, _, e, _⟩ := h
  rw [List.mem_singleton.mp q, e]
  exact fun z => nomatch z
end
/-! ### data apart from some addresses -/
mutual
inductive Dt (B : List Addr) (H : Hp) : V → PyData → Prop
  | non : Dt B H .non .none
  | bl (b : Bool) : Dt B H (.bl b) (.bool b)
  | int (i : Int) : Dt B H (.int i) (.int i)
  | str (x : Str) : Dt B H (.str x) (.str x)
  | lst {a : Addr} {xs : List V} {ds : List PyData} : a ∉ B → H a = some (.lst xs) → DtA B H xs ds → Dt B H (.ref a) (.list ds)
  | tup {a : Addr} {xs : List V} {ds : List PyData} : a ∉ B → H a = some (.tup xs) → DtA B H xs ds → Dt B H (.ref a) (.tuple ds)
inductive DtA (B : List Addr) (H : Hp) : List V → List PyData → Prop
  | nil : DtA B H [] []
  | cons {v : V} {vs : List V} {d : PyData} {ds : List PyData} : Dt B H v d → DtA B H vs ds → DtA B H (v :: vs) (d :: ds)
end
section
variable {B C : List Addr} {H H' : Hp} {p L : Addr}
mutual
/-- the general way from one to another -/
theorem Dt.to (f : ∀ a o, a ∉ B → H a = some o → a ∉ C ∧ H' a = some o) : ∀ (d : PyData) (v : V), Dt B H v d → Dt C H' v d
  | .none, _, h => by cases h; exact .non
  | .bool b, _, h => by cases h; exact .bl b
  | .int i, _, h => by cases h; exact .int i
  | .str x, _, h => by cases h; exact .str x
  | .list ds, _, h => by
    cases h with
    | lst n hs ha => exact .lst (f _ _ n hs).1 (f _ _ n hs).2 (DtA.to f ds _ ha)
  | .tuple ds, _, h => by
    cases h with
    | tup n hs ha => exact .tup (f _ _ n hs).1 (f _ _ n hs).2 (DtA.to f ds _ ha)
  | .dict _, _, h => by cases h
theorem DtA.to (f : ∀ a o, a ∉ B → H a = some o → a ∉ C ∧ H' a = some o) : ∀ (ds : List PyData) (vs : List V), DtA B H vs ds → DtA C H' vs ds
  | [], _, h => by cases h; exact .nil
  | d :: ds, _, h => by
    cases h with
    | cons h1 h2 => exact .cons (Dt.to f d _ h1) (DtA.to f ds _ h2)
end
mutual
theorem Dt.dp {K : PySem.W.Frag} : ∀ (d : PyData) (v : V), Dt B H v d → Dp K H v d
  | .none, _, h => by cases h; exact .non
  | .bool b, _, h => by cases h; exact .bl b
  | .int i, _, h => by cases h; exact .int i
  | .str x, _, h => by cases h; exact .str x
  | .list ds, _, h => by
    cases h with
    | lst n hs ha => exact .lst (SqL.of hs) (DtA.dp ds _ ha)
  | .tuple ds, _, h => by
    cases h with
    | tup n hs ha => exact .tup (SqT.of hs) (DtA.dp ds _ ha)
  | .dict _, _, h => by cases h
theorem DtA.dp {K : PySem.W.Frag} : ∀ (ds : List PyData) (vs : List V), DtA B H vs ds → DpAll K H vs ds
  | [], _, h => by cases h; exact .nil
  | d :: ds, _, h => by
    cases h with
    | cons h1 h2 => exact .cons (Dt.dp d _ h1) (DtA.dp ds _ h2)
end
variable {d : PyData} {v : V} {ds : List PyData} {vs ws : List V}
theorem Dt.g (h : Dt B H v d) (g : Go B H H') : Dt B H' v d := Dt.to (fun a o n e => ⟨n, g.k a o n e⟩) d v h
theorem DtA.g (h : DtA B H vs ds) (g : Go B H H') : DtA B H' vs ds := DtA.to (fun a o n e => ⟨n, g.k a o n e⟩) ds vs h
theorem Dt.s (h : Dt B H v d) (s : Same H H') : Dt B H' v d := h.g (Go.of s)
theorem DtA.s (h : DtA B H vs ds) (s : Same H H') : DtA B H' vs ds := h.g (Go.of s)
/-- a new address may change, too -/
theorem Dt.fr (h : Dt B H v d) (e : H p = none) : Dt (p :: B) H v d := Dt.to (fun a o n q => ⟨fun z => by
  rcases List.mem_cons.mp z with y | y
  · rw [y, e] at q
    cases q
  · exact n y, q⟩) d v h
theorem DtA.fr (h : DtA B H vs ds) (e : H p = none) : DtA (p :: B) H vs ds := DtA.to (fun a o n q => ⟨fun z => by
  rcases List.mem_cons.mp z with y | y
  · rw [y, e] at q
    cases q
  · exact n y, q⟩) ds vs h
theorem Dt.un (h : Dt (p :: B) H v d) : Dt B H v d := Dt.to (fun a o n q => ⟨fun z => n (List.mem_cons_of_mem _ z), q⟩) d v h
theorem DtA.un (h : DtA (p :: B) H vs ds) : DtA B H vs ds := DtA.to (fun a o n q => ⟨fun z => n (List.mem_cons_of_mem _ z), q⟩) ds vs h
theorem Dt.sub (h : Dt B H v d) (s : ∀ a ∈ C, a ∈ B) : Dt C H v d := Dt.to (fun a o n q => ⟨fun z => n (s a z), q⟩) d v h
theorem DtA.sub (h : DtA B H vs ds) (s : ∀ a ∈ C, a ∈ B) : DtA C H vs ds := DtA.to (fun a o n q => ⟨fun z => n (s a z), q⟩) ds vs h
theorem Dt.dP {K : PySem.W.Frag} (h : Dt B H v d) : Dp K H v d := Dt.dp d v h
theorem DtA.len {vs : List V} : ∀ {ds : List PyData}, DtA B H vs ds → vs.length = ds.length := by
  induction vs with
  | nil => intro ds h; cases h; rfl
  | cons v vs ih => intro ds h; cases h with | cons h1 h2 => rw [List.length_cons, List.length_cons, ih h2]
theorem DtA.get {vs : List V} : ∀ {ds : List PyData} {i : Nat} {d : PyData}, DtA B H vs ds → ds[i]? = some d → ∃ v, vs[i]? = some v ∧ Dt B H v d := by
  induction vs with
  | nil => intro ds i d h e; cases h; simp at e
  | cons v vs ih =>
    intro ds i d h e
    cases h with
    | cons h1 h2 =>
      cases i with
      | zero => cases e; exact ⟨v, rfl, h1⟩
      | succ i => exact ih (i := i) h2 (by simpa using e)
theorem DtA.getV {vs : List V} : ∀ {ds : List PyData} {i : Nat} {v : V}, DtA B H vs ds → vs[i]? = some v → ∃ d, ds[i]? = some d ∧ Dt B H v d := by
  induction vs with
  | nil => intro ds i d h e; simp at e
  | cons v vs ih =>
    intro ds i d h e
    cases h with
    | cons h1 h2 =>
      cases i with
      | zero => cases e; exact ⟨_, rfl, h1⟩
      | succ i => exact ih (i := i) h2 (by simpa using e)
theorem DtA.app {vs ws : List V} : ∀ {ds es : List PyData}, DtA B H vs ds → DtA B H ws es → DtA B H (vs ++ ws) (ds ++ es) := by
  induction vs with
  | nil => intro ds es h h2; cases h; exact h2
  | cons v vs ih =>
    intro ds es h h2
    cases h with
    | cons h1 h3 => exact .cons h1 (ih h3 h2)
theorem DtA.one (h : Dt B H v d) : DtA B H [v] [d] := .cons h .nil
theorem DtA.ints : ∀ ns : List Int, DtA B H (ns.map V.int) (ns.map PyData.int)
  | [] => .nil
  | n :: ns => .cons (.int n) (DtA.ints ns)
theorem DtA.intsV : ∀ {ns : List Int} {vs : List V}, DtA B H vs (ns.map PyData.int) → vs = ns.map V.int
  | [], _, h => by cases h; rfl
  | n :: ns, _, h => by
    cases h with
    | cons h1 h2 =>
      cases h1
      rw [DtA.intsV h2]
      rfl
theorem DtA.blsV : ∀ {ns : List Bool} {vs : List V}, DtA B H vs (ns.map PyData.bool) → vs = ns.map V.bl
  | [], _, h => by cases h; rfl
  | n :: ns, _, h => by
    cases h with
    | cons h1 h2 =>
      cases h1
      rw [DtA.blsV h2]
      rfl
/-- a colour; a list of ints; a palette -/
def eC (ns : List Int) : PyData := .tuple (ns.map .int)
def eI (ns : List Int) : PyData := .list (ns.map .int)
def eP (cs : List (List Int)) : PyData := .list (cs.map eC)
theorem Dt.col {v : V} {ns : List Int} (h : Dt B H v (eC ns)) : ∃ a, v = .ref a ∧ a ∉ B ∧ H a = some (.tup (ns.map V.int)) := by
  cases h with
  | tup n hs ha =>
    have e := DtA.intsV ha
    subst e
    exact ⟨_, rfl, n, hs⟩
theorem Dt.ofCol {a : Addr} {ns : List Int} (n : a ∉ B) (h : H a = some (.tup (ns.map V.int))) : Dt B H (.ref a) (eC ns) := .tup n h (DtA.ints ns)
theorem Dt.ofInts {a : Addr} {ns : List Int} (n : a ∉ B) (h : H a = some (.lst (ns.map V.int))) : Dt B H (.ref a) (eI ns) := .lst n h (DtA.ints ns)
theorem Dt.ints {v : V} {ns : List Int} (h : Dt B H v (eI ns)) : ∃ a, v = .ref a ∧ a ∉ B ∧ H a = some (.lst (ns.map V.int)) := by
  cases h with
  | lst n hs ha =>
    have e := DtA.intsV ha
    subst e
    exact ⟨_, rfl, n, hs⟩
theorem Dt.tupI {v : V} {ds : List PyData} (h : Dt B H v (.tuple ds)) : ∃ a vs, v = .ref a ∧ a ∉ B ∧ H a = some (.tup vs) ∧ DtA B H vs ds := by
  cases h with
  | tup n hs ha => exact ⟨_, _, rfl, n, hs, ha⟩
theorem Dt.lstI {v : V} {ds : List PyData} (h : Dt B H v (.list ds)) : ∃ a vs, v = .ref a ∧ a ∉ B ∧ H a = some (.lst vs) ∧ DtA B H vs ds := by
  cases h with
  | lst n hs ha => exact ⟨_, _, rfl, n, hs, ha⟩
theorem Dt.pal {v : V} {cs : List (List Int)} (h : Dt B H v (eP cs)) : ∃ a vs, v = .ref a ∧ a ∉ B ∧ H a = some (.lst vs) ∧ DtA B H vs (cs.map eC) := Dt.lstI h
theorem Dt.intI {v : V} {i : Int} (h : Dt B H v (.int i)) : v = .int i := by
  cases h
  rfl
end
/-! ### the rules that speak of the written part, with it named -/
def rLenS (K : PySem.W.Frag) : List V → Hp → VK → Prop := fun xs H Q => ∃ p ys, xs = [.ref p] ∧ (SqL K H p ys ∨ SqT K H p ys) ∧ Q (.int ys.length) H
def rListOf (K : PySem.W.Frag) : List V → Hp → VK → Prop := fun xs H Q => ∃ p ys, xs = [.ref p] ∧ (SqL K H p ys ∨ SqT K H p ys) ∧ ∀ l, H l = none → Q (.ref l) (upd H l (.lst ys))
def rTupOf (K : PySem.W.Frag) : List V → Hp → VK → Prop := fun xs H Q => ∃ p ys, xs = [.ref p] ∧ ((SqL K H p ys ∧ ∀ l, H l = none → Q (.ref l) (upd H l (.tup ys))) ∨ (SqT K H p ys ∧ Q (.ref p) H))
section
variable (K : PySem.W.Frag) {X : Cx}
theorem ix_listK (h : X.K = K := by rfl) : IxR X (rIxL K) := h ▸ ix_list
theorem ix_tupK (h : X.K = K := by rfl) : IxR X (rIxT K) := h ▸ ix_tup
theorem sl_listK (h : X.K = K := by rfl) : SlR X (rSlL K) := h ▸ sl_list
theorem sl_tupAK (h : X.K = K := by rfl) : SlR X (rSlA K) := h ▸ sl_tupA
theorem op_catAK (h : X.K = K := by rfl) : OpR X (binaryOp .Add) (rCatA K) := h ▸ op_catA
theorem op_eqDK (hu : X.A.units + 64 < cLine) (h : X.K = K := by rfl) : OpR X (compareOp .Eq) (rEqD K) := h ▸ op_eqD hu
theorem op_neDK (hu : X.A.units + 64 < cLine) (h : X.K = K := by rfl) : OpR X (compareOp .NotEq) (rNeD K) := h ▸ op_neD hu
theorem len_K (h : X.K = K := by rfl) : CallR X (.builtin "len") (rLenS K) := h ▸ call_len_seq
theorem list_K (h : X.K = K := by rfl) : CallR X (.type "list") (rListOf K) := h ▸ call_list_of
theorem tuple_K (h : X.K = K := by rfl) : CallR X (.type "tuple") (rTupOf K) := h ▸ call_tuple_of
theorem cr_sumK (hc : X.calm = true) (h : X.K = K := by rfl) : CallR X (.builtin "sum") (rSum K) := h ▸ cr_sum hc
theorem cr_maxK (hc : X.calm = true) (h : X.K = K := by rfl) : CallR X (.builtin "max") (rMax K) := h ▸ cr_max hc
theorem cr_minK (hc : X.calm = true) (h : X.K = K := by rfl) : CallR X (.builtin "min") (rMin K) := h ▸ cr_min hc
theorem cr_anyK (hc : X.calm = true) (h : X.K = K := by rfl) : CallR X (.builtin "any") (rAny K) := h ▸ cr_any hc
theorem cr_allK (hc : X.calm = true) (h : X.K = K := by rfl) : CallR X (.builtin "all") (rAll K) := h ▸ cr_all hc
theorem call_isiK1 (h : X.K = K := by rfl) : CallR X (.builtin "isinstance") (rIsi K) := h ▸ call_isi
theorem call_isiTK (h : X.K = K := by rfl) : CallR X (.builtin "isinstance") (rIsiT K) := h ▸ call_isiT
theorem cr_sortedK (h : X.K = K := by rfl) : CallR X (.builtin "sorted") (rSortedPO K) := h ▸ cr_sortedPO
theorem mt_indexK (h : X.K = K := by rfl) : MtR X "list.index" (rIndex K) := h ▸ mt_index
theorem pi_listK {tg l : Expr} {tl : TE} (hl : PE X l tl) (h : X.K = K := by rfl) : PI X tg l (iList K tl) := h ▸ pi_list hl
theorem pg_tupK {pos : Pos} {es : List Expr} {kk : Nat} {t : TGs} {n : Nat} (hc : X.calm = true) (h : PGs X es t) (hn : (assignEach es X.env).length = n := by rfl) (hst : (assignEach es X.env).findIdx? (·.1) = none := by rfl) (h2 : X.K = K := by rfl) : PG X (.Tuple es kk pos) (gTup K n t) :=
  h2 ▸ pg_tup hc h hn hst
theorem pi_tupK {tg l : Expr} {tl : TE} (hl : PE X l tl) (h : X.K = K := by rfl) : PI X tg l (iTup K tl) := h ▸ pi_tup hl
end
/-! ### shapes -/
mutual
def wide : PyData → Bool
  | .none | .bool _ | .int _ | .str _ => true
  | .list xs | .tuple xs => decide (xs.length ≤ 100000) && wideAll xs
  | .dict _ => false
def wideAll : List PyData → Bool
  | [] => true
  | x :: xs => wide x && wideAll xs
end
def Sh (d : PyData) (k : Nat) : Prop := d.canLay0 = true ∧ d.depth ≤ k ∧ wide d = true
theorem sh_all : ∀ {ds : List PyData} {k : Nat}, (∀ d ∈ ds, Sh d k) → PyData.canLayAll0 ds = true ∧ PyData.depthAll ds ≤ k ∧ wideAll ds = true
  | [], _, _ => ⟨rfl, Nat.zero_le _, by rw [wideAll]⟩
  | d :: ds, k, h => by
    obtain ⟨h1, h2, h4⟩ := sh_all (ds := ds) (k := k) fun x hx => h x (List.mem_cons_of_mem _ hx)
    have h3 := h d (List.mem_cons_self ..)
    refine ⟨?_, ?_, ?_⟩
    · rw [PyData.canLayAll0, h1, h3.1]; rfl
    · rw [PyData.depthAll]
      exact Nat.max_le.mpr ⟨h3.2.1, h2⟩
    · rw [wideAll, h4, h3.2.2]; rfl
theorem sh_mem : ∀ {ds : List PyData} {k : Nat}, PyData.canLayAll0 ds = true → PyData.depthAll ds ≤ k → wideAll ds = true → ∀ d ∈ ds, Sh d k
  | [], _, _, _, _, _, h => nomatch h
  | d :: ds, k, h1, h2, h3, x, hx => by
    rw [PyData.canLayAll0] at h1
    rw [PyData.depthAll] at h2
    rw [wideAll] at h3
    have a := Bool.and_eq_true_iff.mp h1
    have b := Nat.max_le.mp h2
    have c := Bool.and_eq_true_iff.mp h3
    rcases List.mem_cons.mp hx with e | e
    · rw [e]; exact ⟨a.1, b.1, c.1⟩
    · exact sh_mem a.2 b.2 c.2 x e
theorem sh_tup {ds : List PyData} {k : Nat} (l : ds.length ≤ 100000) (h : ∀ d ∈ ds, Sh d k) : Sh (.tuple ds) (k + 1) := by
  obtain ⟨h1, h2, h3⟩ := sh_all h
  exact ⟨by rw [PyData.canLay0]; exact h1, by rw [PyData.depth]; omega, by rw [wide, h3, decide_eq_true l]; rfl⟩
theorem sh_lst {ds : List PyData} {k : Nat} (l : ds.length ≤ 100000) (h : ∀ d ∈ ds, Sh d k) : Sh (.list ds) (k + 1) := by
  obtain ⟨h1, h2, h3⟩ := sh_all h
  exact ⟨by rw [PyData.canLay0]; exact h1, by rw [PyData.depth]; omega, by rw [wide, h3, decide_eq_true l]; rfl⟩
theorem sh_int (i : Int) (k : Nat) : Sh (.int i) k := ⟨rfl, by rw [PyData.depth]; omega, by rw [wide]⟩
theorem sh_bool (i : Bool) (k : Nat) : Sh (.bool i) k := ⟨rfl, by rw [PyData.depth]; omega, by rw [wide]⟩
theorem sh_none (k : Nat) : Sh .none k := ⟨rfl, by rw [PyData.depth]; omega, by rw [wide]⟩
theorem sh_eC {ns : List Int} (l : ns.length ≤ 100000) : Sh (eC ns) 1 := sh_tup (by simpa using l) fun d hd => by
  obtain ⟨n, _, rfl⟩ := List.mem_map.mp hd
  exact sh_int n 0
theorem sh_eI {ns : List Int} (l : ns.length ≤ 100000) : Sh (eI ns) 1 := sh_lst (by simpa using l) fun d hd => by
  obtain ⟨n, _, rfl⟩ := List.mem_map.mp hd
  exact sh_int n 0
theorem sh_eP {cs : List (List Int)} (l : cs.length ≤ 100000) (h : ∀ c ∈ cs, c.length ≤ 100000) : Sh (eP cs) 2 := sh_lst (by simpa using l) fun d hd => by
  obtain ⟨n, m, rfl⟩ := List.mem_map.mp hd
  exact sh_eC (h n m)
theorem Sh.mono {d : PyData} {j k : Nat} (h : Sh d j) (l : j ≤ k) : Sh d k := ⟨h.1, Nat.le_trans h.2.1 l, h.2.2⟩
theorem Sh.sh {d : PyData} {k : Nat} (h : Sh d k) (l : k ≤ 64) : SeqAt.shaped d = true := by
  unfold SeqAt.shaped
  rw [h.1, decide_eq_true (Nat.le_trans h.2.1 l)]
  rfl
theorem Sh.tupI {ds : List PyData} {k : Nat} (h : Sh (.tuple ds) k) : ∃ j, k = j + 1 ∧ (∀ d ∈ ds, Sh d j) ∧ ds.length ≤ 100000 := by
  obtain ⟨h1, h2, h3⟩ := h
  rw [PyData.canLay0] at h1
  rw [PyData.depth] at h2
  rw [wide] at h3
  have c := Bool.and_eq_true_iff.mp h3
  exact ⟨k - 1, by omega, sh_mem h1 (by omega) c.2, of_decide_eq_true c.1⟩
theorem Sh.lstI {ds : List PyData} {k : Nat} (h : Sh (.list ds) k) : ∃ j, k = j + 1 ∧ (∀ d ∈ ds, Sh d j) ∧ ds.length ≤ 100000 := by
  obtain ⟨h1, h2, h3⟩ := h
  rw [PyData.canLay0] at h1
  rw [PyData.depth] at h2
  rw [wide] at h3
  have c := Bool.and_eq_true_iff.mp h3
  exact ⟨k - 1, by omega, sh_mem h1 (by omega) c.2, of_decide_eq_true c.1⟩
/-! ### isinstance -/
def tyn : PyData → String
  | .none => "NoneType" | .bool _ => "bool" | .int _ => "int" | .str _ => "str" | .list _ => "list" | .tuple _ => "tuple" | .dict _ => "dict"
theorem Dt.ty {K : PySem.W.Frag} {B : List Addr} {H : Hp} {v : V} {d : PyData} (h : Dt B H v d) : TyX K H v (.type (tyn d)) := by
  cases h with
  | non => exact .base .non
  | bl b => exact .base (.bl b)
  | int i => exact .base (.int i)
  | str x => exact .base (.str x)
  | lst n hs ha => exact .base (.lst hs)
  | tup n hs ha => exact .base (.tup hs)
theorem r_isi {K : PySem.W.Frag} {H : Hp} {Q : VK} {x : V} {t n : String} {b : Bool} (h : TyX K H x (.type t)) (e : kitB t n = some b) (q : Q (.bl b) H) : rIsi K [x, .ty n] H Q := ⟨x, .ty n, _, _, b, rfl, .ty n, h, kit_ty e, q⟩
theorem iteD {c A B : Prop} [Decidable c] (hc : c) (h : A) : if decide c = true then A else B := by
  rw [if_pos (decide_eq_true hc)]
  exact h
theorem iteE {A B : Prop} {c : Bool} (hc : c = true) (h : A) : if c = true then A else B := by
  rw [if_pos hc]
  exact h
theorem iteN {A B : Prop} {c : Bool} (hc : c = false) (h : B) : if c = true then A else B := by
  rw [hc, if_neg Bool.false_ne_true]
  exact h
/-! ### comprehensions -/
theorem lc_yes {te : TE} {σ : L2.St} {H : Hp} {Qy : VK} {N : Hp → Prop} (h : te σ H Qy) : tYes σ H (fun b H3 => if b = true then te σ H3 Qy else N H3) := by
  show if true = true then te σ H Qy else N H
  rw [if_pos rfl]
  exact h
theorem walk_zipT {K : PySem.W.Frag} {a b : Addr} {xs ys : List V} {n : Nat} (hn : n = min xs.length ys.length) : Walk (RZ.ItzT K a b) n (fun H => SqT K H a xs ∧ SqT K H b ys) (YPair (fun i => xs[i]?) (fun i => ys[i]?)) := by
  subst hn
  refine ⟨fun i _ hi q => ?_, fun _ q => ⟨xs, ys, q.1, q.2, by omega⟩, fun i H v H' _ q y => ?_⟩
  · have h1 : i < xs.length := by omega
    have h2 : i < ys.length := by omega
    exact ⟨xs, ys, xs[i], ys[i], q.1, q.2, by simp [h1], by simp [h2]⟩
  · obtain ⟨T, x, z, h1, h2, h3, h4, h5⟩ := y
    exact ⟨T, x, z, h1, h2, h3, h4 xs q.1, h5 ys q.2⟩
theorem sz {n : Nat} (h : n ≤ 100000) : n < sizeLine := Nat.lt_of_le_of_lt h (by decide)
/-- a comprehension that leaves all as it was: what it makes, item by item -/
theorem lc_pure {J : It} {n : Nat} {G : Hp → Prop} {Y : Nat → Hp → V → Hp → Prop} (w : Walk J n G Y) {g : TG} {tt : TT} {te : TE} {vs : List Nat} {σ : L2.St} {H1 : Hp} {D : Addr} {Qd : Hp → Prop} {B : List Addr}
    (hD : H1 D = none) (hB : Bk B H1) (hG : ∀ H', Same H1 H' → G H') (hn : n ≤ 100000) (e : Nat → Option PyData)
    (hs : ∀ (i : Nat) (x : V) (H' H'' : Hp) (Ny : V → Hp → Prop) (Nn : Hp → Prop), i < n → Same H1 H' → Bk (D :: B) H' → Y i H' x H'' → (∀ y H4 d, e i = some d → Same H' H4 → Dt (D :: B) H4 y d → Ny y H4) → (∀ H3, e i = none → Same H' H3 → Nn H3) →
      g x (wipe σ vs) H'' fun σ2 H2 => wipe σ2 vs = wipe σ vs ∧ tt σ2 H2 fun b H3 => if b = true then te σ2 H3 Ny else Nn H3)
    (hd : ∀ (H' : Hp) (ws : List V), Same H1 H' → H' D = some (.lst ws) → DtA (D :: B) H' ws ((List.range n).filterMap e) → Qd H') :
    ∃ W : Nat → Nat → Hp → Prop, (∃ m, W 0 m (upd H1 D (.lst []))) ∧ ∀ i m H, W i m H →
      (J.stop i H ∧ Qd H) ∨ (J.go i H ∧ ∃ Nx : Hp → Prop, (∀ H', Nx H' → ∃ m', m' < m ∧ W (i + 1) m' H') ∧ ∀ x H', J.yld i H x H' → g x (wipe σ vs) H' fun σ2 H2 => wipe σ2 vs = wipe σ vs ∧ tt σ2 H2 fun b H3 =>
        if b = true then te σ2 H3 fun y H4 => ∃ acc, H4 D = some (.lst acc) ∧ acc.length < sizeLine ∧ Nx (upd H4 D (.lst (acc ++ [y]))) else Nx H3) := by
  refine lc_it w (fun i H' => Same H1 H' ∧ ∃ ws, H' D = some (.lst ws) ∧ DtA (D :: B) H' ws ((List.range i).filterMap e) ∧ ws.length ≤ i) ⟨sm_new hD, [], upd_same, .nil, Nat.le_refl _⟩ (fun i H' _ h => hG H' h.1) (fun i x H' H'' hi h y => ?_) (fun H' h => ?_)
  · obtain ⟨s1, ws, eD, hA, hl⟩ := h
    have hb : Bk (D :: B) H' := (hB.go (Go.of (B := B) s1)).cons eD
    refine hs i x H' H'' _ _ hi s1 hb y (fun y H4 d ed s4 hy => ?_) (fun H3 ed s3 => ?_)
    · refine ⟨ws, s4 _ _ eD, sz (by omega), sm_mut (s1.trans s4) hD, ws ++ [y], upd_same, ?_, by simp; omega⟩
      rw [List.range_succ, List.filterMap_append]
      have g4 : Go (D :: B) H4 (upd H4 D (.lst (ws ++ [y]))) := Go.refl.at (List.mem_cons_self ..)
      refine DtA.app ((hA.s s4).g g4) ?_
      simp only [List.filterMap_cons, List.filterMap_nil, ed]
      exact .one (hy.g g4)
    · refine ⟨s1.trans s3, ws, s3 _ _ eD, ?_, by omega⟩
      rw [List.range_succ, List.filterMap_append]
      simp only [List.filterMap_cons, List.filterMap_nil, ed, List.append_nil]
      exact hA.s s3
  · obtain ⟨s1, ws, eD, hA, hl⟩ := h
    exact hd H' ws s1 eD hA
theorem fm_take {α : Type} (ys : List α) : ∀ n, (List.range n).filterMap (fun i => ys[i]?) = ys.take n
  | 0 => by simp
  | n + 1 => by
    rw [List.range_succ, List.filterMap_append, fm_take ys n, List.take_add_one]
    cases h : ys[n]? <;> simp [h]
theorem fm_all {α : Type} {ys : List α} {n : Nat} (h : ys.length = n) : (List.range n).filterMap (fun i => ys[i]?) = ys := by
  rw [fm_take, ← h, List.take_length]
theorem at0 {α : Type} {xs : List α} {i : Int} {v : α} (h : 0 ≤ i) (e : xs[i.toNat]? = some v) : atI xs i = some v := by
  have := atI_nat e
  rw [Int.toNat_of_nonneg h] at this
  exact this
theorem bit_ok (b : Bool) : (-(2 ^ 64) : Int) < (if b = true then 1 else 0) ∧ (if b = true then 1 else 0 : Int) < 2 ^ 64 := by cases b <;> decide
theorem md {j : Int} (h : 0 < j) : 0 < j := h
theorem at_in {xs : List V} {r : Int} (h0 : 0 ≤ r) (h1 : r < xs.length) : ∃ v, v ∈ xs ∧ atI xs r = some v := by
  have h : r.toNat < xs.length := by omega
  exact ⟨xs[r.toNat], List.getElem_mem h, at0 h0 (List.getElem?_eq_getElem h)⟩
theorem at_int {ns : List Int} {r : Int} (h0 : 0 ≤ r) (h1 : r < ns.length) : ∃ z, z ∈ ns ∧ atI (ns.map V.int) r = some (.int z) := by
  have h : r.toNat < ns.length := by omega
  exact ⟨ns[r.toNat], List.getElem_mem h, at0 h0 (by rw [List.getElem?_map, List.getElem?_eq_getElem h]; rfl)⟩
theorem at2 (x y : V) (b : Bool) : atI [x, y] (if b = true then 1 else 0) = some (if b = true then y else x) := by cases b <;> rfl
/-- numbers within bounds -/
def cIn (lo hi : Int) (ns : List Int) : Prop := ∀ x ∈ ns, lo ≤ x ∧ x ≤ hi
theorem cIn.app {lo hi x : Int} {ns : List Int} (h : cIn lo hi ns) (h1 : lo ≤ x) (h2 : x ≤ hi) : cIn lo hi (ns ++ [x]) := fun y hy => by
  rcases List.mem_append.mp hy with q | q
  · exact h y q
  · rw [List.mem_singleton.mp q]
    exact ⟨h1, h2⟩
theorem cIn.nil {lo hi : Int} : cIn lo hi [] := fun _ h => nomatch h
theorem cIn.mono {lo hi lo' hi' : Int} {ns : List Int} (h : cIn lo hi ns) (h1 : lo' ≤ lo) (h2 : hi ≤ hi') : cIn lo' hi' ns := fun x hx => by
  have := h x hx
  omega
/-- a comprehension of drawn numbers -/
theorem lc_ints {J : It} {n : Nat} {G : Hp → Prop} {Y : Nat → Hp → V → Hp → Prop} (w : Walk J n G Y) {g : TG} {tt : TT} {te : TE} {vs : List Nat} {σ : L2.St} {H1 : Hp} {D L : Addr} {Qd : Hp → Prop} (N u : Nat) (lo hi : Int)
    (hD : H1 D = none) (hL : Lf L H1 N) (hG : ∀ H', Go [L] H1 H' → G H') (hn : n ≤ 100000)
    (hs : ∀ (i : Nat) (x : V) (H' H'' : Hp) (Ny : V → Hp → Prop) (Nn : Hp → Prop), i < n → Go [L] H1 H' → Lf L H' (N + u * i) → Y i H' x H'' → (∀ (z : Int) H4, Go [L] H' H4 → Lf L H4 (N + u * i + u) → lo ≤ z → z ≤ hi → Ny (.int z) H4) →
      g x (wipe σ vs) H'' fun σ2 H2 => wipe σ2 vs = wipe σ vs ∧ tt σ2 H2 fun b H3 => if b = true then te σ2 H3 Ny else Nn H3)
    (hd : ∀ (H' : Hp) (ns : List Int), Go [L] H1 H' → Lf L H' (N + u * n) → H' D = some (.lst (ns.map V.int)) → ns.length = n → cIn lo hi ns → Qd H') :
    ∃ W : Nat → Nat → Hp → Prop, (∃ m, W 0 m (upd H1 D (.lst []))) ∧ ∀ i m H, W i m H →
      (J.stop i H ∧ Qd H) ∨ (J.go i H ∧ ∃ Nx : Hp → Prop, (∀ H', Nx H' → ∃ m', m' < m ∧ W (i + 1) m' H') ∧ ∀ x H', J.yld i H x H' → g x (wipe σ vs) H' fun σ2 H2 => wipe σ2 vs = wipe σ vs ∧ tt σ2 H2 fun b H3 =>
        if b = true then te σ2 H3 fun y H4 => ∃ acc, H4 D = some (.lst acc) ∧ acc.length < sizeLine ∧ Nx (upd H4 D (.lst (acc ++ [y]))) else Nx H3) := by
  have nD : D ∉ [L] := hL.bk.ne hD
  refine lc_it w (fun i H' => Go [L] H1 H' ∧ Lf L H' (N + u * i) ∧ ∃ ns : List Int, H' D = some (.lst (ns.map V.int)) ∧ ns.length = i ∧ cIn lo hi ns) ⟨Go.new hD, hL.new hD, [], upd_same, rfl, cIn.nil⟩ (fun i H' _ h => hG H' h.1) (fun i x H' H'' hi h y => ?_) (fun H' h => ?_)
  · obtain ⟨g1, l1, ns, eD, en, cn⟩ := h
    refine hs i x H' H'' _ _ hi g1 l1 y (fun z H4 g4 l4 z0 z1 => ?_)
    refine ⟨ns.map V.int, g4.k D _ nD eD, sz (by rw [List.length_map]; omega), (g1.trans g4).mut hD, (l4.up (hL.ne hD)).mono (by rw [Nat.mul_succ]; omega), ns ++ [z], ?_, by simp; omega, cn.app z0 z1⟩
    rw [upd_same, List.map_append]
    rfl
  · obtain ⟨g1, l1, ns, eD, en, cn⟩ := h
    exact hd H' ns g1 l1 eD en cn
theorem mat {a : List Int} {i : Nat} {x : V} (h : i < a.length) (e : (a.map V.int)[i]? = some x) : x = .int a[i] := by
  rw [List.getElem?_map, List.getElem?_eq_getElem h] at e
  exact (Option.some.inj e).symm
end Z

set_option Elab.async false
set_option linter.all false
set_option maxRecDepth 100000
namespace Z
open PySem PySem.Spec PyProof.Rows L2
open PySem.W (dataLt minD alike alikeAll dataLt_tuple dataLt_all_yes dataLt_all_no dataLt_int min_list_data readsAll_at reads_keeps AlikeAll)
/-! ### the least of pairs -/
def enc (p : Int × Int) : PyData := eC [p.1, p.2]
theorem enc_inj {p q : Int × Int} (h : enc p = enc q) : p = q := by
  have h1 : [PyData.int p.1, PyData.int p.2] = [PyData.int q.1, PyData.int q.2] := by
    unfold enc eC at h
    exact PyData.tuple.inj h
  have h2 := (List.cons.inj h1)
  have h3 := (List.cons.inj h2.2)
  exact Prod.ext (PyData.int.inj h2.1) (PyData.int.inj h3.1)
theorem lt_enc (p q : Int × Int) : dataLt (enc p) (enc q) = SrtO.lexB p q := by
  unfold enc eC
  rw [dataLt_tuple]
  simp only [List.map_cons, List.map_nil]
  unfold SrtO.lexB
  by_cases h : p.1 = q.1
  · rw [if_pos h, dataLt_all_yes (by rfl) (by simp [PyData.eqv, h])]
    by_cases h2 : p.2 = q.2
    · rw [dataLt_all_yes (by rfl) (by simp [PyData.eqv, h2]), decide_eq_false (by omega)]
      rfl
    · rw [dataLt_all_no (by rfl) (by simp [PyData.eqv, h2]), dataLt_int]
  · rw [if_neg h, dataLt_all_no (by rfl) (by simp [PyData.eqv, h]), dataLt_int]
def minP (p : Int × Int) (ps : List (Int × Int)) : Int × Int := ps.foldl (fun a y => if SrtO.lexB y a then y else a) p
theorem minD_enc (p : Int × Int) (ps : List (Int × Int)) : minD (enc p) (ps.map enc) = enc (minP p ps) := by
  unfold minD minP
  induction ps generalizing p with
  | nil => rfl
  | cons x r ih =>
    rw [List.map_cons, List.foldl_cons, List.foldl_cons, lt_enc]
    by_cases h : SrtO.lexB x p = true
    · rw [if_pos h, if_pos h]; exact ih x
    · rw [if_neg h, if_neg h]; exact ih p
theorem minP_le (p : Int × Int) (ps : List (Int × Int)) : ∀ q ∈ p :: ps, SrtO.lexB q (minP p ps) = false := by
  unfold minP
  induction ps generalizing p with
  | nil =>
    intro q hq
    rw [List.mem_singleton.mp hq]
    exact SrtO.lexB_no.mpr (by simp only [List.foldl_nil]; omega)
  | cons x r ih =>
    intro q hq
    rw [List.foldl_cons]
    by_cases h : SrtO.lexB x p = true
    · rw [if_pos h]
      rcases List.mem_cons.mp hq with e | e
      · have i1 := SrtO.lexB_no.mp (ih x x (List.mem_cons_self ..))
        have i2 := SrtO.lexB_iff.mp h
        rw [e]
        exact SrtO.lexB_no.mpr (by omega)
      · exact ih x q e
    · rw [if_neg h]
      rcases List.mem_cons.mp hq with e | e
      · exact ih p q (by rw [e]; exact List.mem_cons_self ..)
      · rcases List.mem_cons.mp e with e | e
        · have i1 := SrtO.lexB_no.mp (ih p p (List.mem_cons_self ..))
          have i2 := SrtO.lexB_no.mp (Bool.eq_false_iff.mpr h)
          rw [e]
          exact SrtO.lexB_no.mpr (by omega)
        · exact ih p q (List.mem_cons_of_mem _ e)
theorem alike_enc (p q : Int × Int) : alike (enc p) (enc q) = true := by
  unfold enc eC
  simp [alike, alikeAll]
theorem dep_enc : ∀ ps : List (Int × Int), PyData.depthAll (ps.map enc) ≤ 1
  | [] => Nat.zero_le _
  | p :: ps => by
    rw [List.map_cons, PyData.depthAll]
    exact Nat.max_le.mpr ⟨(sh_eC (ns := [p.1, p.2]) (by simp)).2.1, dep_enc ps⟩
/-- min(xs), xs a list of pairs of ints: one of the least -/
def rMinP (K : PySem.W.Frag) : List V → Hp → VK → Prop := fun vs H Q => ∃ (a : Addr) (xs : List V) (p : Int × Int) (ps : List (Int × Int)), vs = [V.ref a] ∧ SqL K H a xs ∧ DpAll K H xs ((p :: ps).map enc) ∧
  ∀ (i : Nat) (x : V), xs[i]? = some x → (p :: ps)[i]? = some (minP p ps) → Q x H
theorem cr_minP (K : PySem.W.Frag) {X : Cx} (hc : X.calm = true) (hu : X.A.units + 64 < cLine) (hK : X.K = K := by rfl) : CallR X (.builtin "min") (rMinP K) := by
  subst hK
  intro pins s σ H vs us Q I r h
  obtain ⟨a, xs, p, ps, rfl, hs, hd, q⟩ := h
  obtain ⟨its, rv, hl, hz⟩ := I.list hs
  obtain ⟨u, rfl, ru⟩ := vals1 r
  obtain rfl : u = Value.ref a := ru
  obtain ⟨as, hr⟩ := Dp.readsAll I _ xs its hd rv
  rw [List.map_cons] at hr
  have hdep := dep_enc (p :: ps)
  rw [List.map_cons] at hdep
  refine min_list_data (x := enc p) (xs := ps.map enc) (I.ok.hd hc) hl.isList (by simpa using hr) ⟨fun x hx y hy => ?_, fun x hx => ?_⟩ (by omega) fun i v h' tk bs hv rd hk => ?_
  · rw [← List.map_cons] at hx hy
    obtain ⟨x, _, rfl⟩ := List.mem_map.mp hx
    obtain ⟨y, _, rfl⟩ := List.mem_map.mp hy
    exact alike_enc x y
  · rw [← List.map_cons] at hx
    obtain ⟨x, _, rfl⟩ := List.mem_map.mp hx
    intro z
    unfold enc eC at z
    cases z
  · have hv2 : its[i]? = some v := by simpa using hv
    have hi : i < its.length := (List.getElem?_eq_some_iff.mp hv2).1
    have hi2 : i < xs.length := by rw [rv.length]; exact hi
    obtain ⟨w, hw, rw1⟩ := rv.get (List.getElem?_eq_getElem hi2)
    have ew : w = v := Option.some.inj (hw.symm.trans hv2)
    subst ew
    obtain ⟨cs, r1, l1, m1, _⟩ := readsAll_at hr i w hv2
    rw [← List.map_cons] at l1 m1 r1
    rw [List.length_map] at l1
    have eg : ((p :: ps).map enc).getD i .none = enc (p :: ps)[i] := by
      rw [List.getD_eq_getElem?_getD, List.getElem?_map, List.getElem?_eq_getElem l1]
      rfl
    rw [eg] at r1
    rw [minD_enc] at rd
    have ee := SeqAt.Reads.unique _ _ _ _ _ (sh_eC (ns := [((p :: ps)[i]).1, ((p :: ps)[i]).2]) (by simp)).1 (reads_keeps hk r1) rd
    have ep : (p :: ps)[i] = minP p ps := enc_inj ee
    exact ⟨xs[i], H, I.kept (t' := tk) hk, rw1, q i _ (List.getElem?_eq_getElem hi2) (by rw [List.getElem?_eq_getElem l1, ep])⟩
theorem DtA.rev {B : List Addr} {H : Hp} : ∀ {vs : List V} {ds : List PyData}, DtA B H vs ds → DtA B H vs.reverse ds.reverse
  | [], _, h => by
    cases h
    exact .nil
  | v :: vs, _, h => by
    cases h with
    | cons h1 h2 =>
      rw [List.reverse_cons, List.reverse_cons]
      exact (DtA.rev h2).app (.one h1)
theorem DtA.dP {K : PySem.W.Frag} {B : List Addr} {H : Hp} {vs : List V} {ds : List PyData} (h : DtA B H vs ds) : DpAll K H vs ds := DtA.dp ds vs h
/-- a comprehension of drawn data -/
theorem lc_dtsB {J : It} {n : Nat} {G : Hp → Prop} {Y : Nat → Hp → V → Hp → Prop} (w : Walk J n G Y) {g : TG} {tt : TT} {te : TE} {vs : List Nat} {σ : L2.St} {H1 : Hp} {D L : Addr} {B : List Addr} {Qd : Hp → Prop} (N u : Nat) (Pd : PyData → Prop)
    (hD : H1 D = none) (hL : Lf L H1 N) (LB : L ∈ B) (hB : Bk B H1) (hG : ∀ H', Go [L] H1 H' → G H') (hn : n ≤ 100000)
    (hs : ∀ (i : Nat) (x : V) (H' H'' : Hp) (Ny : V → Hp → Prop) (Nn : Hp → Prop), i < n → Go [L] H1 H' → Lf L H' (N + u * i) → Bk (D :: B) H' → Y i H' x H'' → (∀ (v : V) (d : PyData) H4, Go [L] H' H4 → Lf L H4 (N + u * i + u) → Dt (D :: B) H4 v d → Pd d → Ny v H4) →
      g x (wipe σ vs) H'' fun σ2 H2 => wipe σ2 vs = wipe σ vs ∧ tt σ2 H2 fun b H3 => if b = true then te σ2 H3 Ny else Nn H3)
    (hd : ∀ (H' : Hp) (ws : List V) (ds : List PyData), Go [L] H1 H' → Lf L H' (N + u * n) → H' D = some (.lst ws) → DtA (D :: B) H' ws ds → ds.length = n → (∀ d ∈ ds, Pd d) → Qd H') :
    ∃ W : Nat → Nat → Hp → Prop, (∃ m, W 0 m (upd H1 D (.lst []))) ∧ ∀ i m H, W i m H →
      (J.stop i H ∧ Qd H) ∨ (J.go i H ∧ ∃ Nx : Hp → Prop, (∀ H', Nx H' → ∃ m', m' < m ∧ W (i + 1) m' H') ∧ ∀ x H', J.yld i H x H' → g x (wipe σ vs) H' fun σ2 H2 => wipe σ2 vs = wipe σ vs ∧ tt σ2 H2 fun b H3 =>
        if b = true then te σ2 H3 fun y H4 => ∃ acc, H4 D = some (.lst acc) ∧ acc.length < sizeLine ∧ Nx (upd H4 D (.lst (acc ++ [y]))) else Nx H3) := by
  have nD : D ∉ [L] := hL.bk.ne hD
  refine lc_it w (fun i H' => Go [L] H1 H' ∧ Lf L H' (N + u * i) ∧ ∃ ws ds, H' D = some (.lst ws) ∧ DtA (D :: B) H' ws ds ∧ ds.length = i ∧ ∀ d ∈ ds, Pd d) ⟨Go.new hD, hL.new hD, [], [], upd_same, .nil, rfl, fun _ h => (nomatch h)⟩ (fun i H' _ h => hG H' h.1) (fun i x H' H'' hi h y => ?_) (fun H' h => ?_)
  · obtain ⟨g1, l1, ws, ds, eD, hA, en, hp⟩ := h
    refine hs i x H' H'' _ _ hi g1 l1 ((hB.go g1).cons eD) y (fun z d H4 g4 l4 dz pd => ?_)
    have gm : Go (D :: B) H4 (upd H4 D (.lst (ws ++ [z]))) := Go.refl.at (List.mem_cons_self ..)
    have lw := hA.len
    refine ⟨ws, g4.k D _ nD eD, sz (by omega), (g1.trans g4).mut hD, (l4.up (hL.ne hD)).mono (by rw [Nat.mul_succ]; omega), ws ++ [z], ds ++ [d], upd_same, ((hA.g (g4.w1 (List.mem_cons_of_mem _ LB))).g gm).app (.one (dz.g gm)), by simp; omega, fun e he => ?_⟩
    rcases List.mem_append.mp he with he | he
    · exact hp e he
    · rw [List.mem_singleton.mp he]
      exact pd
  · obtain ⟨g1, l1, ws, ds, eD, hA, en, hp⟩ := h
    exact hd H' ws ds g1 l1 eD hA en hp
/-- a part of a list -/
def cutL {α : Type} (xs : List α) (lo hi : Option Int) : List α := (xs.drop (HT.sIx xs.length 0 lo)).take (HT.sIx xs.length xs.length hi - HT.sIx xs.length 0 lo)
theorem cutL_sub {α : Type} {xs : List α} {lo hi : Option Int} {x : α} (h : x ∈ cutL xs lo hi) : x ∈ xs := List.mem_of_mem_drop (List.mem_of_mem_take h)
theorem cutL_len {α : Type} (xs : List α) (lo hi : Option Int) : (cutL xs lo hi).length ≤ xs.length := by
  unfold cutL
  rw [List.length_take, List.length_drop]
  omega
theorem DtA.drop {B : List Addr} {H : Hp} : ∀ (n : Nat) {vs : List V} {ds : List PyData}, DtA B H vs ds → DtA B H (vs.drop n) (ds.drop n)
  | 0, _, _, h => h
  | n + 1, [], _, h => by cases h; exact .nil
  | n + 1, v :: vs, _, h => by
    cases h with
    | cons h1 h2 => exact DtA.drop n h2
theorem DtA.take {B : List Addr} {H : Hp} : ∀ (n : Nat) {vs : List V} {ds : List PyData}, DtA B H vs ds → DtA B H (vs.take n) (ds.take n)
  | 0, _, _, h => .nil
  | n + 1, [], _, h => by cases h; exact .nil
  | n + 1, v :: vs, _, h => by
    cases h with
    | cons h1 h2 => exact .cons h1 (DtA.take n h2)
theorem DtA.cut {B : List Addr} {H : Hp} {vs : List V} {ds : List PyData} (h : DtA B H vs ds) (lo hi : Option Int) : DtA B H (cutV vs lo hi) (cutL ds lo hi) := by
  unfold cutV cutL
  rw [h.len]
  exact DtA.take _ (DtA.drop _ h)
theorem slice_dt {K : PySem.W.Frag} {B : List Addr} {H : Hp} {x : V} {ds : List PyData} {lo hi : Option Int} {Q : VK} (hx : Dt B H x (.tuple ds)) (hB : Bk B H) (q : ∀ v H', Same H H' → Dt B H' v (.tuple (cutL ds lo hi)) → Q v H') : rSlA K x lo hi H Q := by
  obtain ⟨a, vs, rfl, na, ha, hA⟩ := hx.tupI
  refine ⟨a, vs, rfl, SqT.of ha, fun h => q _ H (Same.refl _) ?_, fun _ p hp => q _ _ (sm_new hp) (.tup (hB.ne hp) upd_same ((hA.cut lo hi).s (sm_new hp)))⟩
  have e : cutL ds lo hi = ds := by
    unfold cutL
    rw [← hA.len, h.1, h.2, List.drop_zero, Nat.sub_zero, hA.len, List.take_length]
  rw [e]
  exact hx
theorem cat_dt {K : PySem.W.Frag} {B : List Addr} {H : Hp} {x y : V} {xs ys : List PyData} {Q : VK} (hx : Dt B H x (.tuple xs)) (hy : Dt B H y (.tuple ys)) (hB : Bk B H) (l : xs.length + ys.length ≤ 100000) (q : ∀ v H', Same H H' → Dt B H' v (.tuple (xs ++ ys)) → Q v H') : rCatA K x y H Q := by
  obtain ⟨a, vs, rfl, na, ha, hA⟩ := hx.tupI
  obtain ⟨b, ws, rfl, nb, hb, hC⟩ := hy.tupI
  have l1 := hA.len
  have l2 := hC.len
  refine ⟨a, b, vs, ws, rfl, rfl, SqT.of ha, SqT.of hb, Nat.le_of_lt (sz (by omega)), fun e => ?_, fun _ e => ?_, fun _ _ p hp => q _ _ (sm_new hp) (.tup (hB.ne hp) upd_same ((hA.app hC).s (sm_new hp)))⟩
  · subst e
    have : xs = [] := List.eq_nil_of_length_eq_zero (by rw [← l1]; rfl)
    subst this
    exact q _ H (Same.refl _) hy
  · subst e
    have : ys = [] := List.eq_nil_of_length_eq_zero (by rw [← l2]; rfl)
    subst this
    exact q _ H (Same.refl _) (by rw [List.append_nil]; exact hx)
theorem sh_cut {ds : List PyData} {k : Nat} {lo hi : Option Int} (h : Sh (.tuple ds) k) : Sh (.tuple (cutL ds lo hi)) k := by
  obtain ⟨j, rfl, h1, h2⟩ := h.tupI
  exact sh_tup (Nat.le_trans (cutL_len _ _ _) h2) fun d hd => h1 d (cutL_sub hd)
theorem sh_cat {xs ys : List PyData} {k : Nat} (h1 : Sh (.tuple xs) k) (h2 : Sh (.tuple ys) k) (l : xs.length + ys.length ≤ 100000) : Sh (.tuple (xs ++ ys)) k := by
  obtain ⟨j, rfl, a1, a2⟩ := h1.tupI
  obtain ⟨j', e, b1, b2⟩ := h2.tupI
  have : j = j' := by omega
  subst this
  exact sh_tup (by simpa using l) fun d hd => by
    rcases List.mem_append.mp hd with h | h
    · exact a1 d h
    · exact b1 d h
/-! ### a comprehension in another one -/
def FrAll (sc : Scope) : List Str → Prop
  | [] => True
  | x :: xs => (sc.names.lookup x = some .cell ∨ sc.names.lookup x = some .free) ∧ FrAll sc xs
theorem FrAll.mem {sc : Scope} : ∀ {xs : List Str}, FrAll sc xs → ∀ x ∈ xs, sc.names.lookup x = some .cell ∨ sc.names.lookup x = some .free
  | [], _, _, h => nomatch h
  | y :: ys, h, x, hx => by
    rcases List.mem_cons.mp hx with e | e
    · rw [e]; exact h.1
    · exact FrAll.mem h.2 x e
def frC (fr : List Str) (scope : Scope) : Bool := scope.names.all fun y => match y.2 with
  | .free => decide (y.1 ∈ fr)
  | _ => true
theorem blkOk_in {N : List Str} {sc scope : Scope} {own : List (Str × Nat)} (fr : List Str) (h : blkC N { kind := .function, names := fr.map fun x => (x, .free), isGenerator := false, isCoroutine := false } scope own = true) (h2 : frC fr scope = true) (hf : FrAll sc fr) : BlkOk N sc scope own := by
  have b := blkOk_by h
  refine ⟨b.kind, b.uniq, b.ix, fun y hy e => ?_, b.own⟩
  have := List.all_eq_true.mp h2 y hy
  rw [e] at this
  exact hf.mem _ (of_decide_eq_true this)
end Z

set_option Elab.async false
set_option linter.all false
set_option maxRecDepth 100000
set_option maxHeartbeats 400000
namespace Z
open PySem PySem.Spec PyProof.Rows L2
/-! ### lists of lists -/
def eN (ns : List (List Int)) : PyData := .list (ns.map eI)
def eG (ps : List (List (List Int))) : PyData := .list (ps.map eP)
theorem sh_eN {ns : List (List Int)} (l : ns.length ≤ 100000) (h : ∀ c ∈ ns, c.length ≤ 100000) : Sh (eN ns) 2 := sh_lst (by simpa using l) fun d hd => by
  obtain ⟨n, m, rfl⟩ := List.mem_map.mp hd
  exact sh_eI (h n m)
theorem sh_eG {ps : List (List (List Int))} (l : ps.length ≤ 100000) (h : ∀ p ∈ ps, p.length ≤ 100000 ∧ ∀ c ∈ p, c.length ≤ 100000) : Sh (eG ps) 3 := sh_lst (by simpa using l) fun d hd => by
  obtain ⟨n, m, rfl⟩ := List.mem_map.mp hd
  exact sh_eP (h n m).1 (h n m).2
theorem DtA.mk {B : List Addr} {H : Hp} : ∀ {vs : List V} {ds : List PyData}, vs.length = ds.length → (∀ (i : Nat) v d, vs[i]? = some v → ds[i]? = some d → Dt B H v d) → DtA B H vs ds
  | [], [], _, _ => .nil
  | [], _ :: _, h, _ => nomatch h
  | _ :: _, [], h, _ => nomatch h
  | v :: vs, d :: ds, h, f => .cons (f 0 v d rfl rfl) (DtA.mk (by simpa using h) fun i v d h1 h2 => f (i + 1) v d h1 h2)
theorem DtA.two {B : List Addr} {H : Hp} {vs : List V} {ds : List PyData} {i : Nat} {v : V} {d : PyData} (h : DtA B H vs ds) (h1 : vs[i]? = some v) (h2 : ds[i]? = some d) : Dt B H v d := by
  obtain ⟨d', e, h3⟩ := h.getV h1
  rw [h2] at e
  cases e
  exact h3
theorem at2i (x y : Int) (b : Bool) : ∃ z : Int, atI [V.int x, V.int y] (if b = true then 1 else 0) = some (.int z) ∧ (z = x ∨ z = y) := by
  cases b
  · exact ⟨x, rfl, .inl rfl⟩
  · exact ⟨y, rfl, .inr rfl⟩
theorem ixN_last {n : Nat} (h : 0 < n) : ixN n (-1) = some (n - 1) := by
  unfold ixN
  rw [if_neg (by omega), if_pos (by omega)]
  congr 1
  omega
theorem DtA.set {B : List Addr} {H : Hp} {v : V} {d : PyData} : ∀ {vs : List V} {ds : List PyData} (j : Nat), DtA B H vs ds → Dt B H v d → DtA B H (vs.set j v) (ds.set j d)
  | [], _, _, h, _ => by cases h; exact .nil
  | _ :: _, _, 0, h, hv => by cases h with | cons h1 h2 => exact .cons hv h2
  | _ :: _, _, j + 1, h, hv => by cases h with | cons h1 h2 => exact .cons h1 (DtA.set j h2 hv)
theorem Dt.lst2 {B : List Addr} {H : Hp} {v : V} {ds : List PyData} (h : Dt B H v (.list ds)) : ∃ a vs, v = .ref a ∧ a ∉ B ∧ H a = some (.lst vs) ∧ DtA B H vs ds := by
  cases h with
  | lst n hs ha => exact ⟨_, _, rfl, n, hs, ha⟩
theorem cut_fromV {α : Type} (xs : List α) {n : Int} (h0 : 0 ≤ n) : cutL xs (some n) none = xs.drop n.toNat := by
  unfold cutL
  have e : HT.sIx xs.length 0 (some n) = min n.toNat xs.length := by
    show (if n < 0 then (n + (xs.length : Int)).toNat else min n.toNat xs.length) = _
    rw [if_neg (by omega)]
  have e2 : HT.sIx xs.length xs.length none = xs.length := rfl
  rw [e, e2]
  rcases Nat.le_total n.toNat xs.length with h | h
  · rw [Nat.min_eq_left h, List.take_of_length_le (by rw [List.length_drop]; omega)]
  · rw [Nat.min_eq_right h, List.drop_of_length_le (Nat.le_refl _), List.drop_of_length_le h, List.take_nil]
theorem cut_toV {α : Type} (xs : List α) {n : Int} (h0 : 0 ≤ n) : cutL xs none (some n) = xs.take n.toNat := by
  unfold cutL
  have e : HT.sIx xs.length xs.length (some n) = min n.toNat xs.length := by
    show (if n < 0 then (n + (xs.length : Int)).toNat else min n.toNat xs.length) = _
    rw [if_neg (by omega)]
  have e2 : HT.sIx xs.length 0 none = 0 := rfl
  rw [e, e2, List.drop_zero, Nat.sub_zero]
  rcases Nat.le_total n.toNat xs.length with h | h
  · rw [Nat.min_eq_left h]
  · rw [Nat.min_eq_right h, List.take_length, List.take_of_length_le h]
theorem pg_lstK {X : Cx} (K : PySem.W.Frag) {pos : Pos} {es : List Expr} {kk : Nat} {t : TGs} {n : Nat} (hc : X.calm = true) (h : PGs X es t) (hn : (assignEach es X.env).length = n := by rfl) (hst : (assignEach es X.env).findIdx? (·.1) = none := by rfl) (h2 : X.K = K := by rfl) : PG X (.Tuple es kk pos) (gLst K n t) :=
  h2 ▸ pg_lst hc h hn hst
theorem pi_zipAK {X : Cx} (K : PySem.W.Frag) {e e2 : Expr} {ta : TA} {p pos tpos : Pos} {elts : List Expr} {kk : Nat} (hg : Gl X "zip") (hm : X.mg "zip" = none) (ha : PA X [e, e2] ta)
    (hs : starEach [e, e2] X.env = (false, eval e X.env) :: starEach [e2] X.env := by rfl) (hpl : (backTo pos (starEach [e2] X.env)).any (·.1) = false := by rfl) (hK : X.K = K := by rfl) :
    PI X (.Tuple elts kk tpos) (.Call (.Name "zip" p) [e, e2] [] pos) (RZ.iZipA K ta) := by
  subst hK
  exact RZ.pi_zipA hg hm ha hs hpl
theorem yesT {σ : L2.St} {H : Hp} {A N : Hp → Prop} (h : A H) : tYes σ H (fun b H3 => if b = true then A H3 else N H3) := by
  show if true = true then A H else N H
  rw [if_pos rfl]
  exact h
/-- any walk -/
theorem walk_W {J : It} {n : Nat} {G : Hp → Prop} {Y : Nat → Hp → V → Hp → Prop} (w : Walk J n G Y) {R : (Hp → Prop) → V → Hp → Prop} {Qd : Hp → Prop} {H0 : Hp} (Pv : Nat → Hp → Prop) (h0 : Pv 0 H0) (hG : ∀ i H, i ≤ n → Pv i H → G H) (hs : ∀ i x H H', i < n → Pv i H → Y i H x H' → R (Pv (i + 1)) x H') (hd : ∀ H, Pv n H → Qd H) :
    ∃ W : Nat → Nat → Hp → Prop, (∃ m, W 0 m H0) ∧ ∀ i m H, W i m H → (J.stop i H ∧ Qd H) ∨ (J.go i H ∧ ∃ Nx : Hp → Prop, (∀ H', Nx H' → ∃ m', m' < m ∧ W (i + 1) m' H') ∧ ∀ x H', J.yld i H x H' → R Nx x H') := by
  obtain ⟨w1, w2, w3⟩ := w
  refine ⟨fun i m H => i ≤ n ∧ m = n - i ∧ Pv i H, ⟨n, Nat.zero_le _, rfl, h0⟩, fun i m H h => ?_⟩
  obtain ⟨hi, hm, hp⟩ := h
  have g := hG i H hi hp
  by_cases e : i = n
  · subst e
    exact .inl ⟨w2 _ g, hd _ hp⟩
  · refine .inr ⟨w1 i H (by omega) g, Pv (i + 1), fun H' h' => ⟨n - (i + 1), by omega, by omega, rfl, h'⟩, fun x H' y => ?_⟩
    exact hs i x H H' (by omega) hp (w3 i H x H' (by omega) g y)
theorem colsOf {Pc : List Int → Prop} : ∀ {ds : List PyData}, (∀ d ∈ ds, ∃ c, d = eC c ∧ Pc c) → ∃ cs : List (List Int), ds = cs.map eC ∧ ∀ c ∈ cs, Pc c
  | [], _ => ⟨[], rfl, fun _ h => nomatch h⟩
  | d :: ds, h => by
    obtain ⟨m, e, hm⟩ := colsOf (ds := ds) fun x hx => h x (List.mem_cons_of_mem _ hx)
    obtain ⟨z, ez, hz⟩ := h d (List.mem_cons_self ..)
    refine ⟨z :: m, by rw [e, ez]; rfl, fun y hy => ?_⟩
    rcases List.mem_cons.mp hy with q | q
    · rw [q]; exact hz
    · exact hm y q
/-- a list whose items are new lists, each another one; what is in these was there ahead -/
structure Rws (B : List Addr) (H H' : Hp) (D : Addr) (rs : List Addr) (dss : List (List PyData)) : Prop where
  len : rs.length = dss.length
  nd : rs.Nodup
  nD : D ∉ rs
  fr : ∀ r ∈ rs, H r = none
  row : ∀ (i : Nat) r ds, rs[i]? = some r → dss[i]? = some ds → ∃ ws, H' r = some (.lst ws) ∧ DtA B H ws ds
section
variable {B C : List Addr} {H H' H2 : Hp} {D p : Addr} {rs : List Addr} {dss : List (List PyData)}
theorem Rws.s (h : Rws B H H' D rs dss) (s : Same H' H2) : Rws B H H2 D rs dss := ⟨h.len, h.nd, h.nD, h.fr, fun i r ds h1 h2 => by
  obtain ⟨ws, e, a⟩ := h.row i r ds h1 h2
  exact ⟨ws, s _ _ e, a⟩⟩
theorem Rws.up {o : HO} (h : Rws B H H' D rs dss) (n : p ∉ rs) : Rws B H (upd H' p o) D rs dss := ⟨h.len, h.nd, h.nD, h.fr, fun i r ds h1 h2 => by
  obtain ⟨ws, e, a⟩ := h.row i r ds h1 h2
  refine ⟨ws, ?_, a⟩
  rw [upd_ne (fun z => n (by rw [← z]; exact List.mem_of_getElem? h1))]
  exact e⟩
theorem Rws.go (h : Rws B H H' D rs dss) (g : Go C H' H2) (n : ∀ r ∈ rs, r ∉ C) : Rws B H H2 D rs dss := ⟨h.len, h.nd, h.nD, h.fr, fun i r ds h1 h2 => by
  obtain ⟨ws, e, a⟩ := h.row i r ds h1 h2
  exact ⟨ws, g.k _ _ (n r (List.mem_of_getElem? h1)) e, a⟩⟩
theorem Rws.tail {r : Addr} {ds : List PyData} (h : Rws B H H' D (r :: rs) (ds :: dss)) : Rws B H H' D rs dss := ⟨by simpa using h.len, (List.nodup_cons.mp h.nd).2, fun z => h.nD (List.mem_cons_of_mem _ z), fun x hx => h.fr x (List.mem_cons_of_mem _ hx), fun i x ds h1 h2 => h.row (i + 1) x ds h1 h2⟩
theorem Rws.dt (h : Rws B H H' D rs dss) (b : Bk B H) (s : Go B H H') : DtA B H' (rs.map V.ref) (dss.map PyData.list) := by
  refine DtA.mk (by rw [List.length_map, List.length_map]; exact h.len) fun i v d h1 h2 => ?_
  rw [List.getElem?_map] at h1 h2
  cases e1 : rs[i]? with
  | none => rw [e1] at h1; cases h1
  | some r =>
    cases e2 : dss[i]? with
    | none => rw [e2] at h2; cases h2
    | some ds =>
      rw [e1] at h1
      rw [e2] at h2
      cases h1
      cases h2
      obtain ⟨ws, e, a⟩ := h.row i r ds e1 e2
      exact .lst (b.ne (h.fr r (List.mem_of_getElem? e1))) e (a.g s)
end
/-- a comprehension of known values -/
theorem lc_vals {J : It} {n : Nat} {G : Hp → Prop} {Y : Nat → Hp → V → Hp → Prop} (w : Walk J n G Y) {g : TG} {tt : TT} {te : TE} {vs : List Nat} {σ : L2.St} {H1 : Hp} {D : Addr} {Qd : Hp → Prop}
    (hD : H1 D = none) (hG : ∀ H', Same H1 H' → G H') (hn : n ≤ 100000) (f : Nat → V)
    (hs : ∀ (i : Nat) (x : V) (H' H'' : Hp) (Ny : V → Hp → Prop) (Nn : Hp → Prop), i < n → Same H1 H' → Y i H' x H'' → (∀ H4, Same H' H4 → Ny (f i) H4) →
      g x (wipe σ vs) H'' fun σ2 H2 => wipe σ2 vs = wipe σ vs ∧ tt σ2 H2 fun b H3 => if b = true then te σ2 H3 Ny else Nn H3)
    (hd : ∀ (H' : Hp), Same H1 H' → H' D = some (.lst ((List.range n).map f)) → Qd H') :
    ∃ W : Nat → Nat → Hp → Prop, (∃ m, W 0 m (upd H1 D (.lst []))) ∧ ∀ i m H, W i m H →
      (J.stop i H ∧ Qd H) ∨ (J.go i H ∧ ∃ Nx : Hp → Prop, (∀ H', Nx H' → ∃ m', m' < m ∧ W (i + 1) m' H') ∧ ∀ x H', J.yld i H x H' → g x (wipe σ vs) H' fun σ2 H2 => wipe σ2 vs = wipe σ vs ∧ tt σ2 H2 fun b H3 =>
        if b = true then te σ2 H3 fun y H4 => ∃ acc, H4 D = some (.lst acc) ∧ acc.length < sizeLine ∧ Nx (upd H4 D (.lst (acc ++ [y]))) else Nx H3) := by
  refine lc_it w (fun i H' => Same H1 H' ∧ H' D = some (.lst ((List.range i).map f))) ⟨sm_new hD, upd_same⟩ (fun i H' _ h => hG H' h.1) (fun i x H' H'' hi h y => ?_) (fun H' h => hd H' h.1 h.2)
  obtain ⟨s1, eD⟩ := h
  refine hs i x H' H'' _ _ hi s1 y (fun H4 s4 => ?_)
  refine ⟨_, s4 _ _ eD, sz (by rw [List.length_map, List.length_range]; omega), sm_mut (s1.trans s4) hD, ?_⟩
  rw [upd_same, List.range_succ, List.map_append]
  rfl
/-- a comprehension of new lists -/
theorem lc_rows {J : It} {n : Nat} {G : Hp → Prop} {Y : Nat → Hp → V → Hp → Prop} (w : Walk J n G Y) {g : TG} {tt : TT} {te : TE} {vs : List Nat} {σ : L2.St} {H1 : Hp} {D : Addr} {Qd : Hp → Prop} (B : List Addr)
    (hD : H1 D = none) (hG : ∀ H', Same H1 H' → G H') (hn : n ≤ 100000) (e : Nat → List PyData)
    (hs : ∀ (i : Nat) (x : V) (H' H'' : Hp) (Ny : V → Hp → Prop) (Nn : Hp → Prop), i < n → Same H1 H' → Y i H' x H'' → (∀ r ws H4, Same H' H4 → H' r = none → H4 r = some (.lst ws) → DtA B H1 ws (e i) → Ny (.ref r) H4) →
      g x (wipe σ vs) H'' fun σ2 H2 => wipe σ2 vs = wipe σ vs ∧ tt σ2 H2 fun b H3 => if b = true then te σ2 H3 Ny else Nn H3)
    (hd : ∀ (H' : Hp) (rs : List Addr), Same H1 H' → H' D = some (.lst (rs.map V.ref)) → Rws B H1 H' D rs ((List.range n).map e) → Qd H') :
    ∃ W : Nat → Nat → Hp → Prop, (∃ m, W 0 m (upd H1 D (.lst []))) ∧ ∀ i m H, W i m H →
      (J.stop i H ∧ Qd H) ∨ (J.go i H ∧ ∃ Nx : Hp → Prop, (∀ H', Nx H' → ∃ m', m' < m ∧ W (i + 1) m' H') ∧ ∀ x H', J.yld i H x H' → g x (wipe σ vs) H' fun σ2 H2 => wipe σ2 vs = wipe σ vs ∧ tt σ2 H2 fun b H3 =>
        if b = true then te σ2 H3 fun y H4 => ∃ acc, H4 D = some (.lst acc) ∧ acc.length < sizeLine ∧ Nx (upd H4 D (.lst (acc ++ [y]))) else Nx H3) := by
  refine lc_it w (fun i H' => Same H1 H' ∧ ∃ rs, H' D = some (.lst (rs.map V.ref)) ∧ Rws B H1 H' D rs ((List.range i).map e)) ⟨sm_new hD, [], upd_same, ⟨rfl, List.nodup_nil, (fun h => nomatch h), (fun _ h => nomatch h), (fun i r ds h => by simp at h)⟩⟩ (fun i H' _ h => hG H' h.1) (fun i x H' H'' hi h y => ?_) (fun H' h => ?_)
  · obtain ⟨s1, rs, eD, R⟩ := h
    have hl : rs.length = i := by rw [R.len, List.length_map, List.length_range]
    refine hs i x H' H'' _ _ hi s1 y (fun r ws H4 s4 hr er ha => ?_)
    have nr : r ≠ D := fun z => by rw [z, eD] at hr; cases hr
    have nrs : r ∉ rs := fun z => by
      obtain ⟨j, hj, ej⟩ := List.getElem_of_mem z
      obtain ⟨ws', e', _⟩ := R.row j r (e j) (by rw [List.getElem?_eq_getElem hj, ej]) (by rw [List.getElem?_map, List.getElem?_range (by omega)]; rfl)
      rw [e'] at hr
      cases hr
    refine ⟨_, s4 _ _ eD, sz (by rw [List.length_map]; omega), sm_mut (s1.trans s4) hD, rs ++ [r], by rw [upd_same, List.map_append]; rfl, ?_⟩
    have R4 := (R.s s4).up (o := .lst (rs.map V.ref ++ [.ref r])) (R.nD)
    refine ⟨by simp [hl], ?_, ?_, fun z hz => ?_, fun j z ds h1 h2 => ?_⟩
    · rw [List.nodup_append]
      refine ⟨R.nd, by simp, fun a ha b hb => ?_⟩
      rw [List.mem_singleton.mp hb]
      exact fun q => nrs (by rw [← q]; exact ha)
    · intro q
      rcases List.mem_append.mp q with q | q
      · exact R.nD q
      · exact nr (List.mem_singleton.mp q).symm
    · rcases List.mem_append.mp hz with q | q
      · exact R.fr z q
      · rw [List.mem_singleton.mp q]
        exact s1.free hr
    · rw [List.getElem?_append] at h1
      rw [List.range_succ, List.map_append, List.getElem?_append, List.length_map, List.length_range] at h2
      by_cases c : j < rs.length
      · rw [if_pos c] at h1
        rw [if_pos (by omega)] at h2
        exact R4.row j z ds h1 h2
      · rw [if_neg c] at h1
        rw [if_neg (by omega)] at h2
        have j0 : j - rs.length = 0 := by
          cases q : j - rs.length with
          | zero => rfl
          | succ m => rw [q] at h1; simp at h1
        rw [j0] at h1
        rw [show j - i = 0 by omega] at h2
        cases h1
        cases h2
        refine ⟨ws, ?_, ha⟩
        rw [upd_ne nr]
        exact er
  · obtain ⟨s1, rs, eD, R⟩ := h
    exact hd H' rs s1 eD R
end Z

set_option Elab.async false
set_option linter.all false
set_option maxRecDepth 100000
set_option maxHeartbeats 400000
namespace Z
open PySem PySem.Spec PyProof.Rows L2
/-! ### a def that is called where nothing is being shown -/
structure FnG (P : Program) (w : World) (K : PySem.W.Frag) (mg : Str → Option Value) (base : Heap) (k : Nat) (f : Addr) (fd : FuncData) (ps : List Str) (sp : Sp) : Prop where
  run : ∀ (A : Around) (outer : List Env) (s : Shared) (H : Hp) (args : Args) (us : List Value) (vs : List V) (Q : VK) (E : XK), A.guards = some [] → Room k A → Env0 P w K mg base A outer s H → BindsTo s fd args (ps.zip us) → Vals vs us → sp vs H Q E → codeAny (model P w) A (Code.call (Value.ref f) args) (CR CX0 outer P w H s Q E) s
theorem fn_g {P : Program} {w : World} {K : PySem.W.Frag} {mg : Str → Option Value} {base : Heap} {x qual : Str} {st : Stmt} {f : Addr} {fd : FuncData} {N ps : List Str} {k : Nat} {sp : Sp} (F : Fun K x qual st f fd) (S : FnScope N ps (defScope st))
    (len : ∀ (vs : List V) (H : Hp) (Q : VK) (E : XK), sp vs H Q E → vs.length = ps.length)
    (hbody : ∀ (cdv : Value) (A : Around) (outer : List Env) (s : Shared) (H : Hp) (vs : List V) (Q : VK) (E : XK), A.guards = some [] → Room k (A.deeper (envOfC qual (defScope st) s.heap.objs.size f cdv)) → sp vs H Q E →
      ∃ t, PSs (cxOf CX0 P w K mg base N qual (defScope st) f cdv A outer s H E).nox (defBody st) t ∧ t { nx := fun _ H' => Q V.non H', rt := Q } (L2.start N vs) H) : FnG P w K mg base (k + 1) f fd ps sp := by
  obtain ⟨oc, od, kV, doc, pm, an, cdv, ct, osl, rfl, lk, hcd⟩ := F.ex
  refine ⟨fun A outer s H args us vs Q E hA hr e0 hb r hsp => ?_⟩
  have hl := len vs H Q E hsp
  have KX := PySem.W.Frag.In.keeps e0.mod.kin fun b o e => (e0.bs b o e).left
  have lim := Heap.NoLimit.keeps e0.mod.nolimit fun b o e => (e0.bs b o e).left
  refine codeAny_call_function (Room.depth hr) (KX f _ lk) rfl S.co S.gen rfl (PySem.W.codeRec_of KX hcd) (hb (model P w) A.in1 (fun e s' => CR CX0 outer P w H s Q E (Except.error e) s') _ (wpAny_newFunctionEnv_cells S.kind ?hk fun env he s1 x => ?_))
  case hk =>
    rintro ⟨n, v⟩ hy
    rcases S.par n (List.of_mem_zip hy).left with q | q
    · exact Or.inl q
    · exact Or.inr ⟨q, PySem.W.cellsFrom_some (defScope st).names (s.heap.objs.size + 1) [] (Or.inl q)⟩
  subst he
  refine ⟨Heap.NoLimit.keeps lim x.toInCall.keep, codeAny_func ?_⟩
  obtain ⟨t, ht, hq⟩ := hbody cdv A outer s H vs Q E hA (Room.deeper hr (envOfC qual (defScope st) s.heap.objs.size f cdv)) hsp
  have I := inv_start (CX := CX0) (E := E) S hr.hd e0 hl r x
  refine wpAny_mono ((PSs.nox ht).run [] s1 (L2.start N vs) H { nx := fun _ H' => Q V.non H', rt := Q } I hq) (fun fl s' hs => ?_) (fun e s' hs => hs)
  cases fl with
  | next =>
    obtain ⟨σ', H', J, q⟩ := hs
    exact ⟨V.non, H', J.os, J.bare, J.base, J.hok, rfl, q⟩
  | brk =>
    obtain ⟨_, _, _, q⟩ := hs
    exact q.elim
  | cont =>
    obtain ⟨_, _, _, q⟩ := hs
    exact q.elim
  | ret u =>
    obtain ⟨v, σ', H', J, rv, q⟩ := hs
    exact ⟨v, H', J.os, J.bare, J.base, J.hok, rv, q⟩
theorem law_call2 {P : Program} {w : World} {K : PySem.W.Frag} {mg mb : Str → Option Value} {k : Nat} {fa a : Addr} {fd : FuncData} {x : Str} {sp : Sp} {s₁ : Shared} {vs : List Value} {ns : List Int} (KX : K.In s₁.heap) (hns : s₁.heap.Ns mainGlobals mg) (hb : s₁.heap.Ns builtinsNs mb)
    (hbb : ∀ x : Str, x ≠ Str.ofString "__name__" → mb x = bootBuiltins x) (hlim : s₁.heap.NoLimit) (hg : s₁.gens = #[]) (ha : s₁.heap.get? a = some { cls := Value.type "list", data := Data.seq vs.toArray }) (hi : IntsAre vs ns) (hl : ns.length ≤ sizeLine) (hr : Room k callerA)
    (F : ∀ base : Heap, K.In base → base.Ns mainGlobals mg → FnG P w K mg base k fa fd [x] sp) (hbind : ∀ (s : Shared) (u : Value), BindsTo s fd { pos := [u] } [(x, u)])
    (hsp : ∀ H : Hp, Only H → SqL K H a (ns.map V.int) → sp [V.ref a] H (fun v _ => v = V.bl true) fun _ _ _ => False) :
    codeAny (model P w) callerA (Code.call (Value.ref fa) { pos := [Value.ref a] }) (fun r s' => r = Except.ok (Flow.ret (Value.bool true)) ∧ OldK s₁.heap s'.heap ∧ s'.os = s₁.os ∧ AllBare s'.gens) s₁ := by
  have rv := vals_ints hi
  have lenV := hi.length
  have core : ∀ H : Hp, Only H → SqL K H a (ns.map V.int) → HOk P w H s₁.heap → (∀ b, H b ≠ none → b = a) → (H a ≠ none → List.lookup a K = none) →
      codeAny (model P w) callerA (Code.call (Value.ref fa) { pos := [Value.ref a] }) (fun r s' => r = Except.ok (Flow.ret (Value.bool true)) ∧ OldK s₁.heap s'.heap ∧ s'.os = s₁.os ∧ AllBare s'.gens) s₁ := by
    intro H hO hS hok hA hK
    have noA : ∀ {b : Addr} {o : Obj} {es ep}, s₁.heap.get? b = some o → o.data = Data.dict es ep → H b = none := by
      intro b o es ep e d
      cases q : H b with
      | none => rfl
      | some u =>
        have e' := hA b (by rw [q]; exact fun z => nomatch z)
        subst e'
        rw [ha] at e
        cases e
        cases d
    have nsK : ∀ {b : Addr} {m : Str → Option Value}, s₁.heap.Ns b m → (hidT s₁.heap H).Ns b m := by
      rintro b m ⟨o, es, ep, e, d, r⟩
      exact ⟨o, es, ep, hidT_get e (noA e d), d, r⟩
    have hKb : K.In (hidT s₁.heap H) := by
      intro b o e
      refine hidT_get (KX b o e) ?_
      cases q : H b with
      | none => rfl
      | some u =>
        have e' := hA b (by rw [q]; exact fun z => nomatch z)
        subst e'
        rw [hK (by rw [q]; exact fun z => nomatch z)] at e
        cases e
    have hM : L2.Mod K mg (hidT s₁.heap H) := ⟨hKb, nsK hns, ⟨mb, nsK hb, hbb⟩, by
      obtain ⟨mc, h1, h2⟩ := hlim
      exact ⟨mc, nsK h1, h2⟩⟩
    have e0 : Env0 P w K mg (hidT s₁.heap H) callerA [] s₁ H := ⟨rfl, hM, fun b o e => of_hidT e, Nat.le_of_eq (hidT_size s₁.heap H), trivial, fun b hb => absurd (show b ∈ ([] : List Addr) from hb) (by simp), hok, AllBare.of_eq hg⟩
    refine codeAny_mono ((F _ hKb (nsK hns)).run callerA [] s₁ H { pos := [Value.ref a] } [Value.ref a] [V.ref a] (fun v _ => v = V.bl true) (fun _ _ _ => False) rfl hr e0 (hbind s₁ (Value.ref a)) (Paired.cons rfl Paired.nil) (hsp H hO hS)) fun r s' h => ?_
    cases r with
    | error e => exact False.elim h
    | ok fl =>
      cases fl with
      | next => exact False.elim h
      | brk => exact False.elim h
      | cont => exact False.elim h
      | ret u =>
        obtain ⟨v, H', os, bare, un, hok', r', q⟩ := h
        subst q
        have eu : u = Value.bool true := r'
        subst eu
        refine ⟨rfl, OldK.of_keep fun b o e => ?_, os, bare⟩
        cases q : H b with
        | none => exact un.keep b o e q (fun z => absurd (show b ∈ ([] : List Addr) from z) (by simp)) (by simp)
        | some u =>
          rcases hO b with z | ⟨ob, xs, z⟩
          · rw [q] at z
            cases z
          · have z2 := un.frzs b ob (HO.lst xs) z
            obtain ⟨e1, _⟩ := hok b (HO.frz ob (HO.lst xs)) z
            obtain ⟨e2, _⟩ := hok' b (HO.frz ob (HO.lst xs)) z2
            rw [e] at e1
            cases e1
            exact e2
  cases hk : List.lookup a K with
  | none =>
    refine core (fun b => if b = a then some (HO.frz { cls := Value.type "list", data := Data.seq vs.toArray } (HO.lst (ns.map V.int))) else none) (fun b => ?_) (Or.inl (Or.inr ⟨_, if_pos rfl⟩)) (fun b u z => ?_) (fun b z => ?_) (fun _ => hk)
    · by_cases hb : b = a
      · exact .inr ⟨_, _, if_pos hb⟩
      · exact .inl (if_neg hb)
    · by_cases hb : b = a
      · have z' := (if_pos hb).symm.trans z
        cases z'
        subst hb
        exact ⟨ha, by rw [List.length_map]; exact hl, vs, 0, rv, ha⟩
      · have z' := (if_neg hb).symm.trans z
        cases z'
    · by_cases hb : b = a
      · exact hb
      · exact absurd (if_neg hb) z
  | some o =>
    have e := KX a o hk
    rw [ha] at e
    cases e
    refine core (fun _ => none) (fun _ => .inl rfl) (Or.inr ⟨_, vs.toArray, 0, hk, rfl, rfl, rfl, by rw [List.size_toArray, lenV]; exact hl, rv⟩) (fun b u z => ?_) (fun b z => absurd rfl z) (fun z => absurd rfl z)
    cases z
theorem walk_of2 {l : PySem.W.OpenLaw} {n k : Nat} {q : Program} {loose : List Str} {XP : (Str → Option Value) → Heap → Prop} {YP : World → Heap → Prop} {d : DefRec} {K : Params → PySem.W.Frag} {sp : World → Sp} {x : Str} (hn : l.most = some n) (hn2 : n ≤ sizeLine) (hdf : d.params.defaults = []) (hr : Room k callerA)
    (hY : ∀ (w : World) (h : Heap), YP w h → (K w.params).In h)
    (F : ∀ (w : World) (mg : Str → Option Value) (fa : Addr) (h : Heap), (K w.params).In h → h.Ns mainGlobals mg → mg d.name = some (Value.ref fa) → ∃ fd, (∀ (s : Shared) (u : Value), BindsTo s fd { pos := [u] } [(x, u)]) ∧ ∀ base : Heap, (K w.params).In base → base.Ns mainGlobals mg → FnG l.prog w (K w.params) mg base k fa fd [x] (sp w))
    (hsp : ∀ (w : World) (H : Hp) (a : Addr) (ns : List Int), ns.length ≤ n → Only H → SqL (K w.params) H a (ns.map V.int) → sp w [V.ref a] H (fun v _ => v = V.bl true) fun _ _ _ => False) :
    PySem.W.WalkO q loose XP YP l.row.toRowW d [] fun f vs => call f vs :=
  Att.attach_call hn hdf fun w s₀ s₁ mg mb fa o pm cd doc a vs ns G Y ho hd hcd hmg hobj hints hlen hg => by
    have KX := hY w s₁.heap Y
    obtain ⟨fd, hb, hF⟩ := F w mg fa s₁.heap KX G.T.g hmg
    exact law_call2 KX G.T.g G.T.b G.T.builtins G.T.nolimit hg hobj hints (Nat.le_trans hlen hn2) hr hF hb (fun H hO hS => hsp w H a ns hlen hO hS)
/-! ### str of data -/
def rStrD (K : PySem.W.Frag) : List V → Hp → VK → Prop := fun xs H Q => ∃ (a : Addr) (d : PyData), xs = [.ref a] ∧ Dp K H (.ref a) d ∧ d.showable = true ∧ d.hasDict = false ∧ d.depth ≤ 40 ∧ d.shown.length ≤ sizeLine ∧ Q (.str d.shown) H
theorem cr_strD (K : PySem.W.Frag) {X : Cx} (hg : X.A.guards = some []) (hu : X.A.units + 64 < cLine) (hK : X.K = K := by rfl) : CallR X (.type "str") (rStrD K) := by
  subst hK
  intro pins s σ H xs us Q I r h
  obtain ⟨a, d, rfl, hd, h1, h2, h3, h4, q⟩ := h
  obtain ⟨u, rfl, ru⟩ := vals1 r
  have ru2 := ru
  obtain rfl : u = Value.ref a := ru
  obtain ⟨as, hr⟩ := Dp.reads I d _ _ hd ru2
  exact str_of_reads hr h1 (fun z => by rw [h2] at z; cases z) hg (by omega) (fun _ _ e => e) (fun h' u tk hk => ⟨.str d.shown, H, I.kept hk, ⟨u, rfl⟩, q⟩) h4
/-! ### how long a text is -/
structure Shw (d : PyData) (n : Nat) : Prop where
  a : d.showable = true
  b : d.hasDict = false
  c : d.shown.length ≤ n
theorem Shw.mono {d : PyData} {n m : Nat} (h : Shw d n) (l : n ≤ m) : Shw d m := ⟨h.a, h.b, Nat.le_trans h.c l⟩
theorem shw_all {n : Nat} : ∀ {ds : List PyData}, (∀ d ∈ ds, Shw d n) → PyData.showableAll ds = true ∧ PyData.hasDictAll ds = false ∧ ((PyData.shownAll ds).map (fun x => x.length)).sum ≤ n * ds.length ∧ (PyData.shownAll ds).length = ds.length
  | [], _ => ⟨by rw [PyData.showableAll], by rw [PyData.hasDictAll], by rw [PyData.shownAll]; simp, by rw [PyData.shownAll]; rfl⟩
  | d :: ds, h => by
    obtain ⟨h1, h2, h3, h4⟩ := shw_all (ds := ds) (n := n) fun x hx => h x (List.mem_cons_of_mem _ hx)
    have h0 := h d (List.mem_cons_self ..)
    refine ⟨?_, ?_, ?_, ?_⟩
    · rw [PyData.showableAll, h1, h0.a]; rfl
    · rw [PyData.hasDictAll, h2, h0.b]; rfl
    · rw [PyData.shownAll, List.map_cons, List.sum_cons, List.length_cons, Nat.mul_succ]
      have := h0.c
      omega
    · rw [PyData.shownAll, List.length_cons, List.length_cons, h4]
theorem shw_lst {ds : List PyData} {n : Nat} (h : ∀ d ∈ ds, Shw d n) : Shw (.list ds) (n * ds.length + 2 * ds.length + 3) := by
  obtain ⟨h1, h2, h3, h4⟩ := shw_all h
  refine ⟨by rw [PyData.showable]; exact h1, by rw [PyData.hasDict]; exact h2, ?_⟩
  rw [PyData.shown]
  have := listText_len_le (PyData.shownAll ds)
  rw [h4] at this
  omega
theorem shw_tup {ds : List PyData} {n : Nat} (h : ∀ d ∈ ds, Shw d n) : Shw (.tuple ds) (n * ds.length + 2 * ds.length + 3) := by
  obtain ⟨h1, h2, h3, h4⟩ := shw_all h
  refine ⟨by rw [PyData.showable]; exact h1, by rw [PyData.hasDict]; exact h2, ?_⟩
  rw [PyData.shown]
  have := tupleText_len_le (PyData.shownAll ds)
  rw [h4] at this
  omega
theorem shw_int {i : Int} (h : i.natAbs < 2 ^ 40) : Shw (.int i) 60 := by
  refine ⟨?_, by rw [PyData.hasDict], ?_⟩
  · rw [PyData.showable]
    refine decide_eq_true ?_
    rcases Nat.eq_zero_or_pos i.natAbs with z | z
    · rw [z]; decide
    · have := (Nat.log2_lt (by omega)).mpr h
      omega
  · rw [PyData.shown]
    have h2 := nat_repr_length_le (n := i.natAbs) (k := 40) (by decide) h
    rw [PySem.ofString_length]
    cases i with
    | ofNat m =>
      have e : toString (Int.ofNat m) = m.repr := rfl
      rw [e]
      have e : (Int.ofNat m).natAbs = m := rfl
      rw [e] at h2
      omega
    | negSucc m =>
      have e : toString (Int.negSucc m) = "-" ++ (m + 1).repr := rfl
      rw [e, String.length_append]
      have e : (Int.negSucc m).natAbs = m + 1 := rfl
      rw [e] at h2
      have : "-".length = 1 := rfl
      omega
theorem shw_eC {ns : List Int} (h : cIn (-1000000000) 1000000000 ns) (l : ns.length ≤ 10) : Shw (eC ns) 700 := by
  refine (shw_tup (n := 60) fun d hd => ?_).mono (by rw [List.length_map]; omega)
  obtain ⟨x, hx, rfl⟩ := List.mem_map.mp hd
  have := h x hx
  exact shw_int (by omega)
theorem shw_eI {ns : List Int} (h : cIn (-1000000000) 1000000000 ns) (l : ns.length ≤ 100) : Shw (eI ns) 7000 := by
  refine (shw_lst (n := 60) fun d hd => ?_).mono (by rw [List.length_map]; omega)
  obtain ⟨x, hx, rfl⟩ := List.mem_map.mp hd
  have := h x hx
  exact shw_int (by omega)
theorem shw_eP {cs : List (List Int)} (h : ∀ c ∈ cs, c.length ≤ 10 ∧ cIn (-1000000000) 1000000000 c) (l : cs.length ≤ 100) : Shw (eP cs) 71000 := by
  refine (shw_lst (n := 700) fun d hd => ?_).mono (by rw [List.length_map]; omega)
  obtain ⟨x, hx, rfl⟩ := List.mem_map.mp hd
  exact shw_eC (h x hx).2 (h x hx).1
theorem shw_eG {ps : List (List (List Int))} (h : ∀ p ∈ ps, p.length ≤ 100 ∧ ∀ c ∈ p, c.length ≤ 10 ∧ cIn (-1000000000) 1000000000 c) (l : ps.length ≤ 50) : Shw (eG ps) 4000000 := by
  refine (shw_lst (n := 71000) fun d hd => ?_).mono (by rw [List.length_map]; omega)
  obtain ⟨x, hx, rfl⟩ := List.mem_map.mp hd
  exact shw_eP (h x hx).2 (h x hx).1
end Z

set_option Elab.async false
set_option linter.all false
set_option maxRecDepth 100000
namespace Z
open PySem PySem.Spec PyProof.Rows L2
/-! ### great numbers -/
def CPowW (i j : Int) : Prop := 0 ≤ j ∧ j ≤ 1000 ∧ i.natAbs.log2 < 100000
theorem op_powW {X : Cx} : OpR X (binaryOp .Pow) (rI CPowW fun i j => .int (i ^ j.toNat)) := opI fun i j _ _ _ _ _ hc q => by
  refine pow_int hc.1 ?_ q
  have b : Builtin.Int.intBits i ≤ i.natAbs.log2 + 1 := by
    unfold Builtin.Int.intBits
    split <;> omega
  have h1 := hc.1
  have h2 := hc.2.1
  have h3 := hc.2.2
  have h4 : (Builtin.Int.intBits i : Int) ≤ 100000 := by omega
  have h5 : (Builtin.Int.intBits i : Int) * j ≤ 100000 * 1000 := Int.mul_le_mul h4 h2 h1 (by decide)
  exact Int.le_trans h5 (by decide)
def wIn (ns : List Int) : Prop := ∀ x ∈ ns, x.natAbs < 2 ^ 2000
theorem wIn.sub {x y : Int} (hx : x.natAbs < 2 ^ 2000) (hy : y.natAbs < 2 ^ 2000) : (x - y).natAbs < 2 ^ 2001 := by
  rw [Nat.pow_succ 2 2000]
  generalize 2 ^ 2000 = M at *
  omega
theorem powW {x y : Int} (hx : x.natAbs < 2 ^ 2000) (hy : y.natAbs < 2 ^ 2000) : CPowW (x - y) 2 := ⟨by decide, by decide, by
  have := PySem.Flt.log2_lt_of (by decide) (wIn.sub hx hy)
  omega⟩
theorem mulW {x y : Int} (hx : x.natAbs < 2 ^ 2000) (hy : y.natAbs < 2 ^ 2000) : CMulW (x - y) (x - y) := wide_mul (wIn.sub hx hy) (wIn.sub hx hy) (by decide) (by decide) (by decide)
/-! ### a list of lists that is changed -/
structure Gr (B : List Addr) (H : Hp) (wa : Addr) (ras : List Addr) (W : List (List PyData)) : Prop where
  a : H wa = some (.lst (ras.map V.ref))
  nw : wa ∉ B
  nd : (wa :: ras).Nodup
  nb : ∀ r ∈ ras, r ∉ B
  l : ras.length = W.length
  r : ∀ (i : Nat) (ra : Addr) (ds : List PyData), ras[i]? = some ra → W[i]? = some ds → ∃ vs, H ra = some (.lst vs) ∧ DtA (wa :: ras ++ B) H vs ds
theorem Gr.s {B : List Addr} {H H' : Hp} {wa : Addr} {ras : List Addr} {W : List (List PyData)} (g : Gr B H wa ras W) (s : Same H H') : Gr B H' wa ras W := ⟨s _ _ g.a, g.nw, g.nd, g.nb, g.l, fun i ra ds h1 h2 => by
  obtain ⟨vs, e, d⟩ := g.r i ra ds h1 h2
  exact ⟨vs, s _ _ e, d.s s⟩⟩
/-- what else is changed lies in B -/
theorem Gr.g {B : List Addr} {H H' : Hp} {wa : Addr} {ras : List Addr} {W : List (List PyData)} (g : Gr B H wa ras W) (s : Go B H H') : Gr B H' wa ras W := ⟨s.k _ _ g.nw g.a, g.nw, g.nd, g.nb, g.l, fun i ra ds h1 h2 => by
  obtain ⟨vs, e, d⟩ := g.r i ra ds h1 h2
  exact ⟨vs, s.k _ _ (g.nb ra (List.mem_of_getElem? h1)) e, d.g (s.w fun a h => List.mem_append_right _ h)⟩⟩
theorem DtA.put {B : List Addr} {H : Hp} {v : V} {d : PyData} (h : Dt B H v d) : ∀ {vs : List V} {ds : List PyData} (j : Nat), DtA B H vs ds → DtA B H (vs.set j v) (ds.set j d)
  | _, _, _, .nil => .nil
  | _, _, 0, .cons _ h2 => .cons h h2
  | _, _, j + 1, .cons h1 h2 => .cons h1 (DtA.put h j h2)
/-- one thing put in -/
theorem Gr.set {B : List Addr} {H : Hp} {wa : Addr} {ras : List Addr} {W : List (List PyData)} (g : Gr B H wa ras W) {i j : Nat} {ra : Addr} {ds : List PyData} {vs : List V} {v : V} {d : PyData} (h1 : ras[i]? = some ra) (h2 : W[i]? = some ds) (h3 : H ra = some (.lst vs)) (hd : Dt (wa :: ras ++ B) H v d) :
    Gr B (upd H ra (.lst (vs.set j v))) wa ras (W.set i (ds.set j d)) := by
  have mr := List.mem_of_getElem? h1
  have nwr : wa ≠ ra := fun z => (List.nodup_cons.mp g.nd).1 (z ▸ mr)
  have gm : Go (wa :: ras ++ B) H (upd H ra (.lst (vs.set j v))) := Go.refl.at (List.mem_append_left _ (List.mem_cons_of_mem _ mr))
  refine ⟨by rw [upd_ne nwr]; exact g.a, g.nw, g.nd, g.nb, by rw [List.length_set]; exact g.l, fun k rb es k1 k2 => ?_⟩
  by_cases c : k = i
  · subst c
    rw [h1] at k1
    cases k1
    have hk : k < W.length := (List.getElem?_eq_some_iff.mp h2).1
    rw [List.getElem?_set_self hk] at k2
    cases k2
    obtain ⟨us, e, dd⟩ := g.r k ra ds h1 h2
    rw [h3] at e
    cases e
    exact ⟨_, upd_same, DtA.put (hd.g gm) j (dd.g gm)⟩
  · rw [List.getElem?_set_ne (Ne.symm c)] at k2
    obtain ⟨us, e, dd⟩ := g.r k rb es k1 k2
    have nrb : rb ≠ ra := fun z => by
      subst z
      exact c ((List.getElem?_inj (List.getElem?_eq_some_iff.mp k1).1 (List.nodup_cons.mp g.nd).2).mp (k1.trans h1.symm))
    exact ⟨us, by rw [upd_ne nrb]; exact e, dd.g gm⟩
end Z

set_option Elab.async false
set_option linter.all false
set_option maxRecDepth 100000
set_option maxHeartbeats 4000000
namespace Z
open PySem PySem.Spec PyProof.Rows L2
/-! ### a tuple once -/
theorem tuple_mul1 (l : Addr) (items : Array Value) (n : Nat) (dd : Option Addr) (sl : Array (Option Value)) (u : Tok) :
    Meets (Builtin.«tuple.__mul__» ⟨[.ref l, .int 1 u], []⟩) (fun _ R s => s.heap.get? l = some { cls := .type "tuple", dict := dd, data := .seq items n, slots := sl } ∧
      R (.ok (.ret (Value.ref l))) s) :=
  .of_wp fun prog w A R s h => by
    obtain ⟨hp, g, d, tk, os⟩ := s
    obtain ⟨hl, h⟩ := h
    have f1 := AutoSeq1.idx_int
    have c0 : (decide ((1 : Int) < -(2 ^ 63)) || decide ((1 : Int) ≥ 2 ^ 63)) = false := by decide
    have c1 : (items.isEmpty || (1 : Int) == 1) = true := by simp
    wp_walk using wpAny_loadPart' hl
    repeat (first
      | (refine wpAny_ite_false (decide_eq_false (by rw [c0]; exact Bool.false_ne_true)) ?_; wp_walk using wpAny_loadPart' hl)
      | (refine wpAny_ite_true (decide_eq_true (by rw [c1])) ?_; wp_walk using wpAny_loadPart' hl))
    exact ⟨_, rfl, h⟩
def rRepTT (K : PySem.W.Frag) : R2 := fun x y H Q => ∃ l k xs, x = .ref l ∧ y = .int k ∧ SqT K H l xs ∧ xs ≠ [] ∧ 1 ≤ k ∧ k ≤ 1000 ∧ xs.length ≤ 1000 ∧ (k = 1 → Q (.ref l) H) ∧ (2 ≤ k → ∀ p, H p = none → Q (.ref p) (upd H p (.tup (List.replicate k.toNat xs).flatten)))
theorem op_repTT {X : Cx} : OpR X (binaryOp .Mult) (rRepTT X.K) := by
  intro pins s σ H x y v u Q I rx ry h
  obtain ⟨l, k, xs, ex, ey, hT, hne, h1, h2, hz, q1, q2⟩ := h
  by_cases c : k = 1
  · subst c
    subst ex ey
    have q := q1 rfl
    cases rx
    obtain ⟨t, rfl⟩ := ry
    obtain ⟨its, r, ⟨⟨cls, dd, data, sl⟩, ho, hc, n, hd⟩, hs⟩ := I.tuple hT
    simp only at hc hd
    subst hc hd
    refine wpAny_binaryOp_repeat_ref (T := "tuple") (U := "int") (by decide) ⟨_, ho, rfl⟩ (fun s' => typeIs_int s' 1 t) noFill_tuple_mul F.fills_int_mul F.slot_int_rmul repeat_tuple F.slot_int_index.lookup
      (call_meets F.slot_int_rmul (typeIs_int s 1 t) F.entry_int_rmul (F.args_int_rmul_2 _ _) (int_rmul_tuple 1 t l its.toArray n dd sl)
        ⟨ho, rfl, ⟨_, ho, rfl⟩, call_meets F.slot_tuple_mul ⟨_, ho, rfl⟩ F.entry_tuple_mul (F.args_tuple_mul_2 _ _) (tuple_mul1 l its.toArray n dd sl t) ⟨ho, ?_⟩⟩)
    exact ⟨.ref l, H, I, rfl, q⟩
  · exact op_repT pins s σ H x y v u Q I rx ry ⟨l, k, xs, ex, ey, hT, hne, by omega, h2, hz, q2 (by omega)⟩
end Z

set_option Elab.async false
set_option linter.all false
set_option maxRecDepth 100000
namespace Z
open PySem PySem.Spec PyProof.Rows L2
/-! ### a range as a value; xs[::s] -/
theorem cr_range1 {X : Cx} : CallR X (.type "range") (fun vs H Q => ∃ j, vs = [V.int j] ∧ ∀ p, H p = none → Q (.ref p) (upd H p (.rng 0 j))) := by
  intro pins s σ H vs us Q I r h
  obtain ⟨j, rfl, q⟩ := h
  obtain ⟨u1, rfl, rj⟩ := vals1 r
  obtain ⟨u, rfl⟩ := rj
  refine call_range_1 ⟨.ref s.heap.objs.size, upd H s.heap.objs.size (.rng 0 j), I.laid (fun b o e => Heap.get?_push_of_some _ e) (Nat.le_refl _) ?_, rfl, q _ (I.hok.fresh (Nat.le_refl _))⟩
  exact ⟨_, _, _, Heap.get?_push_size _ rfl⟩
theorem op_inSK (K : PySem.W.Frag) {X : Cx} (h : X.K = K := by rfl) : OpR X (compareOp .In) (rIn K false) := h ▸ op_in_seq
def stepI (b : Bool) : Int := if b = true then -1 else 1
def tStepL (K : PySem.W.Frag) (te ts : TE) : TE := fun σ H Q => te σ H fun x H1 => tPart ts σ H1 fun o H2 => ∃ a xs b, x = .ref a ∧ o = some (stepI b) ∧ SqL K H2 a xs ∧ ∀ p, H2 p = none → Q (.ref p) (upd H2 p (.lst (if b = true then xs.reverse else xs)))
theorem pe_stepL (K : PySem.W.Frag) {X : Cx} {e st : Expr} {te ts : TE} {p3 pos : Pos} (he : PE X e te) (hs : PE X st ts) (hK : X.K = K := by rfl) : PE X (.Subscript e (.Slice none none (some st) p3) pos) (tStepL K te ts) := by
  subst hK
  refine ⟨fun pins s σ H Q I h => ?_⟩
  refine Subscript_ (thn (he.run pins s σ H _ I h) fun v s1 ⟨x, H1, I1, r1, q1⟩ => ?_)
  have hst : PO X (some st) (tPart ts) := po_some hs
  refine wpAny_Slice (thn (po_none.run pins s1 σ H1 (fun o H2 => o = none ∧ H2 = H1) I1 ⟨rfl, rfl⟩) fun vl s2 ⟨l, H2, I2, pl, el, e2⟩ => ?_)
  subst el e2
  refine thn (po_none.run pins s2 σ H2 (fun o H3 => o = none ∧ H3 = H2) I2 ⟨rfl, rfl⟩) fun vu s3 ⟨u, H3, I3, pu, eu, e3⟩ => ?_
  subst eu e3
  refine thn (hst.run pins s3 σ H3 _ I3 q1) fun vs s4 ⟨o, H4, I4, ps, q4⟩ => ?_
  obtain ⟨a, xs, b, ex, eo, hx, q⟩ := q4
  subst ex eo
  cases r1
  have I5 : Inv X pins σ H4 { s4 with heap := s4.heap.push { cls := .type "slice", data := .fields #[vl, vu, vs] } } := I4.kept (t' := s4.toks) fun b ob q => Heap.get?_push_of_some _ q
  obtain ⟨its, r, ht, hz⟩ := I5.list hx
  have hlen := r.length
  show wpAny (model X.prog X.w) X.A (subscriptTail e (.Slice none none (some st) p3) (.ref a) (.ref s4.heap.objs.size)) (EP X pins σ Q) X.xe { s4 with heap := s4.heap.push { cls := .type "slice", data := .fields #[vl, vu, vs] } }
  refine tail_any (ops := [.ref a, .ref s4.heap.objs.size]) ht.isList.typeIs (PySem.slot_list_getitem.lookup) ?_ (by with_unfolding_all rfl)
  refine wpAny_getItem_list_slice ht.isList (Heap.IsSliceOf.new _ vl vu vs) pl pu ps (by cases b <;> decide) ?_ (by rw [List.size_toArray]; omega)
  cases b with
  | true =>
    show EP X pins σ Q (.ref _) _
    have e1 : slicePick its.toArray none none (some (stepI true)) = its.reverse.toArray := PySem.W.krv_pick _
    rw [e1]
    refine ⟨.ref _, _, I5.laid (t' := s4.toks) (o := .lst xs.reverse) (fun b ob q => Heap.get?_push_of_some _ q) (Nat.le_refl _) ?_, rfl, q _ (I5.hok.fresh (Nat.le_refl _))⟩
    exact ⟨by rw [List.length_reverse]; exact hz, _, 0, r.reverse, Heap.get?_push_size _ rfl⟩
  | false =>
    have e1 : slicePick its.toArray none none (some (stepI false)) = its.toArray := slicePick_all _
    rw [e1]
    refine ⟨.ref _, _, I5.laid (t' := s4.toks) (o := .lst xs) (fun b ob q => Heap.get?_push_of_some _ q) (Nat.le_refl _) ?_, rfl, q _ (I5.hok.fresh (Nat.le_refl _))⟩
    exact ⟨hz, _, 0, r, Heap.get?_push_size _ rfl⟩
end Z

set_option Elab.async false
set_option linter.all false
set_option maxRecDepth 100000
namespace Z
open PySem PySem.Spec PyProof.Rows L2
def topS (i : Nat) : Stmt := PySem.Challenge.pw_fewcolours_k35_shares_by_themselves.main.body.getD i (.Pass ⟨0, 0, 0, 0⟩)
abbrev s_apart : Stmt := topS 1
abbrev N_apart : List Str := ["one", "other", "a", "b"]
theorem sc_apart : FnScope N_apart ["one", "other"] (defScope s_apart) := ⟨rfl, rfl, rfl, by decide +kernel, rfl, by decide +kernel, by decide +kernel⟩
abbrev s_nearest : Stmt := topS 3
abbrev N_nearest : List Str := ["palette", "colour", "squares", "one"]
theorem sc_nearest : FnScope N_nearest ["palette", "colour"] (defScope s_nearest) := ⟨rfl, rfl, rfl, by decide +kernel, rfl, by decide +kernel, by decide +kernel⟩
abbrev s_added : Stmt := topS 5
abbrev N_added : List Str := ["one", "other", "a", "b"]
theorem sc_added : FnScope N_added ["one", "other"] (defScope s_added) := ⟨rfl, rfl, rfl, by decide +kernel, rfl, by decide +kernel, by decide +kernel⟩
abbrev s_lessened : Stmt := topS 6
abbrev N_lessened : List Str := ["one", "other", "a", "b"]
theorem sc_lessened : FnScope N_lessened ["one", "other"] (defScope s_lessened) := ⟨rfl, rfl, rfl, by decide +kernel, rfl, by decide +kernel, by decide +kernel⟩
abbrev s_spots_in_order : Stmt := topS 7
abbrev N_spots_in_order : List Str := ["picture", "way", "spots", "row", "colours", "columns", "column"]
theorem sc_spots_in_order : FnScope N_spots_in_order ["picture", "way"] (defScope s_spots_in_order) := ⟨rfl, rfl, rfl, by decide +kernel, rfl, by decide +kernel, by decide +kernel⟩
abbrev s_shares_there : Stmt := topS 8
abbrev N_shares_there : List Str := ["picture", "shares", "spot", "row", "column", "side", "all_shares", "across", "down", "parts", "each"]
theorem sc_shares_there : FnScope N_shares_there ["picture", "shares", "spot"] (defScope s_shares_there) := ⟨rfl, rfl, rfl, by decide +kernel, rfl, by decide +kernel, by decide +kernel⟩
abbrev s_hand_over : Stmt := topS 9
abbrev N_hand_over : List Str := ["wanted", "shares", "spot", "colour", "left", "there", "total", "remains", "row", "column", "parts", "handed", "across", "down", "number"]
theorem sc_hand_over : FnScope N_hand_over ["wanted", "shares", "spot", "colour"] (defScope s_hand_over) := ⟨rfl, rfl, rfl, by decide +kernel, rfl, by decide +kernel, by decide +kernel⟩
abbrev s_wanted_by : Stmt := topS 10
abbrev N_wanted_by : List Str := ["picture", "palette", "shares", "way", "numbers", "wanted", "spot", "row"]
theorem sc_wanted_by : FnScope N_wanted_by ["picture", "palette", "shares", "way", "numbers"] (defScope s_wanted_by) := ⟨rfl, rfl, rfl, by decide +kernel, rfl, by decide +kernel, by decide +kernel⟩
abbrev s_handed_on : Stmt := topS 11
abbrev N_handed_on : List Str := ["picture", "palette", "shares", "way", "wanted", "numbers", "lost", "spot", "row", "column", "side", "number"]
theorem sc_handed_on : FnScope N_handed_on ["picture", "palette", "shares", "way"] (defScope s_handed_on) := ⟨rfl, rfl, rfl, by decide +kernel, rfl, by decide +kernel, by decide +kernel⟩
abbrev s_numbers_by : Stmt := topS 13
abbrev N_numbers_by : List Str := ["picture", "palette", "row", "colour"]
theorem sc_numbers_by : FnScope N_numbers_by ["picture", "palette"] (defScope s_numbers_by) := ⟨rfl, rfl, rfl, by decide +kernel, rfl, by decide +kernel, by decide +kernel⟩
abbrev s_l_mix : Stmt := topS 15
abbrev N_l_mix : List Str := ["_law_cell", "_law_k", "_law_m"]
theorem sc_l_mix : FnScope N_l_mix ["_law_cell", "_law_k"] (defScope s_l_mix) := ⟨rfl, rfl, rfl, by decide +kernel, rfl, by decide +kernel, by decide +kernel⟩
abbrev s_l_left : Stmt := topS 16
abbrev N_l_left : List Str := ["_law_script", "_law_k", "_law_cell"]
theorem sc_l_left : FnScope N_l_left ["_law_script", "_law_k"] (defScope s_l_left) := ⟨rfl, rfl, rfl, by decide +kernel, rfl, by decide +kernel, by decide +kernel⟩
abbrev s_l_pick : Stmt := topS 17
abbrev N_l_pick : List Str := ["_law_left_here", "_law_many", "_law_digit"]
theorem sc_l_pick : FnScope N_l_pick ["_law_left_here", "_law_many"] (defScope s_l_pick) := ⟨rfl, rfl, rfl, by decide +kernel, rfl, by decide +kernel, by decide +kernel⟩
abbrev s_l_kind : Stmt := topS 18
abbrev N_l_kind : List Str := ["_law_left_here"]
theorem sc_l_kind : FnScope N_l_kind ["_law_left_here"] (defScope s_l_kind) := ⟨rfl, rfl, rfl, by decide +kernel, rfl, by decide +kernel, by decide +kernel⟩
abbrev s_l_colour : Stmt := topS 19
abbrev N_l_colour : List Str := ["_law_left_here", "_law_kind_here", "_law_wide", "_law_span", "_law_place"]
theorem sc_l_colour : FnScope N_l_colour ["_law_left_here", "_law_kind_here"] (defScope s_l_colour) := ⟨rfl, rfl, rfl, by decide +kernel, rfl, by decide +kernel, by decide +kernel⟩
abbrev s_l_palette : Stmt := topS 20
abbrev N_l_palette : List Str := ["_law_left_here", "_law_kind_here", "_law_many", "_law_found", "_law_k", "_law_colour_here"]
theorem sc_l_palette : FnScope N_l_palette ["_law_left_here", "_law_kind_here"] (defScope s_l_palette) := ⟨rfl, rfl, rfl, by decide +kernel, rfl, by decide +kernel, by decide +kernel⟩
abbrev s_l_picture : Stmt := topS 21
abbrev N_l_picture : List Str := ["_law_left_here", "_law_kind_here", "_law_high", "_law_wide", "_law_some", "_law_found", "_law_row", "_law_spots", "_law_column", "_law_colour_here", "_law_side", "_law_k"]
theorem sc_l_picture : FnScope N_l_picture ["_law_left_here", "_law_kind_here"] (defScope s_l_picture) := ⟨rfl, rfl, rfl, by decide +kernel, rfl, by decide +kernel, by decide +kernel⟩
abbrev s_l_apart : Stmt := topS 22
abbrev N_l_apart : List Str := ["_law_one", "_law_other", "_law_a", "_law_b"]
theorem sc_l_apart : FnScope N_l_apart ["_law_one", "_law_other"] (defScope s_l_apart) := ⟨rfl, rfl, rfl, by decide +kernel, rfl, by decide +kernel, by decide +kernel⟩
abbrev s_l_nearest : Stmt := topS 23
abbrev N_l_nearest : List Str := ["_law_palette_here", "_law_colour_here", "_law_k", "_law_one"]
theorem sc_l_nearest : FnScope N_l_nearest ["_law_palette_here", "_law_colour_here"] (defScope s_l_nearest) := ⟨rfl, rfl, rfl, by decide +kernel, rfl, by decide +kernel, by decide +kernel⟩
abbrev s_l_same : Stmt := topS 24
abbrev N_l_same : List Str := ["_law_found", "_law_due", "_law_one", "_law_other"]
theorem sc_l_same : FnScope N_l_same ["_law_found", "_law_due"] (defScope s_l_same) := ⟨rfl, rfl, rfl, by decide +kernel, rfl, by decide +kernel, by decide +kernel⟩
abbrev s_l_sums : Stmt := topS 25
abbrev N_l_sums : List Str := ["_law_colours", "_law_wide", "_law_place", "_law_colour_here"]
theorem sc_l_sums : FnScope N_l_sums ["_law_colours", "_law_wide"] (defScope s_l_sums) := ⟨rfl, rfl, rfl, by decide +kernel, rfl, by decide +kernel, by decide +kernel⟩
abbrev s_l_less_by : Stmt := topS 26
abbrev N_l_less_by : List Str := ["_law_one", "_law_other", "_law_a", "_law_b"]
theorem sc_l_less_by : FnScope N_l_less_by ["_law_one", "_law_other"] (defScope s_l_less_by) := ⟨rfl, rfl, rfl, by decide +kernel, rfl, by decide +kernel, by decide +kernel⟩
abbrev s_l_lines : Stmt := topS 27
abbrev N_l_lines : List Str := ["_law_picture_here", "_law_numbers", "_law_way", "_law_share", "_law_high", "_law_wide", "_law_lines_here", "_law_row", "_law_side", "_law_column"]
theorem sc_l_lines : FnScope N_l_lines ["_law_picture_here", "_law_numbers", "_law_way", "_law_share"] (defScope s_l_lines) := ⟨rfl, rfl, rfl, by decide +kernel, rfl, by decide +kernel, by decide +kernel⟩
abbrev s_l_one_right : Stmt := topS 28
abbrev N_l_one_right : List Str := ["_law_picture_here", "_law_palette_here", "_law_way", "_law_share", "_law_parts", "_law_numbers", "_law_lost", "_law_wanted", "_law_many", "_law_rests", "_law_line", "_law_here", "_law_row", "_law_column", "_law_due"]
theorem sc_l_one_right : FnScope N_l_one_right ["_law_picture_here", "_law_palette_here", "_law_way", "_law_share", "_law_parts"] (defScope s_l_one_right) := ⟨rfl, rfl, rfl, by decide +kernel, rfl, by decide +kernel, by decide +kernel⟩
abbrev s_l_none_right : Stmt := topS 29
abbrev N_l_none_right : List Str := ["_law_picture_here", "_law_palette_here", "_law_way", "_law_shares", "_law_due", "_law_told", "_law_every", "_law_row", "_law_spots", "_law_many", "_law_lost", "_law_number"]
theorem sc_l_none_right : FnScope N_l_none_right ["_law_picture_here", "_law_palette_here", "_law_way", "_law_shares"] (defScope s_l_none_right) := ⟨rfl, rfl, rfl, by decide +kernel, rfl, by decide +kernel, by decide +kernel⟩
abbrev s_law : Stmt := topS 30
abbrev N_law : List Str := ["_law_script", "_law_k", "_law_left_here", "_law_kind_here", "_law_picture_here", "_law_palette_here", "_law_parts", "_law_one", "_law_way", "_law_share", "_law_row"]
theorem sc_law : FnScope N_law ["_law_script"] (defScope s_law) := ⟨rfl, rfl, rfl, by decide +kernel, rfl, by decide +kernel, by decide +kernel⟩
structure Tx (K : PySem.W.Frag) (mg : Str → Option Value) where
  f_apart : Addr
  d_apart : FuncData
  F_apart : Fun K "apart" "apart" s_apart f_apart d_apart
  b_apart : Binds K d_apart ["one", "other"] []
  g_apart : mg "apart" = some (.ref f_apart)
  f_nearest : Addr
  d_nearest : FuncData
  F_nearest : Fun K "nearest" "nearest" s_nearest f_nearest d_nearest
  b_nearest : Binds K d_nearest ["palette", "colour"] []
  g_nearest : mg "nearest" = some (.ref f_nearest)
  f_added : Addr
  d_added : FuncData
  F_added : Fun K "added" "added" s_added f_added d_added
  b_added : Binds K d_added ["one", "other"] []
  g_added : mg "added" = some (.ref f_added)
  f_lessened : Addr
  d_lessened : FuncData
  F_lessened : Fun K "lessened" "lessened" s_lessened f_lessened d_lessened
  b_lessened : Binds K d_lessened ["one", "other"] []
  g_lessened : mg "lessened" = some (.ref f_lessened)
  f_spots_in_order : Addr
  d_spots_in_order : FuncData
  F_spots_in_order : Fun K "spots_in_order" "spots_in_order" s_spots_in_order f_spots_in_order d_spots_in_order
  b_spots_in_order : Binds K d_spots_in_order ["picture", "way"] []
  g_spots_in_order : mg "spots_in_order" = some (.ref f_spots_in_order)
  f_shares_there : Addr
  d_shares_there : FuncData
  F_shares_there : Fun K "shares_there" "shares_there" s_shares_there f_shares_there d_shares_there
  b_shares_there : Binds K d_shares_there ["picture", "shares", "spot"] []
  g_shares_there : mg "shares_there" = some (.ref f_shares_there)
  f_hand_over : Addr
  d_hand_over : FuncData
  F_hand_over : Fun K "hand_over" "hand_over" s_hand_over f_hand_over d_hand_over
  b_hand_over : Binds K d_hand_over ["wanted", "shares", "spot", "colour"] []
  g_hand_over : mg "hand_over" = some (.ref f_hand_over)
  f_wanted_by : Addr
  d_wanted_by : FuncData
  F_wanted_by : Fun K "wanted_by" "wanted_by" s_wanted_by f_wanted_by d_wanted_by
  b_wanted_by : Binds K d_wanted_by ["picture", "palette", "shares", "way", "numbers"] []
  g_wanted_by : mg "wanted_by" = some (.ref f_wanted_by)
  f_handed_on : Addr
  d_handed_on : FuncData
  F_handed_on : Fun K "handed_on" "handed_on" s_handed_on f_handed_on d_handed_on
  b_handed_on : Binds K d_handed_on ["picture", "palette", "shares", "way"] []
  g_handed_on : mg "handed_on" = some (.ref f_handed_on)
  f_numbers_by : Addr
  d_numbers_by : FuncData
  F_numbers_by : Fun K "numbers_by" "numbers_by" s_numbers_by f_numbers_by d_numbers_by
  b_numbers_by : Binds K d_numbers_by ["picture", "palette"] []
  g_numbers_by : mg "numbers_by" = some (.ref f_numbers_by)
  f_l_mix : Addr
  d_l_mix : FuncData
  F_l_mix : Fun K "_law_mix" "_law_mix" s_l_mix f_l_mix d_l_mix
  b_l_mix : Binds K d_l_mix ["_law_cell", "_law_k"] []
  g_l_mix : mg "_law_mix" = some (.ref f_l_mix)
  f_l_left : Addr
  d_l_left : FuncData
  F_l_left : Fun K "_law_left" "_law_left" s_l_left f_l_left d_l_left
  b_l_left : Binds K d_l_left ["_law_script", "_law_k"] []
  g_l_left : mg "_law_left" = some (.ref f_l_left)
  f_l_pick : Addr
  d_l_pick : FuncData
  F_l_pick : Fun K "_law_pick" "_law_pick" s_l_pick f_l_pick d_l_pick
  b_l_pick : Binds K d_l_pick ["_law_left_here", "_law_many"] []
  g_l_pick : mg "_law_pick" = some (.ref f_l_pick)
  f_l_kind : Addr
  d_l_kind : FuncData
  F_l_kind : Fun K "_law_kind" "_law_kind" s_l_kind f_l_kind d_l_kind
  b_l_kind : Binds K d_l_kind ["_law_left_here"] []
  g_l_kind : mg "_law_kind" = some (.ref f_l_kind)
  f_l_colour : Addr
  d_l_colour : FuncData
  F_l_colour : Fun K "_law_colour" "_law_colour" s_l_colour f_l_colour d_l_colour
  b_l_colour : Binds K d_l_colour ["_law_left_here", "_law_kind_here"] []
  g_l_colour : mg "_law_colour" = some (.ref f_l_colour)
  f_l_palette : Addr
  d_l_palette : FuncData
  F_l_palette : Fun K "_law_palette" "_law_palette" s_l_palette f_l_palette d_l_palette
  b_l_palette : Binds K d_l_palette ["_law_left_here", "_law_kind_here"] []
  g_l_palette : mg "_law_palette" = some (.ref f_l_palette)
  f_l_picture : Addr
  d_l_picture : FuncData
  F_l_picture : Fun K "_law_picture" "_law_picture" s_l_picture f_l_picture d_l_picture
  b_l_picture : Binds K d_l_picture ["_law_left_here", "_law_kind_here"] []
  g_l_picture : mg "_law_picture" = some (.ref f_l_picture)
  f_l_apart : Addr
  d_l_apart : FuncData
  F_l_apart : Fun K "_law_apart" "_law_apart" s_l_apart f_l_apart d_l_apart
  b_l_apart : Binds K d_l_apart ["_law_one", "_law_other"] []
  g_l_apart : mg "_law_apart" = some (.ref f_l_apart)
  f_l_nearest : Addr
  d_l_nearest : FuncData
  F_l_nearest : Fun K "_law_nearest" "_law_nearest" s_l_nearest f_l_nearest d_l_nearest
  b_l_nearest : Binds K d_l_nearest ["_law_palette_here", "_law_colour_here"] []
  g_l_nearest : mg "_law_nearest" = some (.ref f_l_nearest)
  f_l_same : Addr
  d_l_same : FuncData
  F_l_same : Fun K "_law_same" "_law_same" s_l_same f_l_same d_l_same
  b_l_same : Binds K d_l_same ["_law_found", "_law_due"] []
  g_l_same : mg "_law_same" = some (.ref f_l_same)
  f_l_sums : Addr
  d_l_sums : FuncData
  F_l_sums : Fun K "_law_sums" "_law_sums" s_l_sums f_l_sums d_l_sums
  b_l_sums : Binds K d_l_sums ["_law_colours", "_law_wide"] []
  g_l_sums : mg "_law_sums" = some (.ref f_l_sums)
  f_l_less_by : Addr
  d_l_less_by : FuncData
  F_l_less_by : Fun K "_law_less_by" "_law_less_by" s_l_less_by f_l_less_by d_l_less_by
  b_l_less_by : Binds K d_l_less_by ["_law_one", "_law_other"] []
  g_l_less_by : mg "_law_less_by" = some (.ref f_l_less_by)
  f_l_lines : Addr
  d_l_lines : FuncData
  F_l_lines : Fun K "_law_lines" "_law_lines" s_l_lines f_l_lines d_l_lines
  b_l_lines : Binds K d_l_lines ["_law_picture_here", "_law_numbers", "_law_way", "_law_share"] []
  g_l_lines : mg "_law_lines" = some (.ref f_l_lines)
  f_l_one_right : Addr
  d_l_one_right : FuncData
  F_l_one_right : Fun K "_law_one_right" "_law_one_right" s_l_one_right f_l_one_right d_l_one_right
  b_l_one_right : Binds K d_l_one_right ["_law_picture_here", "_law_palette_here", "_law_way", "_law_share", "_law_parts"] []
  g_l_one_right : mg "_law_one_right" = some (.ref f_l_one_right)
  f_l_none_right : Addr
  d_l_none_right : FuncData
  F_l_none_right : Fun K "_law_none_right" "_law_none_right" s_l_none_right f_l_none_right d_l_none_right
  b_l_none_right : Binds K d_l_none_right ["_law_picture_here", "_law_palette_here", "_law_way", "_law_shares"] []
  g_l_none_right : mg "_law_none_right" = some (.ref f_l_none_right)
  z_abs : mg "abs" = none
  z_all : mg "all" = none
  z_bool : mg "bool" = none
  z_enumerate : mg "enumerate" = none
  z_int : mg "int" = none
  z_isinstance : mg "isinstance" = none
  z_len : mg "len" = none
  z_list : mg "list" = none
  z_min : mg "min" = none
  z_range : mg "range" = none
  z_str : mg "str" = none
  z_sum : mg "sum" = none
  z_tuple : mg "tuple" = none
  z_zip : mg "zip" = none
section
variable {P : Program} {w : World} {K : PySem.W.Frag} {mg : Str → Option Value} {base : Heap}
/-! ### mix -/
def spMix : Sp := fun vs H Q _ => ∃ c n : Int, vs = [.int c, .int n] ∧ 0 ≤ n ∧ n < 2000000000 ∧ ∀ r : Int, 0 ≤ r → r < 1999999973 → Q (.int r) H
theorem ok_l_mix (T : Tx K mg) {k : Nat} : FnOk P w K mg base CX0 (k + 1) T.f_l_mix T.d_l_mix ["_law_cell", "_law_k"] spMix := by
  refine T.F_l_mix.ok sc_l_mix (fun vs H Q E h => ?_) (fun cdv A outer s H vs Q E hr h => ?_)
  · obtain ⟨c, n, rfl, _⟩ := h
    rfl
  · obtain ⟨c, n, rfl, h1, h2, q⟩ := h
    refine ⟨_, (pss_cons (ps_set (i := 2) sc_l_mix.nd rfl (.inl rfl) (pe_op op_mod (pe_op op_mul (pe_op op_add (pe_op op_add (pe_op op_mod (pv 0) pe_int) (pe_op op_mul (pe_op op_mul (pv 1) (pv 1)) pe_int)) pe_int) pe_int) pe_int))
      (pss_one (ps_ret (pe_op op_mod (pe_op op_mul (pv 2) (pv 2)) pe_int)))), ?_⟩
    refine ⟨.int c, rfl, _, _, rfl, rfl, md (by decide), .int n, rfl, .int n, rfl, _, _, rfl, rfl, .inl ⟨by omega, by omega⟩, _, _, rfl, rfl, .inr ⟨by decide, by decide⟩, _, _, rfl, rfl, _, _, rfl, rfl, _, _, rfl, rfl, .inr ⟨by decide, by decide⟩, _, _, rfl, rfl, md (by decide), ?_⟩
    refine ⟨_, rfl, _, rfl, _, _, rfl, rfl, .inl ⟨?_, ?_⟩, _, _, rfl, rfl, md (by decide), ?_⟩
    · omega
    · omega
    · exact q _ (Int.emod_nonneg _ (by decide)) (Int.emod_lt_of_pos _ (by decide))
/-! ### left -/
def spLeft (K : PySem.W.Frag) : Sp := fun vs H Q _ => ∃ (a : Addr) (ns : List Int) (n : Int), vs = [.ref a, .int n] ∧ SqL K H a (ns.map V.int) ∧ 0 ≤ n ∧ ∀ (p : Addr) (x y : Int), H p = none → 0 ≤ x → Q (.ref p) (upd H p (.lst [.int x, .int y, .int 0]))
theorem left_end {c n : Int} {H : Hp} {Q : VK} (q : ∀ (p : Addr) (x y : Int), H p = none → 0 ≤ x → Q (.ref p) (upd H p (.lst [.int x, .int y, .int 0]))) (p : Addr) (hp : H p = none) (b : Bool) :
    Q (.ref p) (upd H p (.lst [.int ((if c < 0 then -c else c) * (if b = true then 1 else 0)), .int (c + 1000003 * n), .int 0])) := by
  refine q p _ _ hp ?_
  cases b <;> simp <;> split <;> omega
theorem ok_l_left (T : Tx K mg) {k : Nat} : FnOk P w K mg base CX0 (k + 1) T.f_l_left T.d_l_left ["_law_script", "_law_k"] (spLeft K) := by
  refine T.F_l_left.ok sc_l_left (fun vs H Q E h => ?_) (fun cdv A outer s H vs Q E hr h => ?_)
  · obtain ⟨a, ns, n, rfl, _⟩ := h
    rfl
  · obtain ⟨a, ns, n, rfl, hS, h1, q⟩ := h
    refine ⟨_, (pss_cons (ps_set (i := 2) sc_l_left.nd rfl (.inl rfl) (pe_ifExp (pt_cmpR op_lt (pv 1) (pe_callB (len_K K) (by rfl) T.z_len PySem.boot_len (pa_cons (pv 0) pa_nil)) (nomark _)) (pe_ix (ix_listK K) (pv 0) (pv 1) (fun _ _ => rfl)) pe_int))
      (pss_one (ps_ret (pe_lst (pa_cons (pe_op op_mul (pe_callB call_abs (by rfl) T.z_abs (by decide +kernel) (pa_cons (pv 2) pa_nil)) (pe_callTy call_int1 (by rfl) T.z_int (by decide +kernel) (pa_cons (pe_cmpR op_ge (pe_callB call_abs (by rfl) T.z_abs (by decide +kernel) (pa_cons (pv 2) pa_nil)) (pe_op op_pow pe_int pe_int) (nomark _)) pa_nil))) (pa_cons (pe_op op_add (pv 2) (pe_op op_mul pe_int (pv 1))) (pa_cons pe_int pa_nil))))))), ?_⟩
    refine ⟨_, rfl, _, rfl, a, _, rfl, .inl hS, _, _, rfl, rfl, _, rfl, ite2 (fun e => ?_) (fun e => ?_)⟩
    · have e1 : n < (ns.map V.int).length := of_decide_eq_true e
      rw [List.length_map] at e1
      have g : atI (ns.map V.int) n = some (.int (ns[n.toNat]'(by omega))) := at0 h1 (by rw [List.getElem?_map, List.getElem?_eq_getElem]; rfl)
      refine ⟨_, rfl, _, rfl, a, _, _, _, rfl, rfl, hS, g, ?_⟩
      exact ⟨_, rfl, _, rfl, _, rfl, _, rfl, _, _, rfl, rfl, ⟨by decide, by decide, by decide⟩, _, _, rfl, rfl, .inr ⟨_, rfl, _, _, rfl, rfl, .inr (bit_ok _), _, rfl, _, rfl, _, _, rfl, rfl, .inl ⟨by decide, by decide⟩, _, _, rfl, rfl, (by show 3 ≤ sizeLine; decide), fun p hp => left_end q p hp _⟩⟩
    · exact ⟨_, rfl, _, rfl, _, rfl, _, rfl, _, _, rfl, rfl, ⟨by decide, by decide, by decide⟩, _, _, rfl, rfl, .inr ⟨_, rfl, _, _, rfl, rfl, .inr (bit_ok _), _, rfl, _, rfl, _, _, rfl, rfl, .inl ⟨by decide, by decide⟩, _, _, rfl, rfl, (by show 3 ≤ sizeLine; decide), fun p hp => left_end q p hp _⟩⟩
/-! ### pick -/
def spPick : Sp := fun vs H Q _ => ∃ (L : Addr) (m : Int) (n : Nat), vs = [.ref L, .int m] ∧ Lf L H n ∧ n < 1000000000 ∧ 0 < m ∧ m < 1073741824 ∧ ∀ (r : Int) (H' : Hp), Go [L] H H' → Lf L H' (n + 1) → 0 ≤ r → r < m → Q (.int r) H'
theorem ok_l_pick (T : Tx K mg) {k : Nat} : FnOk P w K mg base CX0 (k + 2) T.f_l_pick T.d_l_pick ["_law_left_here", "_law_many"] spPick := by
  refine T.F_l_pick.ok sc_l_pick (fun vs H Q E h => ?_) (fun cdv A outer s H vs Q E hr h => ?_)
  · obtain ⟨L, m, n, rfl, _⟩ := h
    rfl
  · obtain ⟨L, m, n, rfl, ⟨a, b, c, hL, a0, c0, cn⟩, hn, m0, m1, q⟩ := h
    refine ⟨_, (pss_cons (ps_asg (pe_op op_add (pe_ix (ix_listK K) (pv 0) pe_int (fun _ _ => rfl)) pe_int) (pg_sub (pv 0) pe_int set_list))
      (pss_cons (ps_if (pt_cmpR op_gt (pe_ix (ix_listK K) (pv 0) pe_int (fun _ _ => rfl)) pe_int (nomark _)) (pss_cons (ps_set (i := 2) sc_l_pick.nd rfl (.inl rfl) (pe_op op_mod (pe_ix (ix_listK K) (pv 0) pe_int (fun _ _ => rfl)) (pv 1)))
      (pss_cons (ps_asg (pe_op op_fdiv (pe_ix (ix_listK K) (pv 0) pe_int (fun _ _ => rfl)) (pv 1)) (pg_sub (pv 0) pe_int set_list))
      (pss_one (ps_ret (pv 2))))) pss_nil)
      (pss_one (ps_ret (pe_op op_mod (pe_op op_fdiv (pe_call (ok_l_mix T (k := k)) hr (by rfl) T.g_l_mix T.F_l_mix.kp T.b_l_mix .nil pass0 (pa_cons (pe_call (ok_l_mix T (k := k)) hr (by rfl) T.g_l_mix T.F_l_mix.kp T.b_l_mix .nil pass0 (pa_cons (pe_ix (ix_listK K) (pv 0) pe_int (fun _ _ => rfl)) (pa_cons (pe_ix (ix_listK K) (pv 0) pe_int (fun _ _ => rfl)) pa_nil))) (pa_cons (pe_op op_add (pe_ix (ix_listK K) (pv 0) pe_int (fun _ _ => rfl)) pe_int) pa_nil))) pe_int) (pv 1)))))), ?_⟩
    refine ⟨_, rfl, L, _, 2, .int c, rfl, rfl, SqL.of hL, rfl, _, _, rfl, rfl, _, rfl, L, _, _, 2, rfl, rfl, hL, rfl, ?_⟩
    generalize hH : upd H L (.lst (List.set [V.int a, V.int b, V.int c] 2 (V.int (c + 1)))) = H1
    have hL1 : H1 L = some (.lst [.int a, .int b, .int (c + 1)]) := by rw [← hH]; exact upd_same
    have g1 : Go [L] H H1 := by rw [← hH]; exact Go.refl.at (List.mem_singleton.mpr rfl)
    refine ⟨_, rfl, L, _, 0, .int a, rfl, rfl, SqL.of hL1, rfl, _, _, rfl, rfl, _, rfl, ite2 (fun e => ?_) (fun e => ?_)⟩
    · have e1 : 0 < a := of_decide_eq_true e
      refine ⟨_, rfl, L, _, 0, .int a, rfl, rfl, SqL.of hL1, rfl, _, rfl, _, _, rfl, rfl, md m0, ?_⟩
      refine ⟨_, rfl, L, _, 0, .int a, rfl, rfl, SqL.of hL1, rfl, _, rfl, _, _, rfl, rfl, ⟨m0, m1⟩, _, rfl, L, _, _, 0, rfl, rfl, hL1, rfl, ?_⟩
      refine ⟨_, rfl, ?_⟩
      exact q _ _ (g1.at (List.mem_singleton.mpr rfl)) ⟨a / m, b, c + 1, upd_same, Int.ediv_nonneg a0 (by omega), by omega, by omega⟩ (Int.emod_nonneg _ (by omega)) (Int.emod_lt_of_pos _ m0)
    · refine ⟨_, rfl, L, _, 1, .int b, rfl, rfl, SqL.of hL1, rfl, _, rfl, L, _, 2, .int (c + 1), rfl, rfl, SqL.of hL1, rfl, _, _, rfl, by omega, by omega, fun r1 _ _ => ?_⟩
      refine ⟨_, rfl, L, _, 2, .int (c + 1), rfl, rfl, SqL.of hL1, rfl, _, _, rfl, rfl, _, _, rfl, by omega, by omega, fun r2 _ _ => ?_⟩
      refine ⟨_, _, rfl, rfl, ⟨by decide, by decide⟩, _, rfl, _, _, rfl, rfl, md m0, ?_⟩
      exact q _ _ g1 ⟨a, b, c + 1, hL1, a0, by omega, by omega⟩ (Int.emod_nonneg _ (by omega)) (Int.emod_lt_of_pos _ m0)
/-! ### kind -/
def spKind : Sp := fun vs H Q _ => ∃ (L : Addr) (n : Nat), vs = [.ref L] ∧ Lf L H n ∧ n < 100000000 ∧ ∀ (v : V) (H' : Hp) (wd sp : Int), Go [L] H H' → Lf L H' (n + 2) → 1 ≤ wd → wd ≤ 5 → 3 ≤ sp → sp ≤ 1000 → Dt [L] H' v (eC [wd, sp]) → Q v H'
theorem ok_l_kind (T : Tx K mg) {k : Nat} : FnOk P w K mg base CX0 (k + 3) T.f_l_kind T.d_l_kind ["_law_left_here"] spKind := by
  refine T.F_l_kind.ok sc_l_kind (fun vs H Q E h => ?_) (fun cdv A outer s H vs Q E hr h => ?_)
  · obtain ⟨L, n, rfl, _⟩ := h
    rfl
  · obtain ⟨L, n, rfl, hL, hn, q⟩ := h
    refine ⟨_, (pss_one (ps_ret (pe_tup (pa_cons (pe_ix (ix_listK K) (pe_lst (pa_cons pe_int (pa_cons pe_int (pa_cons pe_int (pa_cons pe_int (pa_cons pe_int (pa_cons pe_int (pa_cons pe_int (pa_cons pe_int pa_nil))))))))) (pe_call (ok_l_pick T (k := k)) hr (by rfl) T.g_l_pick T.F_l_pick.kp T.b_l_pick .nil pass0 (pa_cons (pv 0) (pa_cons pe_int pa_nil))) (fun _ _ => rfl)) (pa_cons (pe_ix (ix_listK K) (pe_lst (pa_cons pe_int (pa_cons pe_int (pa_cons pe_int (pa_cons pe_int (pa_cons pe_int (pa_cons pe_int pa_nil))))))) (pe_call (ok_l_pick T (k := k)) hr (by rfl) T.g_l_pick T.F_l_pick.kp T.b_l_pick .nil pass0 (pa_cons (pv 0) (pa_cons pe_int pa_nil))) (fun _ _ => rfl)) pa_nil))))), ?_⟩
    refine ⟨(by show 8 ≤ sizeLine; decide), fun p hp => ?_⟩
    refine ⟨_, rfl, L, 8, n, rfl, hL.new hp, by omega, by decide, by decide, fun r1 H1 g1 l1 a1 b1 => ?_⟩
    have e1 : H1 p = some (.lst ([1, 2, 3, 3, 3, 4, 5, 2].map V.int)) := g1.k p _ (hL.bk.ne hp) upd_same
    obtain ⟨wd, mw, ew⟩ := at_int (ns := [1, 2, 3, 3, 3, 4, 5, 2]) a1 b1
    refine ⟨p, _, r1, .int wd, rfl, rfl, SqL.of e1, ew, (by show 6 ≤ sizeLine; decide), fun p2 hp2 => ?_⟩
    refine ⟨_, rfl, L, 6, n + 1, rfl, l1.new hp2, by omega, by decide, by decide, fun r2 H2 g2 l2 a2 b2 => ?_⟩
    have e2 : H2 p2 = some (.lst ([3, 6, 20, 256, 1000, 10].map V.int)) := g2.k p2 _ (l1.bk.ne hp2) upd_same
    obtain ⟨sp, ms, es⟩ := at_int (ns := [3, 6, 20, 256, 1000, 10]) a2 b2
    refine ⟨p2, _, r2, .int sp, rfl, rfl, SqL.of e2, es, (by show 2 ≤ sizeLine; decide), fun p3 hp3 => ?_⟩
    simp at mw ms
    refine q _ _ wd sp (((((Go.new hp).trans g1).trans (Go.new hp2)).trans g2).trans (Go.new hp3)) (l2.new hp3) (by omega) (by omega) (by omega) (by omega) (Dt.ofCol (l2.bk.ne hp3) upd_same)
/-! ### colour -/
def spColour : Sp := fun vs H Q _ => ∃ (L : Addr) (B : List Addr) (n : Nat) (kv : V) (wd sp : Int), vs = [.ref L, kv] ∧ Lf L H n ∧ L ∈ B ∧ Bk B H ∧ n < 100000000 ∧ Dt [L] H kv (eC [wd, sp]) ∧ 0 ≤ wd ∧ wd ≤ 5 ∧ 1 ≤ sp ∧ sp ≤ 1000 ∧
  ∀ (v : V) (H' : Hp) (ns : List Int), Go [L] H H' → Lf L H' (n + 10) → Dt B H' v (eC ns) → (ns.length : Int) = wd → cIn 0 999 ns → Q v H'
theorem ok_l_colour (T : Tx K mg) {k : Nat} : FnOk P w K mg base CX0 (k + 3) T.f_l_colour T.d_l_colour ["_law_left_here", "_law_kind_here"] spColour := by
  refine T.F_l_colour.ok sc_l_colour (fun vs H Q E h => ?_) (fun cdv A outer s H vs Q E hr h => ?_)
  · obtain ⟨L, B, n, kv, wd, sp, rfl, _⟩ := h
    rfl
  · obtain ⟨L, B, n, kv, wd, sp, rfl, hL, LB, hB, hn, hk, w0, w1, s0, s1, q⟩ := h
    obtain ⟨ka, rfl, nk, hkT⟩ := hk.col
    refine ⟨_, (pss_cons (ps_asg (pv 1) (pg_tupK K (n := 2) rfl (pgs_cons (pg_name (i := 2) sc_l_colour.nd rfl (.inl rfl)) (pgs_cons (pg_name (i := 3) sc_l_colour.nd rfl (.inr rfl)) pgs_nil))))
      (pss_one (ps_ret (pe_callTy (tuple_K K) (by rfl) T.z_tuple (by decide +kernel) (pa_cons (pe_lc (own := [("_law_place", 4)]) (by rfl) sc_l_colour.nd (pi_range1 (by rfl) T.z_range (pa_cons (pv 2) pa_nil)) (blkOk_by (own := [("_law_place", 4)]) (N := N_l_colour) (sc := defScope s_l_colour) (by decide +kernel)) (fun _ _ _ _ _ => (pg_name (i := 4) sc_l_colour.nd rfl (.inl rfl))) (fun _ _ _ _ _ => pts_nil) (fun _ _ _ _ _ => (pe_ix (ix_listK K) (pe_lst (pa_cons (pe_call (ok_l_pick T (k := k)) hr (by rfl) T.g_l_pick T.F_l_pick.kp T.b_l_pick .nil pass0 (pa_cons (pv 0) (pa_cons (pv 3) pa_nil))) (pa_cons pe_int pa_nil))) (pe_callTy call_int1 (by rfl) T.z_int (by decide +kernel) (pa_cons (pe_cmpR op_eq (pe_call (ok_l_pick T (k := k)) hr (by rfl) T.g_l_pick T.F_l_pick.kp T.b_l_pick .nil pass0 (pa_cons (pv 0) (pa_cons pe_int pa_nil))) pe_int (nomark _)) pa_nil)) (fun _ _ => rfl)))) pa_nil))))), ?_⟩
    refine ⟨_, rfl, ka, [.int wd, .int sp], rfl, SqT.of hkT, rfl, .int wd, _, rfl, .int sp, _, rfl, rfl, ?_⟩
    refine ⟨_, rfl, wd, rfl, by omega, by omega, fun D hD => ?_⟩
    refine lc_range (lo := 0) (n := wd.toNat) (fun i H' => ∃ ns : List Int, ns.length = i ∧ cIn 0 999 ns ∧ Go [L] H H' ∧ Lf L H' (n + 2 * i) ∧ H' D = some (.lst (ns.map V.int)))
      ⟨[], rfl, cIn.nil, Go.new hD, hL.new hD, upd_same⟩ (fun i H1 hi h1 => ?_) (fun H1 h1 => ?_)
    · obtain ⟨ns, en, cn, g, l, eD⟩ := h1
      have nD : D ∉ [L] := hL.bk.ne hD
      refine ⟨rfl, lc_yes ?_⟩
      refine ⟨_, rfl, _, rfl, L, sp, n + 2 * i, rfl, l, by omega, by omega, by omega, fun r1 H2 g2 l2 a1 b1 => ?_⟩
      refine ⟨(by show 2 ≤ sizeLine; decide), fun p hp => ?_⟩
      refine ⟨_, rfl, L, 8, n + 2 * i + 1, rfl, l2.new hp, by omega, by decide, by decide, fun r2 H3 g3 l3 a2 b2 => ?_⟩
      have e3 : H3 p = some (.lst [.int r1, .int 999]) := g3.k p _ (l2.bk.ne hp) upd_same
      refine ⟨rfl, .inr ⟨_, rfl, p, _, _, _, rfl, rfl, SqL.of e3, at2 _ _ _, ns.map V.int, ?_⟩⟩
      have gg : Go [L] H1 H3 := (g2.trans (Go.new hp)).trans g3
      obtain ⟨x, ex, x0, x1⟩ : ∃ x : Int, (if decide (V.int r2 = V.int 0) = true then V.int 999 else V.int r1) = .int x ∧ 0 ≤ x ∧ x ≤ 999 := by
        by_cases hb : decide (V.int r2 = V.int 0) = true
        · rw [if_pos hb]
          exact ⟨999, rfl, by decide, by decide⟩
        · rw [if_neg hb]
          exact ⟨r1, rfl, by omega, by omega⟩
      refine ⟨gg.k D _ nD eD, sz (by rw [List.length_map]; omega), ns ++ [x], ?_, cn.app x0 x1, (g.trans gg).mut hD, (l3.up (hL.ne hD)).mono (by omega), ?_⟩
      · rw [List.length_append]
        simp
        omega
      · rw [upd_same, List.map_append, ex]
        rfl
    · obtain ⟨ns, en, cn, g, l, eD⟩ := h1
      refine ⟨D, _, rfl, .inl ⟨SqL.of eD, fun t ht => ?_⟩⟩
      exact q _ _ ns (g.trans (Go.new ht)) ((l.new ht).mono (by omega)) (Dt.ofCol ((hB.go g).ne ht) upd_same) (by omega) cn
/-! ### same -/
def spSame : Nat → Sp
  | 0 => fun _ _ _ _ => False
  | k + 1 => fun vs H Q _ => ∃ (B : List Addr) (x y : V) (d : PyData), vs = [x, y] ∧ Dt B H x d ∧ Dt B H y d ∧ Sh d k ∧ k ≤ 60 ∧ ∀ H', Same H H' → Q (.bl true) H'
theorem kT {K : PySem.W.Frag} : PySem.W.kitAny K (.type "tuple") [.type "list", .type "tuple"] = some true := kitAny_cons (b := false) (kit_ty (by decide +kernel)) (fun _ => kitAny_cons (b := true) (kit_ty (by decide +kernel)) (fun h => Bool.noConfusion h) (fun _ => rfl)) (fun h => Bool.noConfusion h)
theorem kL {K : PySem.W.Frag} : PySem.W.kitAny K (.type "list") [.type "list", .type "tuple"] = some true := kitAny_cons (b := true) (kit_ty (by decide +kernel)) (fun h => Bool.noConfusion h) (fun _ => rfl)
theorem kF {K : PySem.W.Frag} {t : String} (h1 : kitB t "list" = some false) (h2 : kitB t "tuple" = some false) : PySem.W.kitAny K (.type t) [.type "list", .type "tuple"] = some false :=
  kitAny_cons (kit_ty (b := "list") h1) (fun _ => kitAny_cons (kit_ty (b := "tuple") h2) (fun _ => kitAny_nil) (fun h => nomatch h)) (fun h => nomatch h)
theorem eqv_sh {d : PyData} {k : Nat} (h : Sh d k) : PyData.eqv d d = true := SeqAt.eqv_refl d h.1
theorem allT : ∀ n : Nat, (List.range n).filterMap (fun _ => some (PyData.bool true)) = (List.replicate n true).map PyData.bool
  | 0 => rfl
  | n + 1 => by
    rw [List.range_succ, List.filterMap_append, allT n, List.replicate_succ', List.map_append]
    rfl
theorem same_all (T : Tx K mg) (k : Nat) : FnOk P w K mg base CX0 k T.f_l_same T.d_l_same ["_law_found", "_law_due"] (spSame k) := by
  induction k with
  | zero => exact ⟨fun _ _ _ _ h => h.elim, fun _ _ _ _ _ _ _ _ _ _ _ _ _ h => h.elim⟩
  | succ k GS =>
    refine T.F_l_same.ok sc_l_same (fun vs H Q E h => ?_) (fun cdv A outer s H vs Q E hr h => ?_)
    · obtain ⟨B, x, y, d, rfl, _⟩ := h
      rfl
    · obtain ⟨B, x, y, d, rfl, hx, hy, hd, k60, q⟩ := h
      have hrS := hr
      refine ⟨_, (pss_cons (ps_if (pt_val (pe_callB (call_isiTK K) (by rfl) T.z_isinstance (by decide +kernel) (pa_cons (pv 1) (pa_cons (pe_tup (pa_cons (pe_bltn (v := .ty "list") (by rfl) T.z_list (by decide +kernel) rfl) (pa_cons (pe_bltn (v := .ty "tuple") (by rfl) T.z_tuple (by decide +kernel) rfl) pa_nil))) pa_nil)))) (pss_cons (ps_if (PW.pt (pw_or (pt_cmpR op_ne (pe_callB (call_isiK1 K) (by rfl) T.z_isinstance (by decide +kernel) (pa_cons (pv 0) (pa_cons (pe_bltn (v := .ty "list") (by rfl) T.z_list (by decide +kernel) rfl) pa_nil))) (pe_callB (call_isiK1 K) (by rfl) T.z_isinstance (by decide +kernel) (pa_cons (pv 1) (pa_cons (pe_bltn (v := .ty "list") (by rfl) T.z_list (by decide +kernel) rfl) pa_nil))) (nomark _)) (pw_or1 (pt_cmpR op_ne (pe_callB (call_isiK1 K) (by rfl) T.z_isinstance (by decide +kernel) (pa_cons (pv 0) (pa_cons (pe_bltn (v := .ty "tuple") (by rfl) T.z_tuple (by decide +kernel) rfl) pa_nil))) (pe_callB (call_isiK1 K) (by rfl) T.z_isinstance (by decide +kernel) (pa_cons (pv 1) (pa_cons (pe_bltn (v := .ty "tuple") (by rfl) T.z_tuple (by decide +kernel) rfl) pa_nil))) (nomark _))))) (pss_one (ps_ret pe_bl)) pss_nil)
      (pss_one (ps_ret (pe_and (pe_cmpR op_eq (pe_callB (len_K K) (by rfl) T.z_len PySem.boot_len (pa_cons (pv 0) pa_nil)) (pe_callB (len_K K) (by rfl) T.z_len PySem.boot_len (pa_cons (pv 1) pa_nil)) (nomark _)) (pe_one (pe_callB (cr_allK K rfl) (by rfl) T.z_all (by decide +kernel) (pa_cons (pe_lc (own := [("_law_one", 2), ("_law_other", 3)]) (by rfl) sc_l_same.nd (RZ.pi_zipA (by rfl) T.z_zip (pa_cons (pv 0) (pa_cons (pv 1) pa_nil))) (blkOk_by (own := [("_law_one", 2), ("_law_other", 3)]) (N := N_l_same) (sc := defScope s_l_same) (by decide +kernel)) (fun _ _ _ _ _ => (pg_tupK K (n := 2) rfl (pgs_cons (pg_name (i := 2) sc_l_same.nd rfl (.inl rfl)) (pgs_cons (pg_name (i := 3) sc_l_same.nd rfl (.inl rfl)) pgs_nil)))) (fun _ _ _ _ _ => pts_nil) (fun _ _ _ _ _ => (pe_call GS hrS (by rfl) T.g_l_same T.F_l_same.kp T.b_l_same .nil pass0 (pa_cons (pv 2) (pa_cons (pv 3) pa_nil))))) pa_nil))))))) pss_nil)
      (pss_cons (ps_if (PW.pt (pw_or (pt_cmpR op_isN (pv 1) pe_non (nomark _)) (pw_or1 (pt_val (pe_callB (call_isiK1 K) (by rfl) T.z_isinstance (by decide +kernel) (pa_cons (pv 1) (pa_cons (pe_bltn (v := .ty "str") (by rfl) T.z_str (by decide +kernel) rfl) pa_nil))))))) (pss_one (ps_ret (pe_and (pe_cmpR (op_eqDK K hr.units) (pv 0) (pv 1) (nomark _)) (pe_one (pe_cmpR op_eq (pe_callB (call_isiK1 K) (by rfl) T.z_isinstance (by decide +kernel) (pa_cons (pv 0) (pa_cons (pe_bltn (v := .ty "str") (by rfl) T.z_str (by decide +kernel) rfl) pa_nil))) (pe_callB (call_isiK1 K) (by rfl) T.z_isinstance (by decide +kernel) (pa_cons (pv 1) (pa_cons (pe_bltn (v := .ty "str") (by rfl) T.z_str (by decide +kernel) rfl) pa_nil))) (nomark _)))))) pss_nil)
      (pss_cons (ps_if (pt_val (pe_callB (call_isiK1 K) (by rfl) T.z_isinstance (by decide +kernel) (pa_cons (pv 1) (pa_cons (pe_bltn (v := .ty "bool") (by rfl) T.z_bool (by decide +kernel) rfl) pa_nil)))) (pss_one (ps_ret (pe_and (pe_callB (call_isiK1 K) (by rfl) T.z_isinstance (by decide +kernel) (pa_cons (pv 0) (pa_cons (pe_bltn (v := .ty "bool") (by rfl) T.z_bool (by decide +kernel) rfl) pa_nil))) (pe_one (pe_cmpR (op_eqDK K hr.units) (pv 0) (pv 1) (nomark _)))))) pss_nil)
      (pss_one (ps_ret (pe_and (pe_callB (call_isiK1 K) (by rfl) T.z_isinstance (by decide +kernel) (pa_cons (pv 0) (pa_cons (pe_bltn (v := .ty "int") (by rfl) T.z_int (by decide +kernel) rfl) pa_nil))) (pe_and (pe_not (pe_callB (call_isiK1 K) (by rfl) T.z_isinstance (by decide +kernel) (pa_cons (pv 0) (pa_cons (pe_bltn (v := .ty "bool") (by rfl) T.z_bool (by decide +kernel) rfl) pa_nil)))) (pe_one (pe_cmpR (op_eqDK K hr.units) (pv 0) (pv 1) (nomark _)))))))))), ?_⟩
      refine ⟨_, rfl, (by show 2 ≤ sizeLine; decide), fun tp htp => ?_⟩
      have s1 : Same H (upd H tp (.tup [.ty "list", .ty "tuple"])) := sm_new htp
      have hx1 := hx.s s1
      have hy1 := hy.s s1
      have hT : (upd H tp (.tup [.ty "list", .ty "tuple"])) tp = some (.tup [.ty "list", .ty "tuple"]) := upd_same
      generalize upd H tp (.tup [.ty "list", .ty "tuple"]) = H1 at *
      cases d with
      | list ds =>
        have tx : TyX K H1 x (.type "list") := hx1.ty
        have ty : TyX K H1 y (.type "list") := hy1.ty
        refine ⟨y, tp, _, _, [.type "list", .type "tuple"], true, rfl, hT, .cons (.ty _) (.cons (.ty _) .nil), ty, kL, true, rfl, iteT ?_⟩
        refine ⟨_, rfl, _, _, _, _, true, rfl, .ty _, tx, kit_ty (by decide +kernel), _, rfl, _, _, _, _, true, rfl, .ty _, ty, kit_ty (by decide +kernel), rfl, _, rfl, iteNS rfl ?_⟩
        refine ⟨_, rfl, _, _, _, _, false, rfl, .ty _, tx, kit_ty (by decide +kernel), _, rfl, _, _, _, _, false, rfl, .ty _, ty, kit_ty (by decide +kernel), rfl, _, rfl, iteNS rfl ?_⟩
        obtain ⟨a, xs, rfl, na, ha, hA⟩ := hx1.lstI
        obtain ⟨b, ys, rfl, nb, hb, hB⟩ := hy1.lstI
        have l1 := hA.len
        have l2 := hB.len
        refine ⟨_, rfl, a, _, rfl, .inl (SqL.of ha), _, rfl, b, _, rfl, .inl (SqL.of hb), rfl, _, rfl, iteD (by rw [l1, l2]) ?_⟩
        refine ⟨_, rfl, _, rfl, a, b, _, _, rfl, .inl ⟨SqL.of ha, SqL.of hb, fun D hD => ?_⟩⟩
        obtain ⟨j, rfl, hs, hl⟩ := hd.lstI
        refine lc_pure (B := []) (walk_zip (n := ds.length) (xs := xs) (ys := ys) (by rw [l1, l2, Nat.min_self])) hD (fun _ h => nomatch h) (fun H' s' => ⟨SqL.of (s' _ _ ha), SqL.of (s' _ _ hb)⟩) hl
          (fun i => some (.bool true)) (fun i x H' H'' Ny Nn hi s2 bk y ky kn => ?_) (fun H' ws s2 eD hW => ?_)
        · obtain ⟨t, x, y, rfl, ht, rfl, e1, e2⟩ := y
          obtain ⟨d1, f1, g1⟩ := hA.getV e1
          obtain ⟨d2, f2, g2⟩ := hB.getV e2
          have ed : d1 = d2 := Option.some.inj (f1.symm.trans f2)
          subst ed
          refine ⟨t, [x, y], rfl, SqT.of upd_same, rfl, x, _, rfl, y, _, rfl, rfl, rfl, lc_yes ?_⟩
          refine ⟨_, rfl, _, rfl, B, x, y, d1, rfl, (g1.s s2).s (sm_new ht), (g2.s s2).s (sm_new ht), hs _ (List.mem_of_getElem? f1), by omega, fun H3 s3 => ?_⟩
          exact ky _ _ _ rfl ((sm_new ht).trans s3) (.bl _)
        · rw [allT] at hW
          refine ⟨D, _, rfl, SqL.of (by rw [eD, hW.blsV]), ?_⟩
          rw [show (List.replicate ds.length true).all id = true by simp]
          exact q _ (s1.trans s2)
      | tuple ds =>
        have tx : TyX K H1 x (.type "tuple") := hx1.ty
        have ty : TyX K H1 y (.type "tuple") := hy1.ty
        refine ⟨y, tp, _, _, [.type "list", .type "tuple"], true, rfl, hT, .cons (.ty _) (.cons (.ty _) .nil), ty, kT, true, rfl, iteT ?_⟩
        refine ⟨_, rfl, _, _, _, _, false, rfl, .ty _, tx, kit_ty (by decide +kernel), _, rfl, _, _, _, _, false, rfl, .ty _, ty, kit_ty (by decide +kernel), rfl, _, rfl, iteNS rfl ?_⟩
        refine ⟨_, rfl, _, _, _, _, true, rfl, .ty _, tx, kit_ty (by decide +kernel), _, rfl, _, _, _, _, true, rfl, .ty _, ty, kit_ty (by decide +kernel), rfl, _, rfl, iteNS rfl ?_⟩
        obtain ⟨a, xs, rfl, na, ha, hA⟩ := hx1.tupI
        obtain ⟨b, ys, rfl, nb, hb, hB⟩ := hy1.tupI
        have l1 := hA.len
        have l2 := hB.len
        refine ⟨_, rfl, a, _, rfl, .inr (SqT.of ha), _, rfl, b, _, rfl, .inr (SqT.of hb), rfl, _, rfl, iteD (by rw [l1, l2]) ?_⟩
        refine ⟨_, rfl, _, rfl, a, b, _, _, rfl, .inr ⟨SqT.of ha, SqT.of hb, fun D hD => ?_⟩⟩
        obtain ⟨j, rfl, hs, hl⟩ := hd.tupI
        refine lc_pure (B := []) (walk_zipT (n := ds.length) (xs := xs) (ys := ys) (by rw [l1, l2, Nat.min_self])) hD (fun _ h => nomatch h) (fun H' s' => ⟨SqT.of (s' _ _ ha), SqT.of (s' _ _ hb)⟩) hl
          (fun i => some (.bool true)) (fun i x H' H'' Ny Nn hi s2 bk y ky kn => ?_) (fun H' ws s2 eD hW => ?_)
        · obtain ⟨t, x, y, rfl, ht, rfl, e1, e2⟩ := y
          obtain ⟨d1, f1, g1⟩ := hA.getV e1
          obtain ⟨d2, f2, g2⟩ := hB.getV e2
          have ed : d1 = d2 := Option.some.inj (f1.symm.trans f2)
          subst ed
          refine ⟨t, [x, y], rfl, SqT.of upd_same, rfl, x, _, rfl, y, _, rfl, rfl, rfl, lc_yes ?_⟩
          refine ⟨_, rfl, _, rfl, B, x, y, d1, rfl, (g1.s s2).s (sm_new ht), (g2.s s2).s (sm_new ht), hs _ (List.mem_of_getElem? f1), by omega, fun H3 s3 => ?_⟩
          exact ky _ _ _ rfl ((sm_new ht).trans s3) (.bl _)
        · rw [allT] at hW
          refine ⟨D, _, rfl, SqL.of (by rw [eD, hW.blsV]), ?_⟩
          rw [show (List.replicate ds.length true).all id = true by simp]
          exact q _ (s1.trans s2)
      | none =>
        have tx : TyX K H1 x (.type "NoneType") := hx1.ty
        have ty : TyX K H1 y (.type "NoneType") := hy1.ty
        refine ⟨y, tp, _, _, [.type "list", .type "tuple"], false, rfl, hT, .cons (.ty _) (.cons (.ty _) .nil), ty, kF (by decide +kernel) (by decide +kernel), false, rfl, iteF ?_⟩
        have ey : y = .non := by cases hy1; rfl
        subst ey
        refine ⟨_, rfl, rfl, _, rfl, iteD rfl ?_⟩
        refine iteT ?_
        refine ⟨_, rfl, _, rfl, _, _, hx1.dP, hy1.dP, hd.sh (by omega), hd.sh (by omega), _, rfl, iteE (eqv_sh hd) ?_⟩
        refine ⟨_, rfl, _, _, _, _, false, rfl, .ty _, tx, kit_ty (by decide +kernel), _, rfl, _, _, _, _, false, rfl, .ty _, ty, kit_ty (by decide +kernel), rfl, ?_⟩
        exact q _ s1
      | bool b =>
        have tx : TyX K H1 x (.type "bool") := hx1.ty
        have ty : TyX K H1 y (.type "bool") := hy1.ty
        refine ⟨y, tp, _, _, [.type "list", .type "tuple"], false, rfl, hT, .cons (.ty _) (.cons (.ty _) .nil), ty, kF (by decide +kernel) (by decide +kernel), false, rfl, iteF ?_⟩
        have ey : y = .bl b := by cases hy1; rfl
        subst ey
        refine ⟨_, rfl, rfl, _, rfl, iteN (decide_eq_false (fun h => nomatch h)) ?_⟩
        refine ⟨_, rfl, _, _, _, _, false, rfl, .ty _, ty, kit_ty (by decide +kernel), _, rfl, iteF ?_⟩
        refine ⟨_, rfl, _, _, _, _, true, rfl, .ty _, ty, kit_ty (by decide +kernel), _, rfl, iteT ?_⟩
        refine ⟨_, rfl, _, _, _, _, true, rfl, .ty _, tx, kit_ty (by decide +kernel), _, rfl, iteT ?_⟩
        refine ⟨_, rfl, _, rfl, _, _, hx1.dP, hy1.dP, hd.sh (by omega), hd.sh (by omega), ?_⟩
        rw [eqv_sh hd]
        exact q _ s1
      | int i =>
        have tx : TyX K H1 x (.type "int") := hx1.ty
        have ty : TyX K H1 y (.type "int") := hy1.ty
        refine ⟨y, tp, _, _, [.type "list", .type "tuple"], false, rfl, hT, .cons (.ty _) (.cons (.ty _) .nil), ty, kF (by decide +kernel) (by decide +kernel), false, rfl, iteF ?_⟩
        have ey := hy1.intI
        subst ey
        refine ⟨_, rfl, rfl, _, rfl, iteN (decide_eq_false (fun h => nomatch h)) ?_⟩
        refine ⟨_, rfl, _, _, _, _, false, rfl, .ty _, ty, kit_ty (by decide +kernel), _, rfl, iteF ?_⟩
        refine ⟨_, rfl, _, _, _, _, false, rfl, .ty _, ty, kit_ty (by decide +kernel), _, rfl, iteF ?_⟩
        refine ⟨_, rfl, _, _, _, _, true, rfl, .ty _, tx, kit_ty (by decide +kernel), _, rfl, iteT ?_⟩
        refine ⟨_, rfl, _, _, _, _, false, rfl, .ty _, tx, kit_ty (by decide +kernel), _, rfl, _, rfl, iteT ?_⟩
        refine ⟨_, rfl, _, rfl, _, _, hx1.dP, hy1.dP, hd.sh (by omega), hd.sh (by omega), ?_⟩
        rw [eqv_sh hd]
        exact q _ s1
      | str z =>
        have tx : TyX K H1 x (.type "str") := hx1.ty
        have ty : TyX K H1 y (.type "str") := hy1.ty
        refine ⟨y, tp, _, _, [.type "list", .type "tuple"], false, rfl, hT, .cons (.ty _) (.cons (.ty _) .nil), ty, kF (by decide +kernel) (by decide +kernel), false, rfl, iteF ?_⟩
        have ey : y = .str z := by cases hy1; rfl
        subst ey
        refine ⟨_, rfl, rfl, _, rfl, iteN (decide_eq_false (fun h => nomatch h)) ?_⟩
        refine ⟨_, rfl, _, _, _, _, true, rfl, .ty _, ty, kit_ty (by decide +kernel), _, rfl, iteT ?_⟩
        refine ⟨_, rfl, _, rfl, _, _, hx1.dP, hy1.dP, hd.sh (by omega), hd.sh (by omega), _, rfl, iteE (eqv_sh hd) ?_⟩
        refine ⟨_, rfl, _, _, _, _, true, rfl, .ty _, tx, kit_ty (by decide +kernel), _, rfl, _, _, _, _, true, rfl, .ty _, ty, kit_ty (by decide +kernel), rfl, ?_⟩
        exact q _ s1
      | dict kvs => cases hx
theorem ok_l_same (T : Tx K mg) {k : Nat} : FnOk P w K mg base CX0 (k + 1) T.f_l_same T.d_l_same ["_law_found", "_law_due"] (spSame (k + 1)) := same_all T (k + 1)
/-! ### palette -/
def cOk (wd : Int) (c : List Int) : Prop := (c.length : Int) = wd ∧ cIn 0 999 c
def spPalette : Sp := fun vs H Q _ => ∃ (L : Addr) (n : Nat) (kv : V) (wd sp : Int), vs = [.ref L, kv] ∧ Lf L H n ∧ n < 10000000 ∧ Dt [L] H kv (eC [wd, sp]) ∧ 0 ≤ wd ∧ wd ≤ 5 ∧ 1 ≤ sp ∧ sp ≤ 1000 ∧
  ∀ (v : V) (H' : Hp) (cs : List (List Int)), Go [L] H H' → Lf L H' (n + 1000) → Dt [L] H' v (eP cs) → 0 < cs.length → cs.length ≤ 40 → (∀ c ∈ cs, cOk wd c) → Q v H'
theorem ok_l_palette (T : Tx K mg) {k : Nat} : FnOk P w K mg base CX0 (k + 4) T.f_l_palette T.d_l_palette ["_law_left_here", "_law_kind_here"] spPalette := by
  refine T.F_l_palette.ok sc_l_palette (fun vs H Q E h => ?_) (fun cdv A outer s H vs Q E hr h => ?_)
  · obtain ⟨L, n, kv, wd, sp, rfl, _⟩ := h
    rfl
  · obtain ⟨L, n, kv, wd, sp, rfl, hL, hn, hk, w0, w1, s0, s1, q⟩ := h
    refine ⟨_, (pss_cons (ps_set (i := 2) sc_l_palette.nd rfl (.inl rfl) (pe_ix (ix_listK K) (pe_lst (pa_cons pe_int (pa_cons pe_int (pa_cons pe_int (pa_cons pe_int (pa_cons pe_int (pa_cons pe_int (pa_cons pe_int (pa_cons (pe_op op_add pe_int (pe_call (ok_l_pick T (k := k + 1)) hr (by rfl) T.g_l_pick T.F_l_pick.kp T.b_l_pick .nil pass0 (pa_cons (pv 0) (pa_cons pe_int pa_nil)))) pa_nil))))))))) (pe_call (ok_l_pick T (k := k + 1)) hr (by rfl) T.g_l_pick T.F_l_pick.kp T.b_l_pick .nil pass0 (pa_cons (pv 0) (pa_cons pe_int pa_nil))) (fun _ _ => rfl)))
      (pss_cons (ps_set (i := 3) sc_l_palette.nd rfl (.inl rfl) (pe_lst pa_nil))
      (pss_cons (ps_for PassesOwn.never rfl (pi_range1 (by rfl) T.z_range (pa_cons (pv 2) pa_nil)) (pg_name (i := 4) sc_l_palette.nd rfl (.inl rfl)) (pss_cons (ps_set (i := 5) sc_l_palette.nd rfl (.inl rfl) (pe_call (ok_l_colour T (k := k)) hr (by rfl) T.g_l_colour T.F_l_colour.kp T.b_l_colour .nil pass0 (pa_cons (pv 0) (pa_cons (pv 1) pa_nil))))
      (Evl.pss_cut (ps_if (PW.pt (pw_and (pt_cmpR (op_neDK K hr.units) (pv 3) (pe_lst pa_nil) (nomark _)) (pw_and1 (pt_cmpR op_eq (pe_call (ok_l_pick T (k := k + 1)) hr (by rfl) T.g_l_pick T.F_l_pick.kp T.b_l_pick .nil pass0 (pa_cons (pv 0) (pa_cons pe_int pa_nil))) pe_int (nomark _))))) (pss_one (ps_set (i := 5) sc_l_palette.nd rfl (.inl rfl) (pe_ix (ix_listK K) (pv 3) (pe_call (ok_l_pick T (k := k + 1)) hr (by rfl) T.g_l_pick T.F_l_pick.kp T.b_l_pick .nil pass0 (pa_cons (pv 0) (pa_cons (pe_callB (len_K K) (by rfl) T.z_len PySem.boot_len (pa_cons (pv 3) pa_nil)) pa_nil))) (fun _ _ => rfl)))) pss_nil)
      (pss_one (ps_expr (pe_bm PySem.F.plainAttrs_list PySem.F.slot_list_append PySem.F.type_list_append mt_append (pv 3) (pa_cons (pv 5) pa_nil)))))))
      (pss_one (ps_ret (pv 3)))))), ?_⟩
    refine ⟨_, rfl, L, 31, n, rfl, hL, by omega, by decide, by decide, fun r1 H1 g1 l1 a1 b1 => ?_⟩
    refine ⟨_, _, rfl, rfl, (by show 8 ≤ sizeLine; decide), fun p hp => ?_⟩
    refine ⟨_, rfl, L, 8, n + 1, rfl, l1.new hp, by omega, by decide, by decide, fun r2 H2 g2 l2 a2 b2 => ?_⟩
    have e2 : H2 p = some (.lst ([1, 2, 3, 4, 5, 7, 9, 10 + r1].map V.int)) := g2.k p _ (l1.bk.ne hp) upd_same
    obtain ⟨m, mm, em⟩ := at_int (ns := [1, 2, 3, 4, 5, 7, 9, 10 + r1]) a2 b2
    refine ⟨p, _, r2, .int m, rfl, rfl, SqL.of e2, em, ?_⟩
    have hm : 1 ≤ m ∧ m ≤ 40 := by
      simp at mm
      omega
    have gH : Go [L] H H2 := (g1.trans (Go.new hp)).trans g2
    refine ⟨Nat.zero_le _, fun D hD => ?_⟩
    have hD0 : H D = none := gH.free hD
    refine ⟨_, rfl, m, rfl, by omega, by omega, for_range (lo := 0) (n := m.toNat) (fun i σ H' => ∃ y4 y5 vs cs, σ = [some (.ref L), some kv, some (.int m), some (.ref D), y4, y5] ∧ Go [L] H H' ∧ Lf L H' (n + 2 + 12 * i) ∧ H' D = some (.lst vs) ∧ DtA [D, L] H' vs (cs.map eC) ∧ cs.length = i ∧ ∀ c ∈ cs, cOk wd c)
      ⟨none, none, [], [], rfl, gH.mut hD0, (l2.new hD).mono (by omega), upd_same, .nil, rfl, fun _ h => nomatch h⟩ (fun i σ H3 hi h3 => ?_) (fun σ H3 h3 => ?_)⟩
    · obtain ⟨y4, y5, vs, cs, rfl, g3, l3, eD, hA, hl, hc⟩ := h3
      have nD : D ∉ [L] := hL.bk.ne hD0
      have bk3 : Bk [D, L] H3 := l3.bk.cons eD
      refine ⟨_, rfl, _, rfl, L, [D, L], n + 2 + 12 * i, kv, wd, sp, rfl, l3, by simp, bk3, by omega, hk.g g3, w0, w1, s0, s1, fun v H4 ns g4 l4 d4 n4 c4 => ?_⟩
      have eD4 := g4.k D _ nD eD
      refine ⟨fun σ' H' => ∃ y4 v c, σ' = [some (.ref L), some kv, some (.int m), some (.ref D), y4, some v] ∧ Go [L] H3 H' ∧ Lf L H' (n + 2 + 12 * i + 12) ∧ Dt [D, L] H' v (eC c) ∧ cOk wd c, ?_, fun σ' H' hM => ?_⟩
      · refine ⟨_, rfl, Nat.zero_le _, fun z hz => ⟨eP cs, .list [], ?_, .lst (SqL.of upd_same) .nil, ?_, rfl, _, rfl, ite2 (fun e => ?_) (fun e => ?_)⟩⟩
        · exact Dt.dP (B := [L]) (.lst nD ((Go.new (B := [L]) hz).k D _ nD eD4) (((hA.g (g4.w1 (by simp))).un).g (Go.new hz)))
        · exact (sh_eP (by omega) fun c h => by have := (hc c h).1; omega).sh (by omega)
        · have hcs : cs ≠ [] := fun z => by
            subst z
            exact absurd e (by decide)
          have hlen : 0 < cs.length := List.length_pos_iff.mpr hcs
          refine ⟨_, rfl, L, 6, n + 2 + 12 * i + 10, rfl, l4.new hz, by omega, by decide, by decide, fun r5 H5 g5 l5 a5 b5 => ?_⟩
          have g45 : Go [L] H4 H5 := (Go.new hz).trans g5
          refine ⟨rfl, _, rfl, ite2 (fun e => ?_) (fun e => ?_)⟩
          · have eD5 := g45.k D _ nD eD4
            have hA5 := hA.g ((g4.trans g45).w1 (B := [D, L]) (by simp))
            have lv := hA5.len
            rw [List.length_map] at lv
            refine ⟨_, rfl, _, rfl, _, rfl, D, _, rfl, .inl (SqL.of eD5), L, _, n + 2 + 12 * i + 11, rfl, l5, by omega, by omega, by omega, fun r6 H6 g6 l6 a6 b6 => ?_⟩
            have eD6 := g6.k D _ nD eD5
            have hr6 : r6.toNat < cs.length := by omega
            obtain ⟨v6, f6, d6⟩ := (hA5.g (g6.w1 (B := [D, L]) (by simp))).get (i := r6.toNat) (d := eC cs[r6.toNat]) (by rw [List.getElem?_map, List.getElem?_eq_getElem hr6]; rfl)
            refine ⟨D, _, _, _, rfl, rfl, SqL.of eD6, at0 a6 f6, ?_⟩
            exact ⟨_, v6, _, rfl, (g4.trans g45).trans g6, l6.mono (by omega), d6, hc _ (List.getElem_mem hr6)⟩
          · exact ⟨_, v, ns, rfl, g4.trans g45, l5.mono (by omega), d4.g (g45.w1 (by simp)), n4, c4⟩
        · exact iteF ⟨_, v, ns, rfl, g4.trans (Go.new hz), (l4.new hz).mono (by omega), d4.g (Go.new hz), n4, c4⟩
      · obtain ⟨z4, v7, c7, rfl, g7, l7, d7, o7⟩ := hM
        have eD7 := g7.k D _ nD eD
        have hA7 := hA.g (g7.w1 (B := [D, L]) (by simp))
        have lv := hA7.len
        rw [List.length_map] at lv
        have gm : Go [D, L] H' (upd H' D (.lst (vs ++ [v7]))) := Go.refl.at (by simp)
        refine ⟨_, rfl, .inl ⟨rfl, _, SqL.of eD7⟩, _, rfl, D, _, _, rfl, rfl, eD7, sz (by omega), ?_⟩
        refine ⟨z4, some v7, vs ++ [v7], cs ++ [c7], rfl, (g3.trans g7).mut hD0, (l7.up (hL.ne hD0)).mono (by omega), upd_same, ?_, by simp; omega, fun c h => ?_⟩
        · rw [List.map_append]
          exact (hA7.g gm).app (.one (d7.g gm))
        · rcases List.mem_append.mp h with h | h
          · exact hc c h
          · rw [List.mem_singleton.mp h]
            exact o7
    · obtain ⟨y4, y5, vs, cs, rfl, g3, l3, eD, hA, hl, hc⟩ := h3
      exact ⟨_, rfl, q _ _ cs g3 (l3.mono (by omega)) (.lst (hL.bk.ne hD0) eD hA.un) (by omega) (by omega) hc⟩
/-! ### apart, both ways -/
def ap (a b : List Int) : Int := ((a.zip b).map fun p => (p.1 - p.2) ^ 2).sum
theorem ap_len (a b : List Int) : ((a.zip b).map fun p => (p.1 - p.2) ^ 2).length = min a.length b.length := by simp
theorem zat {a b : List Int} {i : Nat} {f : Int × Int → PyData} (h1 : i < a.length) (h2 : i < b.length) : ((a.zip b).map f)[i]? = some (f (a[i], b[i])) := by
  rw [List.getElem?_map, List.getElem?_eq_getElem (by simp; omega)]
  simp
def spApart : Sp := fun vs H Q _ => ∃ (B : List Addr) (x y : V) (a b : List Int), vs = [x, y] ∧ Dt B H x (eC a) ∧ Dt B H y (eC b) ∧ a.length = b.length ∧ b.length ≤ 100 ∧ wIn a ∧ wIn b ∧ ∀ H', Same H H' → Q (.int (ap a b)) H'
theorem ok_apart (T : Tx K mg) {k : Nat} : FnOk P w K mg base CX0 (k + 1) T.f_apart T.d_apart ["one", "other"] spApart := by
  refine T.F_apart.ok sc_apart (fun vs H Q E h => ?_) (fun cdv A outer s H vs Q E hr h => ?_)
  · obtain ⟨B, x, y, a, b, rfl, _⟩ := h
    rfl
  · obtain ⟨B, x, y, a, b, rfl, ha, hb, hl, hz, ca, cb, q⟩ := h
    obtain ⟨pa, rfl, na, ta⟩ := ha.col
    obtain ⟨pb, rfl, nb, tb⟩ := hb.col
    refine ⟨_, (pss_one (ps_ret (pe_callB (cr_sumK K rfl) (by rfl) T.z_sum (by decide +kernel) (pa_cons (pe_lc (own := [("a", 2), ("b", 3)]) (by rfl) sc_apart.nd (RZ.pi_zipA (by rfl) T.z_zip (pa_cons (pv 0) (pa_cons (pv 1) pa_nil))) (blkOk_by (own := [("a", 2), ("b", 3)]) (N := N_apart) (sc := defScope s_apart) (by decide +kernel)) (fun _ _ _ _ _ => (pg_tupK K (n := 2) rfl (pgs_cons (pg_name (i := 2) sc_apart.nd rfl (.inl rfl)) (pgs_cons (pg_name (i := 3) sc_apart.nd rfl (.inl rfl)) pgs_nil)))) (fun _ _ _ _ _ => pts_nil) (fun _ _ _ _ _ => (pe_op op_powW (pe_op op_sub (pv 2) (pv 3)) pe_int))) pa_nil)))), ?_⟩
    refine ⟨_, rfl, _, rfl, pa, pb, _, _, rfl, .inr ⟨SqT.of ta, SqT.of tb, fun D hD => ?_⟩⟩
    refine lc_pure (B := []) (walk_zipT (n := a.length) (xs := a.map V.int) (ys := b.map V.int) (by simp; omega)) hD (fun _ h => nomatch h) (fun H' s' => ⟨SqT.of (s' _ _ ta), SqT.of (s' _ _ tb)⟩) (by omega)
      (fun i => ((a.zip b).map fun p => PyData.int ((p.1 - p.2) ^ 2))[i]?) (fun i x H' H'' Ny Nn hi s1 bk y ky kn => ?_) (fun H' ws s1 eD hA => ?_)
    · obtain ⟨t, x, y, rfl, ht, rfl, e1, e2⟩ := y
      have i2 : i < b.length := by omega
      have x1 := mat hi e1
      have x2 := mat i2 e2
      have c1 := ca _ (List.getElem_mem hi)
      have c2 := cb _ (List.getElem_mem i2)
      refine ⟨t, [x, y], rfl, SqT.of upd_same, rfl, x, _, rfl, y, _, rfl, rfl, rfl, lc_yes ?_⟩
      refine ⟨_, rfl, _, rfl, _, _, x1, x2, _, _, rfl, rfl, powW c1 c2, ?_⟩
      exact ky _ _ _ (zat hi i2) (sm_new ht) (.int _)
    · rw [fm_all (by simp; omega)] at hA
      have hA2 : DtA (D :: []) H' ws (((a.zip b).map fun p => (p.1 - p.2) ^ 2).map PyData.int) := by rw [List.map_map]; exact hA
      refine ⟨D, _, rfl, SqL.of (by rw [eD, hA2.intsV]), ?_⟩
      exact q _ s1
/-! ### the law's own apart -/
theorem ok_l_apart (T : Tx K mg) {k : Nat} : FnOk P w K mg base CX0 (k + 1) T.f_l_apart T.d_l_apart ["_law_one", "_law_other"] spApart := by
  refine T.F_l_apart.ok sc_l_apart (fun vs H Q E h => ?_) (fun cdv A outer s H vs Q E hr h => ?_)
  · obtain ⟨B, x, y, a, b, rfl, _⟩ := h
    rfl
  · obtain ⟨B, x, y, a, b, rfl, ha, hb, hl, hz, ca, cb, q⟩ := h
    obtain ⟨pa, rfl, na, ta⟩ := ha.col
    obtain ⟨pb, rfl, nb, tb⟩ := hb.col
    refine ⟨_, (pss_one (ps_ret (pe_callB (cr_sumK K rfl) (by rfl) T.z_sum (by decide +kernel) (pa_cons (pe_lc (own := [("_law_a", 2), ("_law_b", 3)]) (by rfl) sc_l_apart.nd (RZ.pi_zipA (by rfl) T.z_zip (pa_cons (pv 0) (pa_cons (pv 1) pa_nil))) (blkOk_by (own := [("_law_a", 2), ("_law_b", 3)]) (N := N_l_apart) (sc := defScope s_l_apart) (by decide +kernel)) (fun _ _ _ _ _ => (pg_tupK K (n := 2) rfl (pgs_cons (pg_name (i := 2) sc_l_apart.nd rfl (.inl rfl)) (pgs_cons (pg_name (i := 3) sc_l_apart.nd rfl (.inl rfl)) pgs_nil)))) (fun _ _ _ _ _ => pts_nil) (fun _ _ _ _ _ => (pe_op op_mulW (pe_op op_sub (pv 2) (pv 3)) (pe_op op_sub (pv 2) (pv 3))))) pa_nil)))), ?_⟩
    refine ⟨_, rfl, _, rfl, pa, pb, _, _, rfl, .inr ⟨SqT.of ta, SqT.of tb, fun D hD => ?_⟩⟩
    refine lc_pure (B := []) (walk_zipT (n := a.length) (xs := a.map V.int) (ys := b.map V.int) (by simp; omega)) hD (fun _ h => nomatch h) (fun H' s' => ⟨SqT.of (s' _ _ ta), SqT.of (s' _ _ tb)⟩) (by omega)
      (fun i => ((a.zip b).map fun p => PyData.int ((p.1 - p.2) ^ 2))[i]?) (fun i x H' H'' Ny Nn hi s1 bk y ky kn => ?_) (fun H' ws s1 eD hA => ?_)
    · obtain ⟨t, x, y, rfl, ht, rfl, e1, e2⟩ := y
      have i2 : i < b.length := by omega
      have x1 := mat hi e1
      have x2 := mat i2 e2
      have c1 := ca _ (List.getElem_mem hi)
      have c2 := cb _ (List.getElem_mem i2)
      refine ⟨t, [x, y], rfl, SqT.of upd_same, rfl, x, _, rfl, y, _, rfl, rfl, rfl, lc_yes ?_⟩
      refine ⟨_, rfl, _, rfl, _, _, x1, x2, _, rfl, _, rfl, _, _, x1, x2, _, _, rfl, rfl, mulW c1 c2, ?_⟩
      exact ky _ _ _ (zat hi i2) (sm_new ht) (by rw [Int.pow_succ, Int.pow_succ, Int.pow_zero, Int.one_mul]; exact .int _)
    · rw [fm_all (by simp; omega)] at hA
      have hA2 : DtA (D :: []) H' ws (((a.zip b).map fun p => (p.1 - p.2) ^ 2).map PyData.int) := by rw [List.map_map]; exact hA
      refine ⟨D, _, rfl, SqL.of (by rw [eD, hA2.intsV]), ?_⟩
      exact q _ s1
/-! ### the nearest -/
def near (cs : List (List Int)) (c : List Int) (i : Nat) : Prop := ∃ h : i < cs.length, ∀ (j : Nat) (hj : j < cs.length), ap cs[i] c < ap cs[j] c ∨ (ap cs[i] c = ap cs[j] c ∧ i ≤ j)
theorem near_one {cs : List (List Int)} {c : List Int} {i j : Nat} (h1 : near cs c i) (h2 : near cs c j) : i = j := by
  obtain ⟨a, f⟩ := h1
  obtain ⟨b, g⟩ := h2
  have x := f j b
  have y := g i a
  omega
def pOk (cs : List (List Int)) (c : List Int) : Prop := cs.length ≤ 1000 ∧ c.length ≤ 100 ∧ wIn c ∧ ∀ x ∈ cs, x.length = c.length ∧ wIn x
def spNear : Sp := fun vs H Q _ => ∃ (B : List Addr) (pl cv : V) (cs : List (List Int)) (c : List Int), vs = [pl, cv] ∧ Dt B H pl (eP cs) ∧ Dt B H cv (eC c) ∧ pOk cs c ∧ 0 < cs.length ∧
  ∀ H' (i : Nat), Same H H' → near cs c i → Q (.int i) H'
theorem first_at {ns : List Int} {m : Int} (h : m ∈ ns) : ∃ j : Nat, ns[j]? = some m ∧ ∀ i x, i < j → ns[i]? = some x → x ≠ m := by
  induction ns with
  | nil => cases h
  | cons n ns ih =>
    by_cases e : n = m
    · exact ⟨0, by rw [e]; rfl, fun i x hi => by omega⟩
    · have hm : m ∈ ns := by
        rcases List.mem_cons.mp h with z | z
        · exact absurd z.symm e
        · exact z
      obtain ⟨j, h1, h2⟩ := ih hm
      refine ⟨j + 1, h1, fun i x hi hx => ?_⟩
      cases i with
      | zero =>
        have : n = x := Option.some.inj hx
        rw [← this]; exact e
      | succ i => exact h2 i x (by omega) hx
theorem near_of {cs : List (List Int)} {c : List Int} {j : Nat} {m : Int} (hle : ∀ y ∈ cs.map (fun x => ap x c), m ≤ y) (h1 : (cs.map fun x => ap x c)[j]? = some m) (h2 : ∀ i x, i < j → (cs.map fun x => ap x c)[i]? = some x → x ≠ m) : near cs c j := by
  have hj : j < cs.length := by
    have := (List.getElem?_eq_some_iff.mp h1).1
    rwa [List.length_map] at this
  rw [List.getElem?_map, List.getElem?_eq_getElem hj] at h1
  have e : ap cs[j] c = m := Option.some.inj h1
  refine ⟨hj, fun i hi => ?_⟩
  have l := hle (ap cs[i] c) (List.mem_map.mpr ⟨_, List.getElem_mem hi, rfl⟩)
  by_cases hij : i < j
  · have := h2 i (ap cs[i] c) hij (by rw [List.getElem?_map, List.getElem?_eq_getElem hi]; rfl)
    omega
  · omega
theorem flat_ints (ns : List Int) : (ns.map V.int).all flatV = true := by
  induction ns with
  | nil => rfl
  | cons n ns ih => rw [List.map_cons, List.all_cons, ih]; rfl
theorem ok_nearest (T : Tx K mg) {k : Nat} : FnOk P w K mg base CX0 (k + 2) T.f_nearest T.d_nearest ["palette", "colour"] spNear := by
  refine T.F_nearest.ok sc_nearest (fun vs H Q E h => ?_) (fun cdv A outer s H vs Q E hr h => ?_)
  · obtain ⟨B, pl, cv, cs, c, rfl, _⟩ := h
    rfl
  · obtain ⟨B, pl, cv, cs, c, rfl, hp, hc, ⟨o1, o2, o3, o4⟩, c0, q⟩ := h
    obtain ⟨pa, vs, rfl, np, ep, hA⟩ := hp.pal
    have lv := hA.len
    rw [List.length_map] at lv
    refine ⟨_, (pss_cons (ps_setLc (i := 2) (own := [("one", 3)]) (by rfl) sc_nearest.nd rfl rfl (sw_true rfl rfl rfl (by decide +kernel)) (pi_listK K (pv 0)) (blkOk_by (own := [("one", 3)]) (N := N_nearest) (sc := defScope s_nearest) (by decide +kernel)) (fun _ _ _ _ _ => (pg_name (i := 3) sc_nearest.nd rfl (.inl rfl))) (fun _ _ _ _ _ => pts_nil) (fun _ _ _ _ _ => (pe_call (ok_apart T (k := k)) hr (by rfl) T.g_apart T.F_apart.kp T.b_apart .nil pass0 (pa_cons (pv 3) (pa_cons (pv 1) pa_nil)))))
      (pss_one (ps_ret (pe_bm PySem.F.plainAttrs_list PySem.F.slot_list_index PySem.F.type_list_index (mt_indexK K) (pv 2) (pa_cons (pe_callB (cr_minK K rfl) (by rfl) T.z_min (by decide +kernel) (pa_cons (pv 2) pa_nil)) pa_nil))))), ?_⟩
    refine ⟨_, rfl, pa, rfl, ⟨_, SqL.of ep⟩, fun D hD => ?_⟩
    refine lc_pure (B := []) (walk_list (xs := vs)) hD (fun _ h => nomatch h) (fun H' s' => SqL.of (s' _ _ ep)) (by omega)
      (fun i => (cs.map fun x => PyData.int (ap x c))[i]?) (fun i x H' H'' Ny Nn hi t1 bk y ky kn => ?_) (fun H8 ws s8 eS hW => ?_)
    · obtain ⟨rfl, y⟩ := y
      obtain ⟨d1, f1, h1⟩ := hA.getV y
      have hi2 : i < cs.length := by omega
      rw [List.getElem?_map, List.getElem?_eq_getElem hi2] at f1
      have ed : d1 = eC cs[i] := (Option.some.inj f1).symm
      subst ed
      have oc := o4 _ (List.getElem_mem hi2)
      refine ⟨rfl, lc_yes ⟨_, rfl, _, rfl, B, x, cv, cs[i], c, rfl, h1.s t1, hc.s t1, oc.1, o2, oc.2, o3, fun H3 s3 => ?_⟩⟩
      exact ky _ _ _ (by rw [List.getElem?_map, List.getElem?_eq_getElem hi2]; rfl) s3 (.int _)
    · rw [fm_all (by simp; omega)] at hW
      have hW2 : DtA [D] H8 ws ((cs.map fun x => ap x c).map PyData.int) := by rw [List.map_map]; exact hW
      have ews := hW2.intsV
      subst ews
      refine ⟨_, rfl, .inl ⟨rfl, _, SqL.of eS⟩, _, rfl, D, _, rfl, SqL.of eS, (by rw [List.length_map]; omega), fun m hm hle => ?_⟩
      obtain ⟨j, h1, h2⟩ := first_at hm
      refine ⟨D, _, _, j, .int m, rfl, rfl, SqL.of eS, rfl, flat_ints _, (by rw [List.getElem?_map, h1]; rfl), (by unfold eqV; simp), fun i z hi hz => ?_, ?_⟩
      · rw [List.getElem?_map] at hz
        cases hx : (cs.map fun x => ap x c)[i]? with
        | none => rw [hx] at hz; cases hz
        | some x =>
          rw [hx] at hz
          have ez : V.int x = z := Option.some.inj hz
          rw [← ez]
          have := h2 i x hi hx
          unfold eqV
          simp [this]
      · exact q _ j s8 (near_of hle h1 h2)
/-! ### the law's own nearest -/
def prF (cs : List (List Int)) (c : List Int) (i : Nat) : Option (Int × Int) := (cs[i]?).map fun x => (ap x c, (i : Int))
def prs (cs : List (List Int)) (c : List Int) : List (Int × Int) := (List.range cs.length).filterMap (prF cs c)
theorem prs_map (cs : List (List Int)) (c : List Int) : (List.range cs.length).filterMap (fun i => (prF cs c i).map enc) = (prs cs c).map enc := by
  unfold prs
  rw [List.map_filterMap]
theorem prs_at (cs : List (List Int)) (c : List Int) : prs cs c = cs.zipIdx.map fun x => (ap x.1 c, (x.2 : Int)) := by
  have e : prF cs c = fun i => (cs.zipIdx.map fun x => (ap x.1 c, (x.2 : Int)))[i]? := by
    funext i
    unfold prF
    rw [List.getElem?_map, List.getElem?_zipIdx]
    cases cs[i]? <;> simp
  unfold prs
  rw [e, fm_all (by simp)]
theorem near_min {cs : List (List Int)} {c : List Int} {p : Int × Int} {ps : List (Int × Int)} {i : Nat} (e : prs cs c = p :: ps) (h : (p :: ps)[i]? = some (minP p ps)) : near cs c i ∧ (minP p ps).2 = i := by
  have le := minP_le p ps
  rw [← e, prs_at] at le h
  have hi : i < cs.length := by
    have := (List.getElem?_eq_some_iff.mp h).1
    simpa using this
  rw [List.getElem?_map, List.getElem?_zipIdx, List.getElem?_eq_getElem hi] at h
  have em : (ap cs[i] c, (i : Int)) = minP p ps := by
    have := Option.some.inj h
    simpa using this
  rw [← em] at le
  refine ⟨⟨hi, fun j hj => ?_⟩, by rw [← em]⟩
  have := SrtO.lexB_no.mp (le (ap cs[j] c, (j : Int)) (List.mem_map.mpr ⟨(cs[j], j), by
    rw [List.mem_iff_getElem?]
    exact ⟨j, by rw [List.getElem?_zipIdx, List.getElem?_eq_getElem hj]; simp⟩, rfl⟩))
  simp only at this
  omega
theorem ok_l_nearest (T : Tx K mg) {k : Nat} : FnOk P w K mg base CX0 (k + 2) T.f_l_nearest T.d_l_nearest ["_law_palette_here", "_law_colour_here"] spNear := by
  refine T.F_l_nearest.ok sc_l_nearest (fun vs H Q E h => ?_) (fun cdv A outer s H vs Q E hr h => ?_)
  · obtain ⟨B, pl, cv, cs, c, rfl, _⟩ := h
    rfl
  · obtain ⟨B, pl, cv, cs, c, rfl, hp, hc, ⟨o1, o2, o3, o4⟩, c0, q⟩ := h
    obtain ⟨pa, vs, rfl, np, ep, hA⟩ := hp.pal
    have lv := hA.len
    rw [List.length_map] at lv
    refine ⟨_, (pss_one (ps_ret (pe_ix (ix_tupK K) (pe_callB (cr_minP K rfl hr.units) (by rfl) T.z_min (by decide +kernel) (pa_cons (pe_lc (own := [("_law_k", 2), ("_law_one", 3)]) (by rfl) sc_l_nearest.nd (pi_enum (by rfl) T.z_enumerate (pa_cons (pv 0) pa_nil)) (blkOk_by (own := [("_law_k", 2), ("_law_one", 3)]) (N := N_l_nearest) (sc := defScope s_l_nearest) (by decide +kernel)) (fun _ _ _ _ _ => (pg_tupK K (n := 2) rfl (pgs_cons (pg_name (i := 2) sc_l_nearest.nd rfl (.inl rfl)) (pgs_cons (pg_name (i := 3) sc_l_nearest.nd rfl (.inl rfl)) pgs_nil)))) (fun _ _ _ _ _ => pts_nil) (fun _ _ _ _ _ => (pe_tup (pa_cons (pe_call (ok_l_apart T (k := k)) hr (by rfl) T.g_l_apart T.F_l_apart.kp T.b_l_apart .nil pass0 (pa_cons (pv 3) (pa_cons (pv 1) pa_nil))) (pa_cons (pv 2) pa_nil))))) pa_nil)) pe_int (fun _ _ => rfl)))), ?_⟩
    refine ⟨_, rfl, pa, _, rfl, SqL.of ep, fun D hD => ?_⟩
    refine lc_pure (B := []) (walk_enum (xs := vs)) hD (fun _ h => nomatch h) (fun H' s' => SqL.of (s' _ _ ep)) (by omega)
      (fun i => (prF cs c i).map enc) (fun i x H' H'' Ny Nn hi s1 bk y ky kn => ?_) (fun H1 ws s1 eD hW => ?_)
    · obtain ⟨t, x, y, rfl, ht, rfl, e1, e2⟩ := y
      obtain ⟨d1, f1, g1⟩ := hA.getV e2
      have hi2 : i < cs.length := by omega
      rw [List.getElem?_map, List.getElem?_eq_getElem hi2] at f1
      have ed : d1 = eC cs[i] := (Option.some.inj f1).symm
      subst ed
      have ex : V.int i = x := Option.some.inj e1
      subst ex
      have oc := o4 _ (List.getElem_mem hi2)
      refine ⟨t, _, rfl, SqT.of upd_same, rfl, _, _, rfl, y, _, rfl, rfl, rfl, lc_yes ?_⟩
      refine ⟨_, rfl, _, rfl, B, y, cv, cs[i], c, rfl, (g1.s s1).s (sm_new ht), (hc.s s1).s (sm_new ht), oc.1, o2, oc.2, o3, fun H3 s3 => ?_⟩
      refine ⟨_, rfl, (by show 2 ≤ sizeLine; decide), fun t2 ht2 => ?_⟩
      have s4 := (sm_new ht).trans s3
      refine ky _ _ (enc (ap cs[i] c, (i : Int))) ?_ (s4.trans (sm_new ht2)) (Dt.ofCol ((bk.go (Go.of (B := []) s4)).ne ht2) upd_same)
      unfold prF
      rw [List.getElem?_eq_getElem hi2]
      rfl
    · rw [lv, prs_map] at hW
      have hl : (prs cs c).length = cs.length := by rw [prs_at]; simp
      obtain ⟨p, ps, e⟩ : ∃ p ps, prs cs c = p :: ps := by
        cases h : prs cs c with
        | nil => rw [h] at hl; simp at hl; omega
        | cons p ps => exact ⟨p, ps, rfl⟩
      rw [e] at hW
      refine ⟨D, ws, p, ps, rfl, SqL.of eD, hW.dP, fun i x hx hm => ?_⟩
      obtain ⟨hn, h2⟩ := near_min e hm
      obtain ⟨d, fd', gd⟩ := hW.getV hx
      rw [List.getElem?_map, hm] at fd'
      have ed : d = enc (minP p ps) := (Option.some.inj fd').symm
      subst ed
      obtain ⟨t, rfl, _, et⟩ := gd.col
      refine ⟨t, _, 1, .int (minP p ps).2, rfl, rfl, SqT.of et, rfl, ?_⟩
      rw [h2]
      exact q _ i s1 hn
/-! ### pictures that are drawn -/
def picOk (wd : Int) (ps : List (List (List Int))) : Prop := 0 < ps.length ∧ ps.length ≤ 16 ∧ ∃ wz : Nat, 1 ≤ wz ∧ wz ≤ 16 ∧ ∀ p ∈ ps, p.length = wz ∧ ∀ c ∈ p, cOk wd c
def spPicture : Sp := fun vs H Q _ => ∃ (L : Addr) (n : Nat) (kv : V) (wd sp : Int), vs = [.ref L, kv] ∧ Lf L H n ∧ n < 1000000 ∧ Dt [L] H kv (eC [wd, sp]) ∧ 0 ≤ wd ∧ wd ≤ 5 ∧ 1 ≤ sp ∧ sp ≤ 1000 ∧
  ∀ (a : Addr) (vs : List V) (H' : Hp) (ps : List (List (List Int))), Go [L] H H' → Lf L H' (n + 4000) → H a = none → H' a = some (.lst vs) → DtA [a, L] H' vs (ps.map eP) → picOk wd ps → Q (.ref a) H'
set_option maxHeartbeats 1000000 in
theorem ok_l_picture (T : Tx K mg) {k : Nat} : FnOk P w K mg base CX0 (k + 4) T.f_l_picture T.d_l_picture ["_law_left_here", "_law_kind_here"] spPicture := by
  refine T.F_l_picture.ok sc_l_picture (fun vs H Q E h => ?_) (fun cdv A outer s H vs Q E hr h => ?_)
  · obtain ⟨L, n, kv, wd, sp, rfl, _⟩ := h
    rfl
  · obtain ⟨L, n, kv, wd, sp, rfl, hL, hn, hk, w0, w1, s0, s1, q⟩ := h
    refine ⟨_, (pss_cons (ps_asg (pe_lc (own := [("_law_side", 10)]) (by rfl) sc_l_picture.nd (pi_range1 (by rfl) T.z_range (pa_cons pe_int pa_nil)) (blkOk_by (own := [("_law_side", 10)]) (N := N_l_picture) (sc := defScope s_l_picture) (by decide +kernel)) (fun _ _ _ _ _ => (pg_name (i := 10) sc_l_picture.nd rfl (.inl rfl))) (fun _ _ _ _ _ => pts_nil) (fun _ _ _ _ _ => (pe_ix (ix_listK K) (pe_lst (pa_cons (pe_op op_add pe_int (pe_call (ok_l_pick T (k := k + 1)) hr (by rfl) T.g_l_pick T.F_l_pick.kp T.b_l_pick .nil pass0 (pa_cons (pv 0) (pa_cons pe_int pa_nil)))) (pa_cons (pe_op op_add pe_int (pe_call (ok_l_pick T (k := k + 1)) hr (by rfl) T.g_l_pick T.F_l_pick.kp T.b_l_pick .nil pass0 (pa_cons (pv 0) (pa_cons pe_int pa_nil)))) pa_nil))) (pe_callTy call_int1 (by rfl) T.z_int (by decide +kernel) (pa_cons (pe_cmpR op_eq (pe_call (ok_l_pick T (k := k + 1)) hr (by rfl) T.g_l_pick T.F_l_pick.kp T.b_l_pick .nil pass0 (pa_cons (pv 0) (pa_cons pe_int pa_nil))) pe_int (nomark _)) pa_nil)) (fun _ _ => rfl)))) (pg_lstK K (n := 2) rfl (pgs_cons (pg_name (i := 2) sc_l_picture.nd rfl (.inl rfl)) (pgs_cons (pg_name (i := 3) sc_l_picture.nd rfl (.inl rfl)) pgs_nil))))
      (pss_cons (ps_setLc (i := 4) (own := [("_law_k", 11)]) (by rfl) sc_l_picture.nd rfl rfl (sw_true rfl rfl rfl (by decide +kernel)) (pi_range1 (by rfl) T.z_range (pa_cons (pe_op op_add pe_int (pe_call (ok_l_pick T (k := k + 1)) hr (by rfl) T.g_l_pick T.F_l_pick.kp T.b_l_pick .nil pass0 (pa_cons (pv 0) (pa_cons pe_int pa_nil)))) pa_nil)) (blkOk_by (own := [("_law_k", 11)]) (N := N_l_picture) (sc := defScope s_l_picture) (by decide +kernel)) (fun _ _ _ _ _ => (pg_name (i := 11) sc_l_picture.nd rfl (.inl rfl))) (fun _ _ _ _ _ => pts_nil) (fun _ _ _ _ _ => (pe_call (ok_l_colour T (k := k)) hr (by rfl) T.g_l_colour T.F_l_colour.kp T.b_l_colour .nil pass0 (pa_cons (pv 0) (pa_cons (pv 1) pa_nil)))))
      (pss_cons (ps_set (i := 5) sc_l_picture.nd rfl (.inl rfl) (pe_lst pa_nil))
      (pss_cons (ps_for PassesOwn.never rfl (pi_range1 (by rfl) T.z_range (pa_cons (pv 2) pa_nil)) (pg_name (i := 6) sc_l_picture.nd rfl (.inl rfl)) (pss_cons (ps_set (i := 7) sc_l_picture.nd rfl (.inl rfl) (pe_lst pa_nil))
      (pss_cons (ps_for PassesOwn.never rfl (pi_range1 (by rfl) T.z_range (pa_cons (pv 3) pa_nil)) (pg_name (i := 8) sc_l_picture.nd rfl (.inl rfl)) (pss_cons (ps_set (i := 9) sc_l_picture.nd rfl (.inl rfl) (pe_ix (ix_listK K) (pv 4) (pe_call (ok_l_pick T (k := k + 1)) hr (by rfl) T.g_l_pick T.F_l_pick.kp T.b_l_pick .nil pass0 (pa_cons (pv 0) (pa_cons (pe_callB (len_K K) (by rfl) T.z_len PySem.boot_len (pa_cons (pv 4) pa_nil)) pa_nil))) (fun _ _ => rfl)))
      (Evl.pss_cut (ps_if (pt_cmpR op_eq (pe_call (ok_l_pick T (k := k + 1)) hr (by rfl) T.g_l_pick T.F_l_pick.kp T.b_l_pick .nil pass0 (pa_cons (pv 0) (pa_cons pe_int pa_nil))) pe_int (nomark _)) (pss_one (ps_set (i := 9) sc_l_picture.nd rfl (.inl rfl) (pe_call (ok_l_colour T (k := k)) hr (by rfl) T.g_l_colour T.F_l_colour.kp T.b_l_colour .nil pass0 (pa_cons (pv 0) (pa_cons (pv 1) pa_nil))))) pss_nil)
      (pss_one (ps_expr (pe_bm PySem.F.plainAttrs_list PySem.F.slot_list_append PySem.F.type_list_append mt_append (pv 7) (pa_cons (pv 9) pa_nil)))))))
      (pss_one (ps_expr (pe_bm PySem.F.plainAttrs_list PySem.F.slot_list_append PySem.F.type_list_append mt_append (pv 5) (pa_cons (pv 7) pa_nil)))))))
      (pss_one (ps_ret (pv 5))))))), ?_⟩
    refine ⟨2, rfl, by decide, by decide, fun D hD => ?_⟩
    refine lc_ints (walk_range (lo := 0) (n := 2)) n 3 1 16 hD hL (fun _ _ => True.intro) (by omega) (fun i x H' H'' Ny Nn hi g' l' y ky => ?_) (fun H1 xs g1 l1 eD ln cn => ?_)
    · obtain ⟨rfl, rfl⟩ := y
      refine ⟨rfl, lc_yes ⟨_, rfl, L, 6, _, rfl, l', by omega, by decide, by decide, fun r1 H1 g1 l1 a1 b1 => ?_⟩⟩
      refine ⟨_, _, rfl, rfl, _, rfl, L, 16, _, rfl, l1, by omega, by decide, by decide, fun r2 H2 g2 l2 a2 b2 => ?_⟩
      refine ⟨_, _, rfl, rfl, (by show 2 ≤ sizeLine; decide), fun p hp => ?_⟩
      refine ⟨_, rfl, L, 8, _, rfl, l2.new hp, by omega, by decide, by decide, fun r3 H3 g3 l3 a3 b3 => ?_⟩
      have e3 : H3 p = some (.lst [.int (1 + r1), .int (1 + r2)]) := g3.k p _ (l2.bk.ne hp) upd_same
      obtain ⟨z3, f3, hz3⟩ := at2i (1 + r1) (1 + r2) (decide (V.int r3 = V.int 0))
      refine ⟨rfl, .inr ⟨_, rfl, p, _, _, _, rfl, rfl, SqL.of e3, f3, ?_⟩⟩
      exact ky z3 _ (((g1.trans g2).trans (Go.new hp)).trans g3) (l3.mono (by omega)) (by omega) (by omega)
    obtain ⟨hi, wz, rfl⟩ : ∃ hi wz, xs = [hi, wz] := by
      match xs, ln with
      | [a, b], _ => exact ⟨a, b, rfl⟩
    have chi := cn hi (by simp)
    have cwz := cn wz (by simp)
    refine ⟨D, [.int hi, .int wz], rfl, SqL.of eD, rfl, _, _, rfl, _, _, rfl, rfl, ?_⟩
    refine ⟨_, rfl, L, 8, _, rfl, l1, by omega, by decide, by decide, fun r2 H2 g2 l2 a2 b2 => ?_⟩
    have hk2 := hk.g (g1.trans g2)
    refine ⟨_, _, rfl, rfl, 1 + r2, rfl, by omega, by omega, fun D2 hD2 => ?_⟩
    refine lc_dtsB (walk_range (lo := 0) (n := (1 + r2).toNat)) (B := [L]) (n + 7) 10 (fun d => ∃ c, d = eC c ∧ cOk wd c) hD2 (l2.mono (by omega)) (by simp) l2.bk (fun _ _ => True.intro) (by omega) (fun j x H4 H5 Ny Nn hj g4 l4 bk4 y ky => ?_) (fun H4 ws ds g4 l4 eD4 hW hn4 hp4 => ?_)
    · obtain ⟨rfl, rfl⟩ := y
      refine ⟨rfl, lc_yes ⟨_, rfl, _, rfl, L, [D2, L], n + 7 + 10 * j, kv, wd, sp, rfl, l4, by simp, bk4, by omega, hk2.g g4, w0, w1, s0, s1, fun v H5 c g5 l5 d5 n5 c5 => ?_⟩⟩
      exact ky _ _ _ g5 l5 d5 ⟨c, rfl, n5, c5⟩
    obtain ⟨cs, rfl, hcs⟩ := colsOf hp4
    rw [List.length_map] at hn4
    have lw := hW.len
    rw [List.length_map] at lw
    have hk4 := hk2.g g4
    have gH4 := (g1.trans g2).trans g4
    have nD2 : D2 ∉ [L] := l2.bk.ne hD2
    have hW1 := hW.un
    refine ⟨Nat.zero_le _, fun F hF => ?_⟩
    have hFH : H F = none := gH4.free hF
    have nF : F ∉ [L] := l4.bk.ne hF
    have sF := sm_new (o := .lst []) hF
    have g5 := gH4.trans (Go.new (o := .lst []) hF)
    have l5 := l4.new (o := .lst []) hF
    have eF5 : (upd H4 F (.lst [])) F = some (.lst []) := upd_same
    have eD5 := sF _ _ eD4
    have hW5 := (hW1.fr hF).s sF
    have hk5 := (hk4.fr hF).s sF
    have nDF : D2 ∉ [F, L] := fun z => by
      rcases List.mem_cons.mp z with e | e
      · rw [← e, eD4] at hF
        cases hF
      · exact nD2 e
    generalize upd H4 F (.lst []) = H5 at *
    refine ⟨_, rfl, hi, rfl, by omega, by omega, for_range (lo := 0) (n := hi.toNat) (fun i σ H' => ∃ y6 y7 y8 y9 y10 y11 vs ps, σ = [some (.ref L), some kv, some (.int hi), some (.int wz), some (.ref D2), some (.ref F), y6, y7, y8, y9, y10, y11] ∧ Go [L] H H' ∧ Lf L H' (n + 100 + 200 * i) ∧ H' D2 = some (.lst ws) ∧ DtA [F, L] H' ws (cs.map eC) ∧ Dt [F, L] H' kv (eC [wd, sp]) ∧ H' F = some (.lst vs) ∧ DtA [F, L] H' vs (ps.map eP) ∧ ps.length = i ∧ ∀ p ∈ ps, p.length = wz.toNat ∧ ∀ c ∈ p, cOk wd c)
      ⟨_, _, _, _, _, _, [], [], rfl, g5, l5.mono (by omega), eD5, hW5, hk5, eF5, .nil, rfl, fun _ h => nomatch h⟩ (fun i σ H6 hi6 h6 => ?_) (fun σ H6 h6 => ?_)⟩
    · obtain ⟨y6, y7, y8, y9, y10, y11, vs, ps, rfl, g6, l6, eD6, hW6, hk6, eF6, hA6, lp6, hp6⟩ := h6
      have bk6 : Bk [F, L] H6 := l6.bk.cons eF6
      have lv6 := hA6.len
      rw [List.length_map] at lv6
      refine ⟨Nat.zero_le _, fun S hS => ?_⟩
      have hSH : H S = none := g6.free hS
      have nS : S ∉ [F, L] := bk6.ne hS
      have nSF : F ≠ S := fun z => nS (by rw [z]; exact List.mem_cons_self ..)
      have nSL : S ∉ [L] := fun z => nS (List.mem_cons_of_mem _ z)
      have nDS : D2 ∉ [S, F, L] := fun z => by
        rcases List.mem_cons.mp z with e | e
        · rw [← e, eD6] at hS
          cases hS
        · exact nDF e
      have s7 := sm_new (o := .lst []) hS
      have eS7 : (upd H6 S (.lst [])) S = some (.lst []) := upd_same
      have g7 := g6.trans (Go.of s7)
      have l7 := l6.same s7
      have eD7 := s7 _ _ eD6
      have hW7 := (hW6.fr hS).s s7
      have hk7 := (hk6.fr hS).s s7
      have eF7 := s7 _ _ eF6
      have hA7 := (hA6.fr hS).s s7
      generalize upd H6 S (.lst []) = H7 at *
      refine ⟨_, rfl, wz, rfl, by omega, by omega, for_range (lo := 0) (n := wz.toNat) (fun j σ H' => ∃ y6 y8 y9 y10 y11 us qs, σ = [some (.ref L), some kv, some (.int hi), some (.int wz), some (.ref D2), some (.ref F), y6, some (.ref S), y8, y9, y10, y11] ∧ Go [S, L] H7 H' ∧ Lf L H' (n + 100 + 200 * i + 12 * j) ∧ H' S = some (.lst us) ∧ DtA [S, F, L] H' us (qs.map eC) ∧ qs.length = j ∧ ∀ c ∈ qs, cOk wd c)
        ⟨_, _, _, _, _, [], [], rfl, Go.refl, l7.mono (by omega), eS7, .nil, rfl, fun _ h => nomatch h⟩ (fun j σ H8 hj h8 => ?_) (fun σ H8 h8 => ?_)⟩
      · obtain ⟨y6, y8, y9, y10, y11, us, qs, rfl, g8, l8, eS8, hU, lq, hq⟩ := h8
        have g8' : Go [S, F, L] H7 H8 := g8.w (by simp)
        have eD8 := g8'.k D2 _ nDS eD7
        have hW8 := hW7.g g8'
        have hk8 := hk7.g g8'
        have bk8 : Bk [S, F, L] H8 := ((bk6.go (Go.of (B := []) s7)).go g8).cons eS8
        have lu := hU.len
        rw [List.length_map] at lu
        refine ⟨_, rfl, _, rfl, _, rfl, D2, _, rfl, .inl (SqL.of eD8), L, _, _, rfl, l8, by omega, by omega, by omega, fun r9 H9 g9 l9 a9 b9 => ?_⟩
        have g9' : Go [S, F, L] H8 H9 := g9.w1 (by simp)
        have eD9 := g9'.k D2 _ nDS eD8
        have hr9 : r9.toNat < cs.length := by omega
        obtain ⟨v9, f9, d9⟩ := (hW8.g g9').get (i := r9.toNat) (d := eC cs[r9.toNat]) (by rw [List.getElem?_map, List.getElem?_eq_getElem hr9]; rfl)
        have o9 := hcs _ (List.getElem_mem hr9)
        refine ⟨D2, _, _, _, rfl, rfl, SqL.of eD9, at0 a9 f9, ?_⟩
        refine ⟨fun σ' H' => ∃ y6 y8 y10 y11 v c, σ' = [some (.ref L), some kv, some (.int hi), some (.int wz), some (.ref D2), some (.ref F), y6, some (.ref S), y8, some v, y10, y11] ∧ Go [L] H8 H' ∧ Lf L H' (n + 100 + 200 * i + 12 * j + 12) ∧ Dt [S, F, L] H' v (eC c) ∧ cOk wd c, ?_, fun σ' H' hM => ?_⟩
        · refine ⟨_, rfl, L, 4, _, rfl, l9, by omega, by decide, by decide, fun r10 H10 g10 l10 a10 b10 => ?_⟩
          have g10' : Go [S, F, L] H9 H10 := g10.w1 (by simp)
          refine ⟨rfl, _, rfl, ite2 (fun e => ?_) (fun e => ?_)⟩
          · refine ⟨_, rfl, _, rfl, L, [S, F, L], _, kv, wd, sp, rfl, l10, by simp, (bk8.go g9).go g10, by omega, ((hk8.g g9').g g10').sub (by simp), w0, w1, s0, s1, fun v H11 c g11 l11 d11 n11 c11 => ?_⟩
            exact ⟨_, _, _, _, v, c, rfl, (g9.trans g10).trans g11, l11.mono (by omega), d11, n11, c11⟩
          · exact ⟨_, _, _, _, v9, _, rfl, g9.trans g10, l10.mono (by omega), d9.g g10', o9⟩
        · obtain ⟨y6, y8, y10, y11, v, c, rfl, gM, lM, dM, oM⟩ := hM
          have eSM := gM.k S _ nSL eS8
          have gm : Go [S, F, L] H' (upd H' S (.lst (us ++ [v]))) := Go.refl.at (by simp)
          refine ⟨_, rfl, .inl ⟨rfl, _, SqL.of eSM⟩, _, rfl, S, _, _, rfl, rfl, eSM, sz (by omega), ?_⟩
          refine ⟨_, _, _, _, _, us ++ [v], qs ++ [c], rfl, (g8.trans (gM.w1 (by simp))).at (by simp), (lM.up (show S ≠ L by simpa using nSL)).mono (by omega), upd_same, ?_, by simp; omega, fun c' h => ?_⟩
          · rw [List.map_append]
            exact ((hU.g (gM.w1 (by simp))).g gm).app (.one (dM.g gm))
          · rcases List.mem_append.mp h with h | h
            · exact hq c' h
            · rw [List.mem_singleton.mp h]
              exact oM
      · obtain ⟨y6, y8, y9, y10, y11, us, qs, rfl, g8, l8, eS8, hU, lq, hq⟩ := h8
        have g8' : Go [S, F, L] H7 H8 := g8.w (by simp)
        have nFS : F ∉ [S, L] := fun z => by
          rcases List.mem_cons.mp z with e | e
          · exact nSF e
          · exact nF e
        have eF8 := g8.k F _ nFS eF7
        have gm : Go [F, L] H8 (upd H8 F (.lst (vs ++ [.ref S]))) := Go.refl.at (by simp)
        refine ⟨_, rfl, .inl ⟨rfl, _, SqL.of eF8⟩, _, rfl, F, _, _, rfl, rfl, eF8, sz (by omega), ?_⟩
        refine ⟨_, _, _, _, _, _, vs ++ [.ref S], ps ++ [qs], rfl, ((g8.cons g7 hSH).mut hFH), (l8.up (show F ≠ L by simpa using nF)).mono (by omega), gm.k D2 _ nDF (g8'.k D2 _ nDS eD7), ((hW7.g g8').un).g gm, ((hk7.g g8').un).g gm, upd_same, ?_, by simp; omega, fun p h => ?_⟩
        · rw [List.map_append]
          exact (((hA7.g g8').un).g gm).app (.one (Dt.g (.lst nS eS8 hU.un) gm))
        · rcases List.mem_append.mp h with h | h
          · exact hp6 p h
          · rw [List.mem_singleton.mp h]
            exact ⟨by omega, hq⟩
    · obtain ⟨y6, y7, y8, y9, y10, y11, vs, ps, rfl, g6, l6, eD6, hW6, hk6, eF6, hA6, lp6, hp6⟩ := h6
      exact ⟨_, rfl, q F vs H6 ps g6 (l6.mono (by omega)) hFH eF6 hA6 ⟨by omega, by omega, wz.toNat, by omega, by omega, hp6⟩⟩
/-! ### colours put together, and less by another -/
def adC (a b : List Int) : List Int := (a.zip b).map fun p => p.1 + p.2
def leC (a b : List Int) : List Int := (a.zip b).map fun p => p.1 - p.2
def spCC (f : List Int → List Int → List Int) : Sp := fun vs H Q _ => ∃ (B : List Addr) (x y : V) (a b : List Int), vs = [x, y] ∧ Dt B H x (eC a) ∧ Dt B H y (eC b) ∧ Bk B H ∧ a.length = b.length ∧ b.length ≤ 100 ∧ ∀ v H', Same H H' → Dt B H' v (eC (f a b)) → Q v H'
theorem ok_added (T : Tx K mg) {k : Nat} : FnOk P w K mg base CX0 (k + 1) T.f_added T.d_added ["one", "other"] (spCC adC) := by
  refine T.F_added.ok sc_added (fun vs H Q E h => ?_) (fun cdv A outer s H vs Q E hr h => ?_)
  · obtain ⟨B, x, y, a, b, rfl, _⟩ := h
    rfl
  · obtain ⟨B, x, y, a, b, rfl, ha, hb, hB, hl, hz, q⟩ := h
    obtain ⟨pa, rfl, na, ta⟩ := ha.col
    obtain ⟨pb, rfl, nb, tb⟩ := hb.col
    refine ⟨_, (pss_one (ps_ret (pe_callTy (tuple_K K) (by rfl) T.z_tuple (by decide +kernel) (pa_cons (pe_lc (own := [("a", 2), ("b", 3)]) (by rfl) sc_added.nd (RZ.pi_zipA (by rfl) T.z_zip (pa_cons (pv 0) (pa_cons (pv 1) pa_nil))) (blkOk_by (own := [("a", 2), ("b", 3)]) (N := N_added) (sc := defScope s_added) (by decide +kernel)) (fun _ _ _ _ _ => (pg_tupK K (n := 2) rfl (pgs_cons (pg_name (i := 2) sc_added.nd rfl (.inl rfl)) (pgs_cons (pg_name (i := 3) sc_added.nd rfl (.inl rfl)) pgs_nil)))) (fun _ _ _ _ _ => pts_nil) (fun _ _ _ _ _ => (pe_op op_add (pv 2) (pv 3)))) pa_nil)))), ?_⟩
    refine ⟨_, rfl, _, rfl, pa, pb, _, _, rfl, .inr ⟨SqT.of ta, SqT.of tb, fun D hD => ?_⟩⟩
    refine lc_pure (B := []) (walk_zipT (n := a.length) (xs := a.map V.int) (ys := b.map V.int) (by simp; omega)) hD (fun _ h => nomatch h) (fun H' s' => ⟨SqT.of (s' _ _ ta), SqT.of (s' _ _ tb)⟩) (by omega)
      (fun i => ((a.zip b).map fun p => PyData.int (p.1 + p.2))[i]?) (fun i x H' H'' Ny Nn hi s1 bk y ky kn => ?_) (fun H' ws s1 eD hA => ?_)
    · obtain ⟨t, x, y, rfl, ht, rfl, e1, e2⟩ := y
      have i2 : i < b.length := by omega
      have x1 := mat hi e1
      have x2 := mat i2 e2
      refine ⟨t, [x, y], rfl, SqT.of upd_same, rfl, x, _, rfl, y, _, rfl, rfl, rfl, lc_yes ?_⟩
      refine ⟨_, rfl, _, rfl, _, _, x1, x2, ?_⟩
      exact ky _ _ _ (zat hi i2) (sm_new ht) (.int _)
    · rw [fm_all (by simp; omega)] at hA
      have hA2 : DtA (D :: []) H' ws ((adC a b).map PyData.int) := by unfold adC; rw [List.map_map]; exact hA
      refine ⟨D, _, rfl, .inl ⟨SqL.of (by rw [eD, hA2.intsV]), fun t ht => ?_⟩⟩
      exact q _ _ (s1.trans (sm_new ht)) (Dt.ofCol ((hB.go (Go.of (B := []) s1)).ne ht) upd_same)
theorem ok_lessened (T : Tx K mg) {k : Nat} : FnOk P w K mg base CX0 (k + 1) T.f_lessened T.d_lessened ["one", "other"] (spCC leC) := by
  refine T.F_lessened.ok sc_lessened (fun vs H Q E h => ?_) (fun cdv A outer s H vs Q E hr h => ?_)
  · obtain ⟨B, x, y, a, b, rfl, _⟩ := h
    rfl
  · obtain ⟨B, x, y, a, b, rfl, ha, hb, hB, hl, hz, q⟩ := h
    obtain ⟨pa, rfl, na, ta⟩ := ha.col
    obtain ⟨pb, rfl, nb, tb⟩ := hb.col
    refine ⟨_, (pss_one (ps_ret (pe_callTy (tuple_K K) (by rfl) T.z_tuple (by decide +kernel) (pa_cons (pe_lc (own := [("a", 2), ("b", 3)]) (by rfl) sc_lessened.nd (RZ.pi_zipA (by rfl) T.z_zip (pa_cons (pv 0) (pa_cons (pv 1) pa_nil))) (blkOk_by (own := [("a", 2), ("b", 3)]) (N := N_lessened) (sc := defScope s_lessened) (by decide +kernel)) (fun _ _ _ _ _ => (pg_tupK K (n := 2) rfl (pgs_cons (pg_name (i := 2) sc_lessened.nd rfl (.inl rfl)) (pgs_cons (pg_name (i := 3) sc_lessened.nd rfl (.inl rfl)) pgs_nil)))) (fun _ _ _ _ _ => pts_nil) (fun _ _ _ _ _ => (pe_op op_sub (pv 2) (pv 3)))) pa_nil)))), ?_⟩
    refine ⟨_, rfl, _, rfl, pa, pb, _, _, rfl, .inr ⟨SqT.of ta, SqT.of tb, fun D hD => ?_⟩⟩
    refine lc_pure (B := []) (walk_zipT (n := a.length) (xs := a.map V.int) (ys := b.map V.int) (by simp; omega)) hD (fun _ h => nomatch h) (fun H' s' => ⟨SqT.of (s' _ _ ta), SqT.of (s' _ _ tb)⟩) (by omega)
      (fun i => ((a.zip b).map fun p => PyData.int (p.1 - p.2))[i]?) (fun i x H' H'' Ny Nn hi s1 bk y ky kn => ?_) (fun H' ws s1 eD hA => ?_)
    · obtain ⟨t, x, y, rfl, ht, rfl, e1, e2⟩ := y
      have i2 : i < b.length := by omega
      have x1 := mat hi e1
      have x2 := mat i2 e2
      refine ⟨t, [x, y], rfl, SqT.of upd_same, rfl, x, _, rfl, y, _, rfl, rfl, rfl, lc_yes ?_⟩
      refine ⟨_, rfl, _, rfl, _, _, x1, x2, ?_⟩
      exact ky _ _ _ (zat hi i2) (sm_new ht) (.int _)
    · rw [fm_all (by simp; omega)] at hA
      have hA2 : DtA (D :: []) H' ws ((leC a b).map PyData.int) := by unfold leC; rw [List.map_map]; exact hA
      refine ⟨D, _, rfl, .inl ⟨SqL.of (by rw [eD, hA2.intsV]), fun t ht => ?_⟩⟩
      exact q _ _ (s1.trans (sm_new ht)) (Dt.ofCol ((hB.go (Go.of (B := []) s1)).ne ht) upd_same)
/-! ### the spots in their order -/
theorem fm_some2 {α : Type} (f : Nat → α) : ∀ n : Nat, (List.range n).filterMap (fun i => some (f i)) = (List.range n).map f := fun n => by
  rw [← List.filterMap_eq_map]
  rfl
def spRow (t : Bool) (r n : Nat) : List (List Int) := if t = true ∧ r % 2 = 1 then (List.range n).map fun (c : Nat) => [(r : Int), ((n - 1 - c : Nat) : Int), -1] else (List.range n).map fun (c : Nat) => [(r : Int), (c : Int), 1]
def spotsOf (t : Bool) (ps : List (List (List Int))) (m : Nat) : List (List Int) := ((List.range m).map fun r => spRow t r (ps.getD r []).length).flatten
theorem spots_succ (t : Bool) (ps : List (List (List Int))) (m : Nat) : spotsOf t ps (m + 1) = spotsOf t ps m ++ spRow t m (ps.getD m []).length := by
  unfold spotsOf
  rw [List.range_succ, List.map_append, List.flatten_append]
  simp
theorem rgV0 (n : Nat) : rgV 0 (n : Int) = (List.range n).map fun (i : Nat) => V.int (i : Int) := by
  unfold rgV
  rw [show (((n : Int) - 0).toNat) = n by omega]
  exact List.map_congr_left fun i _ => by rw [Int.zero_add]
theorem spRow_len (t : Bool) (r n : Nat) : (spRow t r n).length = n := by
  unfold spRow
  split <;> simp
theorem spots_le (t : Bool) (ps : List (List (List Int))) (hz : ∀ p ∈ ps, p.length ≤ 100) : ∀ m, (spotsOf t ps m).length ≤ 100 * m
  | 0 => by simp [spotsOf]
  | m + 1 => by
    rw [spots_succ, List.length_append, spRow_len]
    have := spots_le t ps hz m
    have h2 : (ps.getD m []).length ≤ 100 := by
      rw [List.getD_eq_getElem?_getD]
      cases e : ps[m]? with
      | none => simp
      | some p => exact hz p (List.mem_of_getElem? e)
    omega
def spSpots : Sp := fun vs H Q _ => ∃ (B : List Addr) (pv : V) (ps : List (List (List Int))) (t : Bool), vs = [pv, .str (if t = true then "turned" else "same")] ∧ Dt B H pv (eG ps) ∧ Bk B H ∧ ps.length ≤ 100 ∧ (∀ p ∈ ps, p.length ≤ 100) ∧ ∀ v H', Same H H' → Dt B H' v (eP (spotsOf t ps ps.length)) → Q v H'
theorem ok_spots_in_order (T : Tx K mg) {k : Nat} : FnOk P w K mg base CX0 (k + 1) T.f_spots_in_order T.d_spots_in_order ["picture", "way"] spSpots := by
  refine T.F_spots_in_order.ok sc_spots_in_order (fun vs H Q E h => ?_) (fun cdv A outer s H vs Q E hr h => ?_)
  · obtain ⟨B, pv, ps, t, rfl, _⟩ := h
    rfl
  · obtain ⟨B, pv, ps, t, rfl, hp, hB, hl, hz, q⟩ := h
    obtain ⟨pa, vs, rfl, na, ep, hA⟩ := hp.lst2
    have lv := hA.len
    rw [List.length_map] at lv
    refine ⟨_, (pss_cons (ps_set (i := 2) sc_spots_in_order.nd rfl (.inl rfl) (pe_lst pa_nil))
      (pss_cons (ps_for PassesOwn.never rfl (pi_enum (by rfl) T.z_enumerate (pa_cons (pv 0) pa_nil)) (pg_tupK K (n := 2) rfl (pgs_cons (pg_name (i := 3) sc_spots_in_order.nd rfl (.inr rfl)) (pgs_cons (pg_name (i := 4) sc_spots_in_order.nd rfl (.inl rfl)) pgs_nil))) (pss_cons (ps_set (i := 5) sc_spots_in_order.nd rfl (.inl rfl) (pe_listRg rfl (by rfl) T.z_list (prg_1 (by rfl) T.z_range (pe_callB (len_K K) (by rfl) T.z_len PySem.boot_len (pa_cons (pv 4) pa_nil)))))
      (pss_one (ps_if (PW.pt (pw_and (pt_cmpR op_eq (pv 1) pe_str (nomark _)) (pw_and1 (pt_cmpR op_eq (pe_op op_mod (pv 3) pe_int) pe_int (nomark _))))) (pss_one (ps_expr (pe_bm PySem.F.plainAttrs_list PySem.F.slot_list_extend PySem.F.type_list_extend mt_extend (pv 2) (pa_cons (pe_lc (own := [("column", 6)]) (by rfl) sc_spots_in_order.nd (pi_listK K (pe_revL (pv 5))) (blkOk_by (own := [("column", 6)]) (N := N_spots_in_order) (sc := defScope s_spots_in_order) (by decide +kernel)) (fun _ _ _ _ _ => (pg_name (i := 6) sc_spots_in_order.nd rfl (.inl rfl))) (fun _ _ _ _ _ => pts_nil) (fun _ _ _ _ _ => (pe_tup (pa_cons (pv 3) (pa_cons (pv 6) (pa_cons (pe_un un_neg pe_int) pa_nil)))))) pa_nil)))) (pss_one (ps_expr (pe_bm PySem.F.plainAttrs_list PySem.F.slot_list_extend PySem.F.type_list_extend mt_extend (pv 2) (pa_cons (pe_lc (own := [("column", 6)]) (by rfl) sc_spots_in_order.nd (pi_listK K (pv 5)) (blkOk_by (own := [("column", 6)]) (N := N_spots_in_order) (sc := defScope s_spots_in_order) (by decide +kernel)) (fun _ _ _ _ _ => (pg_name (i := 6) sc_spots_in_order.nd rfl (.inl rfl))) (fun _ _ _ _ _ => pts_nil) (fun _ _ _ _ _ => (pe_tup (pa_cons (pv 3) (pa_cons (pv 6) (pa_cons pe_int pa_nil)))))) pa_nil))))))))
      (pss_one (ps_ret (pv 2))))), ?_⟩
    refine ⟨Nat.zero_le _, fun S hS => ?_⟩
    have s0 := sm_new (o := .lst []) hS
    have eS : (upd H S (.lst [])) S = some (.lst []) := upd_same
    have nS : S ∉ B := hB.ne hS
    generalize upd H S (.lst []) = H1 at *
    refine ⟨_, rfl, pa, _, rfl, SqL.of (s0 _ _ ep), for_it (walk_enum (xs := vs)) (fun i σ H' => ∃ y3 y4 y5 y6 us, σ = [some (.ref pa), some (.str (if t = true then "turned" else "same")), some (.ref S), y3, y4, y5, y6] ∧ Same H H' ∧ H' S = some (.lst us) ∧ DtA (S :: B) H' us ((spotsOf t ps i).map eC))
      ⟨_, _, _, _, _, rfl, s0, eS, .nil⟩ (fun i σ H' _ h => ?_) (fun i x σ H2 H3 hi h y => ?_) (fun σ H2 h => ?_)⟩
    · obtain ⟨y3, y4, y5, y6, us, rfl, s1, _⟩ := h
      exact SqL.of (s1 _ _ ep)
    · obtain ⟨y3, y4, y5, y6, us, rfl, s1, eS2, dS⟩ := h
      obtain ⟨tp, x1, x2, rfl, htp, rfl, e1, e2⟩ := y
      have ex : V.int i = x1 := Option.some.inj e1
      subst ex
      have hi2 : i < ps.length := by omega
      obtain ⟨d2, f2, g2⟩ := (hA.s s1).getV e2
      rw [List.getElem?_map, List.getElem?_eq_getElem hi2] at f2
      have ed : d2 = eP ps[i] := (Option.some.inj f2).symm
      subst ed
      obtain ⟨ca, cvs, rfl, nca, eca, hC⟩ := g2.pal
      have lc := hC.len
      rw [List.length_map] at lc
      have lz := hz _ (List.getElem_mem hi2)
      have s2 := sm_new (o := .tup [.int i, .ref ca]) htp
      refine ⟨tp, _, rfl, SqT.of upd_same, rfl, _, _, rfl, _, _, rfl, rfl, ?_⟩
      generalize upd H2 tp (.tup [.int i, .ref ca]) = H3 at *
      have eca3 := s2 _ _ eca
      have eS3 := s2 _ _ eS2
      have dS3 := dS.s s2
      refine ⟨_, rfl, ca, _, rfl, .inl (SqL.of eca3), _, rfl, RgOk.of_le (by omega) (by omega) (by omega) (by omega), fun c hc => ?_⟩
      have s3 := sm_new (o := .lst (rgV 0 (cvs.length : Int))) hc
      have ec : (upd H3 c (.lst (rgV 0 (cvs.length : Int)))) c = some (.lst ((List.range cvs.length).map fun (i : Nat) => V.int (i : Int))) := by rw [upd_same, rgV0]
      generalize upd H3 c (.lst (rgV 0 (cvs.length : Int))) = H4 at *
      have eS4 := s3 _ _ eS3
      have dS4 := dS3.s s3
      have t4 := s1.trans (s2.trans s3)
      have bk4 : Bk (S :: B) H4 := (hB.go (Go.of (B := []) t4)).cons eS4
      have le : us.length ≤ 10000 := by
        have := spots_le t ps hz i
        have l2 := dS.len
        rw [List.length_map] at l2
        omega
      have en : (ps.getD i []).length = cvs.length := by rw [List.getD_eq_getElem?_getD, List.getElem?_eq_getElem hi2]; simp; omega
      -- what is put behind
      have key : ∀ (ws : List V) (H6 : Hp), Same H4 H6 → DtA (S :: B) H6 ws ((spRow t i cvs.length).map eC) → us.length + ws.length ≤ sizeLine ∧ Same H (upd H6 S (.lst (us ++ ws))) ∧ DtA (S :: B) (upd H6 S (.lst (us ++ ws))) (us ++ ws) ((spotsOf t ps (i + 1)).map eC) := fun ws H6 s6 d6 => by
        have lw := d6.len
        rw [List.length_map, spRow_len] at lw
        refine ⟨Nat.le_of_lt (sz (by omega)), sm_mut (t4.trans s6) hS, ?_⟩
        rw [spots_succ, List.map_append, en]
        exact ((dS4.s s6).app d6).g (Go.refl.at (by simp))
      have lr : ((List.range cvs.length).map fun (i : Nat) => V.int (i : Int)).length = cvs.length := by simp
      refine ⟨_, rfl, rfl, _, rfl, ite2 (fun e => ?_) (fun e => ?_)⟩
      · have et : t = true := by
          cases t with
          | true => rfl
          | false => exact absurd e (by decide +kernel)
        subst et
        refine ⟨_, rfl, _, _, rfl, rfl, md (by decide), rfl, _, rfl, ite2 (fun e2 => ?_) (fun e2 => ?_)⟩
        · have e2 : (i : Int) % 2 = 1 := by simpa using e2
          have er : spRow true i cvs.length = (List.range cvs.length).map fun (c : Nat) => [(i : Int), ((cvs.length - 1 - c : Nat) : Int), -1] := by
            unfold spRow
            rw [if_pos ⟨rfl, by omega⟩]
          refine ⟨_, rfl, .inl ⟨rfl, _, SqL.of eS4⟩, _, rfl, c, _, rfl, SqL.of ec, fun c5 hc5 => ?_⟩
          have s5 := sm_new (o := .lst ((List.range cvs.length).map fun (i : Nat) => V.int (i : Int)).reverse) hc5
          have e5 : (upd H4 c5 (.lst ((List.range cvs.length).map fun (i : Nat) => V.int (i : Int)).reverse)) c5 = some (.lst ((List.range cvs.length).map fun (i : Nat) => V.int (i : Int)).reverse) := upd_same
          generalize upd H4 c5 (.lst ((List.range cvs.length).map fun (i : Nat) => V.int (i : Int)).reverse) = H5 at *
          have bk5 := bk4.go (Go.of (B := []) s5)
          refine ⟨c5, rfl, ⟨_, SqL.of e5⟩, fun D hD => ?_⟩
          refine lc_pure (B := S :: B) (walk_list (xs := ((List.range cvs.length).map fun (i : Nat) => V.int (i : Int)).reverse)) hD bk5 (fun H' s' => SqL.of (s' _ _ e5)) (by rw [List.length_reverse, lr]; omega)
            (fun j => some (eC [(i : Int), ((cvs.length - 1 - j : Nat) : Int), -1])) (fun j x H' H'' Ny Nn hj t1 bk y ky kn => ?_) (fun H6 ws s6 eD hW => ?_)
          · obtain ⟨rfl, y⟩ := y
            rw [List.length_reverse, lr] at hj
            rw [List.getElem?_reverse (by rw [lr]; exact hj), lr, List.getElem?_map, List.getElem?_range (by omega)] at y
            have ex : V.int ((cvs.length - 1 - j : Nat) : Int) = x := Option.some.inj y
            subst ex
            refine ⟨rfl, lc_yes ⟨_, rfl, _, rfl, _, rfl, (by show 3 ≤ sizeLine; decide), fun p hp => ?_⟩⟩
            exact ky _ _ _ rfl (sm_new hp) (Dt.ofCol (bk.ne hp) upd_same)
          · rw [List.length_reverse, lr, fm_some2] at hW
            obtain ⟨k1, k2, k3⟩ := key ws H6 (s5.trans s6) (by rw [er, List.map_map]; exact hW.un)
            exact ⟨S, D, _, _, rfl, rfl, s6 _ _ (s5 _ _ eS4), eD, k1, _, _, _, _, _, rfl, k2, upd_same, k3⟩
        · have e2 : ¬ (i : Int) % 2 = 1 := by simpa using e2
          have er : spRow true i cvs.length = (List.range cvs.length).map fun (c : Nat) => [(i : Int), (c : Int), 1] := by
            unfold spRow
            rw [if_neg (fun h => e2 (by have := h.2; omega))]
          refine ⟨_, rfl, .inl ⟨rfl, _, SqL.of eS4⟩, _, rfl, c, rfl, ⟨_, SqL.of ec⟩, fun D hD => ?_⟩
          refine lc_pure (B := S :: B) (walk_list (xs := (List.range cvs.length).map fun (i : Nat) => V.int (i : Int))) hD bk4 (fun H' s' => SqL.of (s' _ _ ec)) (by rw [lr]; omega)
            (fun j => some (eC [(i : Int), (j : Int), 1])) (fun j x H' H'' Ny Nn hj t1 bk y ky kn => ?_) (fun H6 ws s6 eD hW => ?_)
          · obtain ⟨rfl, y⟩ := y
            rw [lr] at hj
            rw [List.getElem?_map, List.getElem?_range hj] at y
            have ex : V.int (j : Int) = x := Option.some.inj y
            subst ex
            refine ⟨rfl, lc_yes ⟨_, rfl, _, rfl, (by show 3 ≤ sizeLine; decide), fun p hp => ?_⟩⟩
            exact ky _ _ _ rfl (sm_new hp) (Dt.ofCol (bk.ne hp) upd_same)
          · rw [lr, fm_some2] at hW
            obtain ⟨k1, k2, k3⟩ := key ws H6 s6 (by rw [er, List.map_map]; exact hW.un)
            exact ⟨S, D, _, _, rfl, rfl, s6 _ _ eS4, eD, k1, _, _, _, _, _, rfl, k2, upd_same, k3⟩
      · have et : t = false := by
          cases t with
          | false => rfl
          | true => exact absurd (by decide +kernel) e
        subst et
        refine iteF ?_
        have er : spRow false i cvs.length = (List.range cvs.length).map fun (c : Nat) => [(i : Int), (c : Int), 1] := by
          unfold spRow
          rw [if_neg (fun h => nomatch h.1)]
        refine ⟨_, rfl, .inl ⟨rfl, _, SqL.of eS4⟩, _, rfl, c, rfl, ⟨_, SqL.of ec⟩, fun D hD => ?_⟩
        refine lc_pure (B := S :: B) (walk_list (xs := (List.range cvs.length).map fun (i : Nat) => V.int (i : Int))) hD bk4 (fun H' s' => SqL.of (s' _ _ ec)) (by rw [lr]; omega)
          (fun j => some (eC [(i : Int), (j : Int), 1])) (fun j x H' H'' Ny Nn hj t1 bk y ky kn => ?_) (fun H6 ws s6 eD hW => ?_)
        · obtain ⟨rfl, y⟩ := y
          rw [lr] at hj
          rw [List.getElem?_map, List.getElem?_range hj] at y
          have ex : V.int (j : Int) = x := Option.some.inj y
          subst ex
          refine ⟨rfl, lc_yes ⟨_, rfl, _, rfl, (by show 3 ≤ sizeLine; decide), fun p hp => ?_⟩⟩
          exact ky _ _ _ rfl (sm_new hp) (Dt.ofCol (bk.ne hp) upd_same)
        · rw [lr, fm_some2] at hW
          obtain ⟨k1, k2, k3⟩ := key ws H6 s6 (by rw [er, List.map_map]; exact hW.un)
          exact ⟨S, D, _, _, rfl, rfl, s6 _ _ eS4, eD, k1, _, _, _, _, _, rfl, k2, upd_same, k3⟩
    · obtain ⟨y3, y4, y5, y6, us, rfl, s1, eS2, dS⟩ := h
      refine ⟨_, rfl, q _ _ s1 ?_⟩
      exact .lst nS eS2 (by rw [← lv]; exact dS.un)
/-! ### the shares that lie within -/
def e3 (s : Int × Int × Int) : List Int := [s.1, s.2.1, s.2.2]
def al3 (r c sd : Int) (s : Int × Int × Int) : Int × Int × Int := (r + s.2.1, c + sd * s.1, s.2.2)
def in3 (h w : Int) (e : Int × Int × Int) : Bool := decide (e.1 < h) && (decide (0 ≤ e.2.1) && decide (e.2.1 < w))
def thereOf (h w : Nat) (shs : List (Int × Int × Int)) (r c sd : Int) : List (Int × Int × Int) := (shs.map (al3 r c sd)).filter (in3 h w)
theorem fm_bind {α β : Type} (ms : List α) (f : α → Option β) : (List.range ms.length).filterMap (fun j => (ms[j]?).bind f) = ms.filterMap f := by
  have h : (List.range ms.length).filterMap (fun j => ms[j]?) = ms := fm_all rfl
  rw [← List.filterMap_filterMap, h]
theorem fm_filter {α β : Type} (p : α → Bool) (f : α → β) : ∀ ms : List α, ms.filterMap (fun e => if p e = true then some (f e) else none) = (ms.filter p).map f
  | [] => rfl
  | m :: ms => by
    by_cases c : p m = true
    · rw [List.filterMap_cons_some (b := f m) (by rw [if_pos c]), List.filter_cons_of_pos c, List.map_cons, fm_filter p f ms]
    · rw [List.filterMap_cons_none (by rw [if_neg c]), List.filter_cons_of_neg c, fm_filter p f ms]
def spThere : Sp := fun vs H Q _ => ∃ (B : List Addr) (pa ra : Addr) (sv pv : V) (xs ys : List V) (shs : List (Int × Int × Int)) (r c sd : Int), vs = [.ref pa, sv, pv] ∧ H pa = some (.lst (.ref ra :: xs)) ∧ H ra = some (.lst ys) ∧ Dt B H sv (eP (shs.map e3)) ∧ Dt B H pv (eC [r, c, sd]) ∧ Bk B H ∧ shs.length ≤ 100 ∧ -1 ≤ sd ∧ sd ≤ 1 ∧
  ∀ v H', Same H H' → Dt B H' v (eP ((thereOf (xs.length + 1) ys.length shs r c sd).map e3)) → Q v H'
set_option maxHeartbeats 4000000 in
theorem ok_shares_there (T : Tx K mg) {k : Nat} : FnOk P w K mg base CX0 (k + 1) T.f_shares_there T.d_shares_there ["picture", "shares", "spot"] spThere := by
  refine T.F_shares_there.ok sc_shares_there (fun vs H Q E h => ?_) (fun cdv A outer s H vs Q E hr h => ?_)
  · obtain ⟨B, pa, ra, sv, pv, xs, ys, shs, r, c, sd, rfl, _⟩ := h
    rfl
  · obtain ⟨B, pa, ra, sv, pv, xs, ys, shs, r, c, sd, rfl, epa, era, hs, hp, hB, hl, d1, d2, q⟩ := h
    obtain ⟨sa, vs, rfl, nsa, esa, hA⟩ := hs.pal
    have lv := hA.len
    rw [List.length_map, List.length_map] at lv
    obtain ⟨pp, rfl, npp, epp⟩ := hp.col
    refine ⟨_, (pss_cons (ps_asg (pv 2) (pg_tupK K (n := 3) rfl (pgs_cons (pg_name (i := 3) sc_shares_there.nd rfl (.inr rfl)) (pgs_cons (pg_name (i := 4) sc_shares_there.nd rfl (.inr rfl)) (pgs_cons (pg_name (i := 5) sc_shares_there.nd rfl (.inr rfl)) pgs_nil)))))
      (pss_cons (ps_setLc (i := 6) (own := [("across", 7), ("down", 8), ("parts", 9)]) (by rfl) sc_shares_there.nd rfl rfl (sw_true rfl rfl rfl (by decide +kernel)) (pi_listK K (pv 1)) (blkOk_by (own := [("across", 7), ("down", 8), ("parts", 9)]) (N := N_shares_there) (sc := defScope s_shares_there) (by decide +kernel)) (fun _ _ _ _ _ => (pg_tupK K (n := 3) rfl (pgs_cons (pg_name (i := 7) sc_shares_there.nd rfl (.inl rfl)) (pgs_cons (pg_name (i := 8) sc_shares_there.nd rfl (.inl rfl)) (pgs_cons (pg_name (i := 9) sc_shares_there.nd rfl (.inl rfl)) pgs_nil))))) (fun _ _ _ _ _ => pts_nil) (fun _ _ _ _ _ => (pe_tup (pa_cons (pe_op op_add (pv 3) (pv 8)) (pa_cons (pe_op op_add (pv 4) (pe_op op_mul (pv 5) (pv 7))) (pa_cons (pv 9) pa_nil))))))
      (pss_one (ps_ret (pe_lc (own := [("each", 10)]) (by rfl) sc_shares_there.nd (pi_listK K (pv 6)) (blkOk_by (own := [("each", 10)]) (N := N_shares_there) (sc := defScope s_shares_there) (by decide +kernel)) (fun _ _ _ _ _ => (pg_name (i := 10) sc_shares_there.nd rfl (.inl rfl))) (fun _ _ _ _ _ => pts_one (PW.pt (pw_and (pt_cmpR op_lt (pe_ix (ix_tupK K) (pv 10) pe_int (fun _ _ => rfl)) (pe_callB (len_K K) (by rfl) T.z_len PySem.boot_len (pa_cons (pv 0) pa_nil)) (nomark _)) (pw_and1 (pt_chain op_le op_lt pe_int (pe_ix (ix_tupK K) (pv 10) pe_int (fun _ _ => rfl)) (pe_callB (len_K K) (by rfl) T.z_len PySem.boot_len (pa_cons (pe_ix (ix_listK K) (pv 0) pe_int (fun _ _ => rfl)) pa_nil))))))) (fun _ _ _ _ _ => (pv 10))))))), ?_⟩
    refine ⟨_, rfl, pp, _, rfl, SqT.of epp, rfl, _, _, rfl, _, _, rfl, _, _, rfl, rfl, ?_⟩
    refine ⟨_, rfl, sa, rfl, ⟨_, SqL.of esa⟩, fun D hD => ?_⟩
    refine lc_pure (B := B) (walk_list (xs := vs)) hD hB (fun H' s' => SqL.of (s' _ _ esa)) (by omega)
      (fun j => ((shs.map (al3 r c sd)).map fun e => eC (e3 e))[j]?) (fun j x H' H'' Ny Nn hj t1 bk y ky kn => ?_) (fun H6 ws s6 eD hW => ?_)
    · obtain ⟨rfl, y⟩ := y
      have hj2 : j < shs.length := by omega
      obtain ⟨d, f1, g1⟩ := hA.getV y
      rw [List.getElem?_map, List.getElem?_map, List.getElem?_eq_getElem hj2] at f1
      have ed : d = eC (e3 shs[j]) := (Option.some.inj f1).symm
      subst ed
      have hm : ((shs.map (al3 r c sd)).map fun e => eC (e3 e))[j]? = some (eC (e3 (al3 r c sd shs[j]))) := by rw [List.getElem?_map, List.getElem?_map, List.getElem?_eq_getElem hj2]; rfl
      generalize shs[j] = sj at *
      obtain ⟨s1, s2, s3⟩ := sj
      obtain ⟨xa, rfl, nxa, exa⟩ := (g1.s t1).col
      change _ = some (HO.tup [V.int s1, V.int s2, V.int s3]) at exa
      refine ⟨xa, [.int s1, .int s2, .int s3], rfl, SqT.of exa, rfl, .int s1, [.int s2, .int s3], rfl, .int s2, [.int s3], rfl, .int s3, [], rfl, rfl, rfl, lc_yes ?_⟩
      refine ⟨_, rfl, _, rfl, _, _, rfl, rfl, _, rfl, _, rfl, _, rfl, _, _, rfl, rfl, .inl ⟨by omega, by omega⟩, _, _, rfl, rfl, _, rfl, (by show 3 ≤ sizeLine; decide), fun p hp => ?_⟩
      exact ky _ _ _ hm (sm_new hp) (Dt.ofCol (bk.ne hp) upd_same)
    rw [fm_all (by simp; omega)] at hW
    have lw := hW.len
    simp only [List.length_map] at lw
    generalize hm : shs.map (al3 r c sd) = ms at *
    have lm : ms.length = shs.length := by rw [← hm, List.length_map]
    have bk6 := hB.go (Go.of (B := []) s6)
    refine ⟨_, rfl, D, rfl, ⟨_, SqL.of eD⟩, fun D2 hD2 => ?_⟩
    refine lc_pure (B := B) (walk_list (xs := ws)) hD2 bk6 (fun H' s' => SqL.of (s' _ _ eD)) (by omega)
      (fun j => (ms[j]?).bind fun e => if in3 ((xs.length + 1 : Nat) : Int) (ys.length : Int) e = true then some (eC (e3 e)) else none) (fun j x H' H'' Ny Nn hj t1 bk y ky kn => ?_) (fun H7 us s7 eD2 hU => ?_)
    · obtain ⟨rfl, y⟩ := y
      have hj2 : j < ms.length := by omega
      obtain ⟨d, f1, g1⟩ := hW.un.getV y
      rw [List.getElem?_map, List.getElem?_eq_getElem hj2] at f1
      have ed : d = eC (e3 ms[j]) := (Option.some.inj f1).symm
      subst ed
      have em : ms[j]? = some ms[j] := List.getElem?_eq_getElem hj2
      generalize ms[j] = sj at *
      obtain ⟨s1, s2, s3⟩ := sj
      have g2 := g1.s t1
      obtain ⟨xa, rfl, nxa, exa⟩ := g2.col
      change _ = some (HO.tup [V.int s1, V.int s2, V.int s3]) at exa
      have st := s6.trans t1
      have epa' := st _ _ epa
      have era' := st _ _ era
      have yes : in3 ((xs.length + 1 : Nat) : Int) (ys.length : Int) (s1, s2, s3) = true → ((ms[j]?).bind fun e => if in3 ((xs.length + 1 : Nat) : Int) (ys.length : Int) e = true then some (eC (e3 e)) else none) = some (eC (e3 (s1, s2, s3))) := fun h => by rw [em, Option.bind_some, if_pos h]
      have no : ¬ in3 ((xs.length + 1 : Nat) : Int) (ys.length : Int) (s1, s2, s3) = true → ((ms[j]?).bind fun e => if in3 ((xs.length + 1 : Nat) : Int) (ys.length : Int) e = true then some (eC (e3 e)) else none) = none := fun h => by rw [em, Option.bind_some, if_neg h]
      refine ⟨rfl, ?_⟩
      refine ⟨_, rfl, xa, _, 0, .int s1, rfl, rfl, SqT.of exa, rfl, _, rfl, pa, _, rfl, .inl (SqL.of epa'), _, _, rfl, rfl, _, rfl, ite2 (fun e => ?_) (fun e => ?_)⟩
      · have c1 : s1 < ((xs.length + 1 : Nat) : Int) := by simpa using e
        refine ⟨_, rfl, xa, _, 1, .int s2, rfl, rfl, SqT.of exa, rfl, _, _, rfl, rfl, _, rfl, ite2 (fun e => ?_) (fun e => ?_)⟩
        · have c2 : 0 ≤ s2 := by simpa using e
          refine ⟨_, rfl, pa, _, 0, .ref ra, rfl, rfl, SqL.of epa', atI_nat (j := 0) rfl, ra, _, rfl, .inl (SqL.of era'), _, _, rfl, rfl, _, rfl, ite2 (fun e => ?_) (fun e => ?_)⟩
          · have c3 : s2 < (ys.length : Int) := by simpa using e
            exact ⟨_, rfl, ky _ _ _ (yes (by unfold in3; rw [decide_eq_true c1, decide_eq_true c2, decide_eq_true c3]; rfl)) (Same.refl _) ((g1.fr hD2).s t1)⟩
          · have c3 : ¬ s2 < (ys.length : Int) := by simpa using e
            exact kn _ (no (by unfold in3; rw [decide_eq_false c3]; simp)) (Same.refl _)
        · have c2 : ¬ 0 ≤ s2 := by simpa using e
          exact ⟨_, rfl, iteF (kn _ (no (by unfold in3; rw [decide_eq_false c2]; simp)) (Same.refl _))⟩
      · have c1 : ¬ s1 < ((xs.length + 1 : Nat) : Int) := by simpa using e
        exact iteF (kn _ (no (by unfold in3; rw [decide_eq_false c1]; simp)) (Same.refl _))
    · refine q _ _ (s6.trans s7) (.lst (bk6.ne hD2) eD2 ?_)
      rw [show ws.length = ms.length by omega, fm_bind, fm_filter] at hU
      have := hU.un
      unfold thereOf
      rw [hm, List.map_map]
      exact this
/-! ### what is left, handed over -/
def getC (W : List (List (List Int))) (r c : Nat) : List Int := (W.getD r []).getD c []
def putC (W : List (List (List Int))) (r c : Nat) (v : List Int) : List (List (List Int)) := W.set r ((W.getD r []).set c v)
def hdC (left : List Int) (p t : Int) : List Int := left.map fun x => x * p / t
def hStep (left : List Int) (t : Int) (z : List (List (List Int)) × List Int) (e : Int × Int × Int) : List (List (List Int)) × List Int :=
  (putC z.1 e.1.toNat e.2.1.toNat (adC (getC z.1 e.1.toNat e.2.1.toNat) (hdC left e.2.2 t)), leC z.2 (hdC left e.2.2 t))
def total3 (shs : List (Int × Int × Int)) : Int := (shs.map fun s => s.2.2).sum
def handW (h w : Nat) (W : List (List (List Int))) (shs : List (Int × Int × Int)) (r c : Nat) (sd : Int) (col : List Int) : List (List (List Int)) × List Int :=
  match thereOf h w shs r c sd with
  | [] => (W, leC (getC W r c) col)
  | e :: es =>
    let z := (e :: es).foldl (hStep (leC (getC W r c) col) (total3 shs)) (W, leC (getC W r c) col)
    (putC z.1 e.1.toNat e.2.1.toNat (adC (getC z.1 e.1.toNat e.2.1.toNat) z.2), List.replicate (leC (getC W r c) col).length 0)
def Rect (h w n : Nat) (W : List (List (List Int))) : Prop := W.length = h ∧ ∀ p ∈ W, p.length = w ∧ ∀ c ∈ p, c.length = n
def gD (W : List (List (List Int))) : List (List PyData) := W.map fun p => p.map eC
theorem rect_row {h w n : Nat} {W : List (List (List Int))} (hR : Rect h w n W) {r : Nat} (hr : r < h) : W[r]? = some (W.getD r []) ∧ (W.getD r []).length = w ∧ ∀ c ∈ W.getD r [], c.length = n := by
  have hl : r < W.length := by rw [hR.1]; exact hr
  have e : W.getD r [] = W[r] := by rw [List.getD_eq_getElem?_getD, List.getElem?_eq_getElem hl]; rfl
  rw [e]
  exact ⟨List.getElem?_eq_getElem hl, hR.2 _ (List.getElem_mem hl)⟩
theorem rect_get {h w n : Nat} {W : List (List (List Int))} (hR : Rect h w n W) {r c : Nat} (hr : r < h) (hc : c < w) : (W.getD r [])[c]? = some (getC W r c) ∧ (getC W r c).length = n := by
  obtain ⟨_, l, a⟩ := rect_row hR hr
  have hl : c < (W.getD r []).length := by rw [l]; exact hc
  have e : getC W r c = (W.getD r [])[c] := by unfold getC; rw [List.getD_eq_getElem?_getD (l := W.getD r []), List.getElem?_eq_getElem hl]; rfl
  rw [e]
  exact ⟨List.getElem?_eq_getElem hl, a _ (List.getElem_mem hl)⟩
theorem rect_put {h w n : Nat} {W : List (List (List Int))} (hR : Rect h w n W) {r c : Nat} (hr : r < h) {v : List Int} (hv : v.length = n) : Rect h w n (putC W r c v) := by
  obtain ⟨_, l, a⟩ := rect_row hR hr
  refine ⟨by unfold putC; rw [List.length_set]; exact hR.1, fun p hp => ?_⟩
  rcases List.mem_or_eq_of_mem_set hp with z | z
  · exact hR.2 p z
  · rw [z]
    refine ⟨by rw [List.length_set]; exact l, fun x hx => ?_⟩
    rcases List.mem_or_eq_of_mem_set hx with y | y
    · exact a x y
    · rw [y]; exact hv
theorem Gr.at {B : List Addr} {H : Hp} {wa : Addr} {ras : List Addr} {W : List (List (List Int))} {h w n r c : Nat} (g : Gr B H wa ras (gD W)) (hR : Rect h w n W) (hr : r < h) (hc : c < w) :
    ∃ ra vs v, ras[r]? = some ra ∧ H ra = some (.lst vs) ∧ vs.length = w ∧ vs[c]? = some v ∧ Dt (wa :: ras ++ B) H v (eC (getC W r c)) ∧ ∀ u x, Dt (wa :: ras ++ B) H u (eC x) → Gr B (upd H ra (.lst (vs.set c u))) wa ras (gD (putC W r c x)) := by
  obtain ⟨e1, l1, _⟩ := rect_row hR hr
  have e2 : (gD W)[r]? = some ((W.getD r []).map eC) := by unfold gD; rw [List.getElem?_map, e1]; rfl
  have hl : r < ras.length := by rw [g.l]; unfold gD; rw [List.length_map, hR.1]; exact hr
  obtain ⟨vs, e3, d3⟩ := g.r r ras[r] _ (List.getElem?_eq_getElem hl) e2
  obtain ⟨v, e4, d4⟩ := d3.get (i := c) (d := eC (getC W r c)) (by rw [List.getElem?_map, (rect_get hR hr hc).1]; rfl)
  refine ⟨ras[r], vs, v, List.getElem?_eq_getElem hl, e3, by rw [d3.len, List.length_map, l1], e4, d4, fun u x hu => ?_⟩
  have := g.set (j := c) (List.getElem?_eq_getElem hl) e2 e3 hu
  unfold gD putC
  rw [List.map_set, List.map_set]
  exact this
theorem there_in {h w : Nat} {shs : List (Int × Int × Int)} {r c : Nat} {sd : Int} (sok : ∀ s ∈ shs, 0 ≤ s.2.1 ∧ 0 < s.2.2 ∧ s.2.2 ≤ 1000) : ∀ e ∈ thereOf h w shs r c sd, 0 ≤ e.1 ∧ e.1 < h ∧ 0 ≤ e.2.1 ∧ e.2.1 < w ∧ 0 < e.2.2 ∧ e.2.2 ≤ 1000 := fun e he => by
  unfold thereOf at he
  obtain ⟨m, i⟩ := List.mem_filter.mp he
  obtain ⟨s, hs, rfl⟩ := List.mem_map.mp m
  have o := sok s hs
  unfold in3 al3 at i
  simp only [Bool.and_eq_true, decide_eq_true_eq] at i
  unfold al3
  simp only
  omega
theorem tot_in {shs : List (Int × Int × Int)} (sok : ∀ s ∈ shs, 0 ≤ s.2.1 ∧ 0 < s.2.2 ∧ s.2.2 ≤ 1000) : 0 ≤ total3 shs ∧ (shs ≠ [] → 0 < total3 shs) ∧ total3 shs ≤ 1000 * shs.length := by
  induction shs with
  | nil => exact ⟨by decide, fun h => absurd rfl h, by simp [total3]⟩
  | cons s shs ih =>
    have o := sok s (List.mem_cons_self ..)
    obtain ⟨a, _, b⟩ := ih fun x hx => sok x (List.mem_cons_of_mem _ hx)
    have e : total3 (s :: shs) = s.2.2 + total3 shs := by unfold total3; rw [List.map_cons, List.sum_cons]
    rw [e, List.length_cons]
    exact ⟨by omega, fun _ => by omega, by omega⟩
theorem leC_len {a b : List Int} (h : a.length = b.length) : (leC a b).length = b.length := by unfold leC; simp; omega
theorem adC_len {a b : List Int} (h : a.length = b.length) : (adC a b).length = b.length := by unfold adC; simp; omega
theorem ixN0 {n : Nat} {i : Int} (h0 : 0 ≤ i) (h1 : i < n) : ixN n i = some i.toNat := by
  unfold ixN
  rw [if_pos h0, if_pos h1]
def spHand : Sp := fun vs H Q _ => ∃ (B : List Addr) (wa : Addr) (ras : List Addr) (sv qv cv : V) (W : List (List (List Int))) (shs : List (Int × Int × Int)) (h w n r c : Nat) (sd : Int) (col : List Int), vs = [.ref wa, sv, qv, cv] ∧ Gr B H wa ras (gD W) ∧ Rect h w n W ∧ h ≤ 100 ∧ w ≤ 100 ∧ 0 < n ∧ n ≤ 100 ∧ r < h ∧ c < w ∧ col.length = n ∧
  Dt (wa :: ras ++ B) H sv (eP (shs.map e3)) ∧ Dt (wa :: ras ++ B) H qv (eC [(r : Int), (c : Int), sd]) ∧ Dt (wa :: ras ++ B) H cv (eC col) ∧ Bk (wa :: ras ++ B) H ∧ shs.length ≤ 100 ∧ (∀ s ∈ shs, 0 ≤ s.2.1 ∧ 0 < s.2.2 ∧ s.2.2 ≤ 1000) ∧ -1 ≤ sd ∧ sd ≤ 1 ∧
  ∀ v H', Go ras H H' → Gr B H' wa ras (gD (handW h w W shs r c sd col).1) → Dt (wa :: ras ++ B) H' v (eC (handW h w W shs r c sd col).2) → Q v H'
set_option maxHeartbeats 2000000 in
theorem ok_hand_over (T : Tx K mg) {k : Nat} : FnOk P w K mg base CX0 (k + 2) T.f_hand_over T.d_hand_over ["wanted", "shares", "spot", "colour"] spHand := by
  refine T.F_hand_over.ok sc_hand_over (fun vs H Q E h => ?_) (fun cdv A outer s H vs Q E hr h => ?_)
  · obtain ⟨B, wa, ras, sv, qv, cv, W, shs, h, w, n, r, c, sd, col, rfl, _⟩ := h
    rfl
  · obtain ⟨B, wa, ras, sv, qv, cv, W, shs, h, w, n, r, c, sd, col, rfl, hG, hR, h1, w1, n0, n1, rh, cw, cl, ds, dp, dc, hB, sl, sok, d1, d2, q⟩ := h
    refine ⟨_, (pss_cons (ps_set (i := 4) sc_hand_over.nd rfl (.inl rfl) (pe_call (ok_lessened T (k := k)) hr (by rfl) T.g_lessened T.F_lessened.kp T.b_lessened .nil pass0 (pa_cons (pe_ix (ix_listK K) (pe_ix (ix_listK K) (pv 0) (pe_ix (ix_tupK K) (pv 2) pe_int (fun _ _ => rfl)) (fun _ _ => rfl)) (pe_ix (ix_tupK K) (pv 2) pe_int (fun _ _ => rfl)) (fun _ _ => rfl)) (pa_cons (pv 3) pa_nil))))
      (pss_cons (ps_set (i := 5) sc_hand_over.nd rfl (.inl rfl) (pe_call (ok_shares_there T (k := k)) hr (by rfl) T.g_shares_there T.F_shares_there.kp T.b_shares_there .nil pass0 (pa_cons (pv 0) (pa_cons (pv 1) (pa_cons (pv 2) pa_nil)))))
      (pss_cons (ps_if (pt_cmpR (op_eqDK K hr.units) (pv 5) (pe_lst pa_nil) (nomark _)) (pss_one (ps_ret (pv 4))) pss_nil)
      (pss_cons (ps_set (i := 6) sc_hand_over.nd rfl (.inr rfl) (pe_callB (cr_sumK K rfl) (by rfl) T.z_sum (by decide +kernel) (pa_cons (pe_lc (own := [("across", 12), ("down", 13), ("parts", 10)]) (by rfl) sc_hand_over.nd (pi_listK K (pv 1)) (blkOk_by (own := [("across", 12), ("down", 13), ("parts", 10)]) (N := N_hand_over) (sc := defScope s_hand_over) (by decide +kernel)) (fun _ _ _ _ _ => (pg_tupK K (n := 3) rfl (pgs_cons (pg_name (i := 12) sc_hand_over.nd rfl (.inl rfl)) (pgs_cons (pg_name (i := 13) sc_hand_over.nd rfl (.inl rfl)) (pgs_cons (pg_name (i := 10) sc_hand_over.nd rfl (.inl rfl)) pgs_nil))))) (fun _ _ _ _ _ => pts_nil) (fun _ _ _ _ _ => (pv 10))) pa_nil)))
      (pss_cons (ps_set (i := 7) sc_hand_over.nd rfl (.inl rfl) (pv 4))
      (pss_cons (ps_for PassesOwn.never rfl (pi_listK K (pv 5)) (pg_tupK K (n := 3) rfl (pgs_cons (pg_name (i := 8) sc_hand_over.nd rfl (.inl rfl)) (pgs_cons (pg_name (i := 9) sc_hand_over.nd rfl (.inl rfl)) (pgs_cons (pg_name (i := 10) sc_hand_over.nd rfl (.inr rfl)) pgs_nil)))) (pss_cons (ps_set (i := 11) sc_hand_over.nd rfl (.inl rfl) (pe_callTy (tuple_K K) (by rfl) T.z_tuple (by decide +kernel) (pa_cons (pe_lc (own := [("number", 14)]) (by rfl) sc_hand_over.nd (pi_tupK K (pv 4)) (blkOk_by (own := [("number", 14)]) (N := N_hand_over) (sc := defScope s_hand_over) (by decide +kernel)) (fun _ _ _ _ _ => (pg_name (i := 14) sc_hand_over.nd rfl (.inl rfl))) (fun _ _ _ _ _ => pts_nil) (fun _ _ _ _ _ => (pe_op op_fdiv (pe_op op_mul (pv 14) (pv 10)) (pv 6)))) pa_nil)))
      (pss_cons (ps_asg (pe_call (ok_added T (k := k)) hr (by rfl) T.g_added T.F_added.kp T.b_added .nil pass0 (pa_cons (pe_ix (ix_listK K) (pe_ix (ix_listK K) (pv 0) (pv 8) (fun _ _ => rfl)) (pv 9) (fun _ _ => rfl)) (pa_cons (pv 11) pa_nil))) (pg_sub (pe_ix (ix_listK K) (pv 0) (pv 8) (fun _ _ => rfl)) (pv 9) set_list))
      (pss_one (ps_set (i := 7) sc_hand_over.nd rfl (.inl rfl) (pe_call (ok_lessened T (k := k)) hr (by rfl) T.g_lessened T.F_lessened.kp T.b_lessened .nil pass0 (pa_cons (pv 7) (pa_cons (pv 11) pa_nil))))))))
      (pss_cons (ps_asg (pe_ix (ix_listK K) (pv 5) pe_int (fun _ _ => rfl)) (pg_tupK K (n := 3) rfl (pgs_cons (pg_name (i := 8) sc_hand_over.nd rfl (.inl rfl)) (pgs_cons (pg_name (i := 9) sc_hand_over.nd rfl (.inl rfl)) (pgs_cons (pg_name (i := 10) sc_hand_over.nd rfl (.inr rfl)) pgs_nil)))))
      (pss_cons (ps_asg (pe_call (ok_added T (k := k)) hr (by rfl) T.g_added T.F_added.kp T.b_added .nil pass0 (pa_cons (pe_ix (ix_listK K) (pe_ix (ix_listK K) (pv 0) (pv 8) (fun _ _ => rfl)) (pv 9) (fun _ _ => rfl)) (pa_cons (pv 7) pa_nil))) (pg_sub (pe_ix (ix_listK K) (pv 0) (pv 8) (fun _ _ => rfl)) (pv 9) set_list))
      (pss_one (ps_ret (pe_op op_repTT (pe_tup (pa_cons pe_int pa_nil)) (pe_callB (len_K K) (by rfl) T.z_len PySem.boot_len (pa_cons (pv 4) pa_nil))))))))))))), ?_⟩
    have dp0 := dp
    obtain ⟨qa, rfl, nqa, eqa⟩ := dp.col
    obtain ⟨ra, vs, v, fr, era, lvs, fv, dv, _⟩ := hG.at hR rh cw
    obtain ⟨gv, gl⟩ := rect_get hR rh cw
    have fr' : (ras.map V.ref)[r]? = some (.ref ra) := by rw [List.getElem?_map, fr]; rfl
    refine ⟨_, rfl, _, rfl, qa, _, 0, .int r, rfl, rfl, SqT.of eqa, rfl, wa, _, r, .ref ra, rfl, rfl, SqL.of hG.a, atI_nat fr', _, rfl, qa, _, 1, .int c, rfl, rfl, SqT.of eqa, rfl, ra, _, c, v, rfl, rfl, SqL.of era, atI_nat fv, _, rfl, wa :: ras ++ B, v, cv, getC W r c, col, rfl, dv, dc, hB, by omega, by omega, fun lv H1 s1 dl => ?_⟩
    obtain ⟨ra0, ys, _, f0, e0, l0, _⟩ := hG.at hR (r := 0) (c := c) (by omega) cw
    obtain ⟨rest, er⟩ : ∃ rest, ras = ra0 :: rest := by
      cases ras with
      | nil => simp at f0
      | cons x xs => exact ⟨xs, by rw [Option.some.inj (show some x = some ra0 from f0)]⟩
    have lr : rest.length + 1 = h := by
      have := hG.l
      rw [er] at this
      unfold gD at this
      rw [List.length_map, hR.1] at this
      simpa using this
    have ewa : H1 wa = some (.lst (.ref ra0 :: rest.map V.ref)) := by
      have := s1 _ _ hG.a
      rw [er] at this
      exact this
    refine ⟨_, rfl, _, rfl, _, rfl, wa :: ras ++ B, wa, ra0, sv, .ref qa, rest.map V.ref, ys, shs, r, c, sd, rfl, ewa, s1 _ _ e0, ds.s s1, dp0.s s1, hB.go (Go.of (B := []) s1), sl, d1, d2, fun tv H2 s2 dt => ?_⟩
    rw [List.length_map, lr, l0] at dt
    have tin := there_in (h := h) (w := w) (shs := shs) (r := r) (c := c) (sd := sd) sok
    have tl : (thereOf h w shs r c sd).length ≤ 100 := by
      unfold thereOf
      exact Nat.le_trans (List.length_filter_le _ _) (by simpa using sl)
    have shT : Sh (eP ((thereOf h w shs r c sd).map e3)) 2 := sh_eP (by simp; omega) fun x hx => by
      obtain ⟨e, _, rfl⟩ := List.mem_map.mp hx
      simp [e3]
    have t2 := s1.trans s2
    refine ⟨_, rfl, Nat.zero_le _, fun z hz => ⟨_, .list [], (dt.s (sm_new hz)).dP, .lst (SqL.of upd_same) .nil, shT.sh (by omega), rfl, _, rfl, ite2 (fun e => ?_) (fun e => ?_)⟩⟩
    · have te : thereOf h w shs r c sd = [] := by
        cases hc : thereOf h w shs r c sd with
        | nil => rfl
        | cons a b =>
          rw [hc] at e
          exact absurd e (by simp [eP, PyData.eqv, PyData.eqvAll])
      have t3 := s2.trans (sm_new (o := .lst []) hz)
      have eh : handW h w W shs r c sd col = (W, leC (getC W r c) col) := by unfold handW; rw [te]
      exact ⟨_, rfl, q _ _ (Go.of (s1.trans t3)) (by rw [eh]; exact hG.s (s1.trans t3)) (by rw [eh]; exact dl.s t3)⟩
    have s3 := sm_new (o := .lst []) hz
    generalize upd H2 z (.lst []) = H3 at *
    have t3 := t2.trans s3
    obtain ⟨e1, es, te⟩ : ∃ e1 es, thereOf h w shs r c sd = e1 :: es := by
      cases hc : thereOf h w shs r c sd with
      | nil =>
        rw [hc] at e
        exact absurd (show PyData.eqv (eP (List.map e3 [])) (.list []) = true by simp [eP, PyData.eqv, PyData.eqvAll]) e
      | cons a b => exact ⟨a, b, rfl⟩
    have eh : handW h w W shs r c sd col = (let z := (e1 :: es).foldl (hStep (leC (getC W r c) col) (total3 shs)) (W, leC (getC W r c) col)
      (putC z.1 e1.1.toNat e1.2.1.toNat (adC (getC z.1 e1.1.toNat e1.2.1.toNat) z.2), List.replicate (leC (getC W r c) col).length 0)) := by unfold handW; rw [te]
    rw [te] at dt tin tl shT
    have sne : shs ≠ [] := fun z => by
      rw [z] at te
      simp [thereOf] at te
    obtain ⟨tt0, tt1, tt2⟩ := tot_in sok
    have tt1 := tt1 sne
    obtain ⟨sa, svs, rfl, nsa, esa, hS⟩ := ds.pal
    have lsv := hS.len
    rw [List.length_map, List.length_map] at lsv
    have esa3 := t3 _ _ esa
    refine ⟨_, rfl, sa, rfl, ⟨_, SqL.of esa3⟩, fun D hD => ?_⟩
    refine lc_pure (σ := [some (.ref wa), some (.ref sa), some (.ref qa), some cv, some lv, some tv, none, none, none, none, none, none, none, none, none]) (B := []) (walk_list (xs := svs)) hD (fun _ h => nomatch h) (fun H' s' => SqL.of (s' _ _ esa3)) (by omega)
      (fun j => ((shs.map fun s => s.2.2).map PyData.int)[j]?) (fun j x H' H'' Ny Nn hj t1 bk y ky kn => ?_) (fun H4 ws s4 eD hW => ?_)
    · obtain ⟨rfl, y⟩ := y
      have hj2 : j < shs.length := by omega
      obtain ⟨d, f1, g1⟩ := (hS.s t3).getV y
      rw [List.getElem?_map, List.getElem?_map, List.getElem?_eq_getElem hj2] at f1
      have ed : d = eC (e3 shs[j]) := (Option.some.inj f1).symm
      subst ed
      have hm : ((shs.map fun s => s.2.2).map PyData.int)[j]? = some (PyData.int shs[j].2.2) := by rw [List.getElem?_map, List.getElem?_map, List.getElem?_eq_getElem hj2]; rfl
      generalize shs[j] = sj at *
      obtain ⟨a1, a2, a3⟩ := sj
      obtain ⟨xa, rfl, nxa, exa⟩ := (g1.s t1).col
      change _ = some (HO.tup [V.int a1, V.int a2, V.int a3]) at exa
      refine ⟨xa, [.int a1, .int a2, .int a3], rfl, SqT.of exa, rfl, .int a1, [.int a2, .int a3], rfl, .int a2, [.int a3], rfl, .int a3, [], rfl, rfl, rfl, lc_yes ⟨_, rfl, ?_⟩⟩
      exact ky _ _ _ hm (Same.refl _) (.int _)
    rw [fm_all (by simp; omega)] at hW
    have ew := hW.intsV
    subst ew
    refine ⟨D, _, rfl, SqL.of eD, ?_⟩
    refine ⟨_, rfl, ?_⟩
    have t4 := t3.trans s4
    obtain ⟨ta, tvs, rfl, nta, eta, hT⟩ := dt.pal
    have lt := hT.len
    rw [List.length_map, List.length_map] at lt
    have u24 := s3.trans s4
    have eta4 := u24 _ _ eta
    have hT4 := hT.s u24
    have dl4 := (dl.s s2).s u24
    obtain ⟨la, rfl, nla, ela⟩ := dl4.col
    have ll : (leC (getC W r c) col).length = n := by rw [leC_len (by omega)]; exact cl
    have hG4 := hG.s t4
    have B4 := hB.go (Go.of (B := []) t4)
    refine ⟨_, rfl, ta, rfl, ⟨_, SqL.of eta4⟩, for_it (walk_list (xs := tvs)) (fun i σ H' => ∃ y8 y9 y10 y11 y12 y13 y14 rv, σ = [some (.ref wa), some (.ref sa), some (.ref qa), some cv, some (.ref la), some (.ref ta), some (.int (total3 shs)), some rv, y8, y9, y10, y11, y12, y13, y14] ∧ Go ras H4 H' ∧ Gr B H' wa ras (gD (((e1 :: es).take i).foldl (hStep (leC (getC W r c) col) (total3 shs)) (W, leC (getC W r c) col)).1) ∧ Dt (wa :: ras ++ B) H' rv (eC (((e1 :: es).take i).foldl (hStep (leC (getC W r c) col) (total3 shs)) (W, leC (getC W r c) col)).2) ∧ Rect h w n (((e1 :: es).take i).foldl (hStep (leC (getC W r c) col) (total3 shs)) (W, leC (getC W r c) col)).1 ∧ (((e1 :: es).take i).foldl (hStep (leC (getC W r c) col) (total3 shs)) (W, leC (getC W r c) col)).2.length = n)
      ⟨_, _, _, _, _, _, _, _, rfl, Go.refl, hG4, dl4, hR, ll⟩ (fun i σ H' _ h => ?_) (fun i x σ H5 H6 hi h y => ?_) (fun σ H5 h => ?_)⟩
    · obtain ⟨y8, y9, y10, y11, y12, y13, y14, rv, rfl, g5, _⟩ := h
      exact SqL.of (g5.k ta _ (fun z => nta (by simp [z])) eta4)
    · obtain ⟨y8, y9, y10, y11, y12, y13, y14, rv, rfl, g5, hG5, dr, hR5, lr5⟩ := h
      obtain ⟨rfl, y⟩ := y
      have gX : Go (wa :: ras ++ B) H4 H6 := g5.w fun a ha => by simp [ha]
      have hi2 : i < (e1 :: es).length := by omega
      obtain ⟨d, f1, g1⟩ := (hT4.g gX).getV y
      rw [List.getElem?_map, List.getElem?_map, List.getElem?_eq_getElem hi2] at f1
      have ed : d = eC (e3 (e1 :: es)[i]) := (Option.some.inj f1).symm
      subst ed
      have ti := tin _ (List.getElem_mem hi2)
      have hz1 : ((e1 :: es).take (i + 1)).foldl (hStep (leC (getC W r c) col) (total3 shs)) (W, leC (getC W r c) col) = hStep (leC (getC W r c) col) (total3 shs) (((e1 :: es).take i).foldl (hStep (leC (getC W r c) col) (total3 shs)) (W, leC (getC W r c) col)) (e1 :: es)[i] := by
        rw [List.take_add_one, List.getElem?_eq_getElem hi2, List.foldl_append]
        rfl
      rw [hz1]
      clear hz1
      generalize ((e1 :: es).take i).foldl (hStep (leC (getC W r c) col) (total3 shs)) (W, leC (getC W r c) col) = z at *
      generalize (e1 :: es)[i] = sj at *
      obtain ⟨a1, a2, a3⟩ := sj
      obtain ⟨i1, i2, i3, i4, i5, i6⟩ := ti
      simp only at i1 i2 i3 i4 i5 i6
      obtain ⟨xa, rfl, nxa, exa⟩ := g1.col
      change _ = some (HO.tup [V.int a1, V.int a2, V.int a3]) at exa
      have ela6 := gX.k la _ nla ela
      have B6 := B4.go gX
      refine ⟨xa, [.int a1, .int a2, .int a3], rfl, SqT.of exa, rfl, .int a1, [.int a2, .int a3], rfl, .int a2, [.int a3], rfl, .int a3, [], rfl, rfl, ?_⟩
      generalize hL : leC (getC W r c) col = left at *
      refine ⟨_, rfl, la, rfl, ⟨_, SqT.of ela6⟩, fun D2 hD2 => ?_⟩
      refine lc_pure (B := []) (walk_tup (xs := left.map V.int)) hD2 (fun _ h => nomatch h) (fun H' s' => SqT.of (s' _ _ ela6)) (by simp; omega)
        (fun j => ((hdC left a3 (total3 shs)).map PyData.int)[j]?) (fun j x H' H'' Ny Nn hj t1 bk y ky kn => ?_) (fun H7 ws7 s7 eD7 hW7 => ?_)
      · obtain ⟨rfl, y⟩ := y
        rw [List.length_map] at hj
        have ex := mat hj y
        subst ex
        refine ⟨rfl, lc_yes ⟨_, rfl, _, rfl, _, _, rfl, rfl, .inr ⟨by omega, by omega⟩, _, rfl, _, _, rfl, rfl, ⟨tt1, by omega⟩, ?_⟩⟩
        exact ky _ _ _ (by unfold hdC; rw [List.getElem?_map, List.getElem?_map, List.getElem?_eq_getElem hj]; rfl) (Same.refl _) (.int _)
      rw [fm_all (by simp [hdC])] at hW7
      have ew7 := hW7.intsV
      subst ew7
      refine ⟨D2, _, rfl, .inl ⟨SqL.of eD7, fun t ht => ?_⟩⟩
      have s8 := s7.trans (sm_new (o := .tup ((hdC left a3 (total3 shs)).map V.int)) ht)
      have dh : Dt (wa :: ras ++ B) (upd H7 t (.tup ((hdC left a3 (total3 shs)).map V.int))) (.ref t) (eC (hdC left a3 (total3 shs))) := Dt.ofCol ((B6.go (Go.of (B := []) s7)).ne ht) upd_same
      generalize upd H7 t (.tup ((hdC left a3 (total3 shs)).map V.int)) = H8 at *
      have hdl : (hdC left a3 (total3 shs)).length = n := by unfold hdC; rw [List.length_map]; exact ll
      have hG8 := hG5.s s8
      have dr8 := dr.s s8
      have B8 := B6.go (Go.of (B := []) s8)
      have ra1 : a1.toNat < h := by omega
      have ca1 : a2.toNat < w := by omega
      obtain ⟨rb, us, v2, fb, eb, lb, fv2, dv2, put2⟩ := hG8.at hR5 ra1 ca1
      obtain ⟨gv2, gl2⟩ := rect_get hR5 ra1 ca1
      have fb' : (ras.map V.ref)[a1.toNat]? = some (.ref rb) := by rw [List.getElem?_map, fb]; rfl
      refine ⟨_, rfl, _, rfl, wa, _, _, .ref rb, rfl, rfl, SqL.of hG8.a, at0 i1 fb', _, rfl, rb, _, _, v2, rfl, rfl, SqL.of eb, at0 i3 fv2, _, rfl, wa :: ras ++ B, v2, .ref t, _, _, rfl, dv2, dh, B8, by omega, by omega, fun nv H9 s9 dn => ?_⟩
      obtain ⟨rb', us', v2', fb2, eb', lb', _, _, put9⟩ := (hG8.s s9).at hR5 ra1 ca1
      rw [fb] at fb2
      cases fb2
      have mrb : rb ∈ ras := List.mem_of_getElem? fb
      refine ⟨_, rfl, _, rfl, wa, _, _, .ref rb, rfl, rfl, SqL.of (hG8.s s9).a, at0 i1 fb', _, rfl, rb, _, _, a2.toNat, rfl, rfl, eb', ixN0 i3 (by omega), ?_⟩
      have hG10 := put9 nv _ dn
      have gm : Go (wa :: ras ++ B) H9 (upd H9 rb (.lst (us'.set a2.toNat nv))) := Go.refl.at (by simp [mrb])
      have g10 : Go ras H4 (upd H9 rb (.lst (us'.set a2.toNat nv))) := (g5.trans (Go.of (s8.trans s9))).trans (Go.refl.at mrb)
      have dr10 := (dr8.s s9).g gm
      have dh10 := (dh.s s9).g gm
      have B10 := (B8.go (Go.of (B := []) s9)).go gm
      generalize upd H9 rb (.lst (us'.set a2.toNat nv)) = H10 at *
      refine ⟨_, rfl, _, rfl, wa :: ras ++ B, rv, .ref t, _, _, rfl, dr10, dh10, B10, by omega, by omega, fun nr H11 s11 dnr => ?_⟩
      refine ⟨_, _, _, _, _, _, _, nr, rfl, g10.trans (Go.of s11), hG10.s s11, dnr, rect_put (v := adC (getC z.1 a1.toNat a2.toNat) (hdC left a3 (total3 shs))) hR5 ra1 ((adC_len (gl2.trans hdl.symm)).trans hdl), ?_⟩
      show (leC z.2 (hdC left a3 (total3 shs))).length = n
      rw [leC_len (by omega)]
      exact hdl
    · obtain ⟨y8, y9, y10, y11, y12, y13, y14, rv, rfl, g5, hG5, dr, hR5, lr5⟩ := h
      rw [lt, List.take_length] at hG5 dr hR5 lr5
      generalize hz : (e1 :: es).foldl (hStep (leC (getC W r c) col) (total3 shs)) (W, leC (getC W r c) col) = z at *
      have gX : Go (wa :: ras ++ B) H4 H5 := g5.w fun a ha => by simp [ha]
      have ti := tin e1 (List.mem_cons_self ..)
      have nta' : ta ∉ ras := fun z => nta (by simp [z])
      obtain ⟨x1, f1, g1⟩ := (hT4.g gX).get (i := 0) (d := eC (e3 e1)) rfl
      obtain ⟨a1, a2, a3⟩ := e1
      obtain ⟨i1, i2, i3, i4, i5, i6⟩ := ti
      simp only at i1 i2 i3 i4 i5 i6
      obtain ⟨xa, rfl, nxa, exa⟩ := g1.col
      change _ = some (HO.tup [V.int a1, V.int a2, V.int a3]) at exa
      refine ⟨_, rfl, ta, _, 0, .ref xa, rfl, rfl, SqL.of (g5.k ta _ nta' eta4), atI_nat (j := 0) f1, xa, [.int a1, .int a2, .int a3], rfl, SqT.of exa, rfl, .int a1, [.int a2, .int a3], rfl, .int a2, [.int a3], rfl, .int a3, [], rfl, rfl, ?_⟩
      have B5 := B4.go gX
      have ra1 : a1.toNat < h := by omega
      have ca1 : a2.toNat < w := by omega
      obtain ⟨rb, us, v2, fb, eb, lb, fv2, dv2, put2⟩ := hG5.at hR5 ra1 ca1
      obtain ⟨gv2, gl2⟩ := rect_get hR5 ra1 ca1
      have fb' : (ras.map V.ref)[a1.toNat]? = some (.ref rb) := by rw [List.getElem?_map, fb]; rfl
      refine ⟨_, rfl, _, rfl, wa, _, _, .ref rb, rfl, rfl, SqL.of hG5.a, at0 i1 fb', _, rfl, rb, _, _, v2, rfl, rfl, SqL.of eb, at0 i3 fv2, _, rfl, wa :: ras ++ B, v2, rv, _, _, rfl, dv2, dr, B5, by omega, by omega, fun nv H9 s9 dn => ?_⟩
      obtain ⟨rb', us', v2', fb2, eb', lb', _, _, put9⟩ := (hG5.s s9).at hR5 ra1 ca1
      rw [fb] at fb2
      cases fb2
      have mrb : rb ∈ ras := List.mem_of_getElem? fb
      refine ⟨_, rfl, _, rfl, wa, _, _, .ref rb, rfl, rfl, SqL.of (hG5.s s9).a, at0 i1 fb', _, rfl, rb, _, _, a2.toNat, rfl, rfl, eb', ixN0 i3 (by omega), ?_⟩
      have hG10 := put9 nv _ dn
      have g10 : Go ras H4 (upd H9 rb (.lst (us'.set a2.toNat nv))) := (g5.trans (Go.of s9)).trans (Go.refl.at mrb)
      generalize upd H9 rb (.lst (us'.set a2.toNat nv)) = H10 at *
      have gX10 : Go (wa :: ras ++ B) H4 H10 := g10.w fun a ha => by simp [ha]
      have B10 := B4.go gX10
      refine ⟨(by show 1 ≤ sizeLine; decide), fun p hp => ?_⟩
      have s11 := sm_new (o := .tup [.int 0]) hp
      have e11 : (upd H10 p (.tup [.int 0])) p = some (.tup [.int 0]) := upd_same
      have np := B10.ne hp
      generalize upd H10 p (.tup [.int 0]) = H11 at *
      have ela11 := s11 _ _ (gX10.k la _ nla ela)
      have gHf : Go ras H H11 := ((Go.of t4).trans g10).trans (Go.of s11)
      refine ⟨_, rfl, la, _, rfl, .inr (SqT.of ela11), p, _, [.int 0], rfl, rfl, SqT.of e11, by simp, ?_, ?_, by simp, fun k1 => ?_, fun k2 p2 hp2 => ?_⟩
      · rw [List.length_map, ll]; omega
      · rw [List.length_map, ll]; omega
      · rw [List.length_map, ll] at k1
        refine q _ _ gHf (by rw [eh]; exact hG10.s s11) ?_
        rw [eh, ll, show n = 1 by omega]
        exact Dt.ofCol np e11
      · rw [List.length_map, ll] at *
        have s12 := sm_new (o := .tup (List.replicate (((n : Nat) : Int).toNat) [V.int 0]).flatten) hp2
        refine q _ _ (gHf.trans (Go.of s12)) (by rw [eh]; exact (hG10.s s11).s s12) ?_
        rw [eh, ll]
        refine Dt.ofCol ((B10.go (Go.of (B := []) s11)).ne hp2) ?_
        rw [upd_same, Int.toNat_natCast, List.flatten_replicate_singleton, List.map_replicate]
/-! ### what is wanted -/
theorem rect_fold {h w n : Nat} {left : List Int} {t : Int} (ll : left.length = n) : ∀ (es : List (Int × Int × Int)) (z : List (List (List Int)) × List Int), (∀ e ∈ es, 0 ≤ e.1 ∧ e.1 < h ∧ 0 ≤ e.2.1 ∧ e.2.1 < w ∧ 0 < e.2.2 ∧ e.2.2 ≤ 1000) → Rect h w n z.1 → z.2.length = n → Rect h w n (es.foldl (hStep left t) z).1 ∧ (es.foldl (hStep left t) z).2.length = n
  | [], z, _, h1, h2 => ⟨h1, h2⟩
  | e :: es, z, he, h1, h2 => by
    have o := he e (List.mem_cons_self ..)
    have hdl : (hdC left e.2.2 t).length = n := by unfold hdC; rw [List.length_map]; exact ll
    have g := rect_get h1 (r := e.1.toNat) (c := e.2.1.toNat) (by omega) (by omega)
    refine rect_fold ll es _ (fun x hx => he x (List.mem_cons_of_mem _ hx)) ?_ ?_
    · exact rect_put h1 (by omega) ((adC_len (g.2.trans hdl.symm)).trans hdl)
    · exact (leC_len (h2.trans hdl.symm)).trans hdl
theorem rect_hand {h w n : Nat} {W : List (List (List Int))} {shs : List (Int × Int × Int)} {r c : Nat} {sd : Int} {col : List Int} (hR : Rect h w n W) (hr : r < h) (hc : c < w) (cl : col.length = n) (sok : ∀ s ∈ shs, 0 ≤ s.2.1 ∧ 0 < s.2.2 ∧ s.2.2 ≤ 1000) :
    Rect h w n (handW h w W shs r c sd col).1 ∧ (handW h w W shs r c sd col).2.length = n := by
  have gl := (rect_get hR hr hc).2
  have ll : (leC (getC W r c) col).length = n := by rw [leC_len (by omega)]; exact cl
  have tin := there_in (h := h) (w := w) (shs := shs) (r := r) (c := c) (sd := sd) sok
  unfold handW
  split
  · exact ⟨hR, ll⟩
  · rename_i e es te
    rw [te] at tin
    obtain ⟨h1, h2⟩ := rect_fold (t := total3 shs) ll (e :: es) (W, leC (getC W r c) col) tin hR ll
    have o := tin e (List.mem_cons_self ..)
    have g := rect_get h1 (r := e.1.toNat) (c := e.2.1.toNat) (by omega) (by omega)
    refine ⟨rect_put h1 (by omega) ((adC_len (g.2.trans h2.symm)).trans h2), ?_⟩
    show (List.replicate _ _).length = n
    rw [List.length_replicate]
    exact ll
theorem spots_in {h w n : Nat} {ps : List (List (List Int))} (hR : Rect h w n ps) (t : Bool) : ∀ m, m ≤ h → ∀ s ∈ spotsOf t ps m, ∃ (r c : Nat) (sd : Int), s = [(r : Int), (c : Int), sd] ∧ r < h ∧ c < w ∧ -1 ≤ sd ∧ sd ≤ 1
  | 0, _, s, hs => by simp [spotsOf] at hs
  | m + 1, hm, s, hs => by
    rw [spots_succ] at hs
    rcases List.mem_append.mp hs with y | y
    · exact spots_in hR t m (by omega) s y
    · rw [(rect_row hR (r := m) (by omega)).2.1] at y
      unfold spRow at y
      split at y
      · obtain ⟨c, hc, rfl⟩ := List.mem_map.mp y
        have := List.mem_range.mp hc
        exact ⟨m, w - 1 - c, -1, rfl, by omega, by omega, by omega, by omega⟩
      · obtain ⟨c, hc, rfl⟩ := List.mem_map.mp y
        have := List.mem_range.mp hc
        exact ⟨m, c, 1, rfl, by omega, by omega, by omega, by omega⟩
theorem DtA.frs {B : List Addr} {H : Hp} {vs : List V} {ds : List PyData} (h : DtA B H vs ds) : ∀ rs : List Addr, (∀ r ∈ rs, H r = none) → DtA (rs ++ B) H vs ds
  | [], _ => h
  | r :: rs, hr => (DtA.frs h rs fun x hx => hr x (List.mem_cons_of_mem _ hx)).fr (hr r (List.mem_cons_self ..))
theorem Dt.frs {B : List Addr} {H : Hp} {v : V} {d : PyData} (h : Dt B H v d) : ∀ rs : List Addr, (∀ r ∈ rs, H r = none) → Dt (rs ++ B) H v d
  | [], _ => h
  | r :: rs, hr => (Dt.frs h rs fun x hx => hr x (List.mem_cons_of_mem _ hx)).fr (hr r (List.mem_cons_self ..))
theorem rng_getD {α β : Type} (l : List α) (d : α) (f : α → β) : (List.range l.length).map (fun i => f (l.getD i d)) = l.map f := by
  refine List.ext_getElem (by simp) fun i h1 h2 => ?_
  have hi : i < l.length := by simpa using h2
  simp [List.getD_eq_getElem?_getD, List.getElem?_eq_getElem hi]
theorem Rws.gr {B : List Addr} {H H' : Hp} {D : Addr} {rs : List Addr} {dss : List (List PyData)} (R : Rws B H H' D rs dss) (s : Same H H') (e : H' D = some (.lst (rs.map V.ref))) (hD : H D = none) (hB : Bk B H) : Gr B H' D rs dss := by
  refine ⟨e, hB.ne hD, List.nodup_cons.mpr ⟨R.nD, R.nd⟩, fun r hr => hB.ne (R.fr r hr), R.len, fun i ra ds h1 h2 => ?_⟩
  obtain ⟨ws, e1, d1⟩ := R.row i ra ds h1 h2
  refine ⟨ws, e1, ?_⟩
  have := d1.frs (D :: rs) fun r hr => by
    rcases List.mem_cons.mp hr with z | z
    · rw [z]; exact hD
    · exact R.fr r z
  exact this.s s
theorem Gr.bk {B : List Addr} {H : Hp} {wa : Addr} {ras : List Addr} {W : List (List PyData)} (g : Gr B H wa ras W) (hB : Bk B H) : Bk (wa :: ras ++ B) H := fun a ha => by
  rcases List.mem_append.mp ha with z | z
  · rcases List.mem_cons.mp z with y | y
    · rw [y, g.a]; exact fun h => nomatch h
    · obtain ⟨i, hi⟩ := List.mem_iff_getElem?.mp y
      have hl : i < W.length := by
        rw [← g.l]
        exact (List.getElem?_eq_some_iff.mp hi).1
      obtain ⟨vs, e, _⟩ := g.r i a _ hi (List.getElem?_eq_getElem hl)
      rw [e]
      exact fun h => nomatch h
  · exact hB a z
def sR (s : List Int) : Nat := (s.getD 0 0).toNat
def sC (s : List Int) : Nat := (s.getD 1 0).toNat
def sS (s : List Int) : Int := s.getD 2 0
def wantStep (h w : Nat) (shs : List (Int × Int × Int)) (cs : List (List Int)) (ns : List (List Int)) (W : List (List (List Int))) (s : List Int) : List (List (List Int)) :=
  (handW h w W shs (sR s) (sC s) (sS s) (cs.getD ((ns.getD (sR s) []).getD (sC s) 0).toNat [])).1
def wantW (h w : Nat) (t : Bool) (ps : List (List (List Int))) (shs : List (Int × Int × Int)) (cs : List (List Int)) (ns : List (List Int)) : List (List (List Int)) := (spotsOf t ps ps.length).foldl (wantStep h w shs cs ns) ps
def spWant : Sp := fun vs H Q _ => ∃ (B : List Addr) (gv plv sv nv : V) (ps : List (List (List Int))) (cs : List (List Int)) (shs : List (Int × Int × Int)) (ns : List (List Int)) (h w n : Nat) (t : Bool), vs = [gv, plv, sv, .str (if t = true then "turned" else "same"), nv] ∧ Dt B H gv (eG ps) ∧ Dt B H plv (eP cs) ∧ Dt B H sv (eP (shs.map e3)) ∧ Dt B H nv (eN ns) ∧ Bk B H ∧ Rect h w n ps ∧ 0 < h ∧ h ≤ 100 ∧ 0 < w ∧ w ≤ 100 ∧ 0 < n ∧ n ≤ 100 ∧
  (∀ c ∈ cs, c.length = n) ∧ ns.length = h ∧ (∀ r ∈ ns, r.length = w ∧ ∀ x ∈ r, 0 ≤ x ∧ x < (cs.length : Int)) ∧ shs.length ≤ 100 ∧ (∀ s ∈ shs, 0 ≤ s.2.1 ∧ 0 < s.2.2 ∧ s.2.2 ≤ 1000) ∧
  ∀ wa ras H', Same H H' → H wa = none → (∀ r ∈ ras, H r = none) → Gr B H' wa ras (gD (wantW h w t ps shs cs ns)) → Rect h w n (wantW h w t ps shs cs ns) → Q (.ref wa) H'
set_option maxHeartbeats 2000000 in
theorem ok_wanted_by (T : Tx K mg) {k : Nat} : FnOk P w K mg base CX0 (k + 3) T.f_wanted_by T.d_wanted_by ["picture", "palette", "shares", "way", "numbers"] spWant := by
  refine T.F_wanted_by.ok sc_wanted_by (fun vs H Q E h => ?_) (fun cdv A outer s H vs Q E hr h => ?_)
  · obtain ⟨B, gv, plv, sv, nv, ps, cs, shs, ns, h, w, n, t, rfl, _⟩ := h
    rfl
  · obtain ⟨B, gv, plv, sv, nv, ps, cs, shs, ns, h, w, n, t, rfl, dg, dpl, ds, dn, hB, hR, h0, h1, w0, w1, n0, n1, cl, nl, nok, sl, sok, q⟩ := h
    refine ⟨_, (pss_cons (ps_setLc (i := 5) (own := [("row", 7)]) (by rfl) sc_wanted_by.nd rfl rfl (sw_true rfl rfl rfl (by decide +kernel)) (pi_listK K (pv 0)) (blkOk_by (own := [("row", 7)]) (N := N_wanted_by) (sc := defScope s_wanted_by) (by decide +kernel)) (fun _ _ _ _ _ => (pg_name (i := 7) sc_wanted_by.nd rfl (.inl rfl))) (fun _ _ _ _ _ => pts_nil) (fun _ _ _ _ _ => (pe_callTy (list_K K) (by rfl) T.z_list (by decide +kernel) (pa_cons (pv 7) pa_nil))))
      (pss_cons (ps_for PassesOwn.never rfl (pi_listK K (pe_call (ok_spots_in_order T (k := k + 1)) hr (by rfl) T.g_spots_in_order T.F_spots_in_order.kp T.b_spots_in_order .nil pass0 (pa_cons (pv 0) (pa_cons (pv 3) pa_nil)))) (pg_name (i := 6) sc_wanted_by.nd rfl (.inl rfl)) (pss_one (ps_expr (pe_call (ok_hand_over T (k := k)) hr (by rfl) T.g_hand_over T.F_hand_over.kp T.b_hand_over .nil pass0 (pa_cons (pv 5) (pa_cons (pv 2) (pa_cons (pv 6) (pa_cons (pe_ix (ix_listK K) (pv 1) (pe_ix (ix_listK K) (pe_ix (ix_listK K) (pv 4) (pe_ix (ix_tupK K) (pv 6) pe_int (fun _ _ => rfl)) (fun _ _ => rfl)) (pe_ix (ix_tupK K) (pv 6) pe_int (fun _ _ => rfl)) (fun _ _ => rfl)) (fun _ _ => rfl)) pa_nil))))))))
      (pss_one (ps_ret (pv 5))))), ?_⟩
    obtain ⟨ga, gvs, rfl, nga, ega, hGv⟩ := dg.lst2
    have lg := hGv.len
    rw [List.length_map] at lg
    refine ⟨_, rfl, ga, rfl, ⟨_, SqL.of ega⟩, fun D hD => ?_⟩
    refine lc_rows (walk_list (xs := gvs)) B hD (fun H' s' => SqL.of (s' _ _ ega)) (by have := hR.1; omega) (fun i => (ps.getD i []).map eC) (fun j x H' H'' Ny Nn hj t1 y ky => ?_) (fun H1 rs s1 eD hRw => ?_)
    · obtain ⟨rfl, y⟩ := y
      have hj2 : j < ps.length := by omega
      obtain ⟨d, f1, g1⟩ := hGv.getV y
      rw [List.getElem?_map, List.getElem?_eq_getElem hj2] at f1
      have ed : d = eP ps[j] := (Option.some.inj f1).symm
      subst ed
      obtain ⟨xa, xvs, rfl, nxa, exa, hX⟩ := g1.pal
      refine ⟨rfl, lc_yes ⟨_, rfl, xa, _, rfl, .inl (SqL.of (t1 _ _ exa)), fun l hl => ?_⟩⟩
      exact ky l xvs _ (sm_new hl) hl upd_same (by rw [List.getD_eq_getElem?_getD, List.getElem?_eq_getElem hj2]; exact hX)
    rw [lg, rng_getD ps [] (fun p => p.map eC)] at hRw
    have hG1 : Gr B H1 D rs (gD ps) := hRw.gr s1 eD hD hB
    have frs : ∀ r ∈ D :: rs, H r = none := fun r hr => by
      rcases List.mem_cons.mp hr with z | z
      · rw [z]; exact hD
      · exact hRw.fr r z
    have B1 := hG1.bk (hB.go (Go.of (B := []) s1))
    have dg1 := (dg.frs (D :: rs) frs).s s1
    have ds1 := (ds.frs (D :: rs) frs).s s1
    have dpl1 := (dpl.frs (D :: rs) frs).s s1
    have dn1 := (dn.frs (D :: rs) frs).s s1
    refine ⟨_, rfl, _, rfl, D :: rs ++ B, .ref ga, ps, t, rfl, dg1, B1, by have := hR.1; omega, fun p hp => by have := (hR.2 p hp).1; omega, fun spv H2 s2 dsp => ?_⟩
    obtain ⟨sa, svs, rfl, nsa, esa, hS⟩ := dsp.pal
    have lsv := hS.len
    rw [List.length_map] at lsv
    have hps : ps.length = h := hR.1
    have sin := spots_in hR t h (Nat.le_refl _)
    rw [hps] at hS lsv
    have sle : (spotsOf t ps h).length ≤ 10000 := by
      have := spots_le t ps (fun p hp => by have := (hR.2 p hp).1; omega) h
      omega
    have hG2 := hG1.s s2
    have B2 := B1.go (Go.of (B := []) s2)
    have ds2 := ds1.s s2
    obtain ⟨pla, plvs, rfl, npl, epl, hPl⟩ := (dpl1.s s2).pal
    obtain ⟨na, nvs, rfl, nna, ena, hN⟩ := (dn1.s s2).lst2
    have ew : wantW h w t ps shs cs ns = (spotsOf t ps h).foldl (wantStep h w shs cs ns) ps := by unfold wantW; rw [hps]
    refine ⟨sa, rfl, ⟨_, SqL.of esa⟩, for_it (walk_list (xs := svs)) (fun i σ H' => ∃ y6 y7, σ = [some (.ref ga), some (.ref pla), some sv, some (.str (if t = true then "turned" else "same")), some (.ref na), some (.ref D), y6, y7] ∧ Go rs H2 H' ∧ Gr B H' D rs (gD (((spotsOf t ps h).take i).foldl (wantStep h w shs cs ns) ps)) ∧ Rect h w n (((spotsOf t ps h).take i).foldl (wantStep h w shs cs ns) ps))
      ⟨_, _, rfl, Go.refl, hG2, hR⟩ (fun i σ H' _ h => ?_) (fun i x σ H5 H6 hi h y => ?_) (fun σ H5 h => ?_)⟩
    · obtain ⟨y6, y7, rfl, g5, _⟩ := h
      exact SqL.of (g5.k sa _ (fun z => nsa (by simp [z])) esa)
    · obtain ⟨y6, y7, rfl, g5, hG5, hR5⟩ := h
      obtain ⟨rfl, y⟩ := y
      have gX : Go (D :: rs ++ B) H2 H6 := g5.w fun a ha => by simp [ha]
      have hi2 : i < (spotsOf t ps h).length := by omega
      obtain ⟨d, f1, g1⟩ := (hS.g gX).getV y
      rw [List.getElem?_map, List.getElem?_eq_getElem hi2] at f1
      have ed : d = eC (spotsOf t ps h)[i] := (Option.some.inj f1).symm
      subst ed
      obtain ⟨r, c, sd, es, rh, cw, sd1, sd2⟩ := sin _ (List.getElem_mem hi2)
      have hz1 : ((spotsOf t ps h).take (i + 1)).foldl (wantStep h w shs cs ns) ps = wantStep h w shs cs ns (((spotsOf t ps h).take i).foldl (wantStep h w shs cs ns) ps) (spotsOf t ps h)[i] := by
        rw [List.take_add_one, List.getElem?_eq_getElem hi2, List.foldl_append]
        rfl
      rw [hz1]
      clear hz1
      generalize ((spotsOf t ps h).take i).foldl (wantStep h w shs cs ns) ps = W at *
      rw [es] at g1 ⊢
      have g10 := g1
      obtain ⟨xa, rfl, nxa, exa⟩ := g1.col
      change _ = some (HO.tup [V.int r, V.int c, V.int sd]) at exa
      have hrn : r < ns.length := by omega
      obtain ⟨lnr, bnr⟩ := nok _ (List.getElem_mem hrn)
      obtain ⟨rv, fr, dr⟩ := (hN.g gX).get (i := r) (d := eI ns[r]) (by rw [List.getElem?_map, List.getElem?_eq_getElem hrn]; rfl)
      have en : ns.getD r [] = ns[r] := by rw [List.getD_eq_getElem?_getD, List.getElem?_eq_getElem hrn]; rfl
      obtain ⟨nra, us, rfl, nnra, enra, hU⟩ := dr.lst2
      have eu := hU.intsV
      subst eu
      have hcn : c < ns[r].length := by omega
      obtain ⟨b1, b2⟩ := bnr _ (List.getElem_mem hcn)
      have ec : (ns.getD r []).getD c 0 = ns[r][c] := by rw [en, List.getD_eq_getElem?_getD, List.getElem?_eq_getElem hcn]; rfl
      have hst : wantStep h w shs cs ns W [(r : Int), (c : Int), sd] = (handW h w W shs r c sd (cs.getD (ns[r][c]).toNat [])).1 := by
        unfold wantStep
        show (handW h w W shs ((r : Int).toNat) ((c : Int).toNat) sd (cs.getD ((ns.getD (r : Int).toNat []).getD (c : Int).toNat 0).toNat [])).1 = _
        rw [Int.toNat_natCast, Int.toNat_natCast, ec]
      rw [hst]
      have fu : (ns[r].map V.int)[c]? = some (V.int ns[r][c]) := by rw [List.getElem?_map, List.getElem?_eq_getElem hcn]; rfl
      generalize ns[r][c] = num at *
      have hnc : num.toNat < cs.length := by omega
      obtain ⟨cv, fc, dc⟩ := (hPl.g gX).get (i := num.toNat) (d := eC cs[num.toNat]) (by rw [List.getElem?_map, List.getElem?_eq_getElem hnc]; rfl)
      have ecs : cs.getD num.toNat [] = cs[num.toNat] := by rw [List.getD_eq_getElem?_getD, List.getElem?_eq_getElem hnc]; rfl
      rw [ecs]
      have hcl := cl _ (List.getElem_mem hnc)
      have ena6 := gX.k na _ nna ena
      have epl6 := gX.k pla _ npl epl
      obtain ⟨rr, _⟩ := rect_hand (sd := sd) hR5 rh cw hcl sok
      refine ⟨_, rfl, _, rfl, _, rfl, _, rfl, _, rfl, _, rfl, xa, _, 0, .int r, rfl, rfl, SqT.of exa, rfl, na, _, r, .ref nra, rfl, rfl, SqL.of ena6, atI_nat fr, _, rfl, xa, _, 1, .int c, rfl, rfl, SqT.of exa, rfl, nra, _, c, .int num, rfl, rfl, SqL.of enra, atI_nat fu, pla, _, num, cv, rfl, rfl, SqL.of epl6, at0 b1 fc, ?_⟩
      refine ⟨B, D, rs, sv, .ref xa, cv, W, shs, h, w, n, r, c, sd, _, rfl, hG5, hR5, h1, w1, n0, n1, rh, cw, hcl, ds2.g gX, g10, dc, B2.go gX, sl, sok, sd1, sd2, fun v H7 g7 hG7 _ => ?_⟩
      exact ⟨_, _, rfl, g5.trans g7, hG7, rr⟩
    · obtain ⟨y6, y7, rfl, g5, hG5, hR5⟩ := h
      rw [lsv, List.take_length, ← ew] at hG5 hR5
      refine ⟨_, rfl, q D rs _ ?_ hD (fun r hr' => hRw.fr r hr') hG5 hR5⟩
      exact g5.sm (s1.trans s2) fun a ha => hRw.fr a ha
/-! ### how great what is wanted gets -/
def bC (M : Nat) (c : List Int) : Prop := ∀ x ∈ c, x.natAbs ≤ M
def bW (M : Nat) (W : List (List (List Int))) : Prop := ∀ p ∈ W, ∀ c ∈ p, bC M c
theorem bC.mono {M N : Nat} {c : List Int} (h : bC M c) (l : M ≤ N) : bC N c := fun x hx => Nat.le_trans (h x hx) l
theorem bW.mono {M N : Nat} {W : List (List (List Int))} (h : bW M W) (l : M ≤ N) : bW N W := fun p hp c hc => (h p hp c hc).mono l
theorem bC.add {M N : Nat} {a b : List Int} (h1 : bC M a) (h2 : bC N b) : bC (M + N) (adC a b) := fun x hx => by
  unfold adC at hx
  obtain ⟨p, hp, rfl⟩ := List.mem_map.mp hx
  have := h1 _ (List.of_mem_zip hp).1
  have := h2 _ (List.of_mem_zip hp).2
  omega
theorem bC.le {M N : Nat} {a b : List Int} (h1 : bC M a) (h2 : bC N b) : bC (M + N) (leC a b) := fun x hx => by
  unfold leC at hx
  obtain ⟨p, hp, rfl⟩ := List.mem_map.mp hx
  have := h1 _ (List.of_mem_zip hp).1
  have := h2 _ (List.of_mem_zip hp).2
  omega
theorem div_abs {x p t : Int} (p0 : 0 < p) (pt : p ≤ t) : (x * p / t).natAbs ≤ x.natAbs := by
  have t0 : 0 < t := by omega
  by_cases c : 0 ≤ x
  · have h1 : 0 ≤ x * p := Int.mul_nonneg c (by omega)
    have h2 : 0 ≤ x * p / t := Int.ediv_nonneg h1 (by omega)
    have h3 : x * p / t ≤ x := Int.ediv_le_of_le_mul t0 (Int.mul_le_mul_of_nonneg_left pt c)
    omega
  · have h1 : x * t ≤ x * p := Int.mul_le_mul_of_nonpos_left (by omega) pt
    have h2 : x ≤ x * p / t := Int.le_ediv_of_mul_le t0 h1
    have h3 : x * p ≤ 0 * t := by
      rw [Int.zero_mul]
      exact Int.mul_nonpos_of_nonpos_of_nonneg (by omega) (by omega)
    have h4 : x * p / t ≤ 0 := Int.ediv_le_of_le_mul t0 h3
    omega
theorem bC.hd {M : Nat} {c : List Int} {p t : Int} (h : bC M c) (p0 : 0 < p) (pt : p ≤ t) : bC M (hdC c p t) := fun x hx => by
  unfold hdC at hx
  obtain ⟨y, hy, rfl⟩ := List.mem_map.mp hx
  exact Nat.le_trans (div_abs p0 pt) (h y hy)
theorem bW.get {M : Nat} {W : List (List (List Int))} (h : bW M W) (r c : Nat) : bC M (getC W r c) := by
  unfold getC
  rw [List.getD_eq_getElem?_getD, List.getD_eq_getElem?_getD]
  cases e : W[r]? with
  | none => exact fun x hx => by simp at hx
  | some p =>
    simp only [Option.getD_some]
    cases e2 : p[c]? with
    | none => exact fun x hx => by simp at hx
    | some v => exact h p (List.mem_of_getElem? e) v (List.mem_of_getElem? e2)
theorem bW.put {M : Nat} {W : List (List (List Int))} (h : bW M W) {v : List Int} (hv : bC M v) (r c : Nat) : bW M (putC W r c v) := fun p hp x hx => by
  rcases List.mem_or_eq_of_mem_set hp with z | z
  · exact h p z x hx
  · rw [z] at hx
    rcases List.mem_or_eq_of_mem_set hx with y | y
    · rw [List.getD_eq_getElem?_getD] at y
      cases e : W[r]? with
      | none => rw [e] at y; simp at y
      | some q => rw [e] at y; exact h q (List.mem_of_getElem? e) x y
    · rw [y]; exact hv
theorem part_le {shs : List (Int × Int × Int)} (sok : ∀ s ∈ shs, 0 ≤ s.2.1 ∧ 0 < s.2.2 ∧ s.2.2 ≤ 1000) : ∀ s ∈ shs, s.2.2 ≤ total3 shs := by
  induction shs with
  | nil => exact fun _ h => nomatch h
  | cons a shs ih =>
    intro s hs
    have e : total3 (a :: shs) = a.2.2 + total3 shs := by unfold total3; rw [List.map_cons, List.sum_cons]
    have so : ∀ s ∈ shs, 0 ≤ s.2.1 ∧ 0 < s.2.2 ∧ s.2.2 ≤ 1000 := fun x hx => sok x (List.mem_cons_of_mem _ hx)
    have := (tot_in so).1
    have := sok a (List.mem_cons_self ..)
    rw [e]
    rcases List.mem_cons.mp hs with z | z
    · rw [z]; omega
    · have := ih so s z
      omega
theorem bnd_fold {L : Nat} {left : List Int} {t : Int} (hl : bC L left) : ∀ (es : List (Int × Int × Int)) (z : List (List (List Int)) × List Int) (M N : Nat), (∀ e ∈ es, 0 < e.2.2 ∧ e.2.2 ≤ t) → bW M z.1 → bC N z.2 → bW (M + L * es.length) (es.foldl (hStep left t) z).1 ∧ bC (N + L * es.length) (es.foldl (hStep left t) z).2
  | [], z, M, N, _, h1, h2 => ⟨h1, h2⟩
  | e :: es, z, M, N, he, h1, h2 => by
    have o := he e (List.mem_cons_self ..)
    have hd := hl.hd o.1 o.2
    have := bnd_fold hl es (hStep left t z e) (M + L) (N + L) (fun x hx => he x (List.mem_cons_of_mem _ hx)) ((h1.mono (Nat.le_add_right ..)).put ((h1.get _ _).add hd) _ _) (h2.le hd)
    have e1 : L * (e :: es).length = L + L * es.length := by rw [List.length_cons, Nat.mul_add, Nat.mul_one, Nat.add_comm]
    rw [e1, ← Nat.add_assoc, ← Nat.add_assoc]
    exact this
theorem bnd_hand {h w : Nat} {W : List (List (List Int))} {shs : List (Int × Int × Int)} {r c : Nat} {sd : Int} {col : List Int} {M : Nat} (sok : ∀ s ∈ shs, 0 ≤ s.2.1 ∧ 0 < s.2.2 ∧ s.2.2 ≤ 1000) (sl : shs.length ≤ 12) (hW : bW M W) (hc : bC M col) :
    bW (64 * M) (handW h w W shs r c sd col).1 ∧ bC (64 * M) (handW h w W shs r c sd col).2 := by
  have hl : bC (M + M) (leC (getC W r c) col) := (hW.get r c).le hc
  have tl : (thereOf h w shs r c sd).length ≤ 12 := by
    unfold thereOf
    exact Nat.le_trans (List.length_filter_le _ _) (by simpa using sl)
  have tin : ∀ e ∈ thereOf h w shs r c sd, 0 < e.2.2 ∧ e.2.2 ≤ total3 shs := fun e he => by
    unfold thereOf at he
    obtain ⟨m, _⟩ := List.mem_filter.mp he
    obtain ⟨s, hs, rfl⟩ := List.mem_map.mp m
    exact ⟨(sok s hs).2.1, part_le sok s hs⟩
  unfold handW
  split
  · exact ⟨hW.mono (by omega), hl.mono (by omega)⟩
  · rename_i e es te
    rw [te] at tin tl
    obtain ⟨h1, h2⟩ := bnd_fold hl (e :: es) (W, leC (getC W r c) col) M (M + M) tin hW hl
    have hm : (M + M) * (e :: es).length ≤ (M + M) * 12 := Nat.mul_le_mul_left _ tl
    have b1 := h1.mono (N := 25 * M) (by omega)
    have b2 := h2.mono (N := 26 * M) (by omega)
    refine ⟨(b1.mono (by omega)).put (((b1.get _ _).add b2).mono (by omega)) _ _, fun x hx => ?_⟩
    have hx : x ∈ List.replicate _ (0 : Int) := hx
    rw [(List.mem_replicate.mp hx).2]
    exact Nat.zero_le _
theorem wIn_of {k : Nat} {c : List Int} (hk : k < 2000) (h : bC (2 ^ k) c) : wIn c := fun x hx => Nat.lt_of_le_of_lt (h x hx) (Nat.pow_lt_pow_right (by decide) hk)
/-! ### numbers of the nearest -/
open Classical in
noncomputable def nrI (cs : List (List Int)) (c : List Int) : Nat := if h : ∃ i, near cs c i then h.choose else 0
theorem nr_of {cs : List (List Int)} {c : List Int} {i : Nat} (h : near cs c i) : nrI cs c = i := by
  unfold nrI
  rw [dif_pos ⟨i, h⟩]
  exact near_one (Exists.choose_spec (⟨i, h⟩ : ∃ i, near cs c i)) h
/-! ### numbers of the nearest, all -/
noncomputable def nums (cs : List (List Int)) (ps : List (List (List Int))) : List (List PyData) := ps.map fun p => p.map fun c => PyData.int (nrI cs c)
def spNumby : Sp := fun vs H Q _ => ∃ (pa ca : Addr) (pvs cvs : List V) (ps : List (List (List Int))) (cs : List (List Int)), vs = [.ref pa, .ref ca] ∧ H pa = some (.lst pvs) ∧ DtA [] H pvs (ps.map eP) ∧ H ca = some (.lst cvs) ∧ DtA [] H cvs (cs.map eC) ∧ 0 < cs.length ∧ ps.length ≤ 1000 ∧ (∀ p ∈ ps, p.length ≤ 1000 ∧ ∀ c ∈ p, pOk cs c) ∧
  ∀ (D : Addr) (rs : List Addr) (H' : Hp), Same H H' → H D = none → H' D = some (.lst (rs.map V.ref)) → Rws [] H H' D rs (nums cs ps) → Q (.ref D) H'
theorem palAt' {B : List Addr} {H : Hp} {vs : List V} {ps : List (List (List Int))} (h : DtA B H vs (ps.map eP)) {i : Nat} {v : V} (hv : vs[i]? = some v) : ∃ (hi : i < ps.length) (a : Addr) (us : List V), v = .ref a ∧ a ∉ B ∧ H a = some (.lst us) ∧ DtA B H us (ps[i].map eC) := by
  obtain ⟨d, f, g⟩ := h.getV hv
  rw [List.getElem?_map] at f
  by_cases hi : i < ps.length
  · rw [List.getElem?_eq_getElem hi] at f
    have ed : d = eP ps[i] := (Option.some.inj f).symm
    subst ed
    obtain ⟨a, us, h1, h2, h3, h4⟩ := g.lst2
    exact ⟨hi, a, us, h1, h2, h3, h4⟩
  · rw [List.getElem?_eq_none (by omega)] at f
    cases f
theorem colAt' {B : List Addr} {H : Hp} {vs : List V} {cs : List (List Int)} (h : DtA B H vs (cs.map eC)) {i : Nat} {v : V} (hv : vs[i]? = some v) : ∃ (hi : i < cs.length), Dt B H v (eC cs[i]) := by
  obtain ⟨d, f, g⟩ := h.getV hv
  rw [List.getElem?_map] at f
  by_cases hi : i < cs.length
  · rw [List.getElem?_eq_getElem hi] at f
    have ed : d = eC cs[i] := (Option.some.inj f).symm
    subst ed
    exact ⟨hi, g⟩
  · rw [List.getElem?_eq_none (by omega)] at f
    cases f
theorem mp_range {α β : Type} (f : α → β) (d : α) (xs : List α) : (List.range xs.length).map (fun i => f (xs.getD i d)) = xs.map f := by
  refine List.ext_getElem (by simp) fun i h1 h2 => ?_
  have hi : i < xs.length := by simpa using h1
  simp [List.getD_eq_getElem?_getD, List.getElem?_eq_getElem hi]
theorem ok_numbers_by (T : Tx K mg) {k : Nat} : FnOk P w K mg base CX0 (k + 3) T.f_numbers_by T.d_numbers_by ["picture", "palette"] spNumby := by
  refine T.F_numbers_by.ok sc_numbers_by (fun vs H Q E h => ?_) (fun cdv A outer s H vs Q E hr h => ?_)
  · obtain ⟨pa, ca, pvs, cvs, ps, cs, rfl, _⟩ := h
    rfl
  · obtain ⟨pa, ca, pvs, cvs, ps, cs, rfl, epa, hP, eca, hC, c0, lp, ok, q⟩ := h
    have lpv := hP.len
    rw [List.length_map] at lpv
    refine ⟨_, (pss_one (ps_ret (pe_lc (own := [("row", 2)]) (by rfl) sc_numbers_by.nd (pi_listK K (pv 0)) (blkOk_by (own := [("row", 2)]) (N := N_numbers_by) (sc := defScope s_numbers_by) (by decide +kernel)) (fun _ _ _ _ _ => (pg_name (i := 2) sc_numbers_by.nd rfl (.inl rfl))) (fun _ _ _ _ _ => pts_nil) (fun _ _ _ _ _ => (pe_lc (own := [("colour", 3)]) (by rfl) sc_numbers_by.nd (pi_listK K (pv 2)) (blkOk_in (own := [("colour", 3)]) (N := N_numbers_by) ["palette"] (by decide +kernel) (by decide +kernel) ⟨.inl rfl, trivial⟩) (fun _ _ _ _ _ => (pg_name (i := 3) sc_numbers_by.nd rfl (.inl rfl))) (fun _ _ _ _ _ => pts_nil) (fun _ _ _ _ _ => (pe_call (ok_nearest T (k := k)) hr (by rfl) T.g_nearest T.F_nearest.kp T.b_nearest .nil pass0 (pa_cons (pv 1) (pa_cons (pv 3) pa_nil))))))))), ?_⟩
    refine ⟨_, rfl, pa, rfl, ⟨_, SqL.of epa⟩, fun D hD => ?_⟩
    refine lc_rows (walk_list (xs := pvs)) [] hD (fun H' s' => SqL.of (s' _ _ epa)) (by omega) (fun i => (ps.getD i []).map fun c => PyData.int (nrI cs c)) (fun i x H' H'' Ny Nn hi t1 y ky => ?_) (fun H8 rs s8 eS R => ?_)
    · obtain ⟨rfl, y⟩ := y
      obtain ⟨hi1, ra, us, rfl, _, er, hU⟩ := palAt' hP y
      have gd : ps.getD i [] = ps[i] := by rw [List.getD_eq_getElem?_getD, List.getElem?_eq_getElem hi1]; rfl
      rw [gd] at ky
      have ok1 := ok _ (List.getElem_mem hi1)
      have lu := hU.len
      rw [List.length_map] at lu
      refine ⟨rfl, lc_yes ⟨_, rfl, ra, rfl, ⟨_, SqL.of (t1 _ _ er)⟩, fun E hE => ?_⟩⟩
      refine lc_vals (walk_list (xs := us)) hE (fun H' s' => SqL.of (s' _ _ (t1 _ _ er))) (by omega) (fun j => V.int (nrI cs (ps[i].getD j []))) (fun j x H2 H3 Ny2 Nn2 hj t2 y2 ky2 => ?_) (fun H7 s7 eE => ?_)
      · obtain ⟨rfl, y2⟩ := y2
        obtain ⟨hj1, dj⟩ := colAt' hU y2
        have gj : ps[i].getD j [] = ps[i][j] := by rw [List.getD_eq_getElem?_getD, List.getElem?_eq_getElem hj1]; rfl
        rw [gj] at ky2
        have t12 := t1.trans t2
        refine ⟨rfl, lc_yes ⟨_, rfl, _, rfl, [], .ref ca, x, cs, ps[i][j], rfl, .lst (fun h => nomatch h) (t12 _ _ eca) (hC.s t12), dj.s t12, ok1.2 _ (List.getElem_mem hj1), c0, fun H4 m s4 nm => ?_⟩⟩
        rw [← nr_of nm]
        exact ky2 _ s4
      · rw [lu, mp_range (fun c => V.int (nrI cs c))] at eE
        refine ky E _ H7 s7 hE eE ?_
        have := DtA.ints (B := []) (H := H) (ps[i].map fun c => (nrI cs c : Int))
        rw [List.map_map, List.map_map] at this
        exact this
    · rw [lpv, mp_range (fun p : List (List Int) => p.map fun c => PyData.int (nrI cs c))] at R
      exact q D rs H8 s8 hD eS R
/-! ### handed on -/
noncomputable def hoStep (h w : Nat) (shs : List (Int × Int × Int)) (cs : List (List Int)) (z : List (List (List Int)) × List (List Int) × List Int) (s : List Int) : List (List (List Int)) × List (List Int) × List Int :=
  ((handW h w z.1 shs (sR s) (sC s) (sS s) (cs.getD (nrI cs (getC z.1 (sR s) (sC s))) [])).1,
   z.2.1.set (sR s) ((z.2.1.getD (sR s) []).set (sC s) (nrI cs (getC z.1 (sR s) (sC s)) : Int)),
   adC z.2.2 (handW h w z.1 shs (sR s) (sC s) (sS s) (cs.getD (nrI cs (getC z.1 (sR s) (sC s))) [])).2)
noncomputable def hoW (h w n : Nat) (t : Bool) (ps : List (List (List Int))) (shs : List (Int × Int × Int)) (cs : List (List Int)) : List (List (List Int)) × List (List Int) × List Int :=
  (spotsOf t ps ps.length).foldl (hoStep h w shs cs) (ps, ps.map (fun p => List.replicate p.length 0), List.replicate n 0)
theorem Gr.frs {B : List Addr} {H : Hp} {wa : Addr} {ras : List Addr} {W : List (List PyData)} (g : Gr B H wa ras W) (cs : List Addr) (hc : ∀ r ∈ cs, H r = none) : Gr (cs ++ B) H wa ras W := by
  have no : ∀ a, H a ≠ none → a ∉ B → a ∉ cs ++ B := fun a h1 h2 h3 => by
    rcases List.mem_append.mp h3 with z | z
    · exact h1 (hc a z)
    · exact h2 z
  refine ⟨g.a, no wa (by rw [g.a]; exact fun h => nomatch h) g.nw, g.nd, fun r hr => ?_, g.l, fun i ra ds h1 h2 => ?_⟩
  · obtain ⟨i, hi⟩ := List.mem_iff_getElem?.mp hr
    have hl : i < W.length := by
      rw [← g.l]
      exact (List.getElem?_eq_some_iff.mp hi).1
    obtain ⟨vs, e, _⟩ := g.r i r _ hi (List.getElem?_eq_getElem hl)
    exact no r (by rw [e]; exact fun h => nomatch h) (g.nb r hr)
  · obtain ⟨vs, e, d⟩ := g.r i ra ds h1 h2
    refine ⟨vs, e, (d.frs cs hc).sub fun a ha => ?_⟩
    rcases List.mem_append.mp ha with z | z
    · exact List.mem_append_right _ (List.mem_append_left _ z)
    · rcases List.mem_append.mp z with y | y
      · exact List.mem_append_left _ y
      · exact List.mem_append_right _ (List.mem_append_right _ y)
theorem repTT_use {K : PySem.W.Frag} {H : Hp} {p : Addr} {n : Nat} {Q : VK} (e : H p = some (.tup [.int 0])) (n0 : 0 < n) (n1 : n ≤ 100) (q : ∀ v H4, Same H H4 → (∀ B, p ∉ B → Bk B H → Dt B H4 v (eC (List.replicate n 0))) → Q v H4) : rRepTT K (.ref p) (.int (n : Int)) H Q := by
  refine ⟨p, _, [.int 0], rfl, rfl, SqT.of e, by simp, by omega, by omega, by simp, fun k1 => ?_, fun k2 p2 hp2 => ?_⟩
  · refine q _ _ (Same.refl _) fun B np _ => ?_
    rw [show n = 1 by omega]
    exact Dt.ofCol np e
  · refine q _ _ (sm_new hp2) fun B _ hB => ?_
    refine Dt.ofCol (hB.ne hp2) ?_
    rw [upd_same, Int.toNat_natCast, List.flatten_replicate_singleton, List.map_replicate]
def nRect (h w : Nat) (N : List (List Int)) : Prop := N.length = h ∧ ∀ r ∈ N, r.length = w
theorem Gr.atN {B : List Addr} {H : Hp} {wa : Addr} {ras : List Addr} {N : List (List Int)} {h w r c : Nat} (g : Gr B H wa ras (N.map fun r => r.map PyData.int)) (hR : nRect h w N) (hr : r < h) :
    ∃ ra vs, ras[r]? = some ra ∧ H ra = some (.lst vs) ∧ vs.length = w ∧ ∀ x : Int, Gr B (upd H ra (.lst (vs.set c (.int x)))) wa ras ((N.set r ((N.getD r []).set c x)).map fun r => r.map PyData.int) := by
  have hl : r < N.length := by rw [hR.1]; exact hr
  have en : N.getD r [] = N[r] := by rw [List.getD_eq_getElem?_getD, List.getElem?_eq_getElem hl]; rfl
  have e2 : (N.map fun r => r.map PyData.int)[r]? = some (N[r].map PyData.int) := by rw [List.getElem?_map, List.getElem?_eq_getElem hl]; rfl
  have hl2 : r < ras.length := by rw [g.l, List.length_map]; exact hl
  obtain ⟨vs, e3, d3⟩ := g.r r ras[r] _ (List.getElem?_eq_getElem hl2) e2
  refine ⟨ras[r], vs, List.getElem?_eq_getElem hl2, e3, by rw [d3.len, List.length_map]; exact hR.2 _ (List.getElem_mem hl), fun x => ?_⟩
  have := g.set (j := c) (List.getElem?_eq_getElem hl2) e2 e3 (Dt.int x)
  rw [en, List.map_set, List.map_set]
  exact this
theorem nRect.set {h w r c : Nat} {N : List (List Int)} {x : Int} (hR : nRect h w N) (hr : r < h) : nRect h w (N.set r ((N.getD r []).set c x)) := by
  have hl : r < N.length := by rw [hR.1]; exact hr
  have en : N.getD r [] = N[r] := by rw [List.getD_eq_getElem?_getD, List.getElem?_eq_getElem hl]; rfl
  refine ⟨by rw [List.length_set]; exact hR.1, fun p hp => ?_⟩
  rcases List.mem_or_eq_of_mem_set hp with z | z
  · exact hR.2 p z
  · rw [z, List.length_set, en]
    exact hR.2 _ (List.getElem_mem hl)
theorem Gr.less {B C : List Addr} {H : Hp} {wa : Addr} {ras : List Addr} {W : List (List PyData)} (g : Gr B H wa ras W) (h : ∀ a ∈ C, a ∈ B) : Gr C H wa ras W := ⟨g.a, fun z => g.nw (h _ z), g.nd, fun r hr z => g.nb r hr (h _ z), g.l, fun i ra ds h1 h2 => by
  obtain ⟨vs, e, d⟩ := g.r i ra ds h1 h2
  refine ⟨vs, e, d.sub fun a ha => ?_⟩
  rcases List.mem_append.mp ha with y | y
  · exact List.mem_append_left _ y
  · exact List.mem_append_right _ (h a y)⟩
def spHo : Sp := fun vs H Q _ => ∃ (B : List Addr) (gv plv sv : V) (ps : List (List (List Int))) (cs : List (List Int)) (shs : List (Int × Int × Int)) (h w n : Nat) (t : Bool), vs = [gv, plv, sv, .str (if t = true then "turned" else "same")] ∧ Dt B H gv (eG ps) ∧ Dt B H plv (eP cs) ∧ Dt B H sv (eP (shs.map e3)) ∧ Bk B H ∧ Rect h w n ps ∧ 0 < h ∧ h ≤ 16 ∧ 0 < w ∧ w ≤ 16 ∧ 0 < n ∧ n ≤ 100 ∧
  0 < cs.length ∧ cs.length ≤ 1000 ∧ (∀ c ∈ cs, c.length = n ∧ bC 2048 c) ∧ bW 2048 ps ∧ shs.length ≤ 12 ∧ (∀ s ∈ shs, 0 ≤ s.2.1 ∧ 0 < s.2.2 ∧ s.2.2 ≤ 1000) ∧
  ∀ t0 na ras lv H', Same H H' → H' t0 = some (.tup [.ref na, lv]) → t0 ∉ B → Gr B H' na ras ((hoW h w n t ps shs cs).2.1.map fun r => r.map PyData.int) → Dt (na :: ras ++ B) H' lv (eC (hoW h w n t ps shs cs).2.2) → H t0 = none → H na = none → (∀ r ∈ ras, H r = none) → Q (.ref t0) H'
set_option maxHeartbeats 2000000 in
theorem ok_handed_on (T : Tx K mg) {k : Nat} : FnOk P w K mg base CX0 (k + 3) T.f_handed_on T.d_handed_on ["picture", "palette", "shares", "way"] spHo := by
  refine T.F_handed_on.ok sc_handed_on (fun vs H Q E h => ?_) (fun cdv A outer s H vs Q E hr h => ?_)
  · obtain ⟨B, gv, plv, sv, ps, cs, shs, h, w, n, t, rfl, _⟩ := h
    rfl
  · obtain ⟨B, gv, plv, sv, ps, cs, shs, h, w, n, t, rfl, dg, dpl, ds, hB, hR, h0, h1, w0, w1, n0, n1, c0, c1, cl, bps, sl, sok, q⟩ := h
    refine ⟨_, (pss_cons (ps_setLc (i := 4) (own := [("row", 8)]) (by rfl) sc_handed_on.nd rfl rfl (sw_true rfl rfl rfl (by decide +kernel)) (pi_listK K (pv 0)) (blkOk_by (own := [("row", 8)]) (N := N_handed_on) (sc := defScope s_handed_on) (by decide +kernel)) (fun _ _ _ _ _ => (pg_name (i := 8) sc_handed_on.nd rfl (.inl rfl))) (fun _ _ _ _ _ => pts_nil) (fun _ _ _ _ _ => (pe_callTy (list_K K) (by rfl) T.z_list (by decide +kernel) (pa_cons (pv 8) pa_nil))))
      (pss_cons (ps_setLc (i := 5) (own := [("row", 8)]) (by rfl) sc_handed_on.nd rfl rfl (sw_true rfl rfl rfl (by decide +kernel)) (pi_listK K (pv 0)) (blkOk_by (own := [("row", 8)]) (N := N_handed_on) (sc := defScope s_handed_on) (by decide +kernel)) (fun _ _ _ _ _ => (pg_name (i := 8) sc_handed_on.nd rfl (.inl rfl))) (fun _ _ _ _ _ => pts_nil) (fun _ _ _ _ _ => (pe_op op_rep (pe_lst (pa_cons pe_int pa_nil)) (pe_callB (len_K K) (by rfl) T.z_len PySem.boot_len (pa_cons (pv 8) pa_nil)))))
      (pss_cons (ps_set (i := 6) sc_handed_on.nd rfl (.inl rfl) (pe_op op_repTT (pe_tup (pa_cons pe_int pa_nil)) (pe_callB (len_K K) (by rfl) T.z_len PySem.boot_len (pa_cons (pe_ix (ix_listK K) (pe_ix (ix_listK K) (pv 0) pe_int (fun _ _ => rfl)) pe_int (fun _ _ => rfl)) pa_nil))))
      (pss_cons (ps_for PassesOwn.never rfl (pi_listK K (pe_call (ok_spots_in_order T (k := k + 1)) hr (by rfl) T.g_spots_in_order T.F_spots_in_order.kp T.b_spots_in_order .nil pass0 (pa_cons (pv 0) (pa_cons (pv 3) pa_nil)))) (pg_name (i := 7) sc_handed_on.nd rfl (.inl rfl)) (pss_cons (ps_asg (pv 7) (pg_tupK K (n := 3) rfl (pgs_cons (pg_name (i := 8) sc_handed_on.nd rfl (.inl rfl)) (pgs_cons (pg_name (i := 9) sc_handed_on.nd rfl (.inl rfl)) (pgs_cons (pg_name (i := 10) sc_handed_on.nd rfl (.inl rfl)) pgs_nil)))))
      (pss_cons (ps_set (i := 11) sc_handed_on.nd rfl (.inl rfl) (pe_call (ok_nearest T (k := k)) hr (by rfl) T.g_nearest T.F_nearest.kp T.b_nearest .nil pass0 (pa_cons (pv 1) (pa_cons (pe_ix (ix_listK K) (pe_ix (ix_listK K) (pv 4) (pv 8) (fun _ _ => rfl)) (pv 9) (fun _ _ => rfl)) pa_nil))))
      (pss_cons (ps_asg (pv 11) (pg_sub (pe_ix (ix_listK K) (pv 5) (pv 8) (fun _ _ => rfl)) (pv 9) set_list))
      (pss_one (ps_set (i := 6) sc_handed_on.nd rfl (.inl rfl) (pe_call (ok_added T (k := k + 1)) hr (by rfl) T.g_added T.F_added.kp T.b_added .nil pass0 (pa_cons (pv 6) (pa_cons (pe_call (ok_hand_over T (k := k)) hr (by rfl) T.g_hand_over T.F_hand_over.kp T.b_hand_over .nil pass0 (pa_cons (pv 4) (pa_cons (pv 2) (pa_cons (pv 7) (pa_cons (pe_ix (ix_listK K) (pv 1) (pv 11) (fun _ _ => rfl)) pa_nil))))) pa_nil)))))))))
      (pss_one (ps_ret (pe_tup (pa_cons (pv 5) (pa_cons (pv 6) pa_nil))))))))), ?_⟩
    obtain ⟨ga, gvs, rfl, nga, ega, hGv⟩ := dg.lst2
    have lg := hGv.len
    rw [List.length_map] at lg
    refine ⟨_, rfl, ga, rfl, ⟨_, SqL.of ega⟩, fun D hD => ?_⟩
    refine lc_rows (walk_list (xs := gvs)) B hD (fun H' s' => SqL.of (s' _ _ ega)) (by have := hR.1; omega) (fun i => (ps.getD i []).map eC) (fun j x H' H'' Ny Nn hj t1 y ky => ?_) (fun H1 rs s1 eD hRw => ?_)
    · obtain ⟨rfl, y⟩ := y
      have hj2 : j < ps.length := by omega
      obtain ⟨d, f1, g1⟩ := hGv.getV y
      rw [List.getElem?_map, List.getElem?_eq_getElem hj2] at f1
      have ed : d = eP ps[j] := (Option.some.inj f1).symm
      subst ed
      obtain ⟨xa, xvs, rfl, nxa, exa, hX⟩ := g1.pal
      refine ⟨rfl, lc_yes ⟨_, rfl, xa, _, rfl, .inl (SqL.of (t1 _ _ exa)), fun l hl => ?_⟩⟩
      exact ky l xvs _ (sm_new hl) hl upd_same (by rw [List.getD_eq_getElem?_getD, List.getElem?_eq_getElem hj2]; exact hX)
    rw [lg, rng_getD ps [] (fun p => p.map eC)] at hRw
    have hG1 : Gr B H1 D rs (gD ps) := hRw.gr s1 eD hD hB
    have frs : ∀ r ∈ D :: rs, H r = none := fun r hr => by
      rcases List.mem_cons.mp hr with z | z
      · rw [z]; exact hD
      · exact hRw.fr r z
    have B1 := hG1.bk (hB.go (Go.of (B := []) s1))
    have ega1 := s1 _ _ ega
    -- the numbers
    refine ⟨_, rfl, ga, rfl, ⟨_, SqL.of ega1⟩, fun D2 hD2 => ?_⟩
    refine lc_rows (walk_list (xs := gvs)) (D :: rs ++ B) hD2 (fun H' s' => SqL.of (s' _ _ ega1)) (by have := hR.1; omega) (fun i => (List.replicate (ps.getD i []).length (0 : Int)).map PyData.int) (fun j x H' H'' Ny Nn hj t1 y ky => ?_) (fun H2 rs2 s2 eD2 hRw2 => ?_)
    · obtain ⟨rfl, y⟩ := y
      have hj2 : j < ps.length := by omega
      obtain ⟨d, f1, g1⟩ := hGv.getV y
      rw [List.getElem?_map, List.getElem?_eq_getElem hj2] at f1
      have ed : d = eP ps[j] := (Option.some.inj f1).symm
      subst ed
      obtain ⟨xa, xvs, rfl, nxa, exa, hX⟩ := g1.pal
      have lx := hX.len
      rw [List.length_map] at lx
      have lw := (hR.2 _ (List.getElem_mem hj2)).1
      refine ⟨rfl, lc_yes ⟨(by show 1 ≤ sizeLine; decide), fun p hp => ⟨_, rfl, xa, _, rfl, .inl (SqL.of ((s1.trans (t1.trans (sm_new hp))) _ _ exa)), p, _, [.int 0], rfl, rfl, upd_same, by omega, by omega, sz (by simp; omega) |> Nat.le_of_lt, fun l hl => ?_⟩⟩⟩
      refine ky l _ _ ((sm_new hp).trans (sm_new hl)) ((sm_new hp).free hl) upd_same ?_
      rw [Int.toNat_natCast, List.flatten_replicate_singleton, List.getD_eq_getElem?_getD, List.getElem?_eq_getElem hj2, lx]
      have := DtA.ints (B := D :: rs ++ B) (H := H1) (List.replicate ps[j].length 0)
      rw [List.map_replicate] at this
      exact this
    rw [lg, rng_getD ps [] (fun p => (List.replicate p.length (0 : Int)).map PyData.int)] at hRw2
    have hN2 : Gr (D :: rs ++ B) H2 D2 rs2 ((ps.map fun p => List.replicate p.length (0 : Int)).map fun r => r.map PyData.int) := by
      have := hRw2.gr s2 eD2 hD2 B1
      rw [List.map_map]
      exact this
    have frs2 : ∀ r ∈ D2 :: rs2, H1 r = none := fun r hr => by
      rcases List.mem_cons.mp hr with z | z
      · rw [z]; exact hD2
      · exact hRw2.fr r z
    have hG2 : Gr (D2 :: rs2 ++ B) H2 D rs (gD ps) := (hG1.frs (D2 :: rs2) frs2).s s2
    have t2 := s1.trans s2
    have B2 : Bk (D2 :: rs2 ++ B) H2 := fun a ha => by
      rcases List.mem_append.mp ha with z | z
      · exact hN2.bk (B1.go (Go.of (B := []) s2)) a (List.mem_append_left _ z)
      · exact hB.go (Go.of (B := []) t2) a z
    have BX := hG2.bk B2
    have mv : ∀ {v d}, Dt B H v d → Dt (D :: rs ++ (D2 :: rs2 ++ B)) H2 v d := fun h => by
      have h1 := ((h.frs (D :: rs) frs).s s1)
      have h2 := (h1.frs (D2 :: rs2) frs2).s s2
      refine h2.sub fun a ha => ?_
      rcases List.mem_append.mp ha with z | z
      · exact List.mem_append_right _ (List.mem_append_left _ z)
      · rcases List.mem_append.mp z with y | y
        · exact List.mem_append_left _ y
        · exact List.mem_append_right _ (List.mem_append_right _ y)
    have dgX := mv dg
    have dsX := mv ds
    have dplX := mv dpl
    -- lost
    have hps : ps.length = h := hR.1
    obtain ⟨ga', gvs', e', _, ega2, hGv2⟩ := dgX.lst2
    cases e'
    obtain ⟨v0, f0, dv0⟩ := hGv2.get (i := 0) (d := eP ps[0]) (by rw [List.getElem?_map, List.getElem?_eq_getElem (by omega)]; rfl)
    have h00 := hR.2 _ (List.getElem_mem (l := ps) (n := 0) (by omega))
    generalize ps[0] = p0 at *
    obtain ⟨ra0, rvs0, rfl, _, era0, hr0⟩ := dv0.pal
    have hl0 : 0 < p0.length := by omega
    obtain ⟨v1, f1, dv1⟩ := hr0.get (i := 0) (d := eC p0[0]) (by rw [List.getElem?_map, List.getElem?_eq_getElem hl0]; rfl)
    have lc0 := h00.2 _ (List.getElem_mem hl0)
    generalize p0[0] = q0 at *
    obtain ⟨qa, rfl, _, eqa⟩ := dv1.col
    refine ⟨(by show 1 ≤ sizeLine; decide), fun p hp => ?_⟩
    have s3 := sm_new (o := .tup [.int 0]) hp
    have e3' : (upd H2 p (.tup [.int 0])) p = some (.tup [.int 0]) := upd_same
    have np := BX.ne hp
    generalize upd H2 p (.tup [.int 0]) = H3 at *
    have ega3 := s3 _ _ ega2
    have era3 := s3 _ _ era0
    have eqa3 := s3 _ _ eqa
    refine ⟨_, rfl, ga, _, 0, .ref ra0, rfl, rfl, SqL.of ega3, atI_nat (j := 0) f0, ra0, _, 0, .ref qa, rfl, rfl, SqL.of era3, atI_nat (j := 0) f1, qa, _, rfl, .inr (SqT.of eqa3), ?_⟩
    rw [List.length_map, lc0]
    refine repTT_use e3' n0 n1 fun lv H4 s4 dl4 => ?_
    have dl := dl4 _ np (BX.go (Go.of (B := []) s3))
    clear dl4
    have t4 := t2.trans (s3.trans s4)
    have u4 := s3.trans s4
    have B4 := BX.go (Go.of (B := []) u4)
    have dg4 := dgX.s u4
    have ds4 := dsX.s u4
    have hG4 := hG2.s u4
    have hN4 := hN2.s u4
    refine ⟨_, rfl, _, rfl, D :: rs ++ (D2 :: rs2 ++ B), .ref ga, ps, t, rfl, dg4, B4, by omega, fun p hp => by have := (hR.2 p hp).1; omega, fun spv H5 s5 dsp => ?_⟩
    obtain ⟨sa, svs, rfl, nsa, esa, hS⟩ := dsp.pal
    have lsv := hS.len
    rw [List.length_map] at lsv
    have sin := spots_in hR t h (Nat.le_refl _)
    rw [hps] at hS lsv
    have sle : (spotsOf t ps h).length ≤ 256 := by
      have : ∀ m, m ≤ h → (spotsOf t ps m).length = w * m := fun m => by
        induction m with
        | zero => intro _; simp [spotsOf]
        | succ m ih =>
          intro hm
          rw [spots_succ, List.length_append, spRow_len, ih (by omega), (rect_row hR (r := m) (by omega)).2.1, Nat.mul_succ]
      rw [this h (Nat.le_refl _)]
      exact Nat.mul_le_mul w1 h1
    have hG5 := hG4.s s5
    have hN5 := hN4.s s5
    have B5 := B4.go (Go.of (B := []) s5)
    have ds5 := ds4.s s5
    have dl5 := dl.s s5
    have dpl5 := dplX.s (u4.trans s5)
    have dpl50 := dpl5
    obtain ⟨pla, plvs, rfl, npl, epl, hPl⟩ := dpl5.pal
    have ew : hoW h w n t ps shs cs = (spotsOf t ps h).foldl (hoStep h w shs cs) (ps, ps.map (fun p => List.replicate p.length 0), List.replicate n 0) := by unfold hoW; rw [hps]
    generalize hz0 : ((ps, ps.map (fun p => List.replicate p.length (0 : Int)), List.replicate n (0 : Int)) : List (List (List Int)) × List (List Int) × List Int) = z0 at *
    refine ⟨sa, rfl, ⟨_, SqL.of esa⟩, for_it (walk_list (xs := svs)) (fun i σ H' => ∃ y7 y8 y9 y10 y11 lv, σ = [some (.ref ga), some (.ref pla), some sv, some (.str (if t = true then "turned" else "same")), some (.ref D), some (.ref D2), some lv, y7, y8, y9, y10, y11] ∧ Go (rs ++ rs2) H5 H' ∧ Gr (D2 :: rs2 ++ B) H' D rs (gD (((spotsOf t ps h).take i).foldl (hoStep h w shs cs) z0).1) ∧ Rect h w n (((spotsOf t ps h).take i).foldl (hoStep h w shs cs) z0).1 ∧ bW (2048 * 64 ^ i) (((spotsOf t ps h).take i).foldl (hoStep h w shs cs) z0).1 ∧ Gr (D :: rs ++ B) H' D2 rs2 ((((spotsOf t ps h).take i).foldl (hoStep h w shs cs) z0).2.1.map fun r => r.map PyData.int) ∧ nRect h w (((spotsOf t ps h).take i).foldl (hoStep h w shs cs) z0).2.1 ∧ Dt (D :: rs ++ (D2 :: rs2 ++ B)) H' lv (eC (((spotsOf t ps h).take i).foldl (hoStep h w shs cs) z0).2.2) ∧ (((spotsOf t ps h).take i).foldl (hoStep h w shs cs) z0).2.2.length = n)
      ?_ (fun i σ H' _ h => ?_) (fun i x σ H7 H6 hi h y => ?_) (fun σ H6 h => ?_)⟩
    · rw [← hz0]
      refine ⟨_, _, _, _, _, _, rfl, Go.refl, hG5, hR, bps.mono (by omega), hN5, ⟨by simp; exact hps, fun r hr' => ?_⟩, dl5, by simp⟩
      obtain ⟨p, hp, rfl⟩ := List.mem_map.mp hr'
      rw [List.length_replicate]
      exact (hR.2 p hp).1
    · obtain ⟨y7, y8, y9, y10, y11, lv, rfl, g5, _⟩ := h
      exact SqL.of (g5.k sa _ (fun z => nsa (by
        rcases List.mem_append.mp z with y | y <;> simp [y])) esa)
    · obtain ⟨y7, y8, y9, y10, y11, lv, rfl, g6, hG6, hR6, hb6, hN6, nr6, dl6, ll6⟩ := h
      obtain ⟨rfl, y⟩ := y
      have mX : ∀ a ∈ rs ++ rs2, a ∈ D :: rs ++ (D2 :: rs2 ++ B) := fun a ha => by
        rcases List.mem_append.mp ha with z | z <;> simp [z]
      have gX : Go (D :: rs ++ (D2 :: rs2 ++ B)) H5 H6 := g6.w mX
      have hi2 : i < (spotsOf t ps h).length := by omega
      obtain ⟨d, f1, g1⟩ := (hS.g gX).getV y
      rw [List.getElem?_map, List.getElem?_eq_getElem hi2] at f1
      have ed : d = eC (spotsOf t ps h)[i] := (Option.some.inj f1).symm
      subst ed
      obtain ⟨r, c, sd, es, rh, cw, sd1, sd2⟩ := sin _ (List.getElem_mem hi2)
      have hz1 : ((spotsOf t ps h).take (i + 1)).foldl (hoStep h w shs cs) z0 = hoStep h w shs cs (((spotsOf t ps h).take i).foldl (hoStep h w shs cs) z0) (spotsOf t ps h)[i] := by
        rw [List.take_add_one, List.getElem?_eq_getElem hi2, List.foldl_append]
        rfl
      rw [hz1]
      clear hz1
      generalize ((spotsOf t ps h).take i).foldl (hoStep h w shs cs) z0 = z at *
      obtain ⟨W, N, lo⟩ := z
      simp only at hG6 hR6 hb6 hN6 nr6 dl6 ll6
      rw [es] at g1 ⊢
      have hst : hoStep h w shs cs (W, N, lo) [(r : Int), (c : Int), sd] = ((handW h w W shs r c sd (cs.getD (nrI cs (getC W r c)) [])).1, N.set r ((N.getD r []).set c (nrI cs (getC W r c) : Int)), adC lo (handW h w W shs r c sd (cs.getD (nrI cs (getC W r c)) [])).2) := by
        unfold hoStep
        show ((handW h w W shs ((r : Int).toNat) ((c : Int).toNat) sd (cs.getD (nrI cs (getC W (r : Int).toNat (c : Int).toNat)) [])).1, N.set (r : Int).toNat ((N.getD (r : Int).toNat []).set (c : Int).toNat (nrI cs (getC W (r : Int).toNat (c : Int).toNat) : Int)), adC lo (handW h w W shs ((r : Int).toNat) ((c : Int).toNat) sd (cs.getD (nrI cs (getC W (r : Int).toNat (c : Int).toNat)) [])).2) = _
        rw [Int.toNat_natCast, Int.toNat_natCast]
      rw [hst]
      clear hst
      have g10 := g1
      obtain ⟨xa, rfl, nxa, exa⟩ := g1.col
      change _ = some (HO.tup [V.int r, V.int c, V.int sd]) at exa
      obtain ⟨ra, vs, v, fr, era, lvs, fv, dv, _⟩ := hG6.at hR6 rh cw
      obtain ⟨gv, gl⟩ := rect_get hR6 rh cw
      have fr' : (rs.map V.ref)[r]? = some (.ref ra) := by rw [List.getElem?_map, fr]; rfl
      have epl6 := gX.k pla _ npl epl
      have B6 := B5.go gX
      have bg := hb6.get r c
      have pok : pOk cs (getC W r c) := ⟨c1, by omega, wIn_of (k := 11 + 6 * i) (by omega) (by
        rw [show 2 ^ (11 + 6 * i) = 2048 * 64 ^ i by rw [Nat.pow_add, Nat.pow_mul]]
        exact bg), fun x hx => ⟨by rw [(cl x hx).1, gl], wIn_of (k := 11) (by decide) (cl x hx).2⟩⟩
      refine ⟨_, rfl, xa, [.int r, .int c, .int sd], rfl, SqT.of exa, rfl, .int r, [.int c, .int sd], rfl, .int c, [.int sd], rfl, .int sd, [], rfl, rfl, ?_⟩
      refine ⟨_, rfl, _, rfl, _, rfl, D, _, r, .ref ra, rfl, rfl, SqL.of hG6.a, atI_nat fr', _, rfl, ra, _, c, v, rfl, rfl, SqL.of era, atI_nat fv, D :: rs ++ (D2 :: rs2 ++ B), .ref pla, v, cs, getC W r c, rfl, dpl50.g gX, dv, pok, c0, fun H8 num s8 hnear => ?_⟩
      rw [nr_of hnear]
      obtain ⟨hnc, _⟩ := hnear
      obtain ⟨hcl, hcb⟩ := cl _ (List.getElem_mem hnc)
      have ecs : cs.getD num [] = cs[num] := by rw [List.getD_eq_getElem?_getD, List.getElem?_eq_getElem hnc]; rfl
      rw [ecs]
      -- the number
      obtain ⟨rn, nvs, fn, ern, lnv, put⟩ := (hN6.s s8).atN (c := c) nr6 rh
      have fn' : (rs2.map V.ref)[r]? = some (.ref rn) := by rw [List.getElem?_map, fn]; rfl
      have mrn : rn ∈ rs2 := List.mem_of_getElem? fn
      refine ⟨_, rfl, _, rfl, _, rfl, D2, _, r, .ref rn, rfl, rfl, SqL.of (hN6.s s8).a, atI_nat fn', _, rfl, rn, _, c, c, rfl, rfl, ern, ixN0 (i := (c : Int)) (by omega) (by omega), ?_⟩
      have hN9 := put (num : Int)
      have gm : ∀ {C : List Addr}, rn ∈ C → Go C H8 (upd H8 rn (.lst (nvs.set c (.int (num : Int))))) := fun h => Go.refl.at h
      have hG9 := (hG6.s s8).g (gm (C := D2 :: rs2 ++ B) (by simp [mrn]))
      have gX9 : Go (D :: rs ++ (D2 :: rs2 ++ B)) H5 (upd H8 rn (.lst (nvs.set c (.int (num : Int))))) := (gX.trans (Go.of s8)).trans (gm (by simp [mrn]))
      have g69 : Go (D :: rs ++ (D2 :: rs2 ++ B)) H6 (upd H8 rn (.lst (nvs.set c (.int (num : Int))))) := (Go.of s8).trans (gm (by simp [mrn]))
      have g9 : Go (rs ++ rs2) H5 (upd H8 rn (.lst (nvs.set c (.int (num : Int))))) := (g6.trans (Go.of s8)).trans (gm (by simp [mrn]))
      generalize upd H8 rn (.lst (nvs.set c (.int (num : Int)))) = H9 at *
      have epl9 := gX9.k pla _ npl epl
      obtain ⟨cv, fc, dc⟩ := (hPl.g gX9).get (i := num) (d := eC cs[num]) (by rw [List.getElem?_map, List.getElem?_eq_getElem hnc]; rfl)
      refine ⟨_, rfl, _, rfl, _, rfl, _, rfl, _, rfl, _, rfl, pla, _, num, cv, rfl, rfl, SqL.of epl9, atI_nat fc, ?_⟩
      obtain ⟨rr, lh⟩ := rect_hand (sd := sd) hR6 rh cw hcl sok
      have hb64 := bnd_hand (h := h) (w := w) (r := r) (c := c) (sd := sd) (col := cs[num]) sok sl hb6 (hcb.mono (Nat.le_mul_of_pos_right _ (Nat.pow_pos (by decide))))
      refine ⟨D2 :: rs2 ++ B, D, rs, sv, .ref xa, cv, W, shs, h, w, n, r, c, sd, cs[num], rfl, hG9, hR6, by omega, by omega, n0, n1, rh, cw, hcl, ds5.g gX9, g10.g g69, dc, B5.go gX9, by omega, sok, sd1, sd2, fun v9 H10 g910 hG10 dv10 => ?_⟩
      have gX10 : Go (D :: rs ++ (D2 :: rs2 ++ B)) H9 H10 := g910.w fun a ha => by simp [ha]
      refine ⟨D :: rs ++ (D2 :: rs2 ++ B), lv, v9, lo, _, rfl, (dl6.g g69).g gX10, dv10, (B5.go gX9).go gX10, ll6.trans lh.symm, by omega, fun nl H11 s11 dnl => ?_⟩
      refine ⟨_, _, _, _, _, nl, rfl, (g9.trans (g910.w fun a ha => by simp [ha])).trans (Go.of s11), hG10.s s11, rr, ?_, (hN9.g (g910.w fun a ha => by simp [ha])).s s11, nr6.set rh, dnl, (adC_len (ll6.trans lh.symm)).trans lh⟩
      have := hb64.1
      rw [show 2048 * 64 ^ (i + 1) = 64 * (2048 * 64 ^ i) by rw [Nat.pow_succ]; omega]
      exact this
    · obtain ⟨y7, y8, y9, y10, y11, lv, rfl, g6, hG6, hR6, hb6, hN6, nr6, dl6, ll6⟩ := h
      rw [lsv, List.take_length, ← ew] at hN6 dl6
      refine ⟨_, rfl, _, rfl, (by show 2 ≤ sizeLine; decide), fun t0 ht0 => ?_⟩
      have s7 := sm_new (o := .tup [.ref D2, lv]) ht0
      have sH : Same H H6 := g6.sm (t4.trans s5) fun a ha => by
        rcases List.mem_append.mp ha with z | z
        · exact hRw.fr a z
        · exact s1.free (hRw2.fr a z)
      refine q t0 D2 rs2 lv _ (sH.trans s7) upd_same (hB.ne (sH.free ht0)) ((Gr.less (hN6.s s7) ?_)) ((dl6.s s7).sub ?_) (sH.free ht0) (s1.free hD2) (fun r hr' => s1.free (hRw2.fr r hr'))
      · exact fun a ha => List.mem_append_right _ ha
      · exact fun a ha => List.mem_append_right _ ha
/-! ### handed on alike -/
def dbl (s : Int × Int × Int) : Int × Int × Int := (s.1, s.2.1, 2 * s.2.2)
theorem hdC_dbl (left : List Int) (p t : Int) (h : 0 < t) : hdC left (2 * p) (2 * t) = hdC left p t := by
  unfold hdC
  refine List.map_congr_left fun x _ => ?_
  rw [show x * (2 * p) = 2 * (x * p) by rw [← Int.mul_assoc, Int.mul_comm x 2, Int.mul_assoc], Int.mul_ediv_mul_of_pos _ _ (by decide)]
theorem there_dbl (h w : Nat) (shs : List (Int × Int × Int)) (r c sd : Int) : thereOf h w (shs.map dbl) r c sd = (thereOf h w shs r c sd).map dbl := by
  unfold thereOf
  rw [List.map_map, List.filter_map, List.filter_map, List.map_map]
  rfl
theorem tot_dbl (shs : List (Int × Int × Int)) : total3 (shs.map dbl) = 2 * total3 shs := by
  induction shs with
  | nil => rfl
  | cons s shs ih =>
    unfold total3 at *
    rw [List.map_cons, List.map_cons, List.sum_cons, ih, List.map_cons, List.sum_cons]
    unfold dbl
    simp only
    omega
theorem step_dbl (left : List Int) (t : Int) (h : 0 < t) : ∀ (es : List (Int × Int × Int)) (z : List (List (List Int)) × List Int), (es.map dbl).foldl (hStep left (2 * t)) z = es.foldl (hStep left t) z
  | [], z => rfl
  | e :: es, z => by
    rw [List.map_cons, List.foldl_cons, List.foldl_cons, ← step_dbl left t h es]
    congr 1
    unfold hStep dbl
    simp only
    rw [hdC_dbl _ _ _ h]
theorem hand_dbl {h w : Nat} {W : List (List (List Int))} {shs : List (Int × Int × Int)} {r c : Nat} {sd : Int} {col : List Int} (sok : ∀ s ∈ shs, 0 ≤ s.2.1 ∧ 0 < s.2.2 ∧ s.2.2 ≤ 1000) : handW h w W (shs.map dbl) r c sd col = handW h w W shs r c sd col := by
  unfold handW
  rw [there_dbl, tot_dbl]
  cases e : thereOf h w shs r c sd with
  | nil => rfl
  | cons a es =>
    have sne : shs ≠ [] := fun z => by
      rw [z] at e
      simp [thereOf] at e
    have t0 := (tot_in sok).2.1 sne
    simp only [List.map_cons]
    rw [← List.map_cons, step_dbl _ _ t0]
    rfl
theorem ho_dbl {h w n : Nat} {t : Bool} {ps : List (List (List Int))} {shs : List (Int × Int × Int)} {cs : List (List Int)} (sok : ∀ s ∈ shs, 0 ≤ s.2.1 ∧ 0 < s.2.2 ∧ s.2.2 ≤ 1000) : hoW h w n t ps (shs.map dbl) cs = hoW h w n t ps shs cs := by
  unfold hoW
  congr 1
  funext z s
  unfold hoStep
  rw [hand_dbl sok]
/-! moved alike -/
theorem adC_at {a b : List Int} {i : Nat} (h : i < (adC a b).length) : (adC a b)[i] = a[i]'(by unfold adC at h; simp at h; omega) + b[i]'(by unfold adC at h; simp at h; omega) := by
  have e : (adC a b)[i]'h = (fun p : Int × Int => p.1 + p.2) ((a.zip b)[i]'(by unfold adC at h; simpa using h)) := List.getElem_map (fun p : Int × Int => p.1 + p.2) (l := a.zip b) (i := i) (h := h)
  rw [e, List.getElem_zip]
theorem leC_at {a b : List Int} {i : Nat} (h : i < (leC a b).length) : (leC a b)[i] = a[i]'(by unfold leC at h; simp at h; omega) - b[i]'(by unfold leC at h; simp at h; omega) := by
  have e : (leC a b)[i]'h = (fun p : Int × Int => p.1 - p.2) ((a.zip b)[i]'(by unfold leC at h; simpa using h)) := List.getElem_map (fun p : Int × Int => p.1 - p.2) (l := a.zip b) (i := i) (h := h)
  rw [e, List.getElem_zip]
theorem adC_ln (a b : List Int) : (adC a b).length = min a.length b.length := by unfold adC; simp
theorem leC_ln (a b : List Int) : (leC a b).length = min a.length b.length := by unfold leC; simp
theorem adC_swap {x y b : List Int} : adC (adC x b) y = adC (adC x y) b := by
  refine List.ext_getElem (by simp only [adC_ln]; omega) fun i h1 h2 => ?_
  rw [adC_at, adC_at, adC_at, adC_at]
  omega
theorem leC_mv {x y b : List Int} (h1 : x.length = b.length) (h2 : y.length = b.length) : leC (adC x b) (adC y b) = leC x y := by
  refine List.ext_getElem (by simp only [adC_ln, leC_ln]; omega) fun i g1 g2 => ?_
  rw [leC_at, leC_at, adC_at, adC_at]
  omega
theorem ap_mv {x y b : List Int} (h1 : x.length = b.length) (h2 : y.length = b.length) : ap (adC x b) (adC y b) = ap x y := by
  unfold ap
  congr 1
  refine List.ext_getElem (by simp only [List.length_map, List.length_zip, adC_ln]; omega) fun i g1 g2 => ?_
  simp only [List.getElem_map, List.getElem_zip]
  rw [adC_at, adC_at]
  congr 1
  omega
def mvP (b : List Int) (cs : List (List Int)) : List (List Int) := cs.map fun c => adC c b
def mvW (b : List Int) (W : List (List (List Int))) : List (List (List Int)) := W.map (mvP b)
theorem mv_row (b : List Int) (W : List (List (List Int))) (r : Nat) : (mvW b W).getD r [] = mvP b (W.getD r []) := by
  unfold mvW
  rw [List.getD_eq_getElem?_getD, List.getD_eq_getElem?_getD, List.getElem?_map]
  cases W[r]? <;> rfl
theorem mv_get {b : List Int} {W : List (List (List Int))} (r c : Nat) : getC (mvW b W) r c = adC (getC W r c) b := by
  unfold getC
  rw [mv_row]
  unfold mvP
  rw [List.getD_eq_getElem?_getD, List.getD_eq_getElem?_getD (l := W.getD r []), List.getElem?_map]
  cases (W.getD r [])[c]? <;> rfl
theorem mv_put {b v : List Int} {W : List (List (List Int))} (r c : Nat) : putC (mvW b W) r c (adC v b) = mvW b (putC W r c v) := by
  unfold putC
  rw [mv_row]
  unfold mvW
  rw [List.map_set]
  congr 1
  unfold mvP
  rw [List.map_set]
theorem mv_fold {b left : List Int} {t : Int} : ∀ (es : List (Int × Int × Int)) (z : List (List (List Int)) × List Int), es.foldl (hStep left t) (mvW b z.1, z.2) = (mvW b (es.foldl (hStep left t) z).1, (es.foldl (hStep left t) z).2)
  | [], z => rfl
  | e :: es, z => by
    rw [List.foldl_cons, List.foldl_cons, ← mv_fold es (hStep left t z e)]
    congr 1
    unfold hStep
    simp only
    rw [mv_get, adC_swap, mv_put]
theorem mv_hand {h w n : Nat} {b : List Int} {W : List (List (List Int))} {shs : List (Int × Int × Int)} {r c : Nat} {sd : Int} {col : List Int} (hR : Rect h w n W) (hr : r < h) (hc : c < w) (cl : col.length = n) (bl : b.length = n) : handW h w (mvW b W) shs r c sd (adC col b) = (mvW b (handW h w W shs r c sd col).1, (handW h w W shs r c sd col).2) := by
  have gl := (rect_get hR hr hc).2
  unfold handW
  rw [mv_get, leC_mv (by omega) (by omega)]
  cases thereOf h w shs r c sd with
  | nil => rfl
  | cons e es =>
    simp only
    rw [mv_fold (e :: es) (W, leC (getC W r c) col)]
    simp only
    rw [mv_get, adC_swap, mv_put]
theorem nr_mv {n : Nat} {b c : List Int} {cs : List (List Int)} (hc : c.length = n) (bl : b.length = n) (hs : ∀ x ∈ cs, x.length = n) : nrI (mvP b cs) (adC c b) = nrI cs c := by
  have e : ∀ i, near (mvP b cs) (adC c b) i ↔ near cs c i := fun i => by
    have l : (mvP b cs).length = cs.length := by unfold mvP; rw [List.length_map]
    have ea : ∀ (j : Nat) (h1 : j < (mvP b cs).length) (h2 : j < cs.length), ap (mvP b cs)[j] (adC c b) = ap cs[j] c := fun j h1 h2 => by
      have e1 : (mvP b cs)[j]'h1 = adC cs[j] b := List.getElem_map (fun c => adC c b) (l := cs) (i := j) (h := h1)
      rw [e1]
      exact ap_mv (by rw [hs _ (List.getElem_mem h2), bl]) (by omega)
    constructor
    · rintro ⟨h1, h2⟩
      refine ⟨by omega, fun j hj => ?_⟩
      have := h2 j (by omega)
      rw [ea i h1 (by omega), ea j (by omega) hj] at this
      exact this
    · rintro ⟨h1, h2⟩
      refine ⟨by omega, fun j hj => ?_⟩
      rw [ea i (by omega) h1, ea j hj (by omega)]
      exact h2 j (by omega)
  unfold nrI
  have e2 : near (mvP b cs) (adC c b) = near cs c := funext fun i => propext (e i)
  rw [e2]
theorem near_ex {cs : List (List Int)} (h : 0 < cs.length) (c : List Int) : ∃ i, near cs c i := by
  have : ∀ m, 0 < m → m ≤ cs.length → ∃ i, i < m ∧ ∃ hi : i < cs.length, ∀ (j : Nat) (hj : j < cs.length), j < m → ap cs[i] c < ap cs[j] c ∨ (ap cs[i] c = ap cs[j] c ∧ i ≤ j) := by
    intro m
    induction m with
    | zero => intro h; omega
    | succ m ih =>
      intro _ hm
      rcases Nat.eq_zero_or_pos m with z | z
      · subst z
        exact ⟨0, by omega, h, fun j hj hj2 => by
          have : j = 0 := by omega
          subst this
          exact .inr ⟨rfl, Nat.le_refl _⟩⟩
      · obtain ⟨i, him, hi, hb⟩ := ih z (by omega)
        by_cases c1 : ap (cs[m]'(by omega)) c < ap cs[i] c
        · refine ⟨m, by omega, by omega, fun j hj hj2 => ?_⟩
          by_cases e : j = m
          · subst e; exact .inr ⟨rfl, Nat.le_refl _⟩
          · have := hb j hj (by omega)
            omega
        · refine ⟨i, by omega, hi, fun j hj hj2 => ?_⟩
          by_cases e : j = m
          · subst e; omega
          · exact hb j hj (by omega)
  obtain ⟨i, _, hi, hb⟩ := this cs.length h (Nat.le_refl _)
  exact ⟨i, hi, fun j hj => hb j hj hj⟩
theorem nr_lt {cs : List (List Int)} (h : 0 < cs.length) (c : List Int) : nrI cs c < cs.length := by
  obtain ⟨i, hi⟩ := near_ex h c
  rw [nr_of hi]
  exact hi.1
theorem mv_col (b : List Int) (cs : List (List Int)) (i : Nat) : (mvP b cs).getD i [] = adC (cs.getD i []) b := by
  unfold mvP
  rw [List.getD_eq_getElem?_getD, List.getD_eq_getElem?_getD, List.getElem?_map]
  cases cs[i]? <;> rfl
theorem ho_mv_fold {h w n : Nat} {b : List Int} {shs : List (Int × Int × Int)} {cs : List (List Int)} (c0 : 0 < cs.length) (cl : ∀ c ∈ cs, c.length = n) (bl : b.length = n) (sok : ∀ s ∈ shs, 0 ≤ s.2.1 ∧ 0 < s.2.2 ∧ s.2.2 ≤ 1000) : ∀ (ss : List (List Int)) (z : List (List (List Int)) × List (List Int) × List Int), (∀ s ∈ ss, ∃ (r c : Nat) (sd : Int), s = [(r : Int), (c : Int), sd] ∧ r < h ∧ c < w ∧ -1 ≤ sd ∧ sd ≤ 1) → Rect h w n z.1 →
    ss.foldl (hoStep h w shs (mvP b cs)) (mvW b z.1, z.2) = (mvW b (ss.foldl (hoStep h w shs cs) z).1, (ss.foldl (hoStep h w shs cs) z).2)
  | [], z, _, _ => rfl
  | s :: ss, z, hs, hR => by
    obtain ⟨r, c, sd, rfl, rh, cw, _⟩ := hs s (List.mem_cons_self ..)
    have gl := (rect_get hR rh cw).2
    have hl : (cs.getD (nrI cs (getC z.1 r c)) []).length = n := by
      have := nr_lt c0 (getC z.1 r c)
      rw [List.getD_eq_getElem?_getD, List.getElem?_eq_getElem this]
      exact cl _ (List.getElem_mem this)
    have hR2 := (rect_hand (sd := sd) hR rh cw hl sok).1
    have e1 : sR [(r : Int), (c : Int), sd] = r := Int.toNat_natCast r
    have e2 : sC [(r : Int), (c : Int), sd] = c := Int.toNat_natCast c
    have e3 : sS [(r : Int), (c : Int), sd] = sd := rfl
    have st : hoStep h w shs (mvP b cs) (mvW b z.1, z.2) [(r : Int), (c : Int), sd] = (mvW b (hoStep h w shs cs z [(r : Int), (c : Int), sd]).1, (hoStep h w shs cs z [(r : Int), (c : Int), sd]).2) := by
      unfold hoStep
      rw [e1, e2, e3]
      simp only
      rw [mv_get, nr_mv gl bl cl, mv_col, mv_hand hR rh cw hl bl]
    rw [List.foldl_cons, List.foldl_cons, st]
    refine ho_mv_fold c0 cl bl sok ss _ (fun x hx => hs x (List.mem_cons_of_mem _ hx)) ?_
    unfold hoStep
    rw [e1, e2, e3]
    exact hR2
theorem spots_mv (t : Bool) (b : List Int) (ps : List (List (List Int))) : ∀ m, spotsOf t (mvW b ps) m = spotsOf t ps m
  | 0 => rfl
  | m + 1 => by
    rw [spots_succ, spots_succ, spots_mv t b ps m, mv_row]
    unfold mvP
    rw [List.length_map]
theorem ho_mv {h w n : Nat} {t : Bool} {b : List Int} {ps : List (List (List Int))} {shs : List (Int × Int × Int)} {cs : List (List Int)} (c0 : 0 < cs.length) (cl : ∀ c ∈ cs, c.length = n) (bl : b.length = n) (sok : ∀ s ∈ shs, 0 ≤ s.2.1 ∧ 0 < s.2.2 ∧ s.2.2 ≤ 1000) (hR : Rect h w n ps) :
    (hoW h w n t (mvW b ps) shs (mvP b cs)).2 = (hoW h w n t ps shs cs).2 := by
  unfold hoW
  have e1 : (mvW b ps).length = ps.length := by unfold mvW; rw [List.length_map]
  have e2 : ((mvW b ps).map fun p => List.replicate p.length (0 : Int)) = ps.map fun p => List.replicate p.length 0 := by
    unfold mvW mvP
    rw [List.map_map]
    exact List.map_congr_left fun p _ => by simp
  rw [e1, e2, spots_mv, hR.1]
  have := ho_mv_fold (h := h) (w := w) (b := b) (shs := shs) c0 cl bl sok (spotsOf t ps h) (ps, ps.map (fun p => List.replicate p.length 0), List.replicate n 0) (spots_in hR t h (Nat.le_refl _)) hR
  rw [this]
/-! one row, one column -/
theorem ho_row {h w n : Nat} {ps : List (List (List Int))} {shs : List (Int × Int × Int)} {cs : List (List Int)} (h1 : ps.length = 1) (t : Bool) : hoW h w n t ps shs cs = hoW h w n false ps shs cs := by
  unfold hoW
  have : spotsOf t ps ps.length = spotsOf false ps ps.length := by
    rw [h1, spots_succ, spots_succ]
    congr 1
    unfold spRow
    rw [if_neg (by omega), if_neg (by omega)]
  rw [this]
theorem there_col {h : Nat} {shs : List (Int × Int × Int)} {r sd : Int} (hs : sd = 1 ∨ sd = -1) : thereOf h 1 shs r 0 sd = thereOf h 1 shs r 0 1 := by
  unfold thereOf
  rw [show ((1 : Nat) : Int) = 1 from rfl]
  induction shs with
  | nil => rfl
  | cons s shs ih =>
    rw [List.map_cons, List.map_cons]
    by_cases c : s.1 = 0
    · have e : al3 r 0 sd s = al3 r 0 1 s := by
        unfold al3
        rw [c, Int.mul_zero, Int.mul_zero]
      rw [e]
      by_cases d : in3 h 1 (al3 r 0 1 s) = true
      · rw [List.filter_cons_of_pos d, List.filter_cons_of_pos d, ih]
      · rw [List.filter_cons_of_neg d, List.filter_cons_of_neg d, ih]
    · have no : ∀ x : Int, (x = 1 ∨ x = -1) → ¬ in3 h 1 (al3 r 0 x s) = true := fun x hx z => by
        unfold in3 al3 at z
        simp only [Bool.and_eq_true, decide_eq_true_eq] at z
        rcases hx with rfl | rfl <;> omega
      rw [List.filter_cons_of_neg (no sd hs), List.filter_cons_of_neg (no 1 (.inl rfl)), ih]
theorem fold_rel {α β : Type} (f : β → α → β) : ∀ (xs ys : List α), xs.length = ys.length → (∀ (i : Nat) (a b : α), xs[i]? = some a → ys[i]? = some b → ∀ z, f z a = f z b) → ∀ z, xs.foldl f z = ys.foldl f z
  | [], [], _, _, _ => rfl
  | x :: xs, y :: ys, hl, h, z => by
    rw [List.foldl_cons, List.foldl_cons, h 0 x y rfl rfl]
    exact fold_rel f xs ys (by simpa using hl) (fun i a b h1 h2 => h (i + 1) a b h1 h2) _
theorem sp_col (t : Bool) (r : Nat) : spRow t r 1 = [[(r : Int), 0, if t = true ∧ r % 2 = 1 then -1 else 1]] := by
  unfold spRow
  split <;> rfl
theorem spots_col (t : Bool) {ps : List (List (List Int))} {n h : Nat} (hR : Rect h 1 n ps) : ∀ m, m ≤ h → spotsOf t ps m = (List.range m).map fun (r : Nat) => [(r : Int), 0, if t = true ∧ r % 2 = 1 then -1 else 1]
  | 0, _ => rfl
  | m + 1, hm => by
    rw [spots_succ, spots_col t hR m (by omega), (rect_row hR (r := m) (by omega)).2.1, sp_col, List.range_succ, List.map_append]
    rfl
theorem ho_col {h n : Nat} {ps : List (List (List Int))} {shs : List (Int × Int × Int)} {cs : List (List Int)} (hR : Rect h 1 n ps) (t : Bool) : hoW h 1 n t ps shs cs = hoW h 1 n false ps shs cs := by
  unfold hoW
  rw [hR.1, spots_col t hR h (Nat.le_refl _), spots_col false hR h (Nat.le_refl _)]
  refine fold_rel _ _ _ (by simp) (fun i a b h1 h2 z => ?_) _
  have hi : i < h := by
    have := (List.getElem?_eq_some_iff.mp h1).1
    simpa using this
  rw [List.getElem?_map, List.getElem?_range hi] at h1 h2
  have ea := Option.some.inj h1
  have eb := Option.some.inj h2
  rw [← ea, ← eb]
  show hoStep h 1 shs cs z [(i : Int), 0, if t = true ∧ i % 2 = 1 then -1 else 1] = hoStep h 1 shs cs z [(i : Int), 0, if false = true ∧ i % 2 = 1 then -1 else 1]
  rw [if_neg (c := false = true ∧ i % 2 = 1) (fun h => nomatch h.1)]
  have key : ∀ (sd : Int) (W : List (List (List Int))) (col : List Int), (sd = 1 ∨ sd = -1) → handW h 1 W shs i 0 sd col = handW h 1 W shs i 0 1 col := fun sd W col hs => by
    unfold handW
    rw [show ((0 : Nat) : Int) = 0 from rfl, there_col hs]
  have hsd : (if t = true ∧ i % 2 = 1 then (-1 : Int) else 1) = 1 ∨ (if t = true ∧ i % 2 = 1 then (-1 : Int) else 1) = -1 := by
    split
    · exact .inr rfl
    · exact .inl rfl
  generalize (if t = true ∧ i % 2 = 1 then (-1 : Int) else 1) = sd at *
  unfold hoStep
  have e1 : ∀ x : Int, sR [(i : Int), 0, x] = i := fun x => Int.toNat_natCast i
  have e2 : ∀ x : Int, sC [(i : Int), 0, x] = 0 := fun x => rfl
  have e3 : ∀ x : Int, sS [(i : Int), 0, x] = x := fun x => rfl
  rw [e1, e1, e2, e2, e3, e3, key sd _ _ hsd]
/-! ### what is told stays -/
theorem get_put_ne {W : List (List (List Int))} {r c r' c' : Nat} {v : List Int} (h : r' ≠ r ∨ c' ≠ c) : getC (putC W r' c' v) r c = getC W r c := by
  unfold getC putC
  by_cases e : r' = r
  · subst e
    have hc : c' ≠ c := by
      rcases h with z | z
      · exact absurd rfl z
      · exact z
    by_cases hl : r' < W.length
    · have e1 : (W.set r' ((W.getD r' []).set c' v)).getD r' [] = (W.getD r' []).set c' v := by
        rw [List.getD_eq_getElem?_getD, List.getElem?_set_self hl]
        rfl
      rw [e1, List.getD_eq_getElem?_getD, List.getElem?_set_ne hc, ← List.getD_eq_getElem?_getD]
    · rw [List.set_eq_of_length_le (by omega)]
  · have e1 : (W.set r' ((W.getD r' []).set c' v)).getD r [] = W.getD r [] := by
      rw [List.getD_eq_getElem?_getD, List.getElem?_set_ne e, ← List.getD_eq_getElem?_getD]
    rw [e1]
theorem get_fold_ne {left : List Int} {t : Int} {r c : Nat} : ∀ (es : List (Int × Int × Int)) (z : List (List (List Int)) × List Int), (∀ e ∈ es, e.1.toNat ≠ r ∨ e.2.1.toNat ≠ c) → getC (es.foldl (hStep left t) z).1 r c = getC z.1 r c
  | [], _, _ => rfl
  | e :: es, z, h => by
    rw [List.foldl_cons, get_fold_ne es _ fun x hx => h x (List.mem_cons_of_mem _ hx)]
    exact get_put_ne (h e (List.mem_cons_self ..))
theorem get_hand_ne {h w : Nat} {W : List (List (List Int))} {shs : List (Int × Int × Int)} {r' c' : Nat} {sd : Int} {col : List Int} {r c : Nat} (hn : ∀ e ∈ thereOf h w shs r' c' sd, e.1.toNat ≠ r ∨ e.2.1.toNat ≠ c) : getC (handW h w W shs r' c' sd col).1 r c = getC W r c := by
  unfold handW
  cases e : thereOf h w shs r' c' sd with
  | nil => rfl
  | cons a es =>
    rw [e] at hn
    show getC (putC _ _ _ _) r c = _
    rw [get_put_ne (hn a (List.mem_cons_self ..)), get_fold_ne _ _ hn]
/-- a share goes to a spot that comes later -/
theorem there_ne {h w : Nat} {shs : List (Int × Int × Int)} {r' c' r c : Nat} {sd : Int} (ord : ∀ s ∈ shs, 0 < s.2.1 ∨ (s.2.1 = 0 ∧ 0 < s.1)) (hs : sd = 1 ∨ sd = -1) (hb : r < r' ∨ (r = r' ∧ sd * (c : Int) ≤ sd * (c' : Int))) :
    ∀ e ∈ thereOf h w shs r' c' sd, e.1.toNat ≠ r ∨ e.2.1.toNat ≠ c := fun e he => by
  unfold thereOf at he
  obtain ⟨m, i⟩ := List.mem_filter.mp he
  obtain ⟨s, hs', rfl⟩ := List.mem_map.mp m
  unfold in3 at i
  simp only [Bool.and_eq_true, decide_eq_true_eq] at i
  obtain ⟨_, i2, _⟩ := i
  unfold al3 at i2 ⊢
  simp only at i2 ⊢
  have o := ord s hs'
  rcases hs with rfl | rfl
  · rcases o with o | o <;> rcases hb with b | b <;> omega
  · rcases o with o | o <;> rcases hb with b | b <;> omega
/-! ### what is told is the nearest to what is wanted -/
def bef (s s' : List Int) : Prop := sR s < sR s' ∨ (sR s = sR s' ∧ sS s' * (sC s : Int) < sS s' * (sC s' : Int))
theorem sR3 (r c : Nat) (x : Int) : sR [(r : Int), (c : Int), x] = r := Int.toNat_natCast r
theorem sC3 (r c : Nat) (x : Int) : sC [(r : Int), (c : Int), x] = c := Int.toNat_natCast c
theorem sS3 (r c : Int) (x : Int) : sS [r, c, x] = x := rfl
theorem spRow_ok {t : Bool} {r n : Nat} : ∀ s ∈ spRow t r n, sR s = r ∧ sC s < n ∧ (sS s = 1 ∨ sS s = -1) := fun s hs => by
  unfold spRow at hs
  split at hs
  · obtain ⟨c, hc, rfl⟩ := List.mem_map.mp hs
    have := List.mem_range.mp hc
    rw [sR3, sC3, sS3]
    exact ⟨rfl, by omega, .inr rfl⟩
  · obtain ⟨c, hc, rfl⟩ := List.mem_map.mp hs
    have := List.mem_range.mp hc
    rw [sR3, sC3, sS3]
    exact ⟨rfl, by omega, .inl rfl⟩
theorem spRow_pw (t : Bool) (r n : Nat) : (spRow t r n).Pairwise bef := by
  unfold spRow
  split
  · rw [List.pairwise_map]
    refine List.Pairwise.imp_of_mem (fun {a b} ha hb h => ?_) (List.pairwise_lt_range (n := n))
    have := List.mem_range.mp ha
    have := List.mem_range.mp hb
    unfold bef
    rw [sR3, sR3, sC3, sC3, sS3]
    omega
  · rw [List.pairwise_map]
    refine List.Pairwise.imp_of_mem (fun {a b} ha hb h => ?_) (List.pairwise_lt_range (n := n))
    unfold bef
    rw [sR3, sR3, sC3, sC3, sS3]
    omega
theorem spRow_all {t : Bool} {r n c : Nat} (hc : c < n) : ∃ s ∈ spRow t r n, sR s = r ∧ sC s = c := by
  unfold spRow
  split
  · refine ⟨_, List.mem_map.mpr ⟨n - 1 - c, List.mem_range.mpr (by omega), rfl⟩, ?_⟩
    rw [sR3, sC3]
    omega
  · refine ⟨_, List.mem_map.mpr ⟨c, List.mem_range.mpr hc, rfl⟩, ?_⟩
    rw [sR3, sC3]
    exact ⟨rfl, rfl⟩
theorem sp_ok {h w n : Nat} {ps : List (List (List Int))} (hR : Rect h w n ps) (t : Bool) : ∀ m, m ≤ h → ∀ s ∈ spotsOf t ps m, sR s < m ∧ sC s < w ∧ (sS s = 1 ∨ sS s = -1)
  | 0, _, s, hs => by simp [spotsOf] at hs
  | m + 1, hm, s, hs => by
    rw [spots_succ, (rect_row hR (r := m) (by omega)).2.1] at hs
    rcases List.mem_append.mp hs with z | z
    · have := sp_ok hR t m (by omega) s z
      exact ⟨by omega, this.2⟩
    · have := spRow_ok s z
      exact ⟨by omega, this.2⟩
theorem sp_pw {h w n : Nat} {ps : List (List (List Int))} (hR : Rect h w n ps) (t : Bool) : ∀ m, m ≤ h → (spotsOf t ps m).Pairwise bef
  | 0, _ => by simp [spotsOf]
  | m + 1, hm => by
    rw [spots_succ, List.pairwise_append]
    refine ⟨sp_pw hR t m (by omega), spRow_pw .., fun a ha b hb => .inl ?_⟩
    have h1 := sp_ok hR t m (by omega) a ha
    have h2 := spRow_ok b hb
    omega
theorem sp_all {h w n : Nat} {ps : List (List (List Int))} (hR : Rect h w n ps) (t : Bool) {r c : Nat} (hc : c < w) : ∀ m, m ≤ h → r < m → ∃ s ∈ spotsOf t ps m, sR s = r ∧ sC s = c
  | 0, _, hr => by omega
  | m + 1, hm, hr => by
    rw [spots_succ, (rect_row hR (r := m) (by omega)).2.1]
    by_cases e : r = m
    · subst e
      obtain ⟨s, hs, h2⟩ := spRow_all (t := t) (r := r) hc
      exact ⟨s, List.mem_append_right _ hs, h2⟩
    · obtain ⟨s, hs, h2⟩ := sp_all hR t (r := r) hc m (by omega) (by omega)
      exact ⟨s, List.mem_append_left _ hs, h2⟩
theorem keep_fold {h w : Nat} {shs : List (Int × Int × Int)} {cs : List (List Int)} (ord : ∀ s ∈ shs, 0 < s.2.1 ∨ (s.2.1 = 0 ∧ 0 < s.1)) {r c : Nat} : ∀ (ss : List (List Int)) (z : List (List (List Int)) × List (List Int) × List Int), (∀ s ∈ ss, (sS s = 1 ∨ sS s = -1) ∧ (r < sR s ∨ (r = sR s ∧ sS s * (c : Int) ≤ sS s * (sC s : Int)))) → getC (ss.foldl (hoStep h w shs cs) z).1 r c = getC z.1 r c
  | [], _, _ => rfl
  | s :: ss, z, hs => by
    rw [List.foldl_cons, keep_fold ord ss _ fun x hx => hs x (List.mem_cons_of_mem _ hx)]
    have h1 := hs s (List.mem_cons_self ..)
    exact get_hand_ne (there_ne ord h1.1 h1.2)
theorem get2_set {N : List (List Int)} {r c r' c' : Nat} {v : Int} (h : r' ≠ r ∨ c' ≠ c) : ((N.set r' ((N.getD r' []).set c' v)).getD r []).getD c 0 = (N.getD r []).getD c 0 := by
  by_cases e : r' = r
  · subst e
    have hc : c' ≠ c := by
      rcases h with z | z
      · exact absurd rfl z
      · exact z
    by_cases hl : r' < N.length
    · have e1 : (N.set r' ((N.getD r' []).set c' v)).getD r' [] = (N.getD r' []).set c' v := by
        rw [List.getD_eq_getElem?_getD, List.getElem?_set_self hl]
        rfl
      rw [e1, List.getD_eq_getElem?_getD, List.getElem?_set_ne hc, ← List.getD_eq_getElem?_getD]
    · rw [List.set_eq_of_length_le (by omega)]
  · have e1 : (N.set r' ((N.getD r' []).set c' v)).getD r [] = N.getD r [] := by
      rw [List.getD_eq_getElem?_getD, List.getElem?_set_ne e, ← List.getD_eq_getElem?_getD]
    rw [e1]
theorem get2_same {h w : Nat} {N : List (List Int)} {r c : Nat} {v : Int} (hN : nRect h w N) (hr : r < h) (hc : c < w) : ((N.set r ((N.getD r []).set c v)).getD r []).getD c 0 = v := by
  have hl : r < N.length := by rw [hN.1]; exact hr
  have en : N.getD r [] = N[r] := by rw [List.getD_eq_getElem?_getD, List.getElem?_eq_getElem hl]; rfl
  have lw := hN.2 _ (List.getElem_mem hl)
  have e1 : (N.set r ((N.getD r []).set c v)).getD r [] = (N.getD r []).set c v := by
    rw [List.getD_eq_getElem?_getD, List.getElem?_set_self hl]
    rfl
  rw [e1, en, List.getD_eq_getElem?_getD, List.getElem?_set_self (by omega)]
  rfl
theorem num_fold {h w : Nat} {shs : List (Int × Int × Int)} {cs : List (List Int)} {r c : Nat} : ∀ (ss : List (List Int)) (z : List (List (List Int)) × List (List Int) × List Int), (∀ s ∈ ss, sR s ≠ r ∨ sC s ≠ c) → ((ss.foldl (hoStep h w shs cs) z).2.1.getD r []).getD c 0 = (z.2.1.getD r []).getD c 0
  | [], _, _ => rfl
  | s :: ss, z, hs => by
    rw [List.foldl_cons, num_fold ss _ fun x hx => hs x (List.mem_cons_of_mem _ hx)]
    exact get2_set (hs s (List.mem_cons_self ..))
theorem told_fold {h w : Nat} {shs : List (Int × Int × Int)} {cs : List (List Int)} (ord : ∀ s ∈ shs, 0 < s.2.1 ∨ (s.2.1 = 0 ∧ 0 < s.1)) : ∀ (ss : List (List Int)) (z : List (List (List Int)) × List (List Int) × List Int), (∀ s ∈ ss, sR s < h ∧ sC s < w ∧ (sS s = 1 ∨ sS s = -1)) → ss.Pairwise bef → nRect h w z.2.1 →
    ∀ s ∈ ss, ((ss.foldl (hoStep h w shs cs) z).2.1.getD (sR s) []).getD (sC s) 0 = (nrI cs (getC (ss.foldl (hoStep h w shs cs) z).1 (sR s) (sC s)) : Int)
  | [], _, _, _, _, _, hm => nomatch hm
  | a :: ss, z, ok, pw, hN, s, hm => by
    obtain ⟨p1, p2⟩ := List.pairwise_cons.mp pw
    have oa := ok a (List.mem_cons_self ..)
    rw [List.foldl_cons]
    rcases List.mem_cons.mp hm with e | e
    · subst e
      have hne : ∀ x ∈ ss, sR x ≠ sR s ∨ sC x ≠ sC s := fun x hx => by
        rcases p1 x hx with b | b
        · exact .inl (by omega)
        · refine .inr fun q => ?_
          have := b.2
          rw [q] at this
          omega
      have hb : ∀ x ∈ ss, (sS x = 1 ∨ sS x = -1) ∧ (sR s < sR x ∨ (sR s = sR x ∧ sS x * (sC s : Int) ≤ sS x * (sC x : Int))) := fun x hx => by
        refine ⟨(ok x (List.mem_cons_of_mem _ hx)).2.2, ?_⟩
        rcases p1 x hx with b | b
        · exact .inl b
        · exact .inr ⟨b.1, Int.le_of_lt b.2⟩
      rw [num_fold ss _ hne, keep_fold ord ss _ hb]
      have e1 : getC (hoStep h w shs cs z s).1 (sR s) (sC s) = getC z.1 (sR s) (sC s) := get_hand_ne (there_ne ord oa.2.2 (.inr ⟨rfl, Int.le_refl _⟩))
      rw [e1]
      exact get2_same hN oa.1 oa.2.1
    · exact told_fold ord ss (hoStep h w shs cs z a) (fun x hx => ok x (List.mem_cons_of_mem _ hx)) p2 (hN.set oa.1) s e
theorem want_fold {h w : Nat} {shs : List (Int × Int × Int)} {cs : List (List Int)} (ord : ∀ s ∈ shs, 0 < s.2.1 ∨ (s.2.1 = 0 ∧ 0 < s.1)) (ns : List (List Int)) : ∀ (ss : List (List Int)) (z : List (List (List Int)) × List (List Int) × List Int), (∀ s ∈ ss, sR s < h ∧ sC s < w ∧ (sS s = 1 ∨ sS s = -1)) → ss.Pairwise bef →
    (∀ s ∈ ss, (ns.getD (sR s) []).getD (sC s) 0 = (nrI cs (getC (ss.foldl (hoStep h w shs cs) z).1 (sR s) (sC s)) : Int)) → ss.foldl (wantStep h w shs cs ns) z.1 = (ss.foldl (hoStep h w shs cs) z).1
  | [], _, _, _, _ => rfl
  | a :: ss, z, ok, pw, hn => by
    obtain ⟨p1, p2⟩ := List.pairwise_cons.mp pw
    have oa := ok a (List.mem_cons_self ..)
    have hb : ∀ x ∈ a :: ss, (sS x = 1 ∨ sS x = -1) ∧ (sR a < sR x ∨ (sR a = sR x ∧ sS x * (sC a : Int) ≤ sS x * (sC x : Int))) := fun x hx => by
      rcases List.mem_cons.mp hx with e | e
      · subst e
        exact ⟨oa.2.2, .inr ⟨rfl, Int.le_refl _⟩⟩
      · refine ⟨(ok x hx).2.2, ?_⟩
        rcases p1 x e with b | b
        · exact .inl b
        · exact .inr ⟨b.1, Int.le_of_lt b.2⟩
    have ha := hn a (List.mem_cons_self ..)
    rw [keep_fold ord (a :: ss) z hb] at ha
    have st : wantStep h w shs cs ns z.1 a = (hoStep h w shs cs z a).1 := by
      unfold wantStep hoStep
      rw [ha, Int.toNat_natCast]
    rw [List.foldl_cons, List.foldl_cons, st]
    refine want_fold ord ns ss (hoStep h w shs cs z a) (fun x hx => ok x (List.mem_cons_of_mem _ hx)) p2 fun x hx => ?_
    have := hn x (List.mem_cons_of_mem _ hx)
    rw [List.foldl_cons] at this
    exact this
theorem ho_rect_fold {h w n : Nat} {shs : List (Int × Int × Int)} {cs : List (List Int)} (c0 : 0 < cs.length) (cl : ∀ c ∈ cs, c.length = n) (sok : ∀ s ∈ shs, 0 ≤ s.2.1 ∧ 0 < s.2.2 ∧ s.2.2 ≤ 1000) : ∀ (ss : List (List Int)) (z : List (List (List Int)) × List (List Int) × List Int), (∀ s ∈ ss, sR s < h ∧ sC s < w ∧ (sS s = 1 ∨ sS s = -1)) → Rect h w n z.1 → nRect h w z.2.1 → Rect h w n (ss.foldl (hoStep h w shs cs) z).1 ∧ nRect h w (ss.foldl (hoStep h w shs cs) z).2.1
  | [], _, _, h1, h2 => ⟨h1, h2⟩
  | a :: ss, z, ok, h1, h2 => by
    have oa := ok a (List.mem_cons_self ..)
    have hl : (cs.getD (nrI cs (getC z.1 (sR a) (sC a))) []).length = n := by
      have := nr_lt c0 (getC z.1 (sR a) (sC a))
      rw [List.getD_eq_getElem?_getD, List.getElem?_eq_getElem this]
      exact cl _ (List.getElem_mem this)
    rw [List.foldl_cons]
    exact ho_rect_fold c0 cl sok ss _ (fun x hx => ok x (List.mem_cons_of_mem _ hx)) (rect_hand (sd := sS a) h1 oa.1 oa.2.1 hl sok).1 (h2.set oa.1)
theorem nrect0 {h w n : Nat} {ps : List (List (List Int))} (hR : Rect h w n ps) : nRect h w (ps.map fun p => List.replicate p.length (0 : Int)) := by
  refine ⟨by rw [List.length_map]; exact hR.1, fun r hr => ?_⟩
  obtain ⟨p, hp, rfl⟩ := List.mem_map.mp hr
  rw [List.length_replicate]
  exact (hR.2 p hp).1
theorem ho_rect {h w n : Nat} {t : Bool} {ps : List (List (List Int))} {shs : List (Int × Int × Int)} {cs : List (List Int)} (c0 : 0 < cs.length) (cl : ∀ c ∈ cs, c.length = n) (sok : ∀ s ∈ shs, 0 ≤ s.2.1 ∧ 0 < s.2.2 ∧ s.2.2 ≤ 1000) (hR : Rect h w n ps) : Rect h w n (hoW h w n t ps shs cs).1 ∧ nRect h w (hoW h w n t ps shs cs).2.1 := by
  unfold hoW
  rw [hR.1]
  exact ho_rect_fold c0 cl sok _ _ (sp_ok hR t h (Nat.le_refl _)) hR (nrect0 hR)
theorem ho_told {h w n : Nat} {t : Bool} {ps : List (List (List Int))} {shs : List (Int × Int × Int)} {cs : List (List Int)} (ord : ∀ s ∈ shs, 0 < s.2.1 ∨ (s.2.1 = 0 ∧ 0 < s.1)) (hR : Rect h w n ps) {r c : Nat} (hr : r < h) (hc : c < w) :
    ((hoW h w n t ps shs cs).2.1.getD r []).getD c 0 = (nrI cs (getC (hoW h w n t ps shs cs).1 r c) : Int) := by
  obtain ⟨s, hs, e1, e2⟩ := sp_all hR t hc h (Nat.le_refl _) hr
  unfold hoW
  rw [hR.1]
  have := told_fold (h := h) (w := w) (cs := cs) ord (spotsOf t ps h) (ps, ps.map (fun p => List.replicate p.length 0), List.replicate n 0) (sp_ok hR t h (Nat.le_refl _)) (sp_pw hR t h (Nat.le_refl _)) (nrect0 hR) s hs
  rw [e1, e2] at this
  exact this
theorem ho_want {h w n : Nat} {t : Bool} {ps : List (List (List Int))} {shs : List (Int × Int × Int)} {cs : List (List Int)} (ord : ∀ s ∈ shs, 0 < s.2.1 ∨ (s.2.1 = 0 ∧ 0 < s.1)) (hR : Rect h w n ps) :
    wantW h w t ps shs cs (hoW h w n t ps shs cs).2.1 = (hoW h w n t ps shs cs).1 := by
  have ht := fun r c hr hc => ho_told (t := t) (cs := cs) ord hR (r := r) (c := c) hr hc
  generalize hN : (hoW h w n t ps shs cs).2.1 = N at *
  unfold wantW hoW
  unfold hoW at ht
  rw [hR.1] at ht ⊢
  exact want_fold ord N (spotsOf t ps h) (ps, ps.map (fun p => List.replicate p.length 0), List.replicate n 0) (sp_ok hR t h (Nat.le_refl _)) (sp_pw hR t h (Nat.le_refl _)) fun s hs => by
    have o := sp_ok hR t h (Nat.le_refl _) s hs
    exact ht _ _ o.1 o.2.1
theorem ho_row_told {h w n : Nat} {t : Bool} {ps : List (List (List Int))} {shs : List (Int × Int × Int)} {cs : List (List Int)} (c0 : 0 < cs.length) (cl : ∀ c ∈ cs, c.length = n) (sok : ∀ s ∈ shs, 0 ≤ s.2.1 ∧ 0 < s.2.2 ∧ s.2.2 ≤ 1000) (ord : ∀ s ∈ shs, 0 < s.2.1 ∨ (s.2.1 = 0 ∧ 0 < s.1)) (hR : Rect h w n ps) {r : Nat} (hr : r < h) :
    (hoW h w n t ps shs cs).2.1.getD r [] = ((hoW h w n t ps shs cs).1.getD r []).map fun c => (nrI cs c : Int) := by
  obtain ⟨q1, q2⟩ := ho_rect (t := t) c0 cl sok hR
  have ht := fun c hc => ho_told (t := t) (cs := cs) ord hR (r := r) (c := c) hr hc
  generalize (hoW h w n t ps shs cs).2.1 = N at *
  generalize (hoW h w n t ps shs cs).1 = W at *
  have hl : r < N.length := by rw [q2.1]; exact hr
  have en : N.getD r [] = N[r] := by rw [List.getD_eq_getElem?_getD, List.getElem?_eq_getElem hl]; rfl
  have lw := q2.2 _ (List.getElem_mem hl)
  have lW := (rect_row q1 hr).2.1
  rw [en] at ht ⊢
  refine List.ext_getElem (by rw [List.length_map]; omega) fun i h1 h2 => ?_
  have := ht i (by omega)
  rw [List.getD_eq_getElem?_getD, List.getElem?_eq_getElem h1] at this
  rw [List.getElem_map]
  have e2 : getC W r i = (W.getD r [])[i]'(by omega) := by
    unfold getC
    rw [List.getD_eq_getElem?_getD (l := W.getD r []), List.getElem?_eq_getElem (by omega)]
    rfl
  rw [← e2]
  exact this
/-! ### the nearest ones to what is wanted -/
theorem Gr.dt {B : List Addr} {H : Hp} {wa : Addr} {ras : List Addr} {W : List (List PyData)} (g : Gr B H wa ras W) : Dt B H (.ref wa) (.list (W.map PyData.list)) := by
  refine .lst g.nw g.a (DtA.mk (by rw [List.length_map, List.length_map]; exact g.l) fun i v d h1 h2 => ?_)
  rw [List.getElem?_map] at h1 h2
  cases e1 : ras[i]? with
  | none => rw [e1] at h1; cases h1
  | some r =>
    cases e2 : W[i]? with
    | none => rw [e2] at h2; cases h2
    | some ds =>
      rw [e1] at h1
      rw [e2] at h2
      cases h1
      cases h2
      obtain ⟨vs, e, a⟩ := g.r i r ds e1 e2
      exact .lst (g.nb r (List.mem_of_getElem? e1)) e (a.sub fun a ha => List.mem_append_right _ ha)
theorem ho_bnd_fold {h w : Nat} {shs : List (Int × Int × Int)} {cs : List (List Int)} (c0 : 0 < cs.length) (sok : ∀ s ∈ shs, 0 ≤ s.2.1 ∧ 0 < s.2.2 ∧ s.2.2 ≤ 1000) (sl : shs.length ≤ 12) : ∀ (ss : List (List Int)) (z : List (List (List Int)) × List (List Int) × List Int) (M : Nat), (∀ c ∈ cs, bC M c) → bW M z.1 → bW (M * 64 ^ ss.length) (ss.foldl (hoStep h w shs cs) z).1
  | [], z, M, _, hz => by simpa using hz
  | a :: ss, z, M, hc, hz => by
    have hl : bC M (cs.getD (nrI cs (getC z.1 (sR a) (sC a))) []) := by
      have := nr_lt c0 (getC z.1 (sR a) (sC a))
      rw [List.getD_eq_getElem?_getD, List.getElem?_eq_getElem this]
      exact hc _ (List.getElem_mem this)
    rw [List.foldl_cons]
    have := ho_bnd_fold (h := h) (w := w) c0 sok sl ss (hoStep h w shs cs z a) (64 * M) (fun c hcc => (hc c hcc).mono (by omega)) (bnd_hand (sd := sS a) sok sl hz hl).1
    refine this.mono (Nat.le_of_eq ?_)
    rw [List.length_cons, Nat.pow_succ, Nat.mul_comm 64 M, Nat.mul_assoc, Nat.mul_comm 64]
theorem sp_len {h w n : Nat} {ps : List (List (List Int))} (hR : Rect h w n ps) (t : Bool) : ∀ m, m ≤ h → (spotsOf t ps m).length = w * m := fun m => by
  induction m with
  | zero => intro _; simp [spotsOf]
  | succ m ih =>
    intro hm
    rw [spots_succ, List.length_append, spRow_len, ih (by omega), (rect_row hR (r := m) (by omega)).2.1, Nat.mul_succ]
theorem ho_wIn {h w n : Nat} {t : Bool} {ps : List (List (List Int))} {shs : List (Int × Int × Int)} {cs : List (List Int)} (c0 : 0 < cs.length) (sok : ∀ s ∈ shs, 0 ≤ s.2.1 ∧ 0 < s.2.2 ∧ s.2.2 ≤ 1000) (sl : shs.length ≤ 12) (hR : Rect h w n ps) (h1 : h ≤ 16) (w1 : w ≤ 16) (hc : ∀ c ∈ cs, bC 2048 c) (hb : bW 2048 ps) : ∀ p ∈ (hoW h w n t ps shs cs).1, ∀ c ∈ p, wIn c := fun p hp c hcp => by
  have hf := ho_bnd_fold (h := h) (w := w) c0 sok sl (spotsOf t ps h) (ps, ps.map (fun p => List.replicate p.length 0), List.replicate n 0) 2048 hc hb
  unfold hoW at hp
  rw [hR.1] at hp
  have hl := sp_len hR t h (Nat.le_refl _)
  have hm : w * h ≤ 16 * 16 := Nat.mul_le_mul w1 h1
  have hx := hf p hp c hcp
  refine wIn_of (k := 1547) (by decide) (hx.mono ?_)
  rw [hl]
  have e : (2 : Nat) ^ 1547 = 2048 * 64 ^ 256 := by decide
  rw [e]
  exact Nat.mul_le_mul_left _ (Nat.pow_le_pow_right (by decide) (by omega))
def HoOk (h w n : Nat) (ps : List (List (List Int))) (cs : List (List Int)) (shs : List (Int × Int × Int)) : Prop := Rect h w n ps ∧ 0 < h ∧ h ≤ 16 ∧ 0 < w ∧ w ≤ 16 ∧ 0 < n ∧ n ≤ 100 ∧ 0 < cs.length ∧ cs.length ≤ 1000 ∧ (∀ c ∈ cs, c.length = n ∧ bC 2048 c) ∧ bW 2048 ps ∧ shs.length ≤ 12 ∧ (∀ s ∈ shs, 0 ≤ s.2.1 ∧ 0 < s.2.2 ∧ s.2.2 ≤ 1000)
/-! ### handed_on, used -/
def eHo (z : List (List Int) × List Int) : PyData := .tuple [eN z.1, eC z.2]
theorem lost_fold {h w : Nat} {shs : List (Int × Int × Int)} {cs : List (List Int)} {n : Nat} : ∀ (ss : List (List Int)) (z : List (List (List Int)) × List (List Int) × List Int), z.2.2.length ≤ n → (ss.foldl (hoStep h w shs cs) z).2.2.length ≤ n
  | [], _, hz => hz
  | a :: ss, z, hz => by
    rw [List.foldl_cons]
    refine lost_fold ss _ ?_
    show (adC z.2.2 _).length ≤ n
    rw [adC_ln]
    omega
theorem sh_eHo {h w n : Nat} {t : Bool} {ps : List (List (List Int))} {cs : List (List Int)} {shs : List (Int × Int × Int)} (ok : HoOk h w n ps cs shs) : Sh (eHo (hoW h w n t ps shs cs).2) 3 := by
  obtain ⟨hR, h0, h1, w0, w1, n0, n1, c0, c1, cl, bps, sl, sok⟩ := ok
  obtain ⟨_, q2⟩ := ho_rect (t := t) c0 (fun c hc => (cl c hc).1) sok hR
  refine sh_tup (by simp) fun d hd => ?_
  simp only [List.mem_cons, List.not_mem_nil, or_false] at hd
  rcases hd with rfl | rfl
  · refine sh_eN (by have := q2.1; omega) fun r hr => by have := q2.2 r hr; omega
  · refine (sh_eC ?_).mono (by omega)
    have := lost_fold (h := h) (w := w) (shs := shs) (cs := cs) (n := n) (spotsOf t ps ps.length) (ps, ps.map (fun p => List.replicate p.length 0), List.replicate n 0) (by simp)
    unfold hoW
    omega
theorem ho_fin {B : List Addr} {H' : Hp} {t0 na : Addr} {ras : List Addr} {lv : V} {N : List (List Int)} {lost : List Int} (e : H' t0 = some (.tup [.ref na, lv])) (nt : t0 ∉ B) (g : Gr B H' na ras (N.map fun r => r.map PyData.int)) (dl : Dt (na :: ras ++ B) H' lv (eC lost)) : Dt B H' (.ref na) (eN N) ∧ Dt B H' lv (eC lost) ∧ Dt B H' (.ref t0) (eHo (N, lost)) := by
  have dn : Dt B H' (.ref na) (eN N) := by
    have := g.dt
    rw [List.map_map] at this
    exact this
  have dl2 := dl.sub (C := B) fun a ha => List.mem_append_right _ ha
  exact ⟨dn, dl2, .tup nt e (.cons dn (.one dl2))⟩
/-! ### handed on by given numbers, place by place -/
def gStep (h w : Nat) (shs : List (Int × Int × Int)) (cs ns : List (List Int)) (z : List (List (List Int)) × List Int) (s : List Int) : List (List (List Int)) × List Int :=
  ((handW h w z.1 shs (sR s) (sC s) (sS s) (cs.getD ((ns.getD (sR s) []).getD (sC s) 0).toNat [])).1, adC z.2 (handW h w z.1 shs (sR s) (sC s) (sS s) (cs.getD ((ns.getD (sR s) []).getD (sC s) 0).toNat [])).2)
def gW (h w n : Nat) (t : Bool) (ps : List (List (List Int))) (shs : List (Int × Int × Int)) (cs ns : List (List Int)) : List (List (List Int)) × List Int := (spotsOf t ps ps.length).foldl (gStep h w shs cs ns) (ps, List.replicate n 0)
theorem g_want_fold {h w : Nat} {shs : List (Int × Int × Int)} {cs ns : List (List Int)} : ∀ (ss : List (List Int)) (z : List (List (List Int)) × List Int), (ss.foldl (gStep h w shs cs ns) z).1 = ss.foldl (wantStep h w shs cs ns) z.1
  | [], _ => rfl
  | s :: ss, z => by
    rw [List.foldl_cons, List.foldl_cons, g_want_fold ss]
    rfl
theorem g_want {h w n : Nat} {t : Bool} {ps : List (List (List Int))} {shs : List (Int × Int × Int)} {cs ns : List (List Int)} : (gW h w n t ps shs cs ns).1 = wantW h w t ps shs cs ns := g_want_fold _ _
theorem g_ho_fold {h w : Nat} {shs : List (Int × Int × Int)} {cs : List (List Int)} (ord : ∀ s ∈ shs, 0 < s.2.1 ∨ (s.2.1 = 0 ∧ 0 < s.1)) (ns : List (List Int)) : ∀ (ss : List (List Int)) (z : List (List (List Int)) × List (List Int) × List Int), (∀ s ∈ ss, sR s < h ∧ sC s < w ∧ (sS s = 1 ∨ sS s = -1)) → ss.Pairwise bef →
    (∀ s ∈ ss, (ns.getD (sR s) []).getD (sC s) 0 = (nrI cs (getC (ss.foldl (hoStep h w shs cs) z).1 (sR s) (sC s)) : Int)) → ss.foldl (gStep h w shs cs ns) (z.1, z.2.2) = ((ss.foldl (hoStep h w shs cs) z).1, (ss.foldl (hoStep h w shs cs) z).2.2)
  | [], _, _, _, _ => rfl
  | a :: ss, z, ok, pw, hn => by
    obtain ⟨p1, p2⟩ := List.pairwise_cons.mp pw
    have oa := ok a (List.mem_cons_self ..)
    have hb : ∀ x ∈ a :: ss, (sS x = 1 ∨ sS x = -1) ∧ (sR a < sR x ∨ (sR a = sR x ∧ sS x * (sC a : Int) ≤ sS x * (sC x : Int))) := fun x hx => by
      rcases List.mem_cons.mp hx with e | e
      · subst e
        exact ⟨oa.2.2, .inr ⟨rfl, Int.le_refl _⟩⟩
      · refine ⟨(ok x hx).2.2, ?_⟩
        rcases p1 x e with b | b
        · exact .inl b
        · exact .inr ⟨b.1, Int.le_of_lt b.2⟩
    have ha := hn a (List.mem_cons_self ..)
    rw [keep_fold ord (a :: ss) z hb] at ha
    have st : gStep h w shs cs ns (z.1, z.2.2) a = ((hoStep h w shs cs z a).1, (hoStep h w shs cs z a).2.2) := by
      unfold gStep hoStep
      simp only
      rw [ha, Int.toNat_natCast]
    rw [List.foldl_cons, List.foldl_cons, st]
    refine g_ho_fold ord ns ss (hoStep h w shs cs z a) (fun x hx => ok x (List.mem_cons_of_mem _ hx)) p2 fun x hx => ?_
    have := hn x (List.mem_cons_of_mem _ hx)
    rw [List.foldl_cons] at this
    exact this
theorem g_ho {h w n : Nat} {t : Bool} {ps : List (List (List Int))} {shs : List (Int × Int × Int)} {cs : List (List Int)} (ord : ∀ s ∈ shs, 0 < s.2.1 ∨ (s.2.1 = 0 ∧ 0 < s.1)) (hR : Rect h w n ps) :
    gW h w n t ps shs cs (hoW h w n t ps shs cs).2.1 = ((hoW h w n t ps shs cs).1, (hoW h w n t ps shs cs).2.2) := by
  have ht := fun r c hr hc => ho_told (t := t) (cs := cs) ord hR (r := r) (c := c) hr hc
  generalize hN : (hoW h w n t ps shs cs).2.1 = N at *
  unfold gW hoW
  unfold hoW at ht
  rw [hR.1] at ht ⊢
  exact g_ho_fold ord N (spotsOf t ps h) (ps, ps.map (fun p => List.replicate p.length 0), List.replicate n 0) (sp_ok hR t h (Nat.le_refl _)) (sp_pw hR t h (Nat.le_refl _)) fun s hs => by
    have o := sp_ok hR t h (Nat.le_refl _) s hs
    exact ht _ _ o.1 o.2.1
theorem keepg_fold {h w : Nat} {shs : List (Int × Int × Int)} {cs ns : List (List Int)} (ord : ∀ s ∈ shs, 0 < s.2.1 ∨ (s.2.1 = 0 ∧ 0 < s.1)) {r c : Nat} : ∀ (ss : List (List Int)) (z : List (List (List Int)) × List Int), (∀ s ∈ ss, (sS s = 1 ∨ sS s = -1) ∧ (r < sR s ∨ (r = sR s ∧ sS s * (c : Int) ≤ sS s * (sC s : Int)))) → getC (ss.foldl (gStep h w shs cs ns) z).1 r c = getC z.1 r c
  | [], _, _ => rfl
  | s :: ss, z, hs => by
    rw [List.foldl_cons, keepg_fold ord ss _ fun x hx => hs x (List.mem_cons_of_mem _ hx)]
    have h1 := hs s (List.mem_cons_self ..)
    exact get_hand_ne (there_ne ord h1.1 h1.2)
/-! one place -/
def cz (x : List Int) (i : Nat) : Int := x.getD i 0
theorem cz_at {x : List Int} {i : Nat} (h : i < x.length) : cz x i = x[i] := by
  unfold cz
  rw [List.getD_eq_getElem?_getD, List.getElem?_eq_getElem h]
  rfl
theorem cz_out {x : List Int} {i : Nat} (h : ¬ i < x.length) : cz x i = 0 := by
  unfold cz
  rw [List.getD_eq_getElem?_getD, List.getElem?_eq_none (by omega)]
  rfl
theorem adC_cz {a b : List Int} (h : a.length = b.length) (i : Nat) : cz (adC a b) i = cz a i + cz b i := by
  have l := adC_ln a b
  by_cases c : i < a.length
  · rw [cz_at (by omega), cz_at c, cz_at (by omega), adC_at]
  · rw [cz_out (by omega), cz_out c, cz_out (by omega)]
    rfl
theorem leC_cz {a b : List Int} (h : a.length = b.length) (i : Nat) : cz (leC a b) i = cz a i - cz b i := by
  have l := leC_ln a b
  by_cases c : i < a.length
  · rw [cz_at (by omega), cz_at c, cz_at (by omega), leC_at]
  · rw [cz_out (by omega), cz_out c, cz_out (by omega)]
    rfl
theorem hdC_cz (left : List Int) (p t : Int) (i : Nat) : cz (hdC left p t) i = cz left i * p / t := by
  have l : (hdC left p t).length = left.length := by unfold hdC; rw [List.length_map]
  by_cases c : i < left.length
  · rw [cz_at (by omega), cz_at c]
    unfold hdC
    rw [List.getElem_map]
  · rw [cz_out (by omega), cz_out c, Int.zero_mul, Int.zero_ediv]
theorem cz_rep (n i : Nat) : cz (List.replicate n (0 : Int)) i = 0 := by
  by_cases c : i < n
  · rw [cz_at (by simpa using c), List.getElem_replicate]
  · rw [cz_out (by simpa using c)]
def sumAt : List (Int × Int × Int) → Nat → Nat → Int
  | [], _, _ => 0
  | e :: es, r, c => (if e.1.toNat = r ∧ e.2.1.toNat = c then e.2.2 else 0) + sumAt es r c
def fsOf (x t : Int) (es : List (Int × Int × Int)) : List (Int × Int × Int) := es.map fun e => (e.1, e.2.1, x * e.2.2 / t)
def pcs (x t : Int) (es : List (Int × Int × Int)) : List (Int × Int × Int) := match fsOf x t es with
  | [] => []
  | f :: fs => (f.1, f.2.1, f.2.2 + (x - total3 (f :: fs))) :: fs
theorem tot_cons (e : Int × Int × Int) (es : List (Int × Int × Int)) : total3 (e :: es) = e.2.2 + total3 es := by unfold total3; rw [List.map_cons, List.sum_cons]
theorem pcs_cons (x t : Int) (e : Int × Int × Int) (es : List (Int × Int × Int)) : pcs x t (e :: es) = (e.1, e.2.1, x * e.2.2 / t + (x - total3 (fsOf x t (e :: es)))) :: fsOf x t es := by
  unfold pcs fsOf
  rw [List.map_cons]
theorem pcs_sum (x t : Int) (e : Int × Int × Int) (es : List (Int × Int × Int)) : total3 (pcs x t (e :: es)) = x := by
  rw [pcs_cons, tot_cons]
  unfold fsOf
  rw [List.map_cons, tot_cons]
  simp only
  omega
theorem get_put_same {h w n : Nat} {W : List (List (List Int))} (hR : Rect h w n W) {r c : Nat} (hr : r < h) (hc : c < w) (v : List Int) : getC (putC W r c v) r c = v := by
  obtain ⟨_, l, _⟩ := rect_row hR hr
  have hl : r < W.length := by rw [hR.1]; exact hr
  unfold getC putC
  have e1 : (W.set r ((W.getD r []).set c v)).getD r [] = (W.getD r []).set c v := by
    rw [List.getD_eq_getElem?_getD, List.getElem?_set_self hl]
    rfl
  rw [e1, List.getD_eq_getElem?_getD, List.getElem?_set_self (by omega)]
  rfl
theorem put_cz {h w n : Nat} {W : List (List (List Int))} (hR : Rect h w n W) {r' c' : Nat} (hr : r' < h) (hc : c' < w) {v : List Int} (hv : v.length = n) (r c i : Nat) : cz (getC (putC W r' c' (adC (getC W r' c') v)) r c) i = cz (getC W r c) i + (if r' = r ∧ c' = c then cz v i else 0) := by
  by_cases e : r' = r ∧ c' = c
  · obtain ⟨e1, e2⟩ := e
    subst e1 e2
    rw [get_put_same hR hr hc, adC_cz (by rw [(rect_get hR hr hc).2, hv]), if_pos ⟨rfl, rfl⟩]
  · rw [if_neg e, get_put_ne (by omega), Int.add_zero]
theorem rect_add {h w n : Nat} {W : List (List (List Int))} (hR : Rect h w n W) {r' c' : Nat} (hr : r' < h) (hc : c' < w) {v : List Int} (hv : v.length = n) : Rect h w n (putC W r' c' (adC (getC W r' c') v)) := rect_put hR hr (by rw [adC_ln, (rect_get hR hr hc).2, hv, Nat.min_self])
def inG (h w : Nat) (es : List (Int × Int × Int)) : Prop := ∀ e ∈ es, 0 ≤ e.1 ∧ e.1 < h ∧ 0 ≤ e.2.1 ∧ e.2.1 < w
theorem fold_cz {h w n : Nat} {left : List Int} {t : Int} (ll : left.length = n) : ∀ (es : List (Int × Int × Int)) (z : List (List (List Int)) × List Int), Rect h w n z.1 → z.2.length = n → inG h w es →
    (∀ r c i, cz (getC (es.foldl (hStep left t) z).1 r c) i = cz (getC z.1 r c) i + sumAt (fsOf (cz left i) t es) r c) ∧ (∀ i, cz (es.foldl (hStep left t) z).2 i = cz z.2 i - total3 (fsOf (cz left i) t es)) ∧ Rect h w n (es.foldl (hStep left t) z).1 ∧ (es.foldl (hStep left t) z).2.length = n
  | [], z, hR, hl, _ => ⟨fun r c i => by show _ = _ + (0 : Int); rw [Int.add_zero]; rfl, fun i => by show _ = _ - (0 : Int); rw [Int.sub_zero]; rfl, hR, hl⟩
  | e :: es, z, hR, hl, hi => by
    obtain ⟨i1, i2, i3, i4⟩ := hi e (List.mem_cons_self ..)
    have hd : (hdC left e.2.2 t).length = n := by unfold hdC; rw [List.length_map]; exact ll
    have hr : e.1.toNat < h := by omega
    have hc : e.2.1.toNat < w := by omega
    obtain ⟨k1, k2, k3, k4⟩ := fold_cz ll es (hStep left t z e) (rect_add hR hr hc hd) (by show (leC _ _).length = n; rw [leC_ln, hl, hd, Nat.min_self]) fun x hx => hi x (List.mem_cons_of_mem _ hx)
    rw [List.foldl_cons]
    refine ⟨fun r c i => ?_, fun i => ?_, k3, k4⟩
    · rw [k1]
      show cz (getC (putC z.1 _ _ (adC (getC z.1 _ _) _)) r c) i + _ = _
      rw [put_cz hR hr hc hd, hdC_cz]
      show _ = _ + (_ + sumAt (fsOf (cz left i) t es) r c)
      show _ = _ + ((if e.1.toNat = r ∧ e.2.1.toNat = c then cz left i * e.2.2 / t else 0) + _)
      omega
    · rw [k2]
      show cz (leC z.2 _) i - _ = _
      rw [leC_cz (by rw [hl, hd]), hdC_cz]
      have : total3 (fsOf (cz left i) t (e :: es)) = cz left i * e.2.2 / t + total3 (fsOf (cz left i) t es) := by unfold fsOf; rw [List.map_cons, tot_cons]
      omega
theorem hand_cz {h w n : Nat} {W : List (List (List Int))} {shs : List (Int × Int × Int)} {r c : Nat} {sd : Int} {col : List Int} (hR : Rect h w n W) (hr : r < h) (hc : c < w) (cl : col.length = n) (hi : inG h w (thereOf h w shs r c sd)) :
    (∀ r' c' i, cz (getC (handW h w W shs r c sd col).1 r' c') i = cz (getC W r' c') i + sumAt (pcs (cz (leC (getC W r c) col) i) (total3 shs) (thereOf h w shs r c sd)) r' c') ∧ (∀ i, cz (handW h w W shs r c sd col).2 i = if thereOf h w shs r c sd = [] then cz (leC (getC W r c) col) i else 0) := by
  have ll : (leC (getC W r c) col).length = n := by rw [leC_ln, (rect_get hR hr hc).2, cl, Nat.min_self]
  unfold handW
  cases te : thereOf h w shs r c sd with
  | nil =>
    refine ⟨fun r' c' i => ?_, fun i => ?_⟩
    · show _ = _ + (0 : Int)
      rw [Int.add_zero]
    · rw [if_pos rfl]
  | cons e es =>
    rw [te] at hi
    obtain ⟨i1, i2, i3, i4⟩ := hi e (List.mem_cons_self ..)
    obtain ⟨k1, k2, k3, k4⟩ := fold_cz (t := total3 shs) ll (e :: es) (W, leC (getC W r c) col) hR ll hi
    simp only at k1 k2
    refine ⟨fun r' c' i => ?_, fun i => ?_⟩
    · simp only
      rw [put_cz k3 (by omega) (by omega) k4, k1, k2, pcs_cons]
      show _ + ((if e.1.toNat = r' ∧ e.2.1.toNat = c' then cz (leC (getC W r c) col) i * e.2.2 / total3 shs else 0) + sumAt (fsOf (cz (leC (getC W r c) col) i) (total3 shs) es) r' c') + _ = _ + ((if e.1.toNat = r' ∧ e.2.1.toNat = c' then cz (leC (getC W r c) col) i * e.2.2 / total3 shs + (cz (leC (getC W r c) col) i - total3 (fsOf (cz (leC (getC W r c) col) i) (total3 shs) (e :: es))) else 0) + sumAt (fsOf (cz (leC (getC W r c) col) i) (total3 shs) es) r' c')
      split <;> omega
    · rw [if_neg (fun z => nomatch z)]
      exact cz_rep _ _
/-! all together -/
def gS (W : List (List (List Int))) (i : Nat) : Int := (W.map fun p => (p.map fun c => cz c i).sum).sum
theorem sum_set : ∀ (l : List Int) (k : Nat) (x : Int) (h : k < l.length), (l.set k x).sum = l.sum - l[k] + x
  | [], _, _, h => by simp at h
  | a :: l, 0, x, _ => by simp; omega
  | a :: l, k + 1, x, h => by
    have := sum_set l k x (by simpa using h)
    simp only [List.set_cons_succ, List.sum_cons, List.getElem_cons_succ]
    omega
theorem gS_put {h w n : Nat} {W : List (List (List Int))} (hR : Rect h w n W) {r c : Nat} (hr : r < h) (hc : c < w) (v : List Int) (i : Nat) : gS (putC W r c v) i = gS W i - cz (getC W r c) i + cz v i := by
  obtain ⟨e1, l, _⟩ := rect_row hR hr
  have hl : r < W.length := by rw [hR.1]; exact hr
  obtain ⟨e2, _⟩ := rect_get hR hr hc
  unfold gS putC
  rw [List.map_set, List.map_set, sum_set _ _ _ (by simpa using hl), sum_set _ _ _ (by rw [List.length_map, l]; exact hc)]
  have e3 : W[r] = W.getD r [] := by
    rw [List.getElem?_eq_getElem hl] at e1
    exact Option.some.inj e1
  have e4 : (W.getD r [])[c]'(by omega) = getC W r c := by
    rw [List.getElem?_eq_getElem (by omega)] at e2
    exact Option.some.inj e2
  simp only [List.getElem_map, e3, e4]
  omega
theorem gS_add {h w n : Nat} {W : List (List (List Int))} (hR : Rect h w n W) {r c : Nat} (hr : r < h) (hc : c < w) {v : List Int} (hv : v.length = n) (i : Nat) : gS (putC W r c (adC (getC W r c) v)) i = gS W i + cz v i := by
  rw [gS_put hR hr hc, adC_cz (by rw [(rect_get hR hr hc).2, hv])]
  omega
theorem gS_fold {h w n : Nat} {left : List Int} {t : Int} (ll : left.length = n) (i : Nat) : ∀ (es : List (Int × Int × Int)) (z : List (List (List Int)) × List Int), Rect h w n z.1 → z.2.length = n → inG h w es → gS (es.foldl (hStep left t) z).1 i = gS z.1 i + total3 (fsOf (cz left i) t es)
  | [], z, _, _, _ => by
    show _ = _ + (0 : Int)
    rw [Int.add_zero]
    rfl
  | e :: es, z, hR, hl, hi => by
    obtain ⟨i1, i2, i3, i4⟩ := hi e (List.mem_cons_self ..)
    have hd : (hdC left e.2.2 t).length = n := by unfold hdC; rw [List.length_map]; exact ll
    have hr : e.1.toNat < h := by omega
    have hc : e.2.1.toNat < w := by omega
    rw [List.foldl_cons, gS_fold ll i es (hStep left t z e) (rect_add hR hr hc hd) (by show (leC _ _).length = n; rw [leC_ln, hl, hd, Nat.min_self]) fun x hx => hi x (List.mem_cons_of_mem _ hx)]
    show gS (putC z.1 _ _ (adC (getC z.1 _ _) _)) i + _ = _
    rw [gS_add hR hr hc hd, hdC_cz]
    have : total3 (fsOf (cz left i) t (e :: es)) = cz left i * e.2.2 / t + total3 (fsOf (cz left i) t es) := by unfold fsOf; rw [List.map_cons, tot_cons]
    omega
theorem gS_hand {h w n : Nat} {W : List (List (List Int))} {shs : List (Int × Int × Int)} {r c : Nat} {sd : Int} {col : List Int} (hR : Rect h w n W) (hr : r < h) (hc : c < w) (cl : col.length = n) (hi : inG h w (thereOf h w shs r c sd)) (i : Nat) :
    gS (handW h w W shs r c sd col).1 i + cz (handW h w W shs r c sd col).2 i = gS W i + cz (leC (getC W r c) col) i := by
  have ll : (leC (getC W r c) col).length = n := by rw [leC_ln, (rect_get hR hr hc).2, cl, Nat.min_self]
  unfold handW
  cases te : thereOf h w shs r c sd with
  | nil => rfl
  | cons e es =>
    rw [te] at hi
    obtain ⟨i1, i2, i3, i4⟩ := hi e (List.mem_cons_self ..)
    obtain ⟨k1, k2, k3, k4⟩ := fold_cz (t := total3 shs) ll (e :: es) (W, leC (getC W r c) col) hR ll hi
    simp only
    rw [gS_add k3 (by omega) (by omega) k4, gS_fold ll i (e :: es) (W, leC (getC W r c) col) hR ll hi, k2, cz_rep]
    simp only
    omega
theorem sum_rev (xs : List Int) : xs.reverse.sum = xs.sum := by
  induction xs with
  | nil => rfl
  | cons x xs ih =>
    rw [List.reverse_cons, List.sum_append, ih, List.sum_cons, List.sum_cons, List.sum_nil]
    omega
theorem spRow_sum (t : Bool) (r n : Nat) (f : Nat → Nat → Int) : ((spRow t r n).map fun s => f (sR s) (sC s)).sum = ((List.range n).map fun c => f r c).sum := by
  unfold spRow
  split
  · rw [List.map_map]
    have e : ((fun s => f (sR s) (sC s)) ∘ fun (c : Nat) => [(r : Int), ((n - 1 - c : Nat) : Int), -1]) = (fun c => f r c) ∘ fun c => n - 1 - c := by
      funext c
      show f (sR _) (sC _) = f r (n - 1 - c)
      rw [sR3, sC3]
    rw [e, ← List.map_map, PySem.W.krv_range, List.map_reverse, sum_rev]
  · rw [List.map_map]
    have e : ((fun s => f (sR s) (sC s)) ∘ fun (c : Nat) => [(r : Int), (c : Int), 1]) = fun c => f r c := by
      funext c
      show f (sR _) (sC _) = f r c
      rw [sR3, sC3]
    rw [e]
theorem spots_sum {h w n : Nat} {ps : List (List (List Int))} (hR : Rect h w n ps) (t : Bool) (f : Nat → Nat → Int) : ∀ m, m ≤ h → ((spotsOf t ps m).map fun s => f (sR s) (sC s)).sum = ((List.range m).map fun r => ((List.range w).map fun c => f r c).sum).sum
  | 0, _ => by simp [spotsOf]
  | m + 1, hm => by
    rw [spots_succ, List.map_append, List.sum_append, spots_sum hR t f m (by omega), spRow_sum, (rect_row hR (r := m) (by omega)).2.1, List.range_succ, List.map_append, List.sum_append]
    simp
theorem gS_eq {h w n : Nat} {W : List (List (List Int))} (hR : Rect h w n W) (i : Nat) : gS W i = ((List.range h).map fun r => ((List.range w).map fun c => cz (getC W r c) i).sum).sum := by
  unfold gS
  congr 1
  refine List.ext_getElem (by simp; exact hR.1) fun r h1 h2 => ?_
  have hr : r < h := by simpa using h2
  rw [List.getElem_map, List.getElem_map, List.getElem_range]
  congr 1
  obtain ⟨e1, l, _⟩ := rect_row hR hr
  have hl : r < W.length := by rw [hR.1]; exact hr
  have e3 : W[r] = W.getD r [] := by
    rw [List.getElem?_eq_getElem hl] at e1
    exact Option.some.inj e1
  rw [e3]
  refine List.ext_getElem (by rw [List.length_map, l, List.length_map, List.length_range]) fun c h3 h4 => ?_
  have hc : c < w := by simpa using h4
  obtain ⟨e2, _⟩ := rect_get hR hr hc
  rw [List.getElem_map, List.getElem_map, List.getElem_range]
  rw [List.getElem?_eq_getElem (by omega)] at e2
  rw [Option.some.inj e2]
theorem told_eq {h w : Nat} {N : List (List Int)} (hN : nRect h w N) (f : Int → Int) : (N.map fun p => (p.map f).sum).sum = ((List.range h).map fun r => ((List.range w).map fun c => f ((N.getD r []).getD c 0)).sum).sum := by
  congr 1
  refine List.ext_getElem (by simp; exact hN.1) fun r h1 h2 => ?_
  have hr : r < h := by simpa using h2
  have hl : r < N.length := by rw [hN.1]; exact hr
  rw [List.getElem_map, List.getElem_map, List.getElem_range]
  congr 1
  have en : N.getD r [] = N[r] := by rw [List.getD_eq_getElem?_getD, List.getElem?_eq_getElem hl]; rfl
  have lw := hN.2 _ (List.getElem_mem hl)
  rw [en]
  refine List.ext_getElem (by rw [List.length_map, lw, List.length_map, List.length_range]) fun c h3 h4 => ?_
  have hc : c < w := by simpa using h4
  rw [List.getElem_map, List.getElem_map, List.getElem_range]
  rw [List.getD_eq_getElem?_getD, List.getElem?_eq_getElem (by omega)]
  rfl
def numAt (ns : List (List Int)) (s : List Int) : Nat := ((ns.getD (sR s) []).getD (sC s) 0).toNat
def numsOk (h w m : Nat) (ns : List (List Int)) : Prop := ns.length = h ∧ ∀ r ∈ ns, r.length = w ∧ ∀ x ∈ r, 0 ≤ x ∧ x < (m : Int)
theorem num_in {h w m : Nat} {ns : List (List Int)} (o : numsOk h w m ns) {r c : Nat} (hr : r < h) (hc : c < w) : ∃ row x, ns[r]? = some row ∧ row[c]? = some x ∧ (ns.getD r []).getD c 0 = x ∧ 0 ≤ x ∧ x < (m : Int) := by
  have hl : r < ns.length := by rw [o.1]; exact hr
  have o2 := o.2 _ (List.getElem_mem hl)
  have hc2 : c < ns[r].length := by rw [o2.1]; exact hc
  refine ⟨ns[r], ns[r][c], List.getElem?_eq_getElem hl, List.getElem?_eq_getElem hc2, ?_, o2.2 _ (List.getElem_mem hc2)⟩
  rw [List.getD_eq_getElem?_getD, List.getD_eq_getElem?_getD, List.getElem?_eq_getElem hl, Option.getD_some, List.getElem?_eq_getElem hc2]
  rfl
theorem col_len {h w n m : Nat} {cs ns : List (List Int)} (hm : cs.length = m) (o : numsOk h w m ns) (cl : ∀ c ∈ cs, c.length = n) {s : List Int} (hr : sR s < h) (hc : sC s < w) : (cs.getD ((ns.getD (sR s) []).getD (sC s) 0).toNat []).length = n := by
  obtain ⟨row, x, _, _, e, x0, x1⟩ := num_in o hr hc
  rw [e]
  have : x.toNat < cs.length := by omega
  rw [List.getD_eq_getElem?_getD, List.getElem?_eq_getElem this]
  exact cl _ (List.getElem_mem this)
theorem there_inG {h w : Nat} {shs : List (Int × Int × Int)} {r c : Nat} {sd : Int} (sok : ∀ s ∈ shs, 0 ≤ s.2.1 ∧ 0 < s.2.2 ∧ s.2.2 ≤ 1000) : inG h w (thereOf h w shs r c sd) := fun e he => by
  obtain ⟨h1, h2, h3, h4, _⟩ := there_in sok e he
  exact ⟨h1, h2, h3, h4⟩
theorem g_rect {h w n m : Nat} {shs : List (Int × Int × Int)} {cs ns : List (List Int)} (hm : cs.length = m) (o : numsOk h w m ns) (cl : ∀ c ∈ cs, c.length = n) (sok : ∀ s ∈ shs, 0 ≤ s.2.1 ∧ 0 < s.2.2 ∧ s.2.2 ≤ 1000) : ∀ (ss : List (List Int)) (z : List (List (List Int)) × List Int), (∀ s ∈ ss, sR s < h ∧ sC s < w ∧ (sS s = 1 ∨ sS s = -1)) → Rect h w n z.1 → z.2.length = n → Rect h w n (ss.foldl (gStep h w shs cs ns) z).1 ∧ (ss.foldl (gStep h w shs cs ns) z).2.length = n
  | [], _, _, h1, h2 => ⟨h1, h2⟩
  | a :: ss, z, ok, h1, h2 => by
    have oa := ok a (List.mem_cons_self ..)
    rw [List.foldl_cons]
    obtain ⟨k1, k2⟩ := rect_hand (sd := sS a) h1 oa.1 oa.2.1 (col_len hm o cl oa.1 oa.2.1) sok
    refine g_rect hm o cl sok ss _ (fun x hx => ok x (List.mem_cons_of_mem _ hx)) k1 ?_
    show (adC z.2 _).length = n
    rw [adC_ln, h2, k2, Nat.min_self]
theorem g_all {h w n m : Nat} {shs : List (Int × Int × Int)} {cs ns : List (List Int)} (hm : cs.length = m) (o : numsOk h w m ns) (cl : ∀ c ∈ cs, c.length = n) (sok : ∀ s ∈ shs, 0 ≤ s.2.1 ∧ 0 < s.2.2 ∧ s.2.2 ≤ 1000) (ord : ∀ s ∈ shs, 0 < s.2.1 ∨ (s.2.1 = 0 ∧ 0 < s.1)) (i : Nat) : ∀ (ss : List (List Int)) (z : List (List (List Int)) × List Int), (∀ s ∈ ss, sR s < h ∧ sC s < w ∧ (sS s = 1 ∨ sS s = -1)) → ss.Pairwise bef → Rect h w n z.1 → z.2.length = n →
    gS (ss.foldl (gStep h w shs cs ns) z).1 i + cz (ss.foldl (gStep h w shs cs ns) z).2 i = gS z.1 i + cz z.2 i + (ss.map fun s => cz (getC (ss.foldl (gStep h w shs cs ns) z).1 (sR s) (sC s)) i - cz (cs.getD (numAt ns s) []) i).sum
  | [], z, _, _, _, _ => by simp
  | a :: ss, z, ok, pw, h1, h2 => by
    obtain ⟨p1, p2⟩ := List.pairwise_cons.mp pw
    have oa := ok a (List.mem_cons_self ..)
    have hcl := col_len hm o cl oa.1 oa.2.1
    obtain ⟨k1, k2⟩ := rect_hand (sd := sS a) h1 oa.1 oa.2.1 hcl sok
    have hz2 : (gStep h w shs cs ns z a).2.length = n := by
      show (adC z.2 _).length = n
      rw [adC_ln, h2, k2, Nat.min_self]
    have hb : ∀ x ∈ a :: ss, (sS x = 1 ∨ sS x = -1) ∧ (sR a < sR x ∨ (sR a = sR x ∧ sS x * (sC a : Int) ≤ sS x * (sC x : Int))) := fun x hx => by
      rcases List.mem_cons.mp hx with e | e
      · subst e
        exact ⟨oa.2.2, .inr ⟨rfl, Int.le_refl _⟩⟩
      · refine ⟨(ok x hx).2.2, ?_⟩
        rcases p1 x e with b | b
        · exact .inl b
        · exact .inr ⟨b.1, Int.le_of_lt b.2⟩
    have hk := keepg_fold (ns := ns) (cs := cs) (h := h) (w := w) ord (a :: ss) z hb
    have ih := g_all hm o cl sok ord i ss (gStep h w shs cs ns z a) (fun x hx => ok x (List.mem_cons_of_mem _ hx)) p2 k1 hz2
    rw [List.foldl_cons] at hk
    rw [List.foldl_cons, ih, List.map_cons, List.sum_cons, hk]
    have hh := gS_hand (sd := sS a) h1 oa.1 oa.2.1 hcl (there_inG sok) i
    have el := leC_cz (show (getC z.1 (sR a) (sC a)).length = (cs.getD ((ns.getD (sR a) []).getD (sC a) 0).toNat []).length by rw [hcl, (rect_get h1 oa.1 oa.2.1).2]) i
    have ea : cz (gStep h w shs cs ns z a).2 i = cz z.2 i + cz (handW h w z.1 shs (sR a) (sC a) (sS a) (cs.getD ((ns.getD (sR a) []).getD (sC a) 0).toNat [])).2 i := adC_cz (by rw [h2, k2]) i
    have eg : gS (gStep h w shs cs ns z a).1 i = gS (handW h w z.1 shs (sR a) (sC a) (sS a) (cs.getD ((ns.getD (sR a) []).getD (sC a) 0).toNat [])).1 i := rfl
    show _ = _ + _ + (cz (getC z.1 (sR a) (sC a)) i - cz (cs.getD ((ns.getD (sR a) []).getD (sC a) 0).toNat []) i + _)
    omega
theorem g_kept {h w n m : Nat} {t : Bool} {ps : List (List (List Int))} {shs : List (Int × Int × Int)} {cs ns : List (List Int)} (hm : cs.length = m) (o : numsOk h w m ns) (cl : ∀ c ∈ cs, c.length = n) (sok : ∀ s ∈ shs, 0 ≤ s.2.1 ∧ 0 < s.2.2 ∧ s.2.2 ≤ 1000) (ord : ∀ s ∈ shs, 0 < s.2.1 ∨ (s.2.1 = 0 ∧ 0 < s.1)) (hR : Rect h w n ps) (i : Nat) :
    gS ps i = (ns.map fun p => (p.map fun x => cz (cs.getD x.toNat []) i).sum).sum + cz (gW h w n t ps shs cs ns).2 i := by
  have ha := g_all hm o cl sok ord i (spotsOf t ps h) (ps, List.replicate n 0) (sp_ok hR t h (Nat.le_refl _)) (sp_pw hR t h (Nat.le_refl _)) hR (by simp)
  obtain ⟨k1, _⟩ := g_rect hm o cl sok (spotsOf t ps h) (ps, List.replicate n 0) (sp_ok hR t h (Nat.le_refl _)) hR (by simp)
  have e0 : gW h w n t ps shs cs ns = (spotsOf t ps h).foldl (gStep h w shs cs ns) (ps, List.replicate n 0) := by unfold gW; rw [hR.1]
  rw [← e0] at ha k1
  rw [cz_rep] at ha
  have hs := spots_sum hR t (fun r c => cz (getC (gW h w n t ps shs cs ns).1 r c) i - cz (cs.getD ((ns.getD r []).getD c 0).toNat []) i) h (Nat.le_refl _)
  have h1 := gS_eq k1 i
  have h2 := told_eq (h := h) (w := w) ⟨o.1, fun r hr => (o.2 r hr).1⟩ (fun x => cz (cs.getD x.toNat []) i)
  have split2 : ∀ (f g : Nat → Nat → Int), ((List.range h).map fun r => ((List.range w).map fun c => f r c - g r c).sum).sum = ((List.range h).map fun r => ((List.range w).map fun c => f r c).sum).sum - ((List.range h).map fun r => ((List.range w).map fun c => g r c).sum).sum := fun f g => by
    have one : ∀ (xs : List Nat) (f g : Nat → Int), (xs.map fun c => f c - g c).sum = (xs.map f).sum - (xs.map g).sum := fun xs f g => by
      induction xs with
      | nil => rfl
      | cons x xs ih => simp only [List.map_cons, List.sum_cons, ih]; omega
    rw [← one (List.range h) (fun r => ((List.range w).map fun c => f r c).sum) (fun r => ((List.range w).map fun c => g r c).sum)]
    congr 1
    exact List.map_congr_left fun r _ => one _ _ _
  rw [split2] at hs
  unfold numAt at ha
  rw [hs] at ha
  simp only at ha
  omega
/-! ### shares by themselves -/
def sdO (t : Bool) (r : Nat) : Int := if t = true ∧ r % 2 = 1 then -1 else 1
theorem spRow_side {t : Bool} {r n : Nat} : ∀ s ∈ spRow t r n, sS s = sdO t (sR s) := fun s hs => by
  unfold spRow at hs
  split at hs
  · rename_i e
    obtain ⟨c, hc, rfl⟩ := List.mem_map.mp hs
    rw [sR3, sS3]
    unfold sdO
    rw [if_pos e]
  · rename_i e
    obtain ⟨c, hc, rfl⟩ := List.mem_map.mp hs
    rw [sR3, sS3]
    unfold sdO
    rw [if_neg e]
theorem sp_side {t : Bool} {ps : List (List (List Int))} : ∀ m, ∀ s ∈ spotsOf t ps m, sS s = sdO t (sR s)
  | 0, s, hs => by simp [spotsOf] at hs
  | m + 1, s, hs => by
    rw [spots_succ] at hs
    rcases List.mem_append.mp hs with z | z
    · exact sp_side m s z
    · exact spRow_side s z
theorem spots_sumS {h w n : Nat} {ps : List (List (List Int))} (hR : Rect h w n ps) (t : Bool) (F : Nat → Nat → Int → Int) : ((spotsOf t ps h).map fun s => F (sR s) (sC s) (sS s)).sum = ((List.range h).map fun r => ((List.range w).map fun c => F r c (sdO t r)).sum).sum := by
  rw [← spots_sum hR t (fun r c => F r c (sdO t r)) h (Nat.le_refl _)]
  congr 1
  exact List.map_congr_left fun s hs => by rw [sp_side h s hs]
noncomputable def rI (cs : List (List Int)) (W : List (List (List Int))) (i r c : Nat) : Int := cz (getC W r c) i - cz (cs.getD (nrI cs (getC W r c)) []) i
theorem ho_cz_fold {h w n : Nat} {shs : List (Int × Int × Int)} {cs : List (List Int)} (c0 : 0 < cs.length) (cl : ∀ c ∈ cs, c.length = n) (sok : ∀ s ∈ shs, 0 ≤ s.2.1 ∧ 0 < s.2.2 ∧ s.2.2 ≤ 1000) (ord : ∀ s ∈ shs, 0 < s.2.1 ∨ (s.2.1 = 0 ∧ 0 < s.1)) (i : Nat) : ∀ (ss : List (List Int)) (z : List (List (List Int)) × List (List Int) × List Int), (∀ s ∈ ss, sR s < h ∧ sC s < w ∧ (sS s = 1 ∨ sS s = -1)) → ss.Pairwise bef → Rect h w n z.1 → z.2.2.length = n →
    (∀ r c, cz (getC (ss.foldl (hoStep h w shs cs) z).1 r c) i = cz (getC z.1 r c) i + (ss.map fun s => sumAt (pcs (rI cs (ss.foldl (hoStep h w shs cs) z).1 i (sR s) (sC s)) (total3 shs) (thereOf h w shs (sR s) (sC s) (sS s))) r c).sum) ∧
    cz (ss.foldl (hoStep h w shs cs) z).2.2 i = cz z.2.2 i + (ss.map fun s => if thereOf h w shs (sR s) (sC s) (sS s) = [] then rI cs (ss.foldl (hoStep h w shs cs) z).1 i (sR s) (sC s) else 0).sum
  | [], z, _, _, _, _ => ⟨fun r c => by simp, by simp⟩
  | a :: ss, z, ok, pw, h1, h2 => by
    obtain ⟨p1, p2⟩ := List.pairwise_cons.mp pw
    have oa := ok a (List.mem_cons_self ..)
    have hl : (cs.getD (nrI cs (getC z.1 (sR a) (sC a))) []).length = n := by
      have := nr_lt c0 (getC z.1 (sR a) (sC a))
      rw [List.getD_eq_getElem?_getD, List.getElem?_eq_getElem this]
      exact cl _ (List.getElem_mem this)
    obtain ⟨k1, k2⟩ := rect_hand (sd := sS a) h1 oa.1 oa.2.1 hl sok
    have hz2 : (hoStep h w shs cs z a).2.2.length = n := by
      show (adC z.2.2 _).length = n
      rw [adC_ln, h2, k2, Nat.min_self]
    have hb : ∀ x ∈ a :: ss, (sS x = 1 ∨ sS x = -1) ∧ (sR a < sR x ∨ (sR a = sR x ∧ sS x * (sC a : Int) ≤ sS x * (sC x : Int))) := fun x hx => by
      rcases List.mem_cons.mp hx with e | e
      · subst e
        exact ⟨oa.2.2, .inr ⟨rfl, Int.le_refl _⟩⟩
      · refine ⟨(ok x hx).2.2, ?_⟩
        rcases p1 x e with b | b
        · exact .inl b
        · exact .inr ⟨b.1, Int.le_of_lt b.2⟩
    have hk := keep_fold (cs := cs) (h := h) (w := w) ord (a :: ss) z hb
    obtain ⟨ih1, ih2⟩ := ho_cz_fold c0 cl sok ord i ss (hoStep h w shs cs z a) (fun x hx => ok x (List.mem_cons_of_mem _ hx)) p2 k1 hz2
    obtain ⟨hh1, hh2⟩ := hand_cz (sd := sS a) h1 oa.1 oa.2.1 hl (there_inG sok)
    have el := leC_cz (show (getC z.1 (sR a) (sC a)).length = (cs.getD (nrI cs (getC z.1 (sR a) (sC a))) []).length by rw [hl, (rect_get h1 oa.1 oa.2.1).2]) i
    rw [List.foldl_cons] at hk
    have er : rI cs (ss.foldl (hoStep h w shs cs) (hoStep h w shs cs z a)).1 i (sR a) (sC a) = cz (leC (getC z.1 (sR a) (sC a)) (cs.getD (nrI cs (getC z.1 (sR a) (sC a))) [])) i := by
      unfold rI
      rw [hk, el]
    rw [List.foldl_cons]
    refine ⟨fun r c => ?_, ?_⟩
    · rw [ih1, List.map_cons, List.sum_cons, er]
      have := hh1 r c i
      have e2 : cz (getC (hoStep h w shs cs z a).1 r c) i = cz (getC (handW h w z.1 shs (sR a) (sC a) (sS a) (cs.getD (nrI cs (getC z.1 (sR a) (sC a))) [])).1 r c) i := rfl
      omega
    · rw [ih2, List.map_cons, List.sum_cons, er]
      have := hh2 i
      have e2 : cz (hoStep h w shs cs z a).2.2 i = cz z.2.2 i + cz (handW h w z.1 shs (sR a) (sC a) (sS a) (cs.getD (nrI cs (getC z.1 (sR a) (sC a))) [])).2 i := adC_cz (by rw [h2, k2]) i
      omega
theorem ho_cz {h w n : Nat} {t : Bool} {ps : List (List (List Int))} {shs : List (Int × Int × Int)} {cs : List (List Int)} (c0 : 0 < cs.length) (cl : ∀ c ∈ cs, c.length = n) (sok : ∀ s ∈ shs, 0 ≤ s.2.1 ∧ 0 < s.2.2 ∧ s.2.2 ≤ 1000) (ord : ∀ s ∈ shs, 0 < s.2.1 ∨ (s.2.1 = 0 ∧ 0 < s.1)) (hR : Rect h w n ps) (i : Nat) :
    (∀ r c, cz (getC (hoW h w n t ps shs cs).1 r c) i = cz (getC ps r c) i + ((List.range h).map fun r' => ((List.range w).map fun c' => sumAt (pcs (rI cs (hoW h w n t ps shs cs).1 i r' c') (total3 shs) (thereOf h w shs r' c' (sdO t r'))) r c).sum).sum) ∧
    cz (hoW h w n t ps shs cs).2.2 i = ((List.range h).map fun (r' : Nat) => ((List.range w).map fun (c' : Nat) => if thereOf h w shs r' c' (sdO t r') = [] then rI cs (hoW h w n t ps shs cs).1 i r' c' else 0).sum).sum := by
  obtain ⟨k1, k2⟩ := ho_cz_fold c0 cl sok ord i (spotsOf t ps h) (ps, ps.map (fun p => List.replicate p.length 0), List.replicate n 0) (sp_ok hR t h (Nat.le_refl _)) (sp_pw hR t h (Nat.le_refl _)) hR (by simp)
  have e0 : hoW h w n t ps shs cs = (spotsOf t ps h).foldl (hoStep h w shs cs) (ps, ps.map (fun p => List.replicate p.length 0), List.replicate n 0) := by unfold hoW; rw [hR.1]
  rw [← e0] at k1 k2
  refine ⟨fun r c => ?_, ?_⟩
  · rw [k1 r c, spots_sumS hR t (fun r' c' sd => sumAt (pcs (rI cs (hoW h w n t ps shs cs).1 i r' c') (total3 shs) (thereOf h w shs r' c' sd)) r c)]
  · rw [k2, spots_sumS hR t (fun r' c' sd => if thereOf h w shs r' c' sd = [] then rI cs (hoW h w n t ps shs cs).1 i r' c' else 0)]
    simp only
    rw [cz_rep, Int.zero_add]
theorem sum_none : ∀ (n : Nat) (f : Nat → Int), (∀ j, j < n → f j = 0) → ((List.range n).map f).sum = 0
  | 0, _, _ => rfl
  | n + 1, f, h => by
    rw [List.range_succ, List.map_append, List.sum_append, sum_none n f fun j hj => h j (by omega)]
    simp [h n (by omega)]
theorem sum_one : ∀ (n k : Nat) (f : Nat → Int), k < n → (∀ j, j < n → j ≠ k → f j = 0) → ((List.range n).map f).sum = f k
  | 0, k, f, hk, _ => by omega
  | n + 1, k, f, hk, h => by
    rw [List.range_succ, List.map_append, List.sum_append]
    by_cases e : k = n
    · subst e
      rw [sum_none k f fun j hj => h j (by omega) (by omega)]
      simp
    · rw [sum_one n k f (by omega) fun j hj hne => h j (by omega) hne]
      have := h n (by omega) (by omega)
      simp [this]
theorem there_one (h w : Nat) (dx dy p : Int) (r c : Nat) (sd : Int) : thereOf h w [(dx, dy, p)] r c sd = if in3 h w (al3 r c sd (dx, dy, p)) = true then [((r : Int) + dy, (c : Int) + sd * dx, p)] else [] := by
  unfold thereOf
  show List.filter _ [al3 r c sd (dx, dy, p)] = _
  by_cases e : in3 h w (al3 r c sd (dx, dy, p)) = true
  · rw [if_pos e, List.filter_cons_of_pos e]
    rfl
  · rw [if_neg e, List.filter_cons_of_neg e]
    rfl
theorem pcs_one (x t : Int) (e : Int × Int × Int) (r c : Nat) : sumAt (pcs x t [e]) r c = if e.1.toNat = r ∧ e.2.1.toNat = c then x else 0 := by
  rw [pcs_cons]
  show (if e.1.toNat = r ∧ e.2.1.toNat = c then x * e.2.2 / t + (x - total3 (fsOf x t [e])) else 0) + (0 : Int) = _
  have : total3 (fsOf x t [e]) = x * e.2.2 / t := by
    unfold fsOf
    rw [List.map_cons, tot_cons]
    show _ + (0 : Int) = _
    rw [Int.add_zero]
  rw [this]
  split <;> omega
theorem hit_one (h w : Nat) (dx dy p x t : Int) (r c : Nat) (sd : Int) (r' c' : Nat) (hr' : r' < h) (hc' : c' < w) (hd : 0 ≤ dy) : sumAt (pcs x t (thereOf h w [(dx, dy, p)] r c sd)) r' c' = if (r : Int) + dy = r' ∧ (c : Int) + sd * dx = c' then x else 0 := by
  rw [there_one]
  by_cases e : in3 h w (al3 r c sd (dx, dy, p)) = true
  · rw [if_pos e, pcs_one]
    unfold in3 al3 at e
    simp only [Bool.and_eq_true, decide_eq_true_eq] at e
    simp only
    by_cases f : (r : Int) + dy = r' ∧ (c : Int) + sd * dx = c'
    · rw [if_pos f, if_pos (by omega)]
    · rw [if_neg f, if_neg (by omega)]
  · rw [if_neg e]
    have f : ¬ ((r : Int) + dy = r' ∧ (c : Int) + sd * dx = c') := fun f => e (by
      unfold in3 al3
      simp only [Bool.and_eq_true, decide_eq_true_eq]
      omega)
    rw [if_neg f]
    rfl
theorem out_one (h w : Nat) (dx dy p : Int) (r c : Nat) (sd : Int) : thereOf h w [(dx, dy, p)] r c sd = [] ↔ ¬ ((r : Int) + dy < h ∧ 0 ≤ (c : Int) + sd * dx ∧ (c : Int) + sd * dx < w) := by
  rw [there_one]
  have e : in3 h w (al3 r c sd (dx, dy, p)) = true ↔ ((r : Int) + dy < h ∧ 0 ≤ (c : Int) + sd * dx ∧ (c : Int) + sd * dx < w) := by
    unfold in3 al3
    simp only [Bool.and_eq_true, decide_eq_true_eq]
  by_cases f : in3 h w (al3 r c sd (dx, dy, p)) = true
  · rw [if_pos f]
    exact ⟨(fun z => nomatch z), fun z => absurd (e.mp f) z⟩
  · rw [if_neg f]
    exact ⟨fun _ z => f (e.mpr z), fun _ => rfl⟩
/-! lines -/
def spK (col t : Bool) (w a k : Nat) : Nat × Nat := if col = true then (k, a) else (a, if t = true ∧ a % 2 = 1 then w - 1 - k else k)
def nL (col : Bool) (h w : Nat) : Nat := if col = true then w else h
def lL (col : Bool) (h w : Nat) : Nat := if col = true then h else w
def shC (col : Bool) (p : Int) : Int × Int × Int := if col = true then (0, 1, p) else (1, 0, p)
theorem spK_in {col t : Bool} {h w a k : Nat} (ha : a < nL col h w) (hk : k < lL col h w) : (spK col t w a k).1 < h ∧ (spK col t w a k).2 < w := by
  unfold spK
  unfold nL at ha
  unfold lL at hk
  cases col
  · simp only [Bool.false_eq_true, if_false] at ha hk ⊢
    refine ⟨ha, ?_⟩
    split <;> omega
  · simp only [if_true] at ha hk ⊢
    exact ⟨hk, ha⟩
theorem shC_ok {col : Bool} {p : Int} (p0 : 0 < p) (p1 : p ≤ 1000) : (∀ s ∈ [shC col p], 0 ≤ s.2.1 ∧ 0 < s.2.2 ∧ s.2.2 ≤ 1000) ∧ (∀ s ∈ [shC col p], 0 < s.2.1 ∨ (s.2.1 = 0 ∧ 0 < s.1)) := by
  unfold shC
  cases col
  · refine ⟨fun s hs => ?_, fun s hs => ?_⟩ <;> rw [List.mem_singleton.mp hs] <;> simp <;> omega
  · refine ⟨fun s hs => ?_, fun s hs => ?_⟩ <;> rw [List.mem_singleton.mp hs] <;> simp <;> omega
theorem line_ok {h w n : Nat} {col t : Bool} {ps : List (List (List Int))} {p : Int} {cs : List (List Int)} (c0 : 0 < cs.length) (cl : ∀ c ∈ cs, c.length = n) (p0 : 0 < p) (p1 : p ≤ 1000) (hR : Rect h w n ps) (i : Nat) :
    (∀ a, a < nL col h w → ∀ k, k < lL col h w → cz (getC (hoW h w n t ps [shC col p] cs).1 (spK col t w a k).1 (spK col t w a k).2) i = cz (getC ps (spK col t w a k).1 (spK col t w a k).2) i + (if k = 0 then 0 else rI cs (hoW h w n t ps [shC col p] cs).1 i (spK col t w a (k - 1)).1 (spK col t w a (k - 1)).2)) ∧
    (0 < h → 0 < w → cz (hoW h w n t ps [shC col p] cs).2.2 i = ((List.range (nL col h w)).map fun a => rI cs (hoW h w n t ps [shC col p] cs).1 i (spK col t w a (lL col h w - 1)).1 (spK col t w a (lL col h w - 1)).2).sum) := by
  obtain ⟨sok, ord⟩ := shC_ok (col := col) p0 p1
  obtain ⟨k1, k2⟩ := ho_cz (t := t) c0 cl sok ord hR i
  generalize (hoW h w n t ps [shC col p] cs).1 = W at *
  generalize (hoW h w n t ps [shC col p] cs).2.2 = lo at *
  cases col with
  | false =>
    unfold shC spK nL lL at *
    simp only [Bool.false_eq_true, if_false] at *
    refine ⟨fun a ha k hk => ?_, fun h0 w0 => ?_⟩
    · have hc : (if t = true ∧ a % 2 = 1 then w - 1 - k else k) < w := by split <;> omega
      rw [k1]
      congr 1
      have hs : ∀ r' c', r' < h → c' < w → sumAt (pcs (rI cs W i r' c') (total3 [(1, 0, p)]) (thereOf h w [(1, 0, p)] r' c' (sdO t r'))) a (if t = true ∧ a % 2 = 1 then w - 1 - k else k) = if (r' : Int) + 0 = a ∧ (c' : Int) + sdO t r' * 1 = ((if t = true ∧ a % 2 = 1 then w - 1 - k else k : Nat) : Int) then rI cs W i r' c' else 0 := fun r' c' _ _ => hit_one h w 1 0 p _ _ r' c' _ _ _ ha hc (by omega)
      rw [sum_one h a _ ha fun j hj hne => sum_none w _ fun c' hc' => by rw [hs j c' hj hc', if_neg (by omega)]]
      by_cases e : k = 0
      · rw [if_pos e]
        refine sum_none w _ fun c' hc' => ?_
        rw [hs a c' ha hc', if_neg]
        unfold sdO
        split <;> omega
      · rw [if_neg e]
        have hp : (if t = true ∧ a % 2 = 1 then w - 1 - (k - 1) else k - 1) < w := by split <;> omega
        rw [sum_one w (if t = true ∧ a % 2 = 1 then w - 1 - (k - 1) else k - 1) _ hp fun j hj hne => by
          rw [hs a j ha hj, if_neg]
          unfold sdO
          by_cases e2 : t = true ∧ a % 2 = 1
          · simp only [if_pos e2] at hne ⊢
            omega
          · simp only [if_neg e2] at hne ⊢
            omega]
        rw [hs a _ ha hp, if_pos]
        unfold sdO
        split <;> omega
    · rw [k2]
      congr 1
      refine List.map_congr_left fun a ha => ?_
      have ha := List.mem_range.mp ha
      have hp : (if t = true ∧ a % 2 = 1 then w - 1 - (w - 1) else w - 1) < w := by split <;> omega
      rw [sum_one w (if t = true ∧ a % 2 = 1 then w - 1 - (w - 1) else w - 1) _ hp fun j hj hne => by
        rw [if_neg]
        rw [out_one]
        unfold sdO
        by_cases e2 : t = true ∧ a % 2 = 1
        · simp only [if_pos e2] at hne ⊢
          omega
        · simp only [if_neg e2] at hne ⊢
          omega]
      rw [if_pos]
      rw [out_one]
      unfold sdO
      split <;> omega
  | true =>
    unfold shC spK nL lL at *
    simp only [if_true] at *
    refine ⟨fun a ha k hk => ?_, fun h0 w0 => ?_⟩
    · rw [k1]
      congr 1
      have hs : ∀ r' c', r' < h → c' < w → sumAt (pcs (rI cs W i r' c') (total3 [(0, 1, p)]) (thereOf h w [(0, 1, p)] r' c' (sdO t r'))) k a = if (r' : Int) + 1 = k ∧ (c' : Int) + sdO t r' * 0 = a then rI cs W i r' c' else 0 := fun r' c' _ _ => hit_one h w 0 1 p _ _ r' c' _ _ _ hk ha (by omega)
      by_cases e : k = 0
      · rw [if_pos e]
        exact sum_none h _ fun j hj => sum_none w _ fun c' hc' => by rw [hs j c' hj hc', if_neg (by omega)]
      · rw [if_neg e, sum_one h (k - 1) _ (by omega) fun j hj hne => sum_none w _ fun c' hc' => by rw [hs j c' hj hc', if_neg (by omega)]]
        rw [sum_one w a _ ha fun j hj hne => by rw [hs (k - 1) j (by omega) hj, if_neg (by omega)]]
        rw [hs (k - 1) a (by omega) ha, if_pos (by omega)]
    · rw [k2, sum_one h (h - 1) _ (by omega) fun j hj hne => sum_none w _ fun c' hc' => by
        rw [if_neg]
        rw [out_one]
        omega]
      congr 1
      refine List.map_congr_left fun a ha => ?_
      have ha := List.mem_range.mp ha
      rw [if_pos]
      rw [out_one]
      omega
theorem cz_ext {a b : List Int} (h : a.length = b.length) (e : ∀ i, i < a.length → cz a i = cz b i) : a = b := by
  refine List.ext_getElem h fun i h1 h2 => ?_
  have := e i h1
  rw [cz_at h1, cz_at h2] at this
  exact this
def smC (n : Nat) (cs : List (List Int)) : List Int := (List.range n).map fun i => (cs.map fun c => cz c i).sum
theorem smC_cz {n i : Nat} (cs : List (List Int)) (h : i < n) : cz (smC n cs) i = (cs.map fun c => cz c i).sum := by
  unfold smC
  rw [cz_at (by simpa using h), List.getElem_map, List.getElem_range]
theorem smC_len (n : Nat) (cs : List (List Int)) : (smC n cs).length = n := by unfold smC; simp
/-! ### sums of colours -/
theorem fm_get2 {α β : Type} {n : Nat} (xs : List α) (f : α → β) (h : n = xs.length) : (List.range n).filterMap (fun i => (xs[i]?).map f) = xs.map f := by
  have e : (fun i : Nat => (xs[i]?).map f) = fun i => (xs.map f)[i]? := by
    funext i
    rw [List.getElem?_map]
  rw [h, e, fm_all (by simp)]
theorem getD_at {xs : List Int} {c : Nat} (h : c < xs.length) : (xs.map V.int)[c]? = some (.int (xs.getD c 0)) := by
  rw [List.getElem?_map, List.getElem?_eq_getElem h, List.getD_eq_getElem?_getD, List.getElem?_eq_getElem h]
  rfl
def spSumsL : Sp := fun vs H Q _ => ∃ (B : List Addr) (cv : V) (cs : List (List Int)) (n : Nat), vs = [cv, .int (n : Int)] ∧ Dt B H cv (eP cs) ∧ Bk B H ∧ n ≤ 100 ∧ cs.length ≤ 1000 ∧ (∀ c ∈ cs, c.length = n) ∧ ∀ v H', Same H H' → Dt B H' v (eC (smC n cs)) → Q v H'
set_option maxHeartbeats 1000000 in
theorem ok_l_sums (T : Tx K mg) {k : Nat} : FnOk P w K mg base CX0 (k + 1) T.f_l_sums T.d_l_sums ["_law_colours", "_law_wide"] spSumsL := by
  refine T.F_l_sums.ok sc_l_sums (fun vs H Q E h => ?_) (fun cdv A outer s H vs Q E hr h => ?_)
  · obtain ⟨B, cv, cs, n, rfl, _⟩ := h
    rfl
  · obtain ⟨B, cv, cs, n, rfl, dc, hB, n1, lc, cl, q⟩ := h
    obtain ⟨ca, cvs, rfl, nca, eca, hC⟩ := dc.pal
    have lcv := hC.len
    rw [List.length_map] at lcv
    refine ⟨_, (pss_one (ps_ret (pe_callTy (tuple_K K) (by rfl) T.z_tuple (by decide +kernel) (pa_cons (pe_lc (own := [("_law_place", 2)]) (by rfl) sc_l_sums.nd (pi_range1 (by rfl) T.z_range (pa_cons (pv 1) pa_nil)) (blkOk_by (own := [("_law_place", 2)]) (N := N_l_sums) (sc := defScope s_l_sums) (by decide +kernel)) (fun _ _ _ _ _ => (pg_name (i := 2) sc_l_sums.nd rfl (.inr rfl))) (fun _ _ _ _ _ => pts_nil) (fun _ _ _ _ _ => (pe_callB (cr_sumK K rfl) (by rfl) T.z_sum (by decide +kernel) (pa_cons (pe_lc (own := [("_law_colour_here", 3)]) (by rfl) sc_l_sums.nd (pi_listK K (pv 0)) (blkOk_in (own := [("_law_colour_here", 3)]) (N := N_l_sums) ["_law_place"] (by decide +kernel) (by decide +kernel) ⟨.inl rfl, trivial⟩) (fun _ _ _ _ _ => (pg_name (i := 3) sc_l_sums.nd rfl (.inl rfl))) (fun _ _ _ _ _ => pts_nil) (fun _ _ _ _ _ => (pe_ix (ix_tupK K) (pv 3) (pv 2) (fun _ _ => rfl)))) pa_nil)))) pa_nil)))), ?_⟩
    refine ⟨_, rfl, _, rfl, by omega, by omega, fun D hD => ?_⟩
    refine lc_pure (B := []) (walk_range (lo := 0) (n := (n : Int).toNat)) hD (fun _ h => nomatch h) (fun _ _ => True.intro) (by omega)
      (fun i => some (PyData.int (cs.map fun c => cz c i).sum)) (fun i x H' H'' Ny Nn hi t1 bk y ky kn => ?_) (fun H1 ws s1 eD hW => ?_)
    · obtain ⟨rfl, rfl⟩ := y
      have eca1 := t1 _ _ eca
      refine ⟨rfl, lc_yes ⟨_, rfl, ca, rfl, ⟨_, SqL.of eca1⟩, fun D2 hD2 => ?_⟩⟩
      refine lc_pure (B := []) (walk_list (xs := cvs)) hD2 (fun _ h => nomatch h) (fun H' s' => SqL.of (s' _ _ eca1)) (by omega)
        (fun m => (cs[m]?).map fun c => PyData.int (cz c i)) (fun m x H2 H2' Ny2 Nn2 hm t2 bk2 y2 ky2 kn2 => ?_) (fun H5 ws5 s5 eD5 hW5 => ?_)
      · obtain ⟨rfl, y2⟩ := y2
        have hm2 : m < cs.length := by omega
        obtain ⟨d, f1, g1⟩ := ((hC.s t1).s t2).getV y2
        rw [List.getElem?_map, List.getElem?_eq_getElem hm2] at f1
        have ed : d = eC cs[m] := (Option.some.inj f1).symm
        subst ed
        have oc := cl _ (List.getElem_mem hm2)
        rw [List.getElem?_eq_getElem hm2] at ky2
        generalize cs[m] = c at *
        obtain ⟨xa, rfl, nxa, exa⟩ := g1.col
        refine ⟨rfl, lc_yes ⟨_, rfl, _, rfl, xa, _, i, .int (cz c i), rfl, (by show V.int (0 + (i : Int)) = V.int (i : Int); rw [Int.zero_add]), SqT.of exa, atI_nat (getD_at (by omega)), ?_⟩⟩
        exact ky2 _ _ _ rfl (Same.refl _) (.int _)
      · rw [fm_get2 _ _ lcv] at hW5
        have hW6 : DtA [D2] H5 ws5 ((cs.map fun c => cz c i).map PyData.int) := by rw [List.map_map]; exact hW5
        have ew := hW6.intsV
        subst ew
        refine ⟨D2, _, rfl, SqL.of eD5, ?_⟩
        exact ky _ _ _ rfl s5 (.int _)
    · rw [Int.toNat_natCast, fm_some2] at hW
      have hW2 : DtA [D] H1 ws ((smC n cs).map PyData.int) := by unfold smC; rw [List.map_map]; exact hW
      have ew := hW2.intsV
      subst ew
      refine ⟨D, _, rfl, .inl ⟨SqL.of eD, fun l hl => ?_⟩⟩
      exact q _ _ (s1.trans (sm_new hl)) (Dt.ofCol ((hB.go (Go.of (B := []) s1)).ne hl) upd_same)
theorem ok_l_less_by (T : Tx K mg) {k : Nat} : FnOk P w K mg base CX0 (k + 1) T.f_l_less_by T.d_l_less_by ["_law_one", "_law_other"] (spCC leC) := by
  refine T.F_l_less_by.ok sc_l_less_by (fun vs H Q E h => ?_) (fun cdv A outer s H vs Q E hr h => ?_)
  · obtain ⟨B, x, y, a, b, rfl, _⟩ := h
    rfl
  · obtain ⟨B, x, y, a, b, rfl, ha, hb, hB, hl, hz, q⟩ := h
    obtain ⟨pa, rfl, na, ta⟩ := ha.col
    obtain ⟨pb, rfl, nb, tb⟩ := hb.col
    refine ⟨_, (pss_one (ps_ret (pe_callTy (tuple_K K) (by rfl) T.z_tuple (by decide +kernel) (pa_cons (pe_lc (own := [("_law_a", 2), ("_law_b", 3)]) (by rfl) sc_l_less_by.nd (RZ.pi_zipA (by rfl) T.z_zip (pa_cons (pv 0) (pa_cons (pv 1) pa_nil))) (blkOk_by (own := [("_law_a", 2), ("_law_b", 3)]) (N := N_l_less_by) (sc := defScope s_l_less_by) (by decide +kernel)) (fun _ _ _ _ _ => (pg_tupK K (n := 2) rfl (pgs_cons (pg_name (i := 2) sc_l_less_by.nd rfl (.inl rfl)) (pgs_cons (pg_name (i := 3) sc_l_less_by.nd rfl (.inl rfl)) pgs_nil)))) (fun _ _ _ _ _ => pts_nil) (fun _ _ _ _ _ => (pe_op op_sub (pv 2) (pv 3)))) pa_nil)))), ?_⟩
    refine ⟨_, rfl, _, rfl, pa, pb, _, _, rfl, .inr ⟨SqT.of ta, SqT.of tb, fun D hD => ?_⟩⟩
    refine lc_pure (B := []) (walk_zipT (n := a.length) (xs := a.map V.int) (ys := b.map V.int) (by simp; omega)) hD (fun _ h => nomatch h) (fun H' s' => ⟨SqT.of (s' _ _ ta), SqT.of (s' _ _ tb)⟩) (by omega)
      (fun i => ((a.zip b).map fun p => PyData.int (p.1 - p.2))[i]?) (fun i x H' H'' Ny Nn hi s1 bk y ky kn => ?_) (fun H' ws s1 eD hA => ?_)
    · obtain ⟨t, x, y, rfl, ht, rfl, e1, e2⟩ := y
      have i2 : i < b.length := by omega
      have x1 := mat hi e1
      have x2 := mat i2 e2
      refine ⟨t, [x, y], rfl, SqT.of upd_same, rfl, x, _, rfl, y, _, rfl, rfl, rfl, lc_yes ?_⟩
      refine ⟨_, rfl, _, rfl, _, _, x1, x2, ?_⟩
      exact ky _ _ _ (zat hi i2) (sm_new ht) (.int _)
    · rw [fm_all (by simp; omega)] at hA
      have hA2 : DtA (D :: []) H' ws ((leC a b).map PyData.int) := by unfold leC; rw [List.map_map]; exact hA
      refine ⟨D, _, rfl, .inl ⟨SqL.of (by rw [eD, hA2.intsV]), fun t ht => ?_⟩⟩
      exact q _ _ (s1.trans (sm_new ht)) (Dt.ofCol ((hB.go (Go.of (B := []) s1)).ne ht) upd_same)
/-! ### lines -/
def shL (col : Bool) : List Int := if col = true then [0, 1] else [1, 0]
def lineOf (col t : Bool) (h w a : Nat) : List (List Int) := (List.range (lL col h w)).map fun k => [((spK col t w a k).1 : Int), ((spK col t w a k).2 : Int)]
def linesOf (col t : Bool) (h w : Nat) : List (List (List Int)) := (List.range (nL col h w)).map (lineOf col t h w)
def spLines : Sp := fun vs H Q _ => ∃ (B : List Addr) (gv nv sv : V) (ps : List (List (List Int))) (h w n : Nat) (t col : Bool), vs = [gv, nv, .str (if t = true then "turned" else "same"), sv] ∧ Dt B H gv (eG ps) ∧ Dt B H sv (eC (shL col)) ∧ Bk B H ∧ Rect h w n ps ∧ 0 < h ∧ h ≤ 16 ∧ 0 < w ∧ w ≤ 16 ∧ ∀ v H', Same H H' → Dt B H' v (eG (linesOf col t h w)) → Q v H'
theorem rev_at {w j : Nat} (b : Bool) (hj : j < w) : (if b = true then ((List.range w).map fun (i : Nat) => V.int (i : Int)).reverse else (List.range w).map fun (i : Nat) => V.int (i : Int))[j]? = some (V.int ((if b = true then w - 1 - j else j : Nat) : Int)) := by
  cases b with
  | true =>
    rw [if_pos rfl, if_pos rfl, List.getElem?_reverse (by simpa using hj), List.length_map, List.length_range, List.getElem?_map, List.getElem?_range (by omega)]
    rfl
  | false =>
    rw [if_neg Bool.false_ne_true, if_neg Bool.false_ne_true, List.getElem?_map, List.getElem?_range hj]
    rfl
set_option maxHeartbeats 1000000 in
theorem ok_l_lines (T : Tx K mg) {k : Nat} : FnOk P w K mg base CX0 (k + 1) T.f_l_lines T.d_l_lines ["_law_picture_here", "_law_numbers", "_law_way", "_law_share"] spLines := by
  refine T.F_l_lines.ok sc_l_lines (fun vs H Q E h => ?_) (fun cdv A outer s H vs Q E hr h => ?_)
  · obtain ⟨B, gv, nv, sv, ps, h, w, n, t, col, rfl, _⟩ := h
    rfl
  · obtain ⟨B, gv, nv, sv, ps, h, w, n, t, col, rfl, dg, ds, hB, hR, h0, h1, w0, w1, q⟩ := h
    refine ⟨_, (pss_cons (ps_asg (pe_tup (pa_cons (pe_callB (len_K K) (by rfl) T.z_len PySem.boot_len (pa_cons (pv 0) pa_nil)) (pa_cons (pe_callB (len_K K) (by rfl) T.z_len PySem.boot_len (pa_cons (pe_ix (ix_listK K) (pv 0) pe_int (fun _ _ => rfl)) pa_nil)) pa_nil))) (pg_tupK K (n := 2) rfl (pgs_cons (pg_name (i := 4) sc_l_lines.nd rfl (.inr rfl)) (pgs_cons (pg_name (i := 5) sc_l_lines.nd rfl (.inl rfl)) pgs_nil))))
      (pss_cons (ps_if (pt_cmpR (op_eqDK K hr.units) (pv 3) (pe_tup (pa_cons pe_int (pa_cons pe_int pa_nil))) (nomark _)) (pss_one (ps_ret (pe_lc (own := [("_law_column", 9)]) (by rfl) sc_l_lines.nd (pi_range1 (by rfl) T.z_range (pa_cons (pv 5) pa_nil)) (blkOk_by (own := [("_law_column", 9)]) (N := N_l_lines) (sc := defScope s_l_lines) (by decide +kernel)) (fun _ _ _ _ _ => (pg_name (i := 9) sc_l_lines.nd rfl (.inr rfl))) (fun _ _ _ _ _ => pts_nil) (fun _ _ _ _ _ => (pe_lc (own := [("_law_row", 7)]) (by rfl) sc_l_lines.nd (pi_range1 (by rfl) T.z_range (pa_cons (pv 4) pa_nil)) (blkOk_in (own := [("_law_row", 7)]) (N := N_l_lines) ["_law_column"] (by decide +kernel) (by decide +kernel) ⟨.inl rfl, trivial⟩) (fun _ _ _ _ _ => (pg_name (i := 7) sc_l_lines.nd rfl (.inl rfl))) (fun _ _ _ _ _ => pts_nil) (fun _ _ _ _ _ => (pe_tup (pa_cons (pv 7) (pa_cons (pv 9) pa_nil))))))))) pss_nil)
      (pss_cons (ps_set (i := 6) sc_l_lines.nd rfl (.inl rfl) (pe_lst pa_nil))
      (pss_cons (ps_for PassesOwn.never rfl (pi_range1 (by rfl) T.z_range (pa_cons (pv 4) pa_nil)) (pg_name (i := 7) sc_l_lines.nd rfl (.inr rfl)) (Evl.pss_cut (ps_set (i := 8) sc_l_lines.nd rfl (.inl rfl) (pe_ifExp (PW.pt (pw_and (pt_cmpR op_eq (pv 2) pe_str (nomark _)) (pw_and1 (pt_cmpR op_eq (pe_op op_mod (pv 7) pe_int) pe_int (nomark _))))) (pe_un un_neg pe_int) pe_int))
      (pss_one (ps_expr (pe_bm PySem.F.plainAttrs_list PySem.F.slot_list_append PySem.F.type_list_append mt_append (pv 6) (pa_cons (pe_lc (own := [("_law_column", 9)]) (by rfl) sc_l_lines.nd (pi_listK K (pe_stepL K (pe_listRg rfl (by rfl) T.z_list (prg_1 (by rfl) T.z_range (pv 5))) (pv 8))) (blkOk_by (own := [("_law_column", 9)]) (N := N_l_lines) (sc := defScope s_l_lines) (by decide +kernel)) (fun _ _ _ _ _ => (pg_name (i := 9) sc_l_lines.nd rfl (.inl rfl))) (fun _ _ _ _ _ => pts_nil) (fun _ _ _ _ _ => (pe_tup (pa_cons (pv 7) (pa_cons (pv 9) pa_nil))))) pa_nil))))))
      (pss_one (ps_ret (pv 6))))))), ?_⟩
    obtain ⟨ga, gvs, rfl, nga, ega, hG⟩ := dg.lst2
    have lg := hG.len
    rw [List.length_map, hR.1] at lg
    obtain ⟨v0, f0, dv0⟩ := hG.get (i := 0) (d := eP (ps.getD 0 [])) (by rw [List.getElem?_map, (rect_row hR (r := 0) (by omega)).1]; rfl)
    obtain ⟨ra0, rvs0, rfl, _, era0, hr0⟩ := dv0.pal
    have lr0 := hr0.len
    rw [List.length_map, (rect_row hR (r := 0) (by omega)).2.1] at lr0
    refine ⟨_, rfl, ga, _, rfl, .inl (SqL.of ega), _, rfl, ga, _, 0, .ref ra0, rfl, rfl, SqL.of ega, atI_nat (j := 0) f0, ra0, _, rfl, .inl (SqL.of era0), (by show 2 ≤ sizeLine; decide), fun tp htp => ?_⟩
    rw [lg, lr0]
    have s1 := sm_new (o := .tup [.int (h : Int), .int (w : Int)]) htp
    have etp : (upd H tp (.tup [.int (h : Int), .int (w : Int)])) tp = some (.tup [.int (h : Int), .int (w : Int)]) := upd_same
    generalize upd H tp (.tup [.int (h : Int), .int (w : Int)]) = H1 at *
    refine ⟨tp, _, rfl, SqT.of etp, rfl, _, _, rfl, _, _, rfl, rfl, ?_⟩
    refine ⟨_, rfl, (by show 2 ≤ sizeLine; decide), fun p2 hp2 => ?_⟩
    have B1 := hB.go (Go.of (B := []) s1)
    have s2 := sm_new (o := .tup [.int 0, .int 1]) hp2
    have d2 : Dt B (upd H1 p2 (.tup [.int 0, .int 1])) (.ref p2) (eC [0, 1]) := Dt.ofCol (B1.ne hp2) upd_same
    generalize upd H1 p2 (.tup [.int 0, .int 1]) = H2 at *
    have t2 := s1.trans s2
    have B2 := B1.go (Go.of (B := []) s2)
    have shS : Sh (eC (shL col)) 1 := sh_eC (by unfold shL; split <;> simp)
    have sh01 : Sh (eC [0, 1]) 1 := sh_eC (by simp)
    refine ⟨_, _, (ds.s t2).dP, d2.dP, shS.sh (by omega), sh01.sh (by omega), _, rfl, ?_⟩
    cases col with
    | true =>
      refine iteE (eqv_sh sh01) ?_
      refine ⟨_, rfl, _, rfl, by omega, by omega, fun D hD => ?_⟩
      refine lc_pure (B := B) (walk_range (lo := 0) (n := (w : Int).toNat)) hD B2 (fun _ _ => True.intro) (by omega)
        (fun a => some (eP (lineOf true t h w a))) (fun a x H' H'' Ny Nn ha t1 bk y ky kn => ?_) (fun H3 ws s3 eD hW => ?_)
      · obtain ⟨rfl, rfl⟩ := y
        refine ⟨rfl, lc_yes ⟨_, rfl, _, rfl, by omega, by omega, fun D2 hD2 => ?_⟩⟩
        refine lc_pure (B := D :: B) (walk_range (lo := 0) (n := (h : Int).toNat)) hD2 bk (fun _ _ => True.intro) (by omega)
          (fun m => some (eC [(m : Int), (a : Int)])) (fun m x H2 H2' Ny2 Nn2 hm t2 bk2 y2 ky2 kn2 => ?_) (fun H5 ws5 s5 eD5 hW5 => ?_)
        · obtain ⟨rfl, rfl⟩ := y2
          refine ⟨rfl, lc_yes ⟨_, rfl, _, rfl, (by show 2 ≤ sizeLine; decide), fun p hp => ?_⟩⟩
          refine ky2 _ _ _ rfl (sm_new hp) (Dt.ofCol (bk2.ne hp) ?_)
          rw [upd_same]
          show some (HO.tup [V.int (0 + (m : Int)), V.int (0 + (a : Int))]) = _
          rw [Int.zero_add, Int.zero_add]
          rfl
        · rw [Int.toNat_natCast, fm_some2] at hW5
          refine ky _ _ _ rfl s5 (.lst (bk.ne hD2) eD5 ?_)
          unfold lineOf
          rw [List.map_map]
          exact hW5.un
      · rw [Int.toNat_natCast, fm_some2] at hW
        refine q _ _ (t2.trans s3) (.lst (B2.ne hD) eD ?_)
        unfold linesOf
        rw [List.map_map]
        exact hW.un
    | false =>
      refine iteN (by decide) ?_
      refine ⟨Nat.zero_le _, fun S hS => ?_⟩
      have s3 := sm_new (o := .lst []) hS
      have eS : (upd H2 S (.lst [])) S = some (.lst []) := upd_same
      have nS : S ∉ B := B2.ne hS
      generalize upd H2 S (.lst []) = H3 at *
      refine ⟨_, rfl, _, rfl, by omega, by omega, for_range (lo := 0) (n := (h : Int).toNat) (fun i σ H' => ∃ y7 y8 y9 us, σ = [some (.ref ga), some nv, some (.str (if t = true then "turned" else "same")), some sv, some (.int (h : Int)), some (.int (w : Int)), some (.ref S), y7, y8, y9] ∧ Same H2 H' ∧ H' S = some (.lst us) ∧ DtA (S :: B) H' us (((List.range i).map (lineOf false t h w)).map eP))
        ⟨_, _, _, [], rfl, s3, eS, .nil⟩ (fun i σ H4 hi h4 => ?_) (fun σ H4 h4 => ?_)⟩
      · obtain ⟨y7, y8, y9, us, rfl, s4, eS4, dS4⟩ := h4
        have hi' : i < h := by omega
        refine ⟨fun σ' H' => ∃ y9, σ' = [some (.ref ga), some nv, some (.str (if t = true then "turned" else "same")), some sv, some (.int (h : Int)), some (.int (w : Int)), some (.ref S), some (.int (0 + (i : Int))), some (.int (stepI (decide (t = true ∧ i % 2 = 1)))), y9] ∧ H' = H4, ?_, fun σ' H5 hM => ?_⟩
        · refine ⟨_, rfl, rfl, _, rfl, ite2 (fun e => ?_) (fun e => ?_)⟩
          · have et : t = true := by
              cases t with
              | true => rfl
              | false => exact absurd e (by decide +kernel)
            subst et
            refine ⟨_, rfl, _, _, rfl, rfl, md (by decide), rfl, _, rfl, ite2 (fun e2 => ?_) (fun e2 => ?_)⟩
            · have e2 : (0 + (i : Int)) % 2 = 1 := by simpa using e2
              refine ⟨_, rfl, y9, ?_, rfl⟩
              rw [decide_eq_true ⟨rfl, by omega⟩]
              rfl
            · have e2 : ¬ (0 + (i : Int)) % 2 = 1 := by simpa using e2
              refine ⟨y9, ?_, rfl⟩
              rw [decide_eq_false (fun z => e2 (by have := z.2; omega))]
              rfl
          · have et : t = false := by
              cases t with
              | false => rfl
              | true => exact absurd (by decide +kernel) e
            subst et
            refine iteF ⟨y9, ?_, rfl⟩
            rw [decide_eq_false (fun z => nomatch z.1)]
            rfl
        obtain ⟨y9, rfl, rfl⟩ := hM
        have lu := dS4.len
        rw [List.length_map, List.length_map, List.length_range] at lu
        refine ⟨_, rfl, .inl ⟨rfl, _, SqL.of eS4⟩, _, rfl, _, rfl, RgOk.of_le (by omega) (by omega) (by omega) (by omega), fun c hc => ?_⟩
        have s6 := sm_new (o := .lst (rgV 0 (w : Int))) hc
        have ec : (upd H5 c (.lst (rgV 0 (w : Int)))) c = some (.lst ((List.range w).map fun (i : Nat) => V.int (i : Int))) := by rw [upd_same, rgV0]
        generalize upd H5 c (.lst (rgV 0 (w : Int))) = H6 at *
        refine ⟨_, rfl, _, rfl, c, _, decide (t = true ∧ i % 2 = 1), rfl, rfl, SqL.of ec, fun p7 hp7 => ?_⟩
        have s7 := sm_new (o := .lst (if decide (t = true ∧ i % 2 = 1) = true then ((List.range w).map fun (i : Nat) => V.int (i : Int)).reverse else (List.range w).map fun (i : Nat) => V.int (i : Int))) hp7
        have e7 : (upd H6 p7 (.lst (if decide (t = true ∧ i % 2 = 1) = true then ((List.range w).map fun (i : Nat) => V.int (i : Int)).reverse else (List.range w).map fun (i : Nat) => V.int (i : Int)))) p7 = some (.lst (if decide (t = true ∧ i % 2 = 1) = true then ((List.range w).map fun (i : Nat) => V.int (i : Int)).reverse else (List.range w).map fun (i : Nat) => V.int (i : Int))) := upd_same
        generalize upd H6 p7 (.lst (if decide (t = true ∧ i % 2 = 1) = true then ((List.range w).map fun (i : Nat) => V.int (i : Int)).reverse else (List.range w).map fun (i : Nat) => V.int (i : Int))) = H7 at *
        have t7 := s6.trans s7
        have eS7 := t7 _ _ eS4
        have bk7 : Bk (S :: B) H7 := (B2.go (Go.of (B := []) (s4.trans t7))).cons eS7
        have lx : (if decide (t = true ∧ i % 2 = 1) = true then ((List.range w).map fun (i : Nat) => V.int (i : Int)).reverse else (List.range w).map fun (i : Nat) => V.int (i : Int)).length = w := by split <;> simp
        have rx := fun j hj => rev_at (w := w) (j := j) (decide (t = true ∧ i % 2 = 1)) hj
        generalize (if decide (t = true ∧ i % 2 = 1) = true then ((List.range w).map fun (i : Nat) => V.int (i : Int)).reverse else (List.range w).map fun (i : Nat) => V.int (i : Int)) = xs at *
        refine ⟨p7, rfl, ⟨_, SqL.of e7⟩, fun D hD => ?_⟩
        refine lc_pure (B := S :: B) (walk_list (xs := xs)) hD bk7 (fun H' s' => SqL.of (s' _ _ e7)) (by omega)
          (fun j => some (eC [((spK false t w i j).1 : Int), ((spK false t w i j).2 : Int)])) (fun j x H' H'' Ny Nn hj t1 bk y ky kn => ?_) (fun H8 ws s8 eD hW => ?_)
        · obtain ⟨rfl, y⟩ := y
          rw [rx j (by omega)] at y
          have ex := (Option.some.inj y).symm
          subst ex
          refine ⟨rfl, lc_yes ⟨_, rfl, _, rfl, (by show 2 ≤ sizeLine; decide), fun p hp => ?_⟩⟩
          refine ky _ _ _ rfl (sm_new hp) (Dt.ofCol (bk.ne hp) ?_)
          rw [upd_same, Int.zero_add]
          unfold spK
          simp only [Bool.false_eq_true, if_false, decide_eq_true_eq]
          rfl
        · rw [lx, fm_some2] at hW
          have dD : Dt (S :: B) H8 (.ref D) (eP (lineOf false t h w i)) := .lst (bk7.ne hD) eD (by unfold lineOf; rw [List.map_map]; exact hW.un)
          have t8 := t7.trans s8
          have gm : Go (S :: B) H8 (upd H8 S (.lst (us ++ [.ref D]))) := Go.refl.at (by simp)
          refine ⟨S, _, _, rfl, rfl, s8 _ _ eS7, sz (by omega), ?_⟩
          refine ⟨_, _, _, us ++ [.ref D], rfl, sm_mut (s4.trans t8) hS, upd_same, ?_⟩
          rw [List.range_succ, List.map_append, List.map_append]
          exact ((dS4.s t8).g gm).app (.one (dD.g gm))
      · obtain ⟨y7, y8, y9, us, rfl, s4, eS4, dS4⟩ := h4
        rw [Int.toNat_natCast] at dS4
        refine ⟨_, rfl, q _ _ (t2.trans s4) (.lst nS eS4 ?_)⟩
        exact dS4.un
/-! ### one share -/
noncomputable def rV (cs : List (List Int)) (W : List (List (List Int))) (q : Nat × Nat) : List Int := leC (getC W q.1 q.2) (cs.getD (nrI cs (getC W q.1 q.2)) [])
theorem eG_at2 {B : List Addr} {H : Hp} {gvs : List V} {W : List (List (List Int))} {h w n r c : Nat} (hG : DtA B H gvs (W.map eP)) (hR : Rect h w n W) (hr : r < h) (hc : c < w) :
    ∃ ra rvs v, gvs[r]? = some (.ref ra) ∧ H ra = some (.lst rvs) ∧ rvs[c]? = some v ∧ Dt B H v (eC (getC W r c)) := by
  obtain ⟨e1, l1, _⟩ := rect_row hR hr
  obtain ⟨v, f, d⟩ := hG.get (i := r) (d := eP (W.getD r [])) (by rw [List.getElem?_map, e1]; rfl)
  obtain ⟨ra, rvs, rfl, _, era, hr'⟩ := d.pal
  obtain ⟨v2, f2, d2⟩ := hr'.get (i := c) (d := eC (getC W r c)) (by rw [List.getElem?_map, (rect_get hR hr hc).1]; rfl)
  exact ⟨ra, rvs, v2, f, era, f2, d2⟩
theorem shL_cat (col : Bool) (p : Int) : (shL col).map PyData.int ++ [.int p] = (e3 (shC col p)).map PyData.int := by cases col <;> rfl
theorem col_of {cs : List (List Int)} {n : Nat} (c0 : 0 < cs.length) (cl : ∀ c ∈ cs, c.length = n) (x : List Int) : (cs.getD (nrI cs x) []).length = n := by
  have := nr_lt c0 x
  rw [List.getD_eq_getElem?_getD, List.getElem?_eq_getElem this]
  exact cl _ (List.getElem_mem this)
theorem ho_len_fold {h w n : Nat} {shs : List (Int × Int × Int)} {cs : List (List Int)} (c0 : 0 < cs.length) (cl : ∀ c ∈ cs, c.length = n) (sok : ∀ s ∈ shs, 0 ≤ s.2.1 ∧ 0 < s.2.2 ∧ s.2.2 ≤ 1000) : ∀ (ss : List (List Int)) (z : List (List (List Int)) × List (List Int) × List Int), (∀ s ∈ ss, sR s < h ∧ sC s < w ∧ (sS s = 1 ∨ sS s = -1)) → Rect h w n z.1 → z.2.2.length = n → (ss.foldl (hoStep h w shs cs) z).2.2.length = n
  | [], _, _, _, hz => hz
  | a :: ss, z, ok, h1, h2 => by
    have oa := ok a (List.mem_cons_self ..)
    obtain ⟨k1, k2⟩ := rect_hand (sd := sS a) h1 oa.1 oa.2.1 (col_of c0 cl (getC z.1 (sR a) (sC a))) sok
    rw [List.foldl_cons]
    refine ho_len_fold c0 cl sok ss _ (fun x hx => ok x (List.mem_cons_of_mem _ hx)) k1 ?_
    show (adC z.2.2 _).length = n
    rw [adC_ln, h2, k2, Nat.min_self]
theorem ho_len {h w n : Nat} {t : Bool} {ps : List (List (List Int))} {shs : List (Int × Int × Int)} {cs : List (List Int)} (c0 : 0 < cs.length) (cl : ∀ c ∈ cs, c.length = n) (sok : ∀ s ∈ shs, 0 ≤ s.2.1 ∧ 0 < s.2.2 ∧ s.2.2 ≤ 1000) (hR : Rect h w n ps) : (hoW h w n t ps shs cs).2.2.length = n := by
  unfold hoW
  rw [hR.1]
  exact ho_len_fold c0 cl sok (spotsOf t ps h) _ (sp_ok hR t h (Nat.le_refl _)) hR (by simp)
def spOne35 : Sp := fun vs H Q _ => ∃ (B : List Addr) (gv plv sv : V) (ps : List (List (List Int))) (cs : List (List Int)) (h w n : Nat) (t col : Bool) (p : Int), vs = [gv, plv, .str (if t = true then "turned" else "same"), sv, .int p] ∧ Dt B H gv (eG ps) ∧ Dt B H plv (eP cs) ∧ Dt B H sv (eC (shL col)) ∧ Bk B H ∧ HoOk h w n ps cs [shC col p] ∧ 0 < p ∧ p ≤ 1000 ∧ ∀ H', Same H H' → Q (.bl true) H'
set_option maxHeartbeats 4000000 in
theorem ok_l_one_right (T : Tx K mg) {k : Nat} (hk : k ≤ 50 := by omega) : FnOk P w K mg base CX0 (k + 4) T.f_l_one_right T.d_l_one_right ["_law_picture_here", "_law_palette_here", "_law_way", "_law_share", "_law_parts"] spOne35 := by
  refine T.F_l_one_right.ok sc_l_one_right (fun vs H Q E h => ?_) (fun cdv A outer s H vs Q E hr h => ?_)
  · obtain ⟨B, gv, plv, sv, ps, cs, h, w, n, t, col, p, rfl, _⟩ := h
    rfl
  · obtain ⟨B, gv, plv, sv, ps, cs, h, w, n, t, col, p, rfl, dg, dpl, ds, hB, ok, p0, p1, q⟩ := h
    have ok' := ok
    obtain ⟨hR, h0, h1, w0, w1, n0, n1, c0, c1, cl, bps, sl, sok⟩ := ok'
    have cl1 : ∀ c ∈ cs, c.length = n := fun c hc => (cl c hc).1
    have cl2 : ∀ c ∈ cs, bC 2048 c := fun c hc => (cl c hc).2
    obtain ⟨_, ord⟩ := shC_ok (col := col) p0 p1
    have hlin := fun i => line_ok (col := col) (t := t) c0 cl1 p0 p1 hR i
    have hw := ho_want (t := t) (cs := cs) ord hR
    have hrow := fun (r : Nat) (hr : r < h) => ho_row_told (t := t) c0 cl1 sok ord hR hr
    have hwi := ho_wIn (t := t) c0 sok sl hR h1 w1 cl2 bps
    obtain ⟨q1, q2⟩ := ho_rect (t := t) c0 cl1 sok hR
    have llen : (hoW h w n t ps [shC col p] cs).2.2.length = n := ho_len c0 cl1 sok hR
    have htold := fun r c hr hc => ho_told (t := t) (cs := cs) ord hR (r := r) (c := c) hr hc
    refine ⟨_, (pss_cons (ps_asg (pe_call (ok_handed_on T (k := k)) hr (by rfl) T.g_handed_on T.F_handed_on.kp T.b_handed_on .nil pass0 (pa_cons (pv 0) (pa_cons (pv 1) (pa_cons (pe_lst (pa_cons (pe_op (op_catAK K) (pv 3) (pe_tup (pa_cons (pv 4) pa_nil))) pa_nil)) (pa_cons (pv 2) pa_nil))))) (pg_tupK K (n := 2) rfl (pgs_cons (pg_name (i := 5) sc_l_one_right.nd rfl (.inl rfl)) (pgs_cons (pg_name (i := 6) sc_l_one_right.nd rfl (.inl rfl)) pgs_nil))))
      (pss_cons (ps_set (i := 7) sc_l_one_right.nd rfl (.inl rfl) (pe_call (ok_wanted_by T (k := k)) hr (by rfl) T.g_wanted_by T.F_wanted_by.kp T.b_wanted_by .nil pass0 (pa_cons (pv 0) (pa_cons (pv 1) (pa_cons (pe_lst (pa_cons (pe_op (op_catAK K) (pv 3) (pe_tup (pa_cons (pv 4) pa_nil))) pa_nil)) (pa_cons (pv 2) (pa_cons (pv 5) pa_nil)))))))
      (pss_cons (ps_set (i := 8) sc_l_one_right.nd rfl (.inl rfl) (pe_callB (len_K K) (by rfl) T.z_len PySem.boot_len (pa_cons (pe_ix (ix_listK K) (pv 1) pe_int (fun _ _ => rfl)) pa_nil)))
      (pss_cons (ps_set (i := 9) sc_l_one_right.nd rfl (.inl rfl) (pe_lst pa_nil))
      (pss_cons (ps_for PassesOwn.never rfl (pi_listK K (pe_call (ok_l_lines T (k := k + 2)) hr (by rfl) T.g_l_lines T.F_l_lines.kp T.b_l_lines .nil pass0 (pa_cons (pv 0) (pa_cons (pv 5) (pa_cons (pv 2) (pa_cons (pv 3) pa_nil)))))) (pg_name (i := 10) sc_l_one_right.nd rfl (.inl rfl)) (pss_cons (ps_set (i := 11) sc_l_one_right.nd rfl (.inl rfl) (pe_call (ok_l_sums T (k := k + 2)) hr (by rfl) T.g_l_sums T.F_l_sums.kp T.b_l_sums .nil pass0 (pa_cons (pe_lst pa_nil) (pa_cons (pv 8) pa_nil))))
      (pss_cons (ps_for PassesOwn.never rfl (pi_listK K (pv 10)) (pg_tupK K (n := 2) rfl (pgs_cons (pg_name (i := 12) sc_l_one_right.nd rfl (.inl rfl)) (pgs_cons (pg_name (i := 13) sc_l_one_right.nd rfl (.inl rfl)) pgs_nil))) (pss_cons (ps_set (i := 14) sc_l_one_right.nd rfl (.inl rfl) (pe_call (ok_l_sums T (k := k + 2)) hr (by rfl) T.g_l_sums T.F_l_sums.kp T.b_l_sums .nil pass0 (pa_cons (pe_lst (pa_cons (pv 11) (pa_cons (pe_ix (ix_listK K) (pe_ix (ix_listK K) (pv 0) (pv 12) (fun _ _ => rfl)) (pv 13) (fun _ _ => rfl)) pa_nil))) (pa_cons (pv 8) pa_nil))))
      (pss_cons (ps_if (PW.pt (pw_or (pt_cmpR (op_neDK K hr.units) (pe_ix (ix_listK K) (pe_ix (ix_listK K) (pv 7) (pv 12) (fun _ _ => rfl)) (pv 13) (fun _ _ => rfl)) (pv 14) (nomark _)) (pw_or1 (pt_cmpR op_ne (pe_ix (ix_listK K) (pe_ix (ix_listK K) (pv 5) (pv 12) (fun _ _ => rfl)) (pv 13) (fun _ _ => rfl)) (pe_call (ok_l_nearest T (k := k + 1)) hr (by rfl) T.g_l_nearest T.F_l_nearest.kp T.b_l_nearest .nil pass0 (pa_cons (pv 1) (pa_cons (pv 14) pa_nil))) (nomark _))))) (pss_one (ps_ret pe_bl)) pss_nil)
      (pss_one (ps_set (i := 11) sc_l_one_right.nd rfl (.inl rfl) (pe_call (ok_l_less_by T (k := k + 2)) hr (by rfl) T.g_l_less_by T.F_l_less_by.kp T.b_l_less_by .nil pass0 (pa_cons (pv 14) (pa_cons (pe_ix (ix_listK K) (pv 1) (pe_ix (ix_listK K) (pe_ix (ix_listK K) (pv 5) (pv 12) (fun _ _ => rfl)) (pv 13) (fun _ _ => rfl)) (fun _ _ => rfl)) pa_nil))))))))
      (pss_one (ps_expr (pe_bm PySem.F.plainAttrs_list PySem.F.slot_list_append PySem.F.type_list_append mt_append (pv 9) (pa_cons (pv 11) pa_nil)))))))
      (pss_one (ps_ret (pe_call (ok_l_same T (k := k + 2)) hr (by rfl) T.g_l_same T.F_l_same.kp T.b_l_same .nil pass0 (pa_cons (pv 6) (pa_cons (pe_call (ok_l_sums T (k := k + 2)) hr (by rfl) T.g_l_sums T.F_l_sums.kp T.b_l_sums .nil pass0 (pa_cons (pv 9) (pa_cons (pv 8) pa_nil))) pa_nil)))))))))), ?_⟩
    -- the share
    refine ⟨_, rfl, _, rfl, _, rfl, _, rfl, (by show 1 ≤ sizeLine; decide), fun p1' hp1 => ?_⟩
    have s1 := sm_new (o := .tup [.int p]) hp1
    have d1 : Dt B (upd H p1' (.tup [.int p])) (.ref p1') (.tuple [.int p]) := .tup (hB.ne hp1) upd_same (.one (.int _))
    generalize upd H p1' (.tup [.int p]) = H1 at *
    have B1 := hB.go (Go.of (B := []) s1)
    refine cat_dt (ds.s s1) d1 B1 (by unfold shL; split <;> simp) fun v2 H2 s2 d2 => ?_
    rw [shL_cat] at d2
    have B2 := B1.go (Go.of (B := []) s2)
    refine ⟨(by show 1 ≤ sizeLine; decide), fun l3 hl3 => ?_⟩
    have s3 := sm_new (o := .lst [v2]) hl3
    have d3 : Dt B (upd H2 l3 (.lst [v2])) (.ref l3) (eP ([shC col p].map e3)) := .lst (B2.ne hl3) upd_same (.one (d2.s s3))
    generalize upd H2 l3 (.lst [v2]) = H3 at *
    have t3 := (s1.trans s2).trans s3
    have B3 := hB.go (Go.of (B := []) t3)
    refine ⟨_, rfl, B, _, _, _, _, _, _, h, w, n, t, rfl, dg.s t3, dpl.s t3, d3, B3, ok.1, ok.2.1, ok.2.2.1, ok.2.2.2.1, ok.2.2.2.2.1, ok.2.2.2.2.2.1, ok.2.2.2.2.2.2.1, ok.2.2.2.2.2.2.2.1, ok.2.2.2.2.2.2.2.2.1, ok.2.2.2.2.2.2.2.2.2.1, ok.2.2.2.2.2.2.2.2.2.2.1, ok.2.2.2.2.2.2.2.2.2.2.2.1, ok.2.2.2.2.2.2.2.2.2.2.2.2, fun t0 na ras lv H4 s4 e4 nt4 g4 dl4 _ _ _ => ?_⟩
    obtain ⟨dn4, dl4', _⟩ := ho_fin e4 nt4 g4 dl4
    refine ⟨t0, _, rfl, SqT.of e4, rfl, _, _, rfl, _, _, rfl, rfl, ?_⟩
    generalize hN : (hoW h w n t ps [shC col p] cs).2.1 = N at *
    generalize hWW : (hoW h w n t ps [shC col p] cs).1 = W at *
    generalize (hoW h w n t ps [shC col p] cs).2.2 = lo at *
    have t4 := t3.trans s4
    have B4 := hB.go (Go.of (B := []) t4)
    have nrow : ∀ r ∈ N, r.length = w ∧ ∀ x ∈ r, 0 ≤ x ∧ x < (cs.length : Int) := fun r hr' => by
      obtain ⟨i, hi, rfl⟩ := List.getElem_of_mem hr'
      refine ⟨q2.2 _ hr', fun x hx => ?_⟩
      have e := hrow i (by rw [← q2.1]; exact hi)
      rw [List.getD_eq_getElem?_getD, List.getElem?_eq_getElem hi] at e
      have e2 : N[i] = (W.getD i []).map fun c => (nrI cs c : Int) := e
      rw [e2] at hx
      obtain ⟨c, _, rfl⟩ := List.mem_map.mp hx
      have := nr_lt c0 c
      omega
    have nok : numsOk h w cs.length N := ⟨q2.1, nrow⟩
    -- wanted
    refine ⟨_, rfl, _, rfl, _, rfl, _, rfl, (by show 1 ≤ sizeLine; decide), fun p5 hp5 => ?_⟩
    have s5 := sm_new (o := .tup [.int p]) hp5
    have d5 : Dt B (upd H4 p5 (.tup [.int p])) (.ref p5) (.tuple [.int p]) := .tup (B4.ne hp5) upd_same (.one (.int _))
    generalize upd H4 p5 (.tup [.int p]) = H5 at *
    have B5 := B4.go (Go.of (B := []) s5)
    refine cat_dt ((ds.s t4).s s5) d5 B5 (by unfold shL; split <;> simp) fun v6 H6 s6 d6 => ?_
    rw [shL_cat] at d6
    have B6 := B5.go (Go.of (B := []) s6)
    refine ⟨(by show 1 ≤ sizeLine; decide), fun l7 hl7 => ?_⟩
    have s7 := sm_new (o := .lst [v6]) hl7
    have d7 : Dt B (upd H6 l7 (.lst [v6])) (.ref l7) (eP ([shC col p].map e3)) := .lst (B6.ne hl7) upd_same (.one (d6.s s7))
    generalize upd H6 l7 (.lst [v6]) = H7 at *
    have u7 := (s5.trans s6).trans s7
    have t7 := t4.trans u7
    have B7 := hB.go (Go.of (B := []) t7)
    refine ⟨_, rfl, _, rfl, B, _, _, _, _, ps, cs, [shC col p], N, h, w, n, t, rfl, dg.s t7, dpl.s t7, d7, dn4.s u7, B7, hR, h0, by omega, w0, by omega, n0, n1, cl1, q2.1, nrow, by omega, sok, fun wa ras8 H8 s8 hwa hras hG8 hRw8 => ?_⟩
    rw [hw] at hG8 hRw8
    have dw8 : Dt B H8 (.ref wa) (eG W) := by
      have := hG8.dt
      unfold gD at this
      rw [List.map_map] at this
      exact this
    have t8 := t7.trans s8
    have B8 := hB.go (Go.of (B := []) t8)
    have dg8 := dg.s t8
    have dpl8 := dpl.s t8
    have dn8 := (dn4.s u7).s s8
    have dl8 := (dl4'.s u7).s s8
    have ds8 := ds.s t8
    -- many
    have dpl80 := dpl8
    obtain ⟨pla, plvs, rfl, npl, epl, hPl⟩ := dpl8.pal
    obtain ⟨v0, f0, d0⟩ := hPl.get (i := 0) (d := eC cs[0]) (by rw [List.getElem?_map, List.getElem?_eq_getElem c0]; rfl)
    obtain ⟨ca, rfl, nca, eca⟩ := d0.col
    have hc0 := cl1 _ (List.getElem_mem c0)
    refine ⟨_, rfl, pla, _, 0, .ref ca, rfl, rfl, SqL.of epl, atI_nat (j := 0) f0, ca, _, rfl, .inr (SqT.of eca), ?_⟩
    rw [List.length_map, hc0]
    refine ⟨Nat.zero_le _, fun S hS => ?_⟩
    have s9 := sm_new (o := .lst []) hS
    have eS : (upd H8 S (.lst [])) S = some (.lst []) := upd_same
    have nS : S ∉ B := B8.ne hS
    generalize upd H8 S (.lst []) = H9 at *
    have B9 := B8.go (Go.of (B := []) s9)
    -- lines
    refine ⟨_, rfl, _, rfl, _, rfl, _, rfl, S :: B, gv, .ref na, sv, ps, h, w, n, t, col, rfl, (dg8.fr hS).s s9, (ds8.fr hS).s s9, B9.cons eS, hR, h0, h1, w0, w1, fun Lv H10 s10 dL => ?_⟩
    obtain ⟨La, Lvs, rfl, nLa, eLa, hL⟩ := dL.lst2
    have lL' := hL.len
    unfold linesOf at hL lL'
    rw [List.length_map, List.length_map, List.length_range] at lL'
    have nl16 : nL col h w ≤ 16 := by unfold nL; split <;> omega
    have ll16 : lL col h w ≤ 16 := by unfold lL; split <;> omega
    have ll0 : 0 < lL col h w := by unfold lL; split <;> omega
    have x10 := s9.trans s10
    have rVl : ∀ a k, a < nL col h w → k < lL col h w → (rV cs W (spK col t w a k)).length = n := fun a k ha hk => by
      have := spK_in (t := t) ha hk
      unfold rV
      rw [leC_ln, (rect_get q1 this.1 this.2).2, col_of c0 cl1, Nat.min_self]
    refine ⟨La, rfl, ⟨_, SqL.of eLa⟩, for_it (walk_list (xs := Lvs)) (fun a σ H' => ∃ y10 y11 y12 y13 y14 us, σ = [some gv, some (.ref pla), some (.str (if t = true then "turned" else "same")), some sv, some (.int p), some (.ref na), some lv, some (.ref wa), some (.int (n : Int)), some (.ref S), y10, y11, y12, y13, y14] ∧ Go [S] H10 H' ∧ Same H8 H' ∧ H' S = some (.lst us) ∧ DtA (S :: B) H' us (((List.range a).map fun a => rV cs W (spK col t w a (lL col h w - 1))).map eC))
      ⟨_, _, _, _, _, [], rfl, Go.refl, x10, s10 _ _ eS, .nil⟩ (fun a σ H' _ hh => ?_) (fun a xx σ H11 H11' ha hh y => ?_) (fun σ H11 hh => ?_)⟩
    · obtain ⟨y10, y11, y12, y13, y14, us, rfl, g11, _⟩ := hh
      exact SqL.of (g11.k La _ (fun z => nLa (by simp [List.mem_singleton.mp z])) eLa)
    · obtain ⟨y10, y11, y12, y13, y14, us, rfl, g11, s11, eS11, dS11⟩ := hh
      obtain ⟨rfl, y⟩ := y
      have ha' : a < nL col h w := by omega
      obtain ⟨d, f1, g1⟩ := (hL.g (g11.w fun z hz => by rw [List.mem_singleton.mp hz]; simp)).getV y
      rw [List.getElem?_map, List.getElem?_map, List.getElem?_range ha'] at f1
      have ed : d = eP (lineOf col t h w a) := (Option.some.inj f1).symm
      subst ed
      obtain ⟨ka, kvs, rfl, nka, eka, hK⟩ := g1.pal
      have lk := hK.len
      unfold lineOf at hK lk
      rw [List.length_map, List.length_map, List.length_range] at lk
      have B11 := B8.go (Go.of (B := []) s11)
      have bk11 : Bk (S :: B) H11' := B11.cons eS11
      have lus := dS11.len
      rw [List.length_map, List.length_map, List.length_range] at lus
      refine ⟨Nat.zero_le _, fun z12 hz12 => ?_⟩
      have s12 := sm_new (o := .lst []) hz12
      have d12 : Dt (S :: B) (upd H11' z12 (.lst [])) (.ref z12) (eP []) := .lst (bk11.ne hz12) upd_same .nil
      generalize upd H11' z12 (.lst []) = H12 at *
      refine ⟨_, rfl, S :: B, .ref z12, [], n, rfl, d12, bk11.go (Go.of (B := []) s12), n1, by simp, fun _ h => (nomatch h), fun hv H13 s13 dh13 => ?_⟩
      have x13 := s12.trans s13
      have eka13 := x13 _ _ eka
      have hK13 := hK.s x13
      refine ⟨_, rfl, ka, rfl, ⟨_, SqL.of eka13⟩, for_it (walk_list (xs := kvs)) (fun k σ H' => ∃ y12 y13 y14 hv, σ = [some gv, some (.ref pla), some (.str (if t = true then "turned" else "same")), some sv, some (.int p), some (.ref na), some lv, some (.ref wa), some (.int (n : Int)), some (.ref S), some (.ref ka), some hv, y12, y13, y14] ∧ Same H13 H' ∧ Dt (S :: B) H' hv (eC (if k = 0 then smC n [] else rV cs W (spK col t w a (k - 1)))))
        ⟨_, _, _, hv, rfl, Same.refl _, dh13⟩ (fun k σ H' _ hh => ?_) (fun k xx σ H14 H14' hk hh y => ?_) (fun σ H14 hh => ?_)⟩
      · obtain ⟨y12, y13, y14, hv, rfl, s14, _⟩ := hh
        exact SqL.of (s14 _ _ eka13)
      · obtain ⟨y12, y13, y14, hv, rfl, s14, dh14⟩ := hh
        obtain ⟨rfl, y⟩ := y
        have hk' : k < lL col h w := by omega
        have hin := spK_in (t := t) ha' hk'
        have hlk : (if k = 0 then smC n [] else rV cs W (spK col t w a (k - 1))).length = n := by
          split
          · exact smC_len _ _
          · exact rVl a (k - 1) ha' (by omega)
        have hdue : smC n [if k = 0 then smC n [] else rV cs W (spK col t w a (k - 1)), getC ps (spK col t w a k).1 (spK col t w a k).2] = getC W (spK col t w a k).1 (spK col t w a k).2 := by
          refine cz_ext (by rw [smC_len, (rect_get q1 hin.1 hin.2).2]) fun i hi => ?_
          rw [smC_len] at hi
          rw [smC_cz _ hi, (hlin i).1 a ha' k hk']
          show cz _ i + (cz _ i + 0) = _
          by_cases e : k = 0
          · rw [if_pos e, if_pos e, smC_cz _ hi]
            show (0 : Int) + _ = _
            omega
          · rw [if_neg e, if_neg e]
            have hin2 := spK_in (t := t) ha' (show k - 1 < lL col h w by omega)
            unfold rV rI
            rw [leC_cz (by rw [(rect_get q1 hin2.1 hin2.2).2, col_of c0 cl1])]
            omega
        have hnext : rV cs W (spK col t w a k) = leC (getC W (spK col t w a k).1 (spK col t w a k).2) (cs.getD (nrI cs (getC W (spK col t w a k).1 (spK col t w a k).2)) []) := rfl
        obtain ⟨d, f1, g1⟩ := (hK13.s s14).getV y
        rw [List.getElem?_map, List.getElem?_map, List.getElem?_range hk'] at f1
        have ed : d = eC [((spK col t w a k).1 : Int), ((spK col t w a k).2 : Int)] := (Option.some.inj f1).symm
        subst ed
        have hto := htold _ _ hin.1 hin.2
        generalize (spK col t w a k).1 = r at *
        generalize (spK col t w a k).2 = c at *
        obtain ⟨rh, cw⟩ := hin
        obtain ⟨xa, rfl, nxa, exa⟩ := g1.col
        refine ⟨xa, [.int r, .int c], rfl, SqT.of exa, rfl, .int r, [.int c], rfl, .int c, [], rfl, rfl, ?_⟩
        have y14' := (s11.trans x13).trans s14
        have B14 := B8.go (Go.of (B := []) y14')
        have bk14 : Bk (S :: B) H14' := B14.cons ((x13.trans s14) _ _ eS11)
        have mv : ∀ {v d}, Dt B H8 v d → Dt (S :: B) H14' v d := fun hd => (hd.fr hS).s y14'
        -- due
        have dg14 := mv dg8
        obtain ⟨ga, gvs, rfl, nga, ega, hG14⟩ := dg14.lst2
        obtain ⟨gra, grv, gcv, fg1, egra, fg2, dgc⟩ := eG_at2 hG14 hR rh cw
        refine ⟨_, rfl, _, rfl, _, rfl, ga, _, r, .ref gra, rfl, rfl, SqL.of ega, atI_nat fg1, _, rfl, gra, _, c, gcv, rfl, rfl, SqL.of egra, atI_nat fg2, (by show 2 ≤ sizeLine; decide), fun l15 hl15 => ?_⟩
        have s15 := sm_new (o := .lst [hv, gcv]) hl15
        have d15 : Dt (S :: B) (upd H14' l15 (.lst [hv, gcv])) (.ref l15) (eP [if k = 0 then smC n [] else rV cs W (spK col t w a (k - 1)), getC ps r c]) := .lst (bk14.ne hl15) upd_same (.cons (dh14.s s15) (.one (dgc.s s15)))
        generalize upd H14' l15 (.lst [hv, gcv]) = H15 at *
        refine ⟨_, rfl, S :: B, .ref l15, _, n, rfl, d15, bk14.go (Go.of (B := []) s15), n1, by simp, fun x hx => ?_, fun dv H16 s16 dd16 => ?_⟩
        · simp only [List.mem_cons, List.not_mem_nil, or_false] at hx
          rcases hx with rfl | rfl
          · exact hlk
          · exact (rect_get hR rh cw).2
        rw [hdue] at dd16
        have x16 := s15.trans s16
        have mv2 : ∀ {v d}, Dt B H8 v d → Dt (S :: B) H16 v d := fun hd => (mv hd).s x16
        obtain ⟨wa', wvs, e', _, ewa, hW16⟩ := (mv2 dw8).lst2
        cases e'
        obtain ⟨wra, wrv, wcv, fw1, ewra, fw2, dwc⟩ := eG_at2 hW16 q1 rh cw
        have gl := (rect_get q1 rh cw).2
        have shW : Sh (eC (getC W r c)) 1 := sh_eC (by omega)
        refine ⟨_, rfl, _, rfl, wa, _, r, .ref wra, rfl, rfl, SqL.of ewa, atI_nat fw1, _, rfl, wra, _, c, wcv, rfl, rfl, SqL.of ewra, atI_nat fw2, _, rfl, _, _, dwc.dP, dd16.dP, shW.sh (by omega), shW.sh (by omega), _, rfl, iteN (by rw [eqv_sh shW]; rfl) ?_⟩
        obtain ⟨row, nx, en1, en2, en3, x0, x1⟩ := num_in nok rh cw
        obtain ⟨na', nvs, e', _, ena, hN16⟩ := (mv2 dn8).lst2
        cases e'
        obtain ⟨nv1, fn1, dn1⟩ := hN16.get (i := r) (d := eI row) (by rw [List.getElem?_map, en1]; rfl)
        obtain ⟨nra, rfl, nnra, enra⟩ := dn1.ints
        have fnx : (row.map V.int)[c]? = some (.int nx) := by rw [List.getElem?_map, en2]; rfl
        rw [en3] at hto
        have wic : wIn (getC W r c) := by
          obtain ⟨e1, l1, _⟩ := rect_row q1 rh
          obtain ⟨e2, _⟩ := rect_get q1 rh cw
          exact hwi _ (List.mem_of_getElem? e1) _ (List.mem_of_getElem? e2)
        refine ⟨_, rfl, _, rfl, na, _, r, .ref nra, rfl, rfl, SqL.of ena, atI_nat fn1, _, rfl, nra, _, c, .int nx, rfl, rfl, SqL.of enra, atI_nat fnx, _, rfl, _, rfl, S :: B, .ref pla, dv, cs, getC W r c, rfl, mv2 dpl80, dd16, ⟨c1, by omega, wic, fun z hz => ⟨by rw [cl1 z hz, gl], wIn_of (k := 11) (by decide) (cl2 z hz)⟩⟩, c0, fun H17 m s17 hm => ?_⟩
        have em := nr_of hm
        refine ⟨rfl, _, rfl, iteNS (congrArg V.int (by rw [hto, em])) ?_⟩
        have hnc : nx.toNat < cs.length := by omega
        obtain ⟨pla', plvs', e', _, epl17, hPl17⟩ := ((mv2 dpl80).s s17).pal
        cases e'
        obtain ⟨cv, fc, dc⟩ := hPl17.get (i := nx.toNat) (d := eC cs[nx.toNat]) (by rw [List.getElem?_map, List.getElem?_eq_getElem hnc]; rfl)
        have ecs : cs.getD (nrI cs (getC W r c)) [] = cs[nx.toNat] := by
          have : nrI cs (getC W r c) = nx.toNat := by omega
          rw [this, List.getD_eq_getElem?_getD, List.getElem?_eq_getElem hnc]
          rfl
        have bk17 := bk14.go (Go.of (B := []) (x16.trans s17))
        refine ⟨_, rfl, _, rfl, _, rfl, _, rfl, na, _, r, .ref nra, rfl, rfl, SqL.of (s17 _ _ ena), atI_nat fn1, _, rfl, nra, _, c, .int nx, rfl, rfl, SqL.of (s17 _ _ enra), atI_nat fnx, pla, _, nx, cv, rfl, rfl, SqL.of epl17, at0 x0 fc, S :: B, dv, cv, getC W r c, cs[nx.toNat], rfl, dd16.s s17, dc, bk17, by rw [gl, cl1 _ (List.getElem_mem hnc)], by rw [cl1 _ (List.getElem_mem hnc)]; exact n1, fun hv2 H18 s18 dh18 => ?_⟩
        refine ⟨_, _, _, hv2, rfl, (s14.trans x16).trans (s17.trans s18), ?_⟩
        rw [if_neg (by omega), Nat.add_sub_cancel, hnext, ecs]
        exact dh18
      obtain ⟨y12, y13, y14, hv, rfl, s14, dh14⟩ := hh
      rw [if_neg (by omega), lk] at dh14
      have x14 := x13.trans s14
      have eS14 := x14 _ _ eS11
      have gm : Go (S :: B) H14 (upd H14 S (.lst (us ++ [hv]))) := Go.refl.at (by simp)
      refine ⟨_, rfl, .inl ⟨rfl, _, SqL.of eS14⟩, _, rfl, S, _, _, rfl, rfl, eS14, sz (by omega), ?_⟩
      refine ⟨_, _, _, _, _, us ++ [hv], rfl, (g11.trans (Go.of x14)).at (by simp), sm_mut (s11.trans x14) hS, upd_same, ?_⟩
      rw [List.range_succ, List.map_append, List.map_append]
      exact ((dS11.s x14).g gm).app (.one (dh14.g gm))
    · obtain ⟨y10, y11, y12, y13, y14, us, rfl, g11, s11, eS11, dS11⟩ := hh
      rw [lL'] at dS11
      have B11 := B8.go (Go.of (B := []) s11)
      have dR : Dt B H11 (.ref S) (eP ((List.range (nL col h w)).map fun a => rV cs W (spK col t w a (lL col h w - 1)))) := .lst nS eS11 dS11.un
      refine ⟨_, rfl, _, rfl, _, rfl, B, .ref S, _, n, rfl, dR, B11, n1, by simp; omega, fun x hx => ?_, fun v12 H12 s12 d12 => ?_⟩
      · obtain ⟨a, ha, rfl⟩ := List.mem_map.mp hx
        exact rVl a _ (List.mem_range.mp ha) (by omega)
      have elo : lo = smC n ((List.range (nL col h w)).map fun a => rV cs W (spK col t w a (lL col h w - 1))) := by
        have ln : lo.length = n := by
          exact llen
        refine cz_ext (by rw [smC_len, ln]) fun i hi => ?_
        rw [smC_cz _ (by omega), (hlin i).2 h0 w0, List.map_map]
        congr 1
        refine List.map_congr_left fun a ha => ?_
        have hin2 := spK_in (t := t) (List.mem_range.mp ha) (show lL col h w - 1 < lL col h w by omega)
        show rI _ _ _ _ _ = cz (rV cs W _) i
        unfold rV rI
        rw [leC_cz (by rw [(rect_get q1 hin2.1 hin2.2).2, col_of c0 cl1])]
      have shL' : Sh (eC lo) 1 := sh_eC (by omega)
      rw [← elo] at d12
      exact ⟨B, lv, v12, eC lo, rfl, (dl8.s s11).s s12, d12, shL'.mono (by omega), by omega, fun H13 s13 => q _ (((t8.trans s11).trans s12).trans s13)⟩
/-! ### no share within -/
theorem none_fold {h w : Nat} {shs : List (Int × Int × Int)} {cs : List (List Int)} : ∀ (ss : List (List Int)) (z : List (List (List Int)) × List (List Int) × List Int), (∀ s ∈ ss, thereOf h w shs (sR s) (sC s) (sS s) = []) → (ss.foldl (hoStep h w shs cs) z).1 = z.1
  | [], _, _ => rfl
  | a :: ss, z, hn => by
    rw [List.foldl_cons, none_fold ss _ fun x hx => hn x (List.mem_cons_of_mem _ hx)]
    show (handW _ _ _ _ _ _ _ _).1 = z.1
    unfold handW
    rw [hn a (List.mem_cons_self ..)]
theorem ho_none {h w n : Nat} {t : Bool} {ps : List (List (List Int))} {shs : List (Int × Int × Int)} {cs : List (List Int)} (hR : Rect h w n ps) (hn : ∀ r c, r < h → c < w → thereOf h w shs (r : Nat) (c : Nat) (sdO t r) = []) : (hoW h w n t ps shs cs).1 = ps := by
  unfold hoW
  rw [hR.1]
  refine none_fold _ _ fun s hs => ?_
  have o := sp_ok hR t h (Nat.le_refl _) s hs
  rw [sp_side h s hs]
  exact hn _ _ o.1 o.2.1
theorem grid_eq {h w n : Nat} {W : List (List (List Int))} (hR : Rect h w n W) (f : List Int → Int) : (W.map fun p => (p.map f).sum).sum = ((List.range h).map fun r => ((List.range w).map fun c => f (getC W r c)).sum).sum := by
  congr 1
  refine List.ext_getElem (by simp; exact hR.1) fun r h1 h2 => ?_
  have hr : r < h := by simpa using h2
  rw [List.getElem_map, List.getElem_map, List.getElem_range]
  congr 1
  obtain ⟨e1, l, _⟩ := rect_row hR hr
  have hl : r < W.length := by rw [hR.1]; exact hr
  have e3 : W[r] = W.getD r [] := by
    rw [List.getElem?_eq_getElem hl] at e1
    exact Option.some.inj e1
  rw [e3]
  refine List.ext_getElem (by rw [List.length_map, l, List.length_map, List.length_range]) fun c h3 h4 => ?_
  have hc : c < w := by simpa using h4
  obtain ⟨e2, _⟩ := rect_get hR hr hc
  rw [List.getElem_map, List.getElem_map, List.getElem_range]
  rw [List.getElem?_eq_getElem (by omega)] at e2
  rw [Option.some.inj e2]
theorem flat_sum {α : Type} (f : α → Int) : ∀ xss : List (List α), (xss.flatten.map f).sum = (xss.map fun p => (p.map f).sum).sum
  | [] => rfl
  | x :: xss => by rw [List.flatten_cons, List.map_append, List.sum_append, List.map_cons, List.sum_cons, flat_sum f xss]
noncomputable def tol (cs : List (List Int)) (ps : List (List (List Int))) : List (List Int) := (ps.map fun p => p.map fun c => cs.getD (nrI cs c) []).flatten
theorem none_lost {h w n : Nat} {t : Bool} {ps : List (List (List Int))} {shs : List (Int × Int × Int)} {cs : List (List Int)} (c0 : 0 < cs.length) (cl : ∀ c ∈ cs, c.length = n) (sok : ∀ s ∈ shs, 0 ≤ s.2.1 ∧ 0 < s.2.2 ∧ s.2.2 ≤ 1000) (ord : ∀ s ∈ shs, 0 < s.2.1 ∨ (s.2.1 = 0 ∧ 0 < s.1)) (hR : Rect h w n ps) (hn : ∀ r c, r < h → c < w → thereOf h w shs (r : Nat) (c : Nat) (sdO t r) = []) :
    (hoW h w n t ps shs cs).2.2 = leC (smC n ps.flatten) (smC n (tol cs ps)) := by
  have e1 := ho_none (cs := cs) hR hn
  refine cz_ext (by rw [ho_len c0 cl sok hR, leC_ln, smC_len, smC_len, Nat.min_self]) fun i hi => ?_
  rw [ho_len c0 cl sok hR] at hi
  have h2 := (ho_cz (t := t) c0 cl sok ord hR i).2
  rw [e1] at h2
  rw [leC_cz (by rw [smC_len, smC_len]), smC_cz _ hi, smC_cz _ hi, flat_sum]
  unfold tol
  rw [flat_sum, List.map_map]
  have e3 : ((fun p => (p.map fun c => cz c i).sum) ∘ fun p => p.map fun c => cs.getD (nrI cs c) []) = fun (p : List (List Int)) => (p.map fun c => cz (cs.getD (nrI cs c) []) i).sum := by
    funext p
    show (List.map _ (List.map _ p)).sum = _
    rw [List.map_map]
    rfl
  rw [e3, grid_eq hR (fun c => cz c i), grid_eq hR (fun c => cz (cs.getD (nrI cs c) []) i), h2]
  have one : ∀ (xs : List Nat) (f g : Nat → Int), (xs.map f).sum - (xs.map g).sum = (xs.map fun c => f c - g c).sum := fun xs f g => by
    induction xs with
    | nil => rfl
    | cons x xs ih => simp only [List.map_cons, List.sum_cons, ← ih]; omega
  rw [one]
  congr 1
  refine List.map_congr_left fun r hr => ?_
  rw [one]
  congr 1
  refine List.map_congr_left fun c hc => ?_
  rw [if_pos (hn r c (List.mem_range.mp hr) (List.mem_range.mp hc))]
  rfl
theorem none_nums {h w n : Nat} {t : Bool} {ps : List (List (List Int))} {shs : List (Int × Int × Int)} {cs : List (List Int)} (c0 : 0 < cs.length) (cl : ∀ c ∈ cs, c.length = n) (sok : ∀ s ∈ shs, 0 ≤ s.2.1 ∧ 0 < s.2.2 ∧ s.2.2 ≤ 1000) (ord : ∀ s ∈ shs, 0 < s.2.1 ∨ (s.2.1 = 0 ∧ 0 < s.1)) (hR : Rect h w n ps) (hn : ∀ r c, r < h → c < w → thereOf h w shs (r : Nat) (c : Nat) (sdO t r) = []) :
    (hoW h w n t ps shs cs).2.1 = ps.map fun p => p.map fun c => (nrI cs c : Int) := by
  have e1 := ho_none (cs := cs) hR hn
  have q2 := (ho_rect (t := t) c0 cl sok hR).2
  have hrow := fun (r : Nat) (hr : r < h) => ho_row_told (t := t) c0 cl sok ord hR hr
  rw [e1] at hrow
  refine List.ext_getElem (by rw [q2.1, List.length_map, hR.1]) fun r h1 h2 => ?_
  have := hrow r (by rw [← q2.1]; exact h1)
  have hl : r < ps.length := by simpa using h2
  rw [List.getD_eq_getElem?_getD, List.getD_eq_getElem?_getD, List.getElem?_eq_getElem h1, List.getElem?_eq_getElem hl] at this
  rw [List.getElem_map]
  exact this
theorem tol_snoc {cs : List (List Int)} {ps : List (List (List Int))} {k : Nat} (hk : k < ps.length) : tol cs (ps.take (k + 1)) = tol cs (ps.take k) ++ ps[k].map fun c => cs.getD (nrI cs c) [] := by
  unfold tol
  rw [List.take_add_one, List.getElem?_eq_getElem hk, List.map_append, List.flatten_append]
  simp
theorem fl_snoc {ps : List (List (List Int))} {k : Nat} (hk : k < ps.length) : (ps.take (k + 1)).flatten = (ps.take k).flatten ++ ps[k] := by
  rw [List.take_add_one, List.getElem?_eq_getElem hk, List.flatten_append]
  simp
def spNone35 : Sp := fun vs H Q _ => ∃ (B : List Addr) (gv plv sv : V) (ps : List (List (List Int))) (cs : List (List Int)) (shs : List (Int × Int × Int)) (h w n : Nat) (t : Bool), vs = [gv, plv, .str (if t = true then "turned" else "same"), sv] ∧ Dt B H gv (eG ps) ∧ Dt B H plv (eP cs) ∧ Dt B H sv (eP (shs.map e3)) ∧ Bk B H ∧ HoOk h w n ps cs shs ∧ (∀ s ∈ shs, 0 < s.2.1 ∨ (s.2.1 = 0 ∧ 0 < s.1)) ∧ (∀ r c, r < h → c < w → thereOf h w shs (r : Nat) (c : Nat) (sdO t r) = []) ∧ ∀ H', Same H H' → Q (.bl true) H'
set_option maxHeartbeats 2000000 in
theorem ok_l_none_right (T : Tx K mg) {k : Nat} (hk : k ≤ 50 := by omega) : FnOk P w K mg base CX0 (k + 5) T.f_l_none_right T.d_l_none_right ["_law_picture_here", "_law_palette_here", "_law_way", "_law_shares"] spNone35 := by
  refine T.F_l_none_right.ok sc_l_none_right (fun vs H Q E h => ?_) (fun cdv A outer s H vs Q E hr h => ?_)
  · obtain ⟨B, gv, plv, sv, ps, cs, shs, h, w, n, t, rfl, _⟩ := h
    rfl
  · obtain ⟨B, gv, plv, sv, ps, cs, shs, h, w, n, t, rfl, dg, dpl, ds, hB, ok, ord, hn, q⟩ := h
    have ok' := ok
    obtain ⟨hR, h0, h1, w0, w1, n0, n1, c0, c1, cl, bps, sl, sok⟩ := ok'
    have cl1 : ∀ c ∈ cs, c.length = n := fun c hc => (cl c hc).1
    have elo := none_lost (cs := cs) c0 cl1 sok ord hR hn
    have enu := none_nums (cs := cs) c0 cl1 sok ord hR hn
    have shE := sh_eHo (t := t) ok
    refine ⟨_, (pss_cons (ps_set (i := 4) sc_l_none_right.nd rfl (.inl rfl) (pe_call (ok_numbers_by T (k := k + 1)) hr (by rfl) T.g_numbers_by T.F_numbers_by.kp T.b_numbers_by .nil pass0 (pa_cons (pv 0) (pa_cons (pv 1) pa_nil))))
      (pss_cons (ps_set (i := 5) sc_l_none_right.nd rfl (.inl rfl) (pe_lst pa_nil))
      (pss_cons (ps_set (i := 6) sc_l_none_right.nd rfl (.inl rfl) (pe_lst pa_nil))
      (pss_cons (ps_for PassesOwn.never rfl (RZ.pi_zipA (by rfl) T.z_zip (pa_cons (pv 4) (pa_cons (pv 0) pa_nil))) (pg_tupK K (n := 2) rfl (pgs_cons (pg_name (i := 7) sc_l_none_right.nd rfl (.inl rfl)) (pgs_cons (pg_name (i := 8) sc_l_none_right.nd rfl (.inl rfl)) pgs_nil))) (pss_cons (ps_set (i := 5) sc_l_none_right.nd rfl (.inl rfl) (pe_op op_cat (pv 5) (pe_lc (own := [("_law_number", 11)]) (by rfl) sc_l_none_right.nd (pi_listK K (pv 7)) (blkOk_by (own := [("_law_number", 11)]) (N := N_l_none_right) (sc := defScope s_l_none_right) (by decide +kernel)) (fun _ _ _ _ _ => (pg_name (i := 11) sc_l_none_right.nd rfl (.inl rfl))) (fun _ _ _ _ _ => pts_nil) (fun _ _ _ _ _ => (pe_ix (ix_listK K) (pv 1) (pv 11) (fun _ _ => rfl))))))
      (pss_one (ps_set (i := 6) sc_l_none_right.nd rfl (.inl rfl) (pe_op op_cat (pv 6) (pv 8))))))
      (pss_cons (ps_set (i := 9) sc_l_none_right.nd rfl (.inl rfl) (pe_callB (len_K K) (by rfl) T.z_len PySem.boot_len (pa_cons (pe_ix (ix_listK K) (pv 1) pe_int (fun _ _ => rfl)) pa_nil)))
      (pss_cons (ps_set (i := 10) sc_l_none_right.nd rfl (.inl rfl) (pe_call (ok_l_less_by T (k := k + 3)) hr (by rfl) T.g_l_less_by T.F_l_less_by.kp T.b_l_less_by .nil pass0 (pa_cons (pe_call (ok_l_sums T (k := k + 3)) hr (by rfl) T.g_l_sums T.F_l_sums.kp T.b_l_sums .nil pass0 (pa_cons (pv 6) (pa_cons (pv 9) pa_nil))) (pa_cons (pe_call (ok_l_sums T (k := k + 3)) hr (by rfl) T.g_l_sums T.F_l_sums.kp T.b_l_sums .nil pass0 (pa_cons (pv 5) (pa_cons (pv 9) pa_nil))) pa_nil))))
      (pss_one (ps_ret (pe_call (ok_l_same T (k := k + 3)) hr (by rfl) T.g_l_same T.F_l_same.kp T.b_l_same .nil pass0 (pa_cons (pe_call (ok_handed_on T (k := k + 1)) hr (by rfl) T.g_handed_on T.F_handed_on.kp T.b_handed_on .nil pass0 (pa_cons (pv 0) (pa_cons (pv 1) (pa_cons (pv 3) (pa_cons (pv 2) pa_nil))))) (pa_cons (pe_tup (pa_cons (pv 4) (pa_cons (pv 10) pa_nil))) pa_nil))))))))))), ?_⟩
    have dg0 := dg
    have dpl0 := dpl
    obtain ⟨ga, gvs, rfl, nga, ega, hG⟩ := dg.lst2
    have lg := hG.len
    rw [List.length_map, hR.1] at lg
    obtain ⟨pla, plvs, rfl, npl, epl, hPl⟩ := dpl.pal
    refine ⟨_, rfl, _, rfl, ga, pla, _, _, ps, cs, rfl, ega, hG.sub (fun _ h => nomatch h), epl, hPl.sub (fun _ h => nomatch h), c0, by have := hR.1; omega, fun p hp => ⟨by have := (hR.2 p hp).1; omega, fun c hc => ⟨c1, by have := (hR.2 p hp).2 c hc; omega, wIn_of (k := 11) (by decide) (bps p hp c hc), fun x hx => ⟨by rw [cl1 x hx, (hR.2 p hp).2 c hc], wIn_of (k := 11) (by decide) (cl x hx).2⟩⟩⟩, fun D rs H1 s1 hD eD R => ?_⟩
    have dD : Dt [] H1 (.ref D) (eN (ps.map fun p => p.map fun c => (nrI cs c : Int))) := by
      refine .lst (fun h => nomatch h) eD ?_
      have := R.dt (fun _ h => nomatch h) (Go.of s1)
      unfold nums at this
      rw [List.map_map] at this
      rw [List.map_map]
      refine cast ?_ this
      congr 1
      exact List.map_congr_left fun p _ => by
        show PyData.list (p.map fun c => PyData.int (nrI cs c)) = PyData.list ((p.map fun c => (nrI cs c : Int)).map PyData.int)
        rw [List.map_map]
        rfl
    obtain ⟨Da, rvs, e', _, eD1, hD1⟩ := dD.lst2
    cases e'
    rw [eD] at eD1
    cases eD1
    have lrs := hD1.len
    rw [List.length_map, List.length_map, List.length_map, hR.1] at lrs
    have B1 := hB.go (Go.of (B := []) s1)
    refine ⟨Nat.zero_le _, fun T0 hT0 => ?_⟩
    have s2 := sm_new (o := .lst []) hT0
    have dT2 : Dt B (upd H1 T0 (.lst [])) (.ref T0) (eP (tol cs (ps.take 0))) := .lst (B1.ne hT0) upd_same .nil
    generalize upd H1 T0 (.lst []) = H2 at *
    have B2 := B1.go (Go.of (B := []) s2)
    refine ⟨Nat.zero_le _, fun E0 hE0 => ?_⟩
    have s3 := sm_new (o := .lst []) hE0
    have dE3 : Dt B (upd H2 E0 (.lst [])) (.ref E0) (eP (ps.take 0).flatten) := .lst (B2.ne hE0) upd_same .nil
    generalize upd H2 E0 (.lst []) = H3 at *
    have u3 := s2.trans s3
    have ega1 := s1 _ _ ega
    have tlen : ∀ k, (tol cs (ps.take k)).length ≤ 16 * k ∧ (ps.take k).flatten.length ≤ 16 * k := fun k => by
      induction k with
      | zero => simp [tol]
      | succ k ih =>
        by_cases hk : k < ps.length
        · rw [tol_snoc hk, fl_snoc hk, List.length_append, List.length_append, List.length_map]
          have := (hR.2 _ (List.getElem_mem hk)).1
          omega
        · rw [List.take_of_length_le (by omega)] at ih ⊢
          omega
    refine ⟨_, rfl, _, rfl, D, ga, _, _, rfl, .inl ⟨SqL.of (u3 _ _ eD), SqL.of (u3 _ _ ega1), ?_⟩⟩
    refine for_it (walk_zip (n := h) (xs := rs.map V.ref) (ys := gvs) (by rw [List.length_map]; omega)) (fun m σ H' => ∃ y7 y8 y9 y10 y11 tv ev, σ = [some (.ref ga), some (.ref pla), some (.str (if t = true then "turned" else "same")), some sv, some (.ref D), some tv, some ev, y7, y8, y9, y10, y11] ∧ Same H1 H' ∧ Dt B H' tv (eP (tol cs (ps.take m))) ∧ Dt B H' ev (eP (ps.take m).flatten))
      ⟨_, _, _, _, _, _, _, rfl, u3, dT2.s s3, dE3⟩ (fun m σ H' _ hh => ?_) (fun m xx σ H4 H4' hm hh y => ?_) (fun σ H4 hh => ?_)
    · obtain ⟨y7, y8, y9, y10, y11, tv, ev, rfl, s4, _⟩ := hh
      exact ⟨SqL.of (s4 _ _ eD), SqL.of (s4 _ _ ega1)⟩
    · obtain ⟨y7, y8, y9, y10, y11, tv, ev, rfl, s4, dt4, de4⟩ := hh
      obtain ⟨tp, x1, x2, rfl, htp, rfl, e1, e2⟩ := y
      have hm2 : m < ps.length := by have := hR.1; omega
      have e1 : (rs.map V.ref)[m]? = some x1 := e1
      have e2 : gvs[m]? = some x2 := e2
      obtain ⟨d1, f1, g1⟩ := (hD1.s s4).getV e1
      rw [List.getElem?_map, List.getElem?_map, List.getElem?_eq_getElem hm2] at f1
      have ed1 : d1 = eI (ps[m].map fun c => (nrI cs c : Int)) := (Option.some.inj f1).symm
      subst ed1
      obtain ⟨d2, f2, g2⟩ := ((hG.s s1).s s4).getV e2
      rw [List.getElem?_map, List.getElem?_eq_getElem hm2] at f2
      have ed2 : d2 = eP ps[m] := (Option.some.inj f2).symm
      subst ed2
      have op := hR.2 _ (List.getElem_mem hm2)
      have lts := tlen m
      rw [tol_snoc hm2, fl_snoc hm2]
      generalize ps[m] = p at *
      have s5 := sm_new (o := .tup [x1, x2]) htp
      refine ⟨tp, _, rfl, SqT.of upd_same, rfl, _, _, rfl, _, _, rfl, rfl, ?_⟩
      generalize upd H4 tp (.tup [x1, x2]) = H5 at *
      obtain ⟨ra, rfl, _, era⟩ := (g1.s s5).ints
      have t5 := s4.trans s5
      have B5 := B1.go (Go.of (B := []) t5)
      obtain ⟨ta, tvs, rfl, nta, eta, hT⟩ := (dt4.s s5).pal
      have ltv := hT.len
      rw [List.length_map] at ltv
      refine ⟨_, rfl, _, rfl, ra, rfl, ⟨_, SqL.of era⟩, fun D2 hD2 => ?_⟩
      refine lc_pure (B := B) (walk_list (xs := (p.map fun c => (nrI cs c : Int)).map V.int)) hD2 B5 (fun H' s' => SqL.of (s' _ _ era)) (by simp; omega)
        (fun j => (p[j]?).map fun c => eC (cs.getD (nrI cs c) [])) (fun j x H' H'' Ny Nn hj t1 bk y ky kn => ?_) (fun H6 ws s6 eD6 hW => ?_)
      · obtain ⟨rfl, y⟩ := y
        have hj2 : j < p.length := by simpa using hj
        rw [List.getElem?_map, List.getElem?_map, List.getElem?_eq_getElem hj2] at y
        have ex := (Option.some.inj y).symm
        subst ex
        rw [List.getElem?_eq_getElem hj2] at ky
        generalize p[j] = c at *
        have hnc := nr_lt c0 c
        obtain ⟨cv, fc, dc⟩ := ((((hPl.s s1).s t5).fr hD2).s t1).get (i := nrI cs c) (d := eC (cs.getD (nrI cs c) [])) (by rw [List.getElem?_map, List.getElem?_eq_getElem hnc, List.getD_eq_getElem?_getD, List.getElem?_eq_getElem hnc]; rfl)
        refine ⟨rfl, lc_yes ⟨_, rfl, _, rfl, pla, _, _, cv, rfl, rfl, SqL.of (((s1.trans t5).trans t1) _ _ epl), atI_nat fc, ?_⟩⟩
        exact ky _ _ _ rfl (Same.refl _) dc
      have lp : ((p.map fun c => (nrI cs c : Int)).map V.int).length = p.length := by simp
      rw [lp, fm_get2 _ _ rfl] at hW
      have lws := hW.len
      rw [List.length_map] at lws
      refine ⟨ta, D2, _, _, rfl, rfl, s6 _ _ eta, eD6, Nat.le_of_lt (sz (by omega)), fun p7 hp7 => ?_⟩
      have s7 := sm_new (o := .lst (tvs ++ ws)) hp7
      have B6 := B5.go (Go.of (B := []) s6)
      have d7 : Dt B (upd H6 p7 (.lst (tvs ++ ws))) (.ref p7) (eP (tol cs (ps.take m) ++ p.map fun c => cs.getD (nrI cs c) [])) := .lst (B6.ne hp7) upd_same (by
        rw [List.map_append, List.map_map]
        exact ((hT.s s6).s s7).app (hW.un.s s7))
      generalize upd H6 p7 (.lst (tvs ++ ws)) = H7 at *
      have t7 := (t5.trans s6).trans s7
      have B7 := B6.go (Go.of (B := []) s7)
      obtain ⟨ea, evs, rfl, nea, eea, hE⟩ := (de4.s ((s5.trans s6).trans s7)).pal
      have lev := hE.len
      rw [List.length_map] at lev
      obtain ⟨xa, xvs, rfl, nxa, exa, hX⟩ := (g2.s ((s5.trans s6).trans s7)).pal
      have lxv := hX.len
      rw [List.length_map] at lxv
      refine ⟨_, rfl, _, rfl, ea, xa, _, _, rfl, rfl, eea, exa, Nat.le_of_lt (sz (by omega)), fun p8 hp8 => ?_⟩
      have s8 := sm_new (o := .lst (evs ++ xvs)) hp8
      refine ⟨_, _, _, _, _, _, _, rfl, t7.trans s8, d7.s s8, .lst (B7.ne hp8) upd_same ?_⟩
      rw [List.map_append]
      exact (hE.s s8).app (hX.s s8)
    obtain ⟨y7, y8, y9, y10, y11, tv, ev, rfl, s4, dt4, de4⟩ := hh
    have tl := tlen h
    rw [← hR.1, List.take_length] at dt4 de4 tl
    have t4 := s1.trans s4
    have B4 := hB.go (Go.of (B := []) t4)
    -- many
    have epl4 := t4 _ _ epl
    obtain ⟨v0, f0, d0⟩ := (hPl.s t4).get (i := 0) (d := eC cs[0]) (by rw [List.getElem?_map, List.getElem?_eq_getElem c0]; rfl)
    obtain ⟨ca, rfl, nca, eca⟩ := d0.col
    have hc0 := cl1 _ (List.getElem_mem c0)
    refine ⟨_, rfl, pla, _, 0, .ref ca, rfl, rfl, SqL.of epl4, atI_nat (j := 0) f0, ca, _, rfl, .inr (SqT.of eca), ?_⟩
    rw [List.length_map, hc0]
    -- lost
    have hps : ps.length = h := hR.1
    refine ⟨_, rfl, _, rfl, B, ev, ps.flatten, n, rfl, de4, B4, n1, by omega, fun c hc => ?_, fun v5 H5 s5 d5 => ?_⟩
    · obtain ⟨p, hp, hcp⟩ := List.mem_flatten.mp hc
      exact (hR.2 p hp).2 c hcp
    have B5 := B4.go (Go.of (B := []) s5)
    refine ⟨_, rfl, _, rfl, B, tv, tol cs ps, n, rfl, dt4.s s5, B5, n1, by omega, fun c hc => ?_, fun v6 H6 s6 d6 => ?_⟩
    · unfold tol at hc
      obtain ⟨p, hp, hcp⟩ := List.mem_flatten.mp hc
      obtain ⟨p0, hp0, rfl⟩ := List.mem_map.mp hp
      obtain ⟨c', _, rfl⟩ := List.mem_map.mp hcp
      exact col_of c0 cl1 c'
    have B6 := B5.go (Go.of (B := []) s6)
    refine ⟨B, v5, v6, _, _, rfl, d5.s s6, d6, B6, by rw [smC_len, smC_len], by rw [smC_len]; exact n1, fun lv H7 s7 dl7 => ?_⟩
    rw [← elo] at dl7
    have u7 := (s5.trans s6).trans s7
    have t7 := t4.trans u7
    have B7 := hB.go (Go.of (B := []) t7)
    refine ⟨_, rfl, _, rfl, _, rfl, _, rfl, B, _, _, _, _, _, _, h, w, n, t, rfl, dg0.s t7, dpl0.s t7, ds.s t7, B7, ok.1, ok.2.1, ok.2.2.1, ok.2.2.2.1, ok.2.2.2.2.1, ok.2.2.2.2.2.1, ok.2.2.2.2.2.2.1, ok.2.2.2.2.2.2.2.1, ok.2.2.2.2.2.2.2.2.1, ok.2.2.2.2.2.2.2.2.2.1, ok.2.2.2.2.2.2.2.2.2.2.1, ok.2.2.2.2.2.2.2.2.2.2.2.1, ok.2.2.2.2.2.2.2.2.2.2.2.2, fun t0 na ras lv8 H8 s8 e8 nt8 g8 dl8 _ _ _ => ?_⟩
    obtain ⟨_, _, d8⟩ := ho_fin e8 nt8 g8 dl8
    refine ⟨_, rfl, _, rfl, (by show 2 ≤ sizeLine; decide), fun tq htq => ?_⟩
    have s9 := sm_new (o := .tup [.ref D, lv]) htq
    have d9 : Dt [] (upd H8 tq (.tup [.ref D, lv])) (.ref tq) (eHo (hoW h w n t ps shs cs).2) := by
      refine .tup (fun h => nomatch h) upd_same (.cons ?_ (.one ?_))
      · rw [enu]
        exact ((dD.s s4).s u7).s (s8.trans s9)
      · exact (dl7.sub (C := []) (fun _ h => nomatch h)).s (s8.trans s9)
    exact ⟨[], .ref t0, .ref tq, _, rfl, (d8.sub (C := []) (fun _ h => nomatch h)).s s9, d9, shE.mono (by omega), by omega, fun H10 s10 => q _ (((t7.trans s8).trans s9).trans s10)⟩
/-! ### what the law promises -/
def spLaw (K : PySem.W.Frag) : Sp := fun vs H Q _ => ∃ (a : Addr) (ns : List Int), vs = [.ref a] ∧ SqL K H a (ns.map V.int) ∧ ns.length ≤ 63 ∧ ∀ H', Q (.bl true) H'
/-! ### the law -/
theorem pic_rect {wd : Int} {ps : List (List (List Int))} {h wz : Nat} (hh : ps.length = h) (op : ∀ p ∈ ps, p.length = wz ∧ ∀ c ∈ p, cOk wd c) : Rect h wz wd.toNat ps ∧ bW 2048 ps := by
  refine ⟨⟨hh, fun p hp => ⟨(op p hp).1, fun c hc => by have := ((op p hp).2 c hc).1; omega⟩⟩, fun p hp c hc x hx => ?_⟩
  have := ((op p hp).2 c hc).2 x hx
  omega
theorem palsOf {Pc : List (List Int) → Prop} : ∀ {ds : List PyData}, (∀ d ∈ ds, ∃ c, d = eP c ∧ Pc c) → ∃ cs : List (List (List Int)), ds = cs.map eP ∧ ∀ c ∈ cs, Pc c
  | [], _ => ⟨[], rfl, fun _ h => nomatch h⟩
  | d :: ds, h => by
    obtain ⟨m, e, hm⟩ := palsOf (ds := ds) fun x hx => h x (List.mem_cons_of_mem _ hx)
    obtain ⟨z, ez, hz⟩ := h d (List.mem_cons_self ..)
    refine ⟨z :: m, by rw [e, ez]; rfl, fun y hy => ?_⟩
    rcases List.mem_cons.mp hy with q | q
    · rw [q]; exact hz
    · exact hm y q
theorem one_none {w : Nat} {t : Bool} {p : Int} (w2 : w ≤ 2) : ∀ r c, r < 1 → c < w → thereOf 1 w [(2, 0, p), (-2, 1, 3), (0, 2, 1)] (r : Nat) (c : Nat) (sdO t r) = [] := fun r c hr hc => by
  have er : r = 0 := by omega
  subst er
  have es : sdO t 0 = 1 := by
    unfold sdO
    rw [if_neg (fun z => by have := z.2; omega)]
  rw [es]
  unfold thereOf
  rw [List.filter_eq_nil_iff]
  intro e he z
  simp only [List.map_cons, List.map_nil, List.mem_cons, List.not_mem_nil, or_false] at he
  unfold in3 at z
  simp only [Bool.and_eq_true, decide_eq_true_eq] at z
  unfold al3 at he
  simp only at he
  rcases he with rfl | rfl | rfl
  · simp only at z; omega
  · simp only at z; omega
  · simp only at z; omega
set_option maxHeartbeats 2000000 in
theorem ok_law (T : Tx K mg) {f : Addr} {fd : FuncData} (F : Fun K "law" "law" s_law f fd) {k : Nat} (hk : k ≤ 10) : FnOk P w K mg base CX0 (k + 6) f fd ["_law_script"] (spLaw K) := by
  refine F.ok sc_law (fun vs H Q E h => ?_) (fun cdv A outer s H vs Q E hr h => ?_)
  · obtain ⟨a, ns, rfl, _⟩ := h
    rfl
  · obtain ⟨a, ns0, rfl, hS, hlen, q⟩ := h
    refine ⟨_, (pss_cons (ps_for PassesOwn.never rfl (pi_range1 (by rfl) T.z_range (pa_cons (pe_op op_add (pe_callB (call_min2 rfl) (by rfl) T.z_min (by decide +kernel) (pa_cons pe_int (pa_cons (pe_callB (len_K K) (by rfl) T.z_len PySem.boot_len (pa_cons (pv 0) pa_nil)) pa_nil))) pe_int) pa_nil)) (pg_name (i := 1) sc_law.nd rfl (.inl rfl)) (pss_cons (ps_set (i := 2) sc_law.nd rfl (.inr rfl) (pe_call (ok_l_left T (k := k + 4)) hr (by rfl) T.g_l_left T.F_l_left.kp T.b_l_left .nil pass0 (pa_cons (pv 0) (pa_cons (pv 1) pa_nil))))
      (pss_cons (ps_asg (pe_op op_add (pe_ix (ix_listK K) (pv 2) pe_int (fun _ _ => rfl)) pe_int) (pg_sub (pv 2) pe_int set_list))
      (pss_cons (ps_set (i := 3) sc_law.nd rfl (.inl rfl) (pe_call (ok_l_kind T (k := k + 2)) hr (by rfl) T.g_l_kind T.F_l_kind.kp T.b_l_kind .nil pass0 (pa_cons (pv 2) pa_nil)))
      (pss_cons (ps_set (i := 4) sc_law.nd rfl (.inl rfl) (pe_call (ok_l_picture T (k := k + 1)) hr (by rfl) T.g_l_picture T.F_l_picture.kp T.b_l_picture .nil pass0 (pa_cons (pv 2) (pa_cons (pv 3) pa_nil))))
      (pss_cons (ps_set (i := 5) sc_law.nd rfl (.inl rfl) (pe_call (ok_l_palette T (k := k + 1)) hr (by rfl) T.g_l_palette T.F_l_palette.kp T.b_l_palette .nil pass0 (pa_cons (pv 2) (pa_cons (pv 3) pa_nil))))
      (pss_cons (ps_set (i := 6) sc_law.nd rfl (.inl rfl) (pe_op op_add pe_int (pe_call (ok_l_pick T (k := k + 3)) hr (by rfl) T.g_l_pick T.F_l_pick.kp T.b_l_pick .nil pass0 (pa_cons (pv 2) (pa_cons pe_int pa_nil)))))
      (pss_cons (ps_setLc (i := 7) (own := [("_law_row", 10)]) (by rfl) sc_law.nd rfl rfl (sw_true rfl rfl rfl (by decide +kernel)) (pi_listK K (pe_slice (sl_listK K) (pv 4) po_none (po_some pe_int))) (blkOk_by (own := [("_law_row", 10)]) (N := N_law) (sc := defScope s_law) (by decide +kernel)) (fun _ _ _ _ _ => (pg_name (i := 10) sc_law.nd rfl (.inl rfl))) (fun _ _ _ _ _ => pts_nil) (fun _ _ _ _ _ => (pe_slice (sl_listK K) (pv 10) po_none (po_some (pe_op op_add pe_int (pe_call (ok_l_pick T (k := k + 3)) hr (by rfl) T.g_l_pick T.F_l_pick.kp T.b_l_pick .nil pass0 (pa_cons (pv 2) (pa_cons pe_int pa_nil))))))))
      (pss_one (ps_for PassesOwn.never rfl (pi_tupK K (pe_tup (pa_cons pe_str (pa_cons pe_str pa_nil)))) (pg_name (i := 8) sc_law.nd rfl (.inl rfl)) (pss_cons (ps_if (pt_not (pt_val (pe_call (ok_l_none_right T (k := k)) hr (by rfl) T.g_l_none_right T.F_l_none_right.kp T.b_l_none_right .nil pass0 (pa_cons (pv 4) (pa_cons (pv 5) (pa_cons (pv 8) (pa_cons (pe_lst pa_nil) pa_nil))))))) (pss_one (ps_ret pe_bl)) pss_nil)
      (pss_cons (ps_if (pt_not (pt_val (pe_call (ok_l_none_right T (k := k)) hr (by rfl) T.g_l_none_right T.F_l_none_right.kp T.b_l_none_right .nil pass0 (pa_cons (pv 7) (pa_cons (pv 5) (pa_cons (pv 8) (pa_cons (pe_lst (pa_cons (pe_tup (pa_cons pe_int (pa_cons pe_int (pa_cons (pv 6) pa_nil)))) (pa_cons (pe_tup (pa_cons (pe_un un_neg pe_int) (pa_cons pe_int (pa_cons pe_int pa_nil)))) (pa_cons (pe_tup (pa_cons pe_int (pa_cons pe_int (pa_cons pe_int pa_nil)))) pa_nil)))) pa_nil))))))) (pss_one (ps_ret pe_bl)) pss_nil)
      (pss_one (ps_for PassesOwn.never rfl (pi_tupK K (pe_tup (pa_cons (pe_tup (pa_cons pe_int (pa_cons pe_int pa_nil))) (pa_cons (pe_tup (pa_cons pe_int (pa_cons pe_int pa_nil))) pa_nil)))) (pg_name (i := 9) sc_law.nd rfl (.inl rfl)) (pss_one (ps_if (pt_not (pt_val (pe_call (ok_l_one_right T (k := k + 1)) hr (by rfl) T.g_l_one_right T.F_l_one_right.kp T.b_l_one_right .nil pass0 (pa_cons (pv 4) (pa_cons (pv 5) (pa_cons (pv 8) (pa_cons (pv 9) (pa_cons (pv 6) pa_nil)))))))) (pss_one (ps_ret pe_bl)) pss_nil))))))))))))))))
      (pss_one (ps_ret pe_bl))), ?_⟩
    refine ⟨_, rfl, a, _, rfl, .inl hS, _, _, rfl, _, _, rfl, rfl, ?_⟩
    obtain ⟨m, hm⟩ : ∃ m : Int, m = (if ((ns0.map V.int).length : Int) < 3 then ((ns0.map V.int).length : Int) else (3 : Int)) + 1 := ⟨_, rfl⟩
    have m0 : 0 ≤ m ∧ m ≤ 7 := by
      rw [hm]
      split <;> omega
    refine ⟨m, by rw [hm], by omega, by omega, for_range (lo := 0) (n := m.toNat) (fun i σ H' => ∃ y1 y2 y3 y4 y5 y6 y7 y8 y9 y10, σ = [some (.ref a), y1, y2, y3, y4, y5, y6, y7, y8, y9, y10] ∧ Same H H')
      ⟨none, none, none, none, none, none, none, none, none, none, rfl, Same.refl H⟩ (fun i σ H1 hi h1 => ?_) (fun σ H1 h1 => ?_)⟩
    · obtain ⟨y1, y2, y3, y4, y5, y6, y7, y8, y9, y10, rfl, s1⟩ := h1
      refine ⟨_, rfl, _, rfl, a, ns0, _, rfl, s1.seq hS, by omega, fun L x0 y0 hL0 x0n => ?_⟩
      have hLH : H L = none := s1.free hL0
      have eL1 : (upd H1 L (.lst [.int x0, .int y0, .int 0])) L = some (.lst [.int x0, .int y0, .int 0]) := upd_same
      have s2 := sm_mut (o := .lst [.int x0, .int y0, .int 0]) s1 hLH
      generalize upd H1 L (.lst [.int x0, .int y0, .int 0]) = H2 at *
      refine ⟨_, rfl, L, _, 1, .int y0, rfl, rfl, SqL.of eL1, rfl, _, _, rfl, rfl, _, rfl, L, _, _, 1, rfl, rfl, eL1, rfl, ?_⟩
      generalize hH : upd H2 L (.lst (List.set [V.int x0, V.int y0, V.int 0] 1 (V.int (y0 + 700)))) = H3
      have lf3 : Lf L H3 0 := ⟨x0, y0 + 700, 0, by rw [← hH]; exact upd_same, x0n, by omega, by omega⟩
      have s3 : Same H H3 := by rw [← hH]; exact sm_mut s2 hLH
      clear hH eL1
      have nB : ∀ b ∈ [L], H b = none := fun b hb => by rw [List.mem_singleton.mp hb]; exact hLH
      refine ⟨_, rfl, L, 0, rfl, lf3, by omega, fun kv H4 wd sp g4 l4 w0 w1 p0 p1 d4 => ?_⟩
      refine ⟨_, rfl, _, rfl, L, _, kv, wd, sp, rfl, l4, by omega, d4, by omega, w1, by omega, p1, fun pa pvs H5 ps g5 l5 hpa epa hP picok => ?_⟩
      have npa : pa ∉ [L] := l4.bk.ne hpa
      obtain ⟨op1, op2, wz, wz0, wz1, op3⟩ := picok
      obtain ⟨rP, bP⟩ := pic_rect rfl op3
      have dg5 : Dt [L] H5 (.ref pa) (eG ps) := .lst npa epa hP.un
      refine ⟨_, rfl, _, rfl, L, _, kv, wd, sp, rfl, l5, by omega, d4.g g5, by omega, w1, by omega, p1, fun plv H6 cs g6 l6 d6 c0 c1 cok => ?_⟩
      refine ⟨_, rfl, L, 64, _, rfl, l6, by omega, by decide, by decide, fun r7 H7 g7 l7 a7 b7 => ?_⟩
      refine ⟨_, _, rfl, rfl, ?_⟩
      have dg7 := (dg5.g g6).g g7
      have dpl7 := d6.g g7
      have cl1 : ∀ c ∈ cs, c.length = wd.toNat := fun c hc => by have := (cok c hc).1; omega
      have clb : ∀ c ∈ cs, c.length = wd.toNat ∧ bC 2048 c := fun c hc => ⟨cl1 c hc, fun x hx => by have := (cok c hc).2 x hx; omega⟩
      obtain ⟨pa', pvs', e', _, epa7, hP7⟩ := dg7.lst2
      cases e'
      -- one
      refine ⟨_, rfl, 1, rfl, pa, _, rfl, SqL.of epa7, fun c8 hc8 => ?_⟩
      have s8 := sm_new (o := .lst (cutV pvs' none (some 1))) hc8
      have e8 : (upd H7 c8 (.lst (cutV pvs' none (some 1)))) c8 = some (.lst (cutV pvs' none (some 1))) := upd_same
      have nc8 := l7.bk.ne hc8
      have hk8 := (hP7.s s8).cut none (some 1)
      rw [cut_toV _ (by decide), ← List.map_take] at hk8
      change DtA _ _ _ ((ps.take 1).map eP) at hk8
      have lk8 := hk8.len
      rw [List.length_map, List.length_take] at lk8
      generalize upd H7 c8 (.lst (cutV pvs' none (some 1))) = H8 at *
      generalize cutV pvs' none (some 1) = qvs at *
      have l8 := l7.same s8
      refine ⟨c8, rfl, ⟨_, SqL.of e8⟩, fun D hD => ?_⟩
      refine lc_dtsB (walk_list (xs := qvs)) (B := [L]) 6000 1 (fun d => ∃ c, d = eP c ∧ (1 ≤ c.length ∧ c.length ≤ 2 ∧ ∀ x ∈ c, cOk wd x)) hD (l8.mono (by omega)) (by simp) l8.bk (fun H' g' => SqL.of (g'.k c8 _ nc8 e8)) (by omega) (fun j x H9 H9' Ny Nn hj g9 l9 bk9 y ky => ?_) (fun H9 ws dsr g9 l9 eD9 hW hn9 hp9 => ?_)
      · obtain ⟨rfl, y⟩ := y
        obtain ⟨d, f1, e1⟩ := (((hk8.fr hD)).g (g9.w1 (by simp))).getV y
        have hj2 : j < (ps.take 1).length := by rw [List.length_take]; omega
        rw [List.getElem?_map, List.getElem?_eq_getElem hj2] at f1
        have ed : d = eP (ps.take 1)[j] := (Option.some.inj f1).symm
        subst ed
        have o := op3 _ (List.mem_of_mem_take (List.getElem_mem hj2))
        generalize (ps.take 1)[j] = p at *
        obtain ⟨ra, rvs, rfl, nra, era, hRr⟩ := e1.pal
        refine ⟨rfl, lc_yes ⟨_, rfl, _, rfl, L, 2, _, rfl, l9, by omega, by decide, by decide, fun r10 H10 g10 l10 a10 b10 => ?_⟩⟩
        have g10' : Go [D, L] H9' H10 := g10.w1 (by simp)
        refine ⟨_, _, rfl, rfl, _, rfl, ra, _, rfl, SqL.of (g10'.k ra _ nra era), fun p11 hp11 => ?_⟩
        have s11 := sm_new (o := .lst (cutV rvs none (some (1 + r10)))) hp11
        have hk11 := ((hRr.g g10').s s11).cut none (some (1 + r10))
        rw [cut_toV _ (by omega), ← List.map_take] at hk11
        have bk10 := bk9.go g10
        refine ky _ (eP (p.take (1 + r10).toNat)) _ (g10.trans (Go.of s11)) ((l10.same s11).mono (by omega)) (.lst (bk10.ne hp11) upd_same hk11) ⟨_, rfl, ?_, ?_, fun z hz => o.2 z (List.mem_of_mem_take hz)⟩
        · rw [List.length_take]
          omega
        · rw [List.length_take]
          omega
      obtain ⟨one, rfl, hone⟩ := palsOf hp9
      rw [List.length_map] at hn9
      obtain ⟨o0, eone⟩ : ∃ o0, one = [o0] := by
        match one, hn9 with
        | [x], _ => exact ⟨x, rfl⟩
        | [], h => simp at h; omega
        | _ :: _ :: _, h => simp at h; omega
      subst eone
      obtain ⟨oo1, oo2, oo3⟩ := hone o0 (by simp)
      have nD : D ∉ [L] := l8.bk.ne hD
      have dO9 : Dt [L] H9 (.ref D) (eG [o0]) := .lst nD eD9 hW.un
      obtain ⟨rO, bO⟩ := pic_rect (ps := [o0]) (h := 1) (wz := o0.length) (wd := wd) rfl (fun p hp => by rw [List.mem_singleton.mp hp]; exact ⟨rfl, oo3⟩)
      have g79 : Go [L] H7 H9 := (Go.of s8).trans g9
      have dg9 := dg7.g g79
      have dpl9 := dpl7.g g79
      have gH : Go [L] H3 H9 := ((g4.trans g5).trans (g6.trans g7)).trans g79
      have okN : HoOk ps.length wz wd.toNat ps cs [] := ⟨rP, op1, op2, by omega, wz1, by omega, by omega, c0, by omega, clb, bP, by simp, fun _ h => nomatch h⟩
      have okO : HoOk 1 o0.length wd.toNat [o0] cs [(2, 0, 1 + r7), (-2, 1, 3), (0, 2, 1)] := ⟨rO, by omega, by omega, by omega, by omega, by omega, by omega, c0, by omega, clb, bO, by simp, fun s hs => by
        simp only [List.mem_cons, List.not_mem_nil, or_false] at hs
        rcases hs with rfl | rfl | rfl <;> simp <;> omega⟩
      have ordO : ∀ s ∈ [((2 : Int), (0 : Int), 1 + r7), (-2, 1, 3), (0, 2, 1)], 0 < s.2.1 ∨ (s.2.1 = 0 ∧ 0 < s.1) := fun s hs => by
        simp only [List.mem_cons, List.not_mem_nil, or_false] at hs
        rcases hs with rfl | rfl | rfl <;> simp
      have okC : ∀ col, HoOk ps.length wz wd.toNat ps cs [shC col (1 + r7)] := fun col => ⟨rP, op1, op2, by omega, wz1, by omega, by omega, c0, by omega, clb, bP, by simp, (shC_ok (by omega) (by omega)).1⟩
      -- both ways
      refine ⟨(by show 2 ≤ sizeLine; decide), fun tp htp => ?_⟩
      have s10 := sm_new (o := .tup [.str "same", .str "turned"]) htp
      refine ⟨tp, rfl, ⟨_, SqT.of upd_same⟩, for_it (walk_tup (xs := [.str "same", .str "turned"])) (fun i' σ H' => ∃ y1 y8 y9 y10, σ = [some (.ref a), y1, some (.ref L), some kv, some (.ref pa), some plv, some (.int (1 + r7)), some (.ref D), y8, y9, y10] ∧ Same H9 H' ∧ H' tp = some (.tup [.str "same", .str "turned"]))
        ⟨_, _, _, _, rfl, s10, upd_same⟩ (fun i' σ H' _ h => ?_) (fun i' x σ H11 H11' hi' hh y => ?_) (fun σ H11 hh => ?_)⟩
      · obtain ⟨y1, y8, y9, y10, rfl, _, e⟩ := h
        exact SqT.of e
      · obtain ⟨y1, y8, y9, y10, rfl, s11, etp11⟩ := hh
        obtain ⟨rfl, y⟩ := y
        obtain ⟨t, ex⟩ : ∃ t : Bool, x = .str (if t = true then "turned" else "same") := by
          have h2 : i' = 0 ∨ i' = 1 := by simp at hi'; omega
          rcases h2 with rfl | rfl
          · exact ⟨false, (Option.some.inj y).symm⟩
          · exact ⟨true, (Option.some.inj y).symm⟩
        subst ex
        have B9 := l9.bk
        have B11 := B9.go (Go.of (B := []) s11)
        -- none at all
        refine ⟨_, rfl, _, rfl, _, rfl, Nat.zero_le _, fun z12 hz12 => ?_⟩
        have s12 := sm_new (o := .lst []) hz12
        have d12 : Dt [L] (upd H11' z12 (.lst [])) (.ref z12) (eP (([] : List (Int × Int × Int)).map e3)) := .lst (B11.ne hz12) upd_same .nil
        generalize upd H11' z12 (.lst []) = H12 at *
        have t12 := s11.trans s12
        refine ⟨[L], .ref pa, plv, .ref z12, ps, cs, [], ps.length, wz, wd.toNat, t, rfl, dg9.s t12, dpl9.s t12, d12, B9.go (Go.of (B := []) t12), okN, fun _ h => (nomatch h), fun _ _ _ _ => rfl, fun H13 s13 => ?_⟩
        refine ⟨_, rfl, iteF ?_⟩
        have t13 := t12.trans s13
        have l13 := l9.same t13
        -- none within
        refine ⟨_, rfl, _, rfl, _, rfl, _, rfl, (by show 3 ≤ sizeLine; decide), fun q1 hq1 => ?_⟩
        have u1 := sm_new (o := .tup [.int 2, .int 0, .int (1 + r7)]) hq1
        have f1 : Dt [L] (upd H13 q1 (.tup [.int 2, .int 0, .int (1 + r7)])) (.ref q1) (eC [2, 0, 1 + r7]) := Dt.ofCol (l13.bk.ne hq1) upd_same
        generalize upd H13 q1 (.tup [.int 2, .int 0, .int (1 + r7)]) = H14 at *
        have l14 := l13.same u1
        refine ⟨_, rfl, (by show 3 ≤ sizeLine; decide), fun q2 hq2 => ?_⟩
        have u2 := sm_new (o := .tup [.int (-2), .int 1, .int 3]) hq2
        have f2 : Dt [L] (upd H14 q2 (.tup [.int (-2), .int 1, .int 3])) (.ref q2) (eC [-2, 1, 3]) := Dt.ofCol (l14.bk.ne hq2) upd_same
        generalize upd H14 q2 (.tup [.int (-2), .int 1, .int 3]) = H15 at *
        have l15 := l14.same u2
        refine ⟨(by show 3 ≤ sizeLine; decide), fun q3 hq3 => ?_⟩
        have u3 := sm_new (o := .tup [.int 0, .int 2, .int 1]) hq3
        have f3 : Dt [L] (upd H15 q3 (.tup [.int 0, .int 2, .int 1])) (.ref q3) (eC [0, 2, 1]) := Dt.ofCol (l15.bk.ne hq3) upd_same
        generalize upd H15 q3 (.tup [.int 0, .int 2, .int 1]) = H16 at *
        have l16 := l15.same u3
        refine ⟨(by show 3 ≤ sizeLine; decide), fun q4 hq4 => ?_⟩
        have u4 := sm_new (o := .lst [.ref q1, .ref q2, .ref q3]) hq4
        have f4 : Dt [L] (upd H16 q4 (.lst [.ref q1, .ref q2, .ref q3])) (.ref q4) (eP ([((2 : Int), (0 : Int), 1 + r7), (-2, 1, 3), (0, 2, 1)].map e3)) := .lst (l16.bk.ne hq4) upd_same (.cons (((f1.s u2).s u3).s u4) (.cons ((f2.s u3).s u4) (.one (f3.s u4))))
        generalize upd H16 q4 (.lst [.ref q1, .ref q2, .ref q3]) = H17 at *
        have t17 := t13.trans (((u1.trans u2).trans u3).trans u4)
        refine ⟨[L], .ref D, plv, .ref q4, [o0], cs, [(2, 0, 1 + r7), (-2, 1, 3), (0, 2, 1)], 1, o0.length, wd.toNat, t, rfl, dO9.s t17, dpl9.s t17, f4, B9.go (Go.of (B := []) t17), okO, ordO, one_none oo2, fun H18 s18 => ?_⟩
        refine ⟨_, rfl, iteF ?_⟩
        have t18 := t17.trans s18
        have l18 := l9.same t18
        -- one share
        refine ⟨(by show 2 ≤ sizeLine; decide), fun a1 ha1 => ?_⟩
        have v1 := sm_new (o := .tup [.int 1, .int 0]) ha1
        have k1 : Dt [L] (upd H18 a1 (.tup [.int 1, .int 0])) (.ref a1) (eC (shL false)) := Dt.ofCol (l18.bk.ne ha1) upd_same
        generalize upd H18 a1 (.tup [.int 1, .int 0]) = H19 at *
        have l19 := l18.same v1
        refine ⟨(by show 2 ≤ sizeLine; decide), fun a2 ha2 => ?_⟩
        have v2 := sm_new (o := .tup [.int 0, .int 1]) ha2
        have k2 : Dt [L] (upd H19 a2 (.tup [.int 0, .int 1])) (.ref a2) (eC (shL true)) := Dt.ofCol (l19.bk.ne ha2) upd_same
        generalize upd H19 a2 (.tup [.int 0, .int 1]) = H20 at *
        refine ⟨(by show 2 ≤ sizeLine; decide), fun a3 ha3 => ?_⟩
        have v3 := sm_new (o := .tup [.ref a1, .ref a2]) ha3
        have k1' := k1.s v2
        have t20 := t18.trans (v1.trans v2)
        refine ⟨a3, rfl, ⟨_, SqT.of upd_same⟩, for_it (walk_tup (xs := [.ref a1, .ref a2])) (fun i'' σ H' => ∃ y1 y9 y10, σ = [some (.ref a), y1, some (.ref L), some kv, some (.ref pa), some plv, some (.int (1 + r7)), some (.ref D), some (.str (if t = true then "turned" else "same")), y9, y10] ∧ Same H20 H' ∧ H' a3 = some (.tup [.ref a1, .ref a2]))
          ⟨_, _, _, rfl, v3, upd_same⟩ (fun i'' σ H' _ h => ?_) (fun i'' x σ H21 H21' hi'' hh y => ?_) (fun σ H21 hh => ?_)⟩
        · obtain ⟨y1, y9, y10, rfl, _, e⟩ := h
          exact SqT.of e
        · obtain ⟨y1, y9, y10, rfl, s21, ea3⟩ := hh
          obtain ⟨rfl, y⟩ := y
          obtain ⟨col, dx⟩ : ∃ col : Bool, Dt [L] H20 x (eC (shL col)) := by
            have h2 : i'' = 0 ∨ i'' = 1 := by simp at hi''; omega
            rcases h2 with rfl | rfl
            · have ex : V.ref a1 = x := Option.some.inj y
              subst ex
              exact ⟨false, k1'⟩
            · have ex : V.ref a2 = x := Option.some.inj y
              subst ex
              exact ⟨true, k2⟩
          have t21 := t20.trans s21
          refine ⟨_, rfl, _, rfl, _, rfl, _, rfl, _, rfl, [L], .ref pa, plv, x, ps, cs, ps.length, wz, wd.toNat, t, col, 1 + r7, rfl, dg9.s t21, dpl9.s t21, dx.s s21, B9.go (Go.of (B := []) t21), okC col, by omega, by omega, fun H22 s22 => ?_⟩
          refine ⟨_, rfl, iteF ?_⟩
          exact ⟨_, _, _, rfl, s21.trans s22, s22 _ _ ea3⟩
        · obtain ⟨y1, y9, y10, rfl, s21, _⟩ := hh
          exact ⟨_, _, _, _, rfl, t20.trans s21, ((((s12.trans s13).trans (((u1.trans u2).trans u3).trans u4)).trans s18).trans ((v1.trans v2).trans s21)) _ _ etp11⟩
      · obtain ⟨y1, y8, y9, y10, rfl, s11, _⟩ := hh
        exact ⟨_, _, _, _, _, _, _, _, _, _, rfl, (gH.sm s3 nB).trans s11⟩
    · obtain ⟨y1, y2, y3, y4, y5, y6, y7, y8, y9, y10, rfl, s1⟩ := h1
      exact q _

end
theorem all_mk {l : PySem.W.OpenLaw} {w : World} {K : PySem.W.Frag} {h : Heap} {mg : Str → Option Value} {fa : Addr} (X : K.In h) (G : h.Ns mainGlobals mg) (hfa : mg "law" = some (.ref fa))
    {f0 : Addr} {od0 an0 : Option Addr} {sl0 : Array (Option Value)} {oc0 kV0 dc0 pm0 cd0 ct0 : Value}
    (a0 : PySem.W.nsIn K mainGlobals "apart" = some (some (.ref f0))) (l0 : K.lookup f0 = some ⟨oc0, od0, .func (PySem.W.fnOf "apart" "apart" (defArgs s_apart) (defBody s_apart) (defScope s_apart) .none kV0 dc0 pm0 an0 cd0 ct0), sl0⟩) (c0 : PySem.W.codeIn K cd0 "apart" = true) (k0 : PySem.W.keepIn K (.ref f0) = true)
    {f1 : Addr} {od1 an1 : Option Addr} {sl1 : Array (Option Value)} {oc1 kV1 dc1 pm1 cd1 ct1 : Value}
    (a1 : PySem.W.nsIn K mainGlobals "nearest" = some (some (.ref f1))) (l1 : K.lookup f1 = some ⟨oc1, od1, .func (PySem.W.fnOf "nearest" "nearest" (defArgs s_nearest) (defBody s_nearest) (defScope s_nearest) .none kV1 dc1 pm1 an1 cd1 ct1), sl1⟩) (c1 : PySem.W.codeIn K cd1 "nearest" = true) (k1 : PySem.W.keepIn K (.ref f1) = true)
    {f2 : Addr} {od2 an2 : Option Addr} {sl2 : Array (Option Value)} {oc2 kV2 dc2 pm2 cd2 ct2 : Value}
    (a2 : PySem.W.nsIn K mainGlobals "added" = some (some (.ref f2))) (l2 : K.lookup f2 = some ⟨oc2, od2, .func (PySem.W.fnOf "added" "added" (defArgs s_added) (defBody s_added) (defScope s_added) .none kV2 dc2 pm2 an2 cd2 ct2), sl2⟩) (c2 : PySem.W.codeIn K cd2 "added" = true) (k2 : PySem.W.keepIn K (.ref f2) = true)
    {f3 : Addr} {od3 an3 : Option Addr} {sl3 : Array (Option Value)} {oc3 kV3 dc3 pm3 cd3 ct3 : Value}
    (a3 : PySem.W.nsIn K mainGlobals "lessened" = some (some (.ref f3))) (l3 : K.lookup f3 = some ⟨oc3, od3, .func (PySem.W.fnOf "lessened" "lessened" (defArgs s_lessened) (defBody s_lessened) (defScope s_lessened) .none kV3 dc3 pm3 an3 cd3 ct3), sl3⟩) (c3 : PySem.W.codeIn K cd3 "lessened" = true) (k3 : PySem.W.keepIn K (.ref f3) = true)
    {f4 : Addr} {od4 an4 : Option Addr} {sl4 : Array (Option Value)} {oc4 kV4 dc4 pm4 cd4 ct4 : Value}
    (a4 : PySem.W.nsIn K mainGlobals "spots_in_order" = some (some (.ref f4))) (l4 : K.lookup f4 = some ⟨oc4, od4, .func (PySem.W.fnOf "spots_in_order" "spots_in_order" (defArgs s_spots_in_order) (defBody s_spots_in_order) (defScope s_spots_in_order) .none kV4 dc4 pm4 an4 cd4 ct4), sl4⟩) (c4 : PySem.W.codeIn K cd4 "spots_in_order" = true) (k4 : PySem.W.keepIn K (.ref f4) = true)
    {f5 : Addr} {od5 an5 : Option Addr} {sl5 : Array (Option Value)} {oc5 kV5 dc5 pm5 cd5 ct5 : Value}
    (a5 : PySem.W.nsIn K mainGlobals "shares_there" = some (some (.ref f5))) (l5 : K.lookup f5 = some ⟨oc5, od5, .func (PySem.W.fnOf "shares_there" "shares_there" (defArgs s_shares_there) (defBody s_shares_there) (defScope s_shares_there) .none kV5 dc5 pm5 an5 cd5 ct5), sl5⟩) (c5 : PySem.W.codeIn K cd5 "shares_there" = true) (k5 : PySem.W.keepIn K (.ref f5) = true)
    {f6 : Addr} {od6 an6 : Option Addr} {sl6 : Array (Option Value)} {oc6 kV6 dc6 pm6 cd6 ct6 : Value}
    (a6 : PySem.W.nsIn K mainGlobals "hand_over" = some (some (.ref f6))) (l6 : K.lookup f6 = some ⟨oc6, od6, .func (PySem.W.fnOf "hand_over" "hand_over" (defArgs s_hand_over) (defBody s_hand_over) (defScope s_hand_over) .none kV6 dc6 pm6 an6 cd6 ct6), sl6⟩) (c6 : PySem.W.codeIn K cd6 "hand_over" = true) (k6 : PySem.W.keepIn K (.ref f6) = true)
    {f7 : Addr} {od7 an7 : Option Addr} {sl7 : Array (Option Value)} {oc7 kV7 dc7 pm7 cd7 ct7 : Value}
    (a7 : PySem.W.nsIn K mainGlobals "wanted_by" = some (some (.ref f7))) (l7 : K.lookup f7 = some ⟨oc7, od7, .func (PySem.W.fnOf "wanted_by" "wanted_by" (defArgs s_wanted_by) (defBody s_wanted_by) (defScope s_wanted_by) .none kV7 dc7 pm7 an7 cd7 ct7), sl7⟩) (c7 : PySem.W.codeIn K cd7 "wanted_by" = true) (k7 : PySem.W.keepIn K (.ref f7) = true)
    {f8 : Addr} {od8 an8 : Option Addr} {sl8 : Array (Option Value)} {oc8 kV8 dc8 pm8 cd8 ct8 : Value}
    (a8 : PySem.W.nsIn K mainGlobals "handed_on" = some (some (.ref f8))) (l8 : K.lookup f8 = some ⟨oc8, od8, .func (PySem.W.fnOf "handed_on" "handed_on" (defArgs s_handed_on) (defBody s_handed_on) (defScope s_handed_on) .none kV8 dc8 pm8 an8 cd8 ct8), sl8⟩) (c8 : PySem.W.codeIn K cd8 "handed_on" = true) (k8 : PySem.W.keepIn K (.ref f8) = true)
    {f9 : Addr} {od9 an9 : Option Addr} {sl9 : Array (Option Value)} {oc9 kV9 dc9 pm9 cd9 ct9 : Value}
    (a9 : PySem.W.nsIn K mainGlobals "numbers_by" = some (some (.ref f9))) (l9 : K.lookup f9 = some ⟨oc9, od9, .func (PySem.W.fnOf "numbers_by" "numbers_by" (defArgs s_numbers_by) (defBody s_numbers_by) (defScope s_numbers_by) .none kV9 dc9 pm9 an9 cd9 ct9), sl9⟩) (c9 : PySem.W.codeIn K cd9 "numbers_by" = true) (k9 : PySem.W.keepIn K (.ref f9) = true)
    {f10 : Addr} {od10 an10 : Option Addr} {sl10 : Array (Option Value)} {oc10 kV10 dc10 pm10 cd10 ct10 : Value}
    (a10 : PySem.W.nsIn K mainGlobals "_law_mix" = some (some (.ref f10))) (l10 : K.lookup f10 = some ⟨oc10, od10, .func (PySem.W.fnOf "_law_mix" "_law_mix" (defArgs s_l_mix) (defBody s_l_mix) (defScope s_l_mix) .none kV10 dc10 pm10 an10 cd10 ct10), sl10⟩) (c10 : PySem.W.codeIn K cd10 "_law_mix" = true) (k10 : PySem.W.keepIn K (.ref f10) = true)
    {f11 : Addr} {od11 an11 : Option Addr} {sl11 : Array (Option Value)} {oc11 kV11 dc11 pm11 cd11 ct11 : Value}
    (a11 : PySem.W.nsIn K mainGlobals "_law_left" = some (some (.ref f11))) (l11 : K.lookup f11 = some ⟨oc11, od11, .func (PySem.W.fnOf "_law_left" "_law_left" (defArgs s_l_left) (defBody s_l_left) (defScope s_l_left) .none kV11 dc11 pm11 an11 cd11 ct11), sl11⟩) (c11 : PySem.W.codeIn K cd11 "_law_left" = true) (k11 : PySem.W.keepIn K (.ref f11) = true)
    {f12 : Addr} {od12 an12 : Option Addr} {sl12 : Array (Option Value)} {oc12 kV12 dc12 pm12 cd12 ct12 : Value}
    (a12 : PySem.W.nsIn K mainGlobals "_law_pick" = some (some (.ref f12))) (l12 : K.lookup f12 = some ⟨oc12, od12, .func (PySem.W.fnOf "_law_pick" "_law_pick" (defArgs s_l_pick) (defBody s_l_pick) (defScope s_l_pick) .none kV12 dc12 pm12 an12 cd12 ct12), sl12⟩) (c12 : PySem.W.codeIn K cd12 "_law_pick" = true) (k12 : PySem.W.keepIn K (.ref f12) = true)
    {f13 : Addr} {od13 an13 : Option Addr} {sl13 : Array (Option Value)} {oc13 kV13 dc13 pm13 cd13 ct13 : Value}
    (a13 : PySem.W.nsIn K mainGlobals "_law_kind" = some (some (.ref f13))) (l13 : K.lookup f13 = some ⟨oc13, od13, .func (PySem.W.fnOf "_law_kind" "_law_kind" (defArgs s_l_kind) (defBody s_l_kind) (defScope s_l_kind) .none kV13 dc13 pm13 an13 cd13 ct13), sl13⟩) (c13 : PySem.W.codeIn K cd13 "_law_kind" = true) (k13 : PySem.W.keepIn K (.ref f13) = true)
    {f14 : Addr} {od14 an14 : Option Addr} {sl14 : Array (Option Value)} {oc14 kV14 dc14 pm14 cd14 ct14 : Value}
    (a14 : PySem.W.nsIn K mainGlobals "_law_colour" = some (some (.ref f14))) (l14 : K.lookup f14 = some ⟨oc14, od14, .func (PySem.W.fnOf "_law_colour" "_law_colour" (defArgs s_l_colour) (defBody s_l_colour) (defScope s_l_colour) .none kV14 dc14 pm14 an14 cd14 ct14), sl14⟩) (c14 : PySem.W.codeIn K cd14 "_law_colour" = true) (k14 : PySem.W.keepIn K (.ref f14) = true)
    {f15 : Addr} {od15 an15 : Option Addr} {sl15 : Array (Option Value)} {oc15 kV15 dc15 pm15 cd15 ct15 : Value}
    (a15 : PySem.W.nsIn K mainGlobals "_law_palette" = some (some (.ref f15))) (l15 : K.lookup f15 = some ⟨oc15, od15, .func (PySem.W.fnOf "_law_palette" "_law_palette" (defArgs s_l_palette) (defBody s_l_palette) (defScope s_l_palette) .none kV15 dc15 pm15 an15 cd15 ct15), sl15⟩) (c15 : PySem.W.codeIn K cd15 "_law_palette" = true) (k15 : PySem.W.keepIn K (.ref f15) = true)
    {f16 : Addr} {od16 an16 : Option Addr} {sl16 : Array (Option Value)} {oc16 kV16 dc16 pm16 cd16 ct16 : Value}
    (a16 : PySem.W.nsIn K mainGlobals "_law_picture" = some (some (.ref f16))) (l16 : K.lookup f16 = some ⟨oc16, od16, .func (PySem.W.fnOf "_law_picture" "_law_picture" (defArgs s_l_picture) (defBody s_l_picture) (defScope s_l_picture) .none kV16 dc16 pm16 an16 cd16 ct16), sl16⟩) (c16 : PySem.W.codeIn K cd16 "_law_picture" = true) (k16 : PySem.W.keepIn K (.ref f16) = true)
    {f17 : Addr} {od17 an17 : Option Addr} {sl17 : Array (Option Value)} {oc17 kV17 dc17 pm17 cd17 ct17 : Value}
    (a17 : PySem.W.nsIn K mainGlobals "_law_apart" = some (some (.ref f17))) (l17 : K.lookup f17 = some ⟨oc17, od17, .func (PySem.W.fnOf "_law_apart" "_law_apart" (defArgs s_l_apart) (defBody s_l_apart) (defScope s_l_apart) .none kV17 dc17 pm17 an17 cd17 ct17), sl17⟩) (c17 : PySem.W.codeIn K cd17 "_law_apart" = true) (k17 : PySem.W.keepIn K (.ref f17) = true)
    {f18 : Addr} {od18 an18 : Option Addr} {sl18 : Array (Option Value)} {oc18 kV18 dc18 pm18 cd18 ct18 : Value}
    (a18 : PySem.W.nsIn K mainGlobals "_law_nearest" = some (some (.ref f18))) (l18 : K.lookup f18 = some ⟨oc18, od18, .func (PySem.W.fnOf "_law_nearest" "_law_nearest" (defArgs s_l_nearest) (defBody s_l_nearest) (defScope s_l_nearest) .none kV18 dc18 pm18 an18 cd18 ct18), sl18⟩) (c18 : PySem.W.codeIn K cd18 "_law_nearest" = true) (k18 : PySem.W.keepIn K (.ref f18) = true)
    {f19 : Addr} {od19 an19 : Option Addr} {sl19 : Array (Option Value)} {oc19 kV19 dc19 pm19 cd19 ct19 : Value}
    (a19 : PySem.W.nsIn K mainGlobals "_law_same" = some (some (.ref f19))) (l19 : K.lookup f19 = some ⟨oc19, od19, .func (PySem.W.fnOf "_law_same" "_law_same" (defArgs s_l_same) (defBody s_l_same) (defScope s_l_same) .none kV19 dc19 pm19 an19 cd19 ct19), sl19⟩) (c19 : PySem.W.codeIn K cd19 "_law_same" = true) (k19 : PySem.W.keepIn K (.ref f19) = true)
    {f20 : Addr} {od20 an20 : Option Addr} {sl20 : Array (Option Value)} {oc20 kV20 dc20 pm20 cd20 ct20 : Value}
    (a20 : PySem.W.nsIn K mainGlobals "_law_sums" = some (some (.ref f20))) (l20 : K.lookup f20 = some ⟨oc20, od20, .func (PySem.W.fnOf "_law_sums" "_law_sums" (defArgs s_l_sums) (defBody s_l_sums) (defScope s_l_sums) .none kV20 dc20 pm20 an20 cd20 ct20), sl20⟩) (c20 : PySem.W.codeIn K cd20 "_law_sums" = true) (k20 : PySem.W.keepIn K (.ref f20) = true)
    {f21 : Addr} {od21 an21 : Option Addr} {sl21 : Array (Option Value)} {oc21 kV21 dc21 pm21 cd21 ct21 : Value}
    (a21 : PySem.W.nsIn K mainGlobals "_law_less_by" = some (some (.ref f21))) (l21 : K.lookup f21 = some ⟨oc21, od21, .func (PySem.W.fnOf "_law_less_by" "_law_less_by" (defArgs s_l_less_by) (defBody s_l_less_by) (defScope s_l_less_by) .none kV21 dc21 pm21 an21 cd21 ct21), sl21⟩) (c21 : PySem.W.codeIn K cd21 "_law_less_by" = true) (k21 : PySem.W.keepIn K (.ref f21) = true)
    {f22 : Addr} {od22 an22 : Option Addr} {sl22 : Array (Option Value)} {oc22 kV22 dc22 pm22 cd22 ct22 : Value}
    (a22 : PySem.W.nsIn K mainGlobals "_law_lines" = some (some (.ref f22))) (l22 : K.lookup f22 = some ⟨oc22, od22, .func (PySem.W.fnOf "_law_lines" "_law_lines" (defArgs s_l_lines) (defBody s_l_lines) (defScope s_l_lines) .none kV22 dc22 pm22 an22 cd22 ct22), sl22⟩) (c22 : PySem.W.codeIn K cd22 "_law_lines" = true) (k22 : PySem.W.keepIn K (.ref f22) = true)
    {f23 : Addr} {od23 an23 : Option Addr} {sl23 : Array (Option Value)} {oc23 kV23 dc23 pm23 cd23 ct23 : Value}
    (a23 : PySem.W.nsIn K mainGlobals "_law_one_right" = some (some (.ref f23))) (l23 : K.lookup f23 = some ⟨oc23, od23, .func (PySem.W.fnOf "_law_one_right" "_law_one_right" (defArgs s_l_one_right) (defBody s_l_one_right) (defScope s_l_one_right) .none kV23 dc23 pm23 an23 cd23 ct23), sl23⟩) (c23 : PySem.W.codeIn K cd23 "_law_one_right" = true) (k23 : PySem.W.keepIn K (.ref f23) = true)
    {f24 : Addr} {od24 an24 : Option Addr} {sl24 : Array (Option Value)} {oc24 kV24 dc24 pm24 cd24 ct24 : Value}
    (a24 : PySem.W.nsIn K mainGlobals "_law_none_right" = some (some (.ref f24))) (l24 : K.lookup f24 = some ⟨oc24, od24, .func (PySem.W.fnOf "_law_none_right" "_law_none_right" (defArgs s_l_none_right) (defBody s_l_none_right) (defScope s_l_none_right) .none kV24 dc24 pm24 an24 cd24 ct24), sl24⟩) (c24 : PySem.W.codeIn K cd24 "_law_none_right" = true) (k24 : PySem.W.keepIn K (.ref f24) = true)
    {f25 : Addr} {od25 an25 : Option Addr} {sl25 : Array (Option Value)} {oc25 kV25 dc25 pm25 cd25 ct25 : Value}
    (a25 : PySem.W.nsIn K mainGlobals "law" = some (some (.ref f25))) (l25 : K.lookup f25 = some ⟨oc25, od25, .func (PySem.W.fnOf "law" "law" (defArgs s_law) (defBody s_law) (defScope s_law) .none kV25 dc25 pm25 an25 cd25 ct25), sl25⟩) (c25 : PySem.W.codeIn K cd25 "law" = true) (k25 : PySem.W.keepIn K (.ref f25) = true)
    (z_abs : PySem.W.nsIn K mainGlobals "abs" = some none)
    (z_all : PySem.W.nsIn K mainGlobals "all" = some none)
    (z_bool : PySem.W.nsIn K mainGlobals "bool" = some none)
    (z_enumerate : PySem.W.nsIn K mainGlobals "enumerate" = some none)
    (z_int : PySem.W.nsIn K mainGlobals "int" = some none)
    (z_isinstance : PySem.W.nsIn K mainGlobals "isinstance" = some none)
    (z_len : PySem.W.nsIn K mainGlobals "len" = some none)
    (z_list : PySem.W.nsIn K mainGlobals "list" = some none)
    (z_min : PySem.W.nsIn K mainGlobals "min" = some none)
    (z_range : PySem.W.nsIn K mainGlobals "range" = some none)
    (z_str : PySem.W.nsIn K mainGlobals "str" = some none)
    (z_sum : PySem.W.nsIn K mainGlobals "sum" = some none)
    (z_tuple : PySem.W.nsIn K mainGlobals "tuple" = some none)
    (z_zip : PySem.W.nsIn K mainGlobals "zip" = some none)
    : ∃ fd : FuncData, (∀ (s : Shared) (v : Value), BindsTo s fd ⟨[v], []⟩ [("_law_script", v)]) ∧ ∀ base : Heap, K.In base → base.Ns mainGlobals mg → FnOk l.prog w K mg base CX0 6 fa fd ["_law_script"] (spLaw K) := by
  have e := hfa.symm.trans (PySem.W.mg_of X G a25)
  cases e
  exact ⟨_, fun s v => .of_eq rfl, fun base _ _ => ok_law (k := 0) {
      f_apart := f0, d_apart := _, F_apart := fun_mk (st := s_apart) l0 c0 k0, b_apart := (fun_mk (st := s_apart) l0 c0 k0).binds (ps := ["one", "other"]) fun _ _ _ _ _ _ us hl => match us, hl with | [_, _], _ => rfl, g_apart := PySem.W.mg_of X G a0,
      f_nearest := f1, d_nearest := _, F_nearest := fun_mk (st := s_nearest) l1 c1 k1, b_nearest := (fun_mk (st := s_nearest) l1 c1 k1).binds (ps := ["palette", "colour"]) fun _ _ _ _ _ _ us hl => match us, hl with | [_, _], _ => rfl, g_nearest := PySem.W.mg_of X G a1,
      f_added := f2, d_added := _, F_added := fun_mk (st := s_added) l2 c2 k2, b_added := (fun_mk (st := s_added) l2 c2 k2).binds (ps := ["one", "other"]) fun _ _ _ _ _ _ us hl => match us, hl with | [_, _], _ => rfl, g_added := PySem.W.mg_of X G a2,
      f_lessened := f3, d_lessened := _, F_lessened := fun_mk (st := s_lessened) l3 c3 k3, b_lessened := (fun_mk (st := s_lessened) l3 c3 k3).binds (ps := ["one", "other"]) fun _ _ _ _ _ _ us hl => match us, hl with | [_, _], _ => rfl, g_lessened := PySem.W.mg_of X G a3,
      f_spots_in_order := f4, d_spots_in_order := _, F_spots_in_order := fun_mk (st := s_spots_in_order) l4 c4 k4, b_spots_in_order := (fun_mk (st := s_spots_in_order) l4 c4 k4).binds (ps := ["picture", "way"]) fun _ _ _ _ _ _ us hl => match us, hl with | [_, _], _ => rfl, g_spots_in_order := PySem.W.mg_of X G a4,
      f_shares_there := f5, d_shares_there := _, F_shares_there := fun_mk (st := s_shares_there) l5 c5 k5, b_shares_there := (fun_mk (st := s_shares_there) l5 c5 k5).binds (ps := ["picture", "shares", "spot"]) fun _ _ _ _ _ _ us hl => match us, hl with | [_, _, _], _ => rfl, g_shares_there := PySem.W.mg_of X G a5,
      f_hand_over := f6, d_hand_over := _, F_hand_over := fun_mk (st := s_hand_over) l6 c6 k6, b_hand_over := (fun_mk (st := s_hand_over) l6 c6 k6).binds (ps := ["wanted", "shares", "spot", "colour"]) fun _ _ _ _ _ _ us hl => match us, hl with | [_, _, _, _], _ => rfl, g_hand_over := PySem.W.mg_of X G a6,
      f_wanted_by := f7, d_wanted_by := _, F_wanted_by := fun_mk (st := s_wanted_by) l7 c7 k7, b_wanted_by := (fun_mk (st := s_wanted_by) l7 c7 k7).binds (ps := ["picture", "palette", "shares", "way", "numbers"]) fun _ _ _ _ _ _ us hl => match us, hl with | [_, _, _, _, _], _ => rfl, g_wanted_by := PySem.W.mg_of X G a7,
      f_handed_on := f8, d_handed_on := _, F_handed_on := fun_mk (st := s_handed_on) l8 c8 k8, b_handed_on := (fun_mk (st := s_handed_on) l8 c8 k8).binds (ps := ["picture", "palette", "shares", "way"]) fun _ _ _ _ _ _ us hl => match us, hl with | [_, _, _, _], _ => rfl, g_handed_on := PySem.W.mg_of X G a8,
      f_numbers_by := f9, d_numbers_by := _, F_numbers_by := fun_mk (st := s_numbers_by) l9 c9 k9, b_numbers_by := (fun_mk (st := s_numbers_by) l9 c9 k9).binds (ps := ["picture", "palette"]) fun _ _ _ _ _ _ us hl => match us, hl with | [_, _], _ => rfl, g_numbers_by := PySem.W.mg_of X G a9,
      f_l_mix := f10, d_l_mix := _, F_l_mix := fun_mk (st := s_l_mix) l10 c10 k10, b_l_mix := (fun_mk (st := s_l_mix) l10 c10 k10).binds (ps := ["_law_cell", "_law_k"]) fun _ _ _ _ _ _ us hl => match us, hl with | [_, _], _ => rfl, g_l_mix := PySem.W.mg_of X G a10,
      f_l_left := f11, d_l_left := _, F_l_left := fun_mk (st := s_l_left) l11 c11 k11, b_l_left := (fun_mk (st := s_l_left) l11 c11 k11).binds (ps := ["_law_script", "_law_k"]) fun _ _ _ _ _ _ us hl => match us, hl with | [_, _], _ => rfl, g_l_left := PySem.W.mg_of X G a11,
      f_l_pick := f12, d_l_pick := _, F_l_pick := fun_mk (st := s_l_pick) l12 c12 k12, b_l_pick := (fun_mk (st := s_l_pick) l12 c12 k12).binds (ps := ["_law_left_here", "_law_many"]) fun _ _ _ _ _ _ us hl => match us, hl with | [_, _], _ => rfl, g_l_pick := PySem.W.mg_of X G a12,
      f_l_kind := f13, d_l_kind := _, F_l_kind := fun_mk (st := s_l_kind) l13 c13 k13, b_l_kind := (fun_mk (st := s_l_kind) l13 c13 k13).binds (ps := ["_law_left_here"]) fun _ _ _ _ _ _ us hl => match us, hl with | [_], _ => rfl, g_l_kind := PySem.W.mg_of X G a13,
      f_l_colour := f14, d_l_colour := _, F_l_colour := fun_mk (st := s_l_colour) l14 c14 k14, b_l_colour := (fun_mk (st := s_l_colour) l14 c14 k14).binds (ps := ["_law_left_here", "_law_kind_here"]) fun _ _ _ _ _ _ us hl => match us, hl with | [_, _], _ => rfl, g_l_colour := PySem.W.mg_of X G a14,
      f_l_palette := f15, d_l_palette := _, F_l_palette := fun_mk (st := s_l_palette) l15 c15 k15, b_l_palette := (fun_mk (st := s_l_palette) l15 c15 k15).binds (ps := ["_law_left_here", "_law_kind_here"]) fun _ _ _ _ _ _ us hl => match us, hl with | [_, _], _ => rfl, g_l_palette := PySem.W.mg_of X G a15,
      f_l_picture := f16, d_l_picture := _, F_l_picture := fun_mk (st := s_l_picture) l16 c16 k16, b_l_picture := (fun_mk (st := s_l_picture) l16 c16 k16).binds (ps := ["_law_left_here", "_law_kind_here"]) fun _ _ _ _ _ _ us hl => match us, hl with | [_, _], _ => rfl, g_l_picture := PySem.W.mg_of X G a16,
      f_l_apart := f17, d_l_apart := _, F_l_apart := fun_mk (st := s_l_apart) l17 c17 k17, b_l_apart := (fun_mk (st := s_l_apart) l17 c17 k17).binds (ps := ["_law_one", "_law_other"]) fun _ _ _ _ _ _ us hl => match us, hl with | [_, _], _ => rfl, g_l_apart := PySem.W.mg_of X G a17,
      f_l_nearest := f18, d_l_nearest := _, F_l_nearest := fun_mk (st := s_l_nearest) l18 c18 k18, b_l_nearest := (fun_mk (st := s_l_nearest) l18 c18 k18).binds (ps := ["_law_palette_here", "_law_colour_here"]) fun _ _ _ _ _ _ us hl => match us, hl with | [_, _], _ => rfl, g_l_nearest := PySem.W.mg_of X G a18,
      f_l_same := f19, d_l_same := _, F_l_same := fun_mk (st := s_l_same) l19 c19 k19, b_l_same := (fun_mk (st := s_l_same) l19 c19 k19).binds (ps := ["_law_found", "_law_due"]) fun _ _ _ _ _ _ us hl => match us, hl with | [_, _], _ => rfl, g_l_same := PySem.W.mg_of X G a19,
      f_l_sums := f20, d_l_sums := _, F_l_sums := fun_mk (st := s_l_sums) l20 c20 k20, b_l_sums := (fun_mk (st := s_l_sums) l20 c20 k20).binds (ps := ["_law_colours", "_law_wide"]) fun _ _ _ _ _ _ us hl => match us, hl with | [_, _], _ => rfl, g_l_sums := PySem.W.mg_of X G a20,
      f_l_less_by := f21, d_l_less_by := _, F_l_less_by := fun_mk (st := s_l_less_by) l21 c21 k21, b_l_less_by := (fun_mk (st := s_l_less_by) l21 c21 k21).binds (ps := ["_law_one", "_law_other"]) fun _ _ _ _ _ _ us hl => match us, hl with | [_, _], _ => rfl, g_l_less_by := PySem.W.mg_of X G a21,
      f_l_lines := f22, d_l_lines := _, F_l_lines := fun_mk (st := s_l_lines) l22 c22 k22, b_l_lines := (fun_mk (st := s_l_lines) l22 c22 k22).binds (ps := ["_law_picture_here", "_law_numbers", "_law_way", "_law_share"]) fun _ _ _ _ _ _ us hl => match us, hl with | [_, _, _, _], _ => rfl, g_l_lines := PySem.W.mg_of X G a22,
      f_l_one_right := f23, d_l_one_right := _, F_l_one_right := fun_mk (st := s_l_one_right) l23 c23 k23, b_l_one_right := (fun_mk (st := s_l_one_right) l23 c23 k23).binds (ps := ["_law_picture_here", "_law_palette_here", "_law_way", "_law_share", "_law_parts"]) fun _ _ _ _ _ _ us hl => match us, hl with | [_, _, _, _, _], _ => rfl, g_l_one_right := PySem.W.mg_of X G a23,
      f_l_none_right := f24, d_l_none_right := _, F_l_none_right := fun_mk (st := s_l_none_right) l24 c24 k24, b_l_none_right := (fun_mk (st := s_l_none_right) l24 c24 k24).binds (ps := ["_law_picture_here", "_law_palette_here", "_law_way", "_law_shares"]) fun _ _ _ _ _ _ us hl => match us, hl with | [_, _, _, _], _ => rfl, g_l_none_right := PySem.W.mg_of X G a24,
      z_abs := PySem.W.mg_none_of X G z_abs,
      z_all := PySem.W.mg_none_of X G z_all,
      z_bool := PySem.W.mg_none_of X G z_bool,
      z_enumerate := PySem.W.mg_none_of X G z_enumerate,
      z_int := PySem.W.mg_none_of X G z_int,
      z_isinstance := PySem.W.mg_none_of X G z_isinstance,
      z_len := PySem.W.mg_none_of X G z_len,
      z_list := PySem.W.mg_none_of X G z_list,
      z_min := PySem.W.mg_none_of X G z_min,
      z_range := PySem.W.mg_none_of X G z_range,
      z_str := PySem.W.mg_none_of X G z_str,
      z_sum := PySem.W.mg_none_of X G z_sum,
      z_tuple := PySem.W.mg_none_of X G z_tuple,
      z_zip := PySem.W.mg_none_of X G z_zip } (fun_mk (st := s_law) l25 c25 k25) (by decide)⟩
end Z
open PySem PySem.W PyProof.Rows
set_option maxHeartbeats 0 in
theorem PySem.Challenge.cw_fewcolours_k35_shares_by_themselves_holds : PySem.Challenge.rw_fewcolours_k35_shares_by_themselves.Holds := by
  w_on; o_law; k_head; (case hw => w_witness2)
  k_fill
  refine L2.walk_of (l := PySem.Challenge.rw_fewcolours_k35_shares_by_themselves) (n := 63) (k := 6) (x := "_law_script") (CX := fun _ => L2.CX0) (sp := fun w => Z.spLaw _) rfl (by decide) rfl ⟨rfl, by decide, by decide⟩ (fun w h Y => PySem.W.kIn_of Y) ?F (fun _ _ a ns hl _ hS => ⟨a, ns, rfl, hS, hl, fun _ => rfl⟩) (fun _ _ _ _ _ h => h)
  case F =>
    intro w mg fa h KX G hmg
    refine' Z.all_mk KX G hmg ?a0 ?l0 ?c0 ?k0 ?a1 ?l1 ?c1 ?k1 ?a2 ?l2 ?c2 ?k2 ?a3 ?l3 ?c3 ?k3 ?a4 ?l4 ?c4 ?k4 ?a5 ?l5 ?c5 ?k5 ?a6 ?l6 ?c6 ?k6 ?a7 ?l7 ?c7 ?k7 ?a8 ?l8 ?c8 ?k8 ?a9 ?l9 ?c9 ?k9 ?a10 ?l10 ?c10 ?k10 ?a11 ?l11 ?c11 ?k11 ?a12 ?l12 ?c12 ?k12 ?a13 ?l13 ?c13 ?k13 ?a14 ?l14 ?c14 ?k14 ?a15 ?l15 ?c15 ?k15 ?a16 ?l16 ?c16 ?k16 ?a17 ?l17 ?c17 ?k17 ?a18 ?l18 ?c18 ?k18 ?a19 ?l19 ?c19 ?k19 ?a20 ?l20 ?c20 ?k20 ?a21 ?l21 ?c21 ?k21 ?a22 ?l22 ?c22 ?k22 ?a23 ?l23 ?c23 ?k23 ?a24 ?l24 ?c24 ?k24 ?a25 ?l25 ?c25 ?k25 ?z_abs ?z_all ?z_bool ?z_enumerate ?z_int ?z_isinstance ?z_len ?z_list ?z_min ?z_range ?z_str ?z_sum ?z_tuple ?z_zip
    case a0 => k_is
    case l0 => k_is
    case c0 => k_is
    case k0 => k_is
    case a1 => k_is
    case l1 => k_is
    case c1 => k_is
    case k1 => k_is
    case a2 => k_is
    case l2 => k_is
    case c2 => k_is
    case k2 => k_is
    case a3 => k_is
    case l3 => k_is
    case c3 => k_is
    case k3 => k_is
    case a4 => k_is
    case l4 => k_is
    case c4 => k_is
    case k4 => k_is
    case a5 => k_is
    case l5 => k_is
    case c5 => k_is
    case k5 => k_is
    case a6 => k_is
    case l6 => k_is
    case c6 => k_is
    case k6 => k_is
    case a7 => k_is
    case l7 => k_is
    case c7 => k_is
    case k7 => k_is
    case a8 => k_is
    case l8 => k_is
    case c8 => k_is
    case k8 => k_is
    case a9 => k_is
    case l9 => k_is
    case c9 => k_is
    case k9 => k_is
    case a10 => k_is
    case l10 => k_is
    case c10 => k_is
    case k10 => k_is
    case a11 => k_is
    case l11 => k_is
    case c11 => k_is
    case k11 => k_is
    case a12 => k_is
    case l12 => k_is
    case c12 => k_is
    case k12 => k_is
    case a13 => k_is
    case l13 => k_is
    case c13 => k_is
    case k13 => k_is
    case a14 => k_is
    case l14 => k_is
    case c14 => k_is
    case k14 => k_is
    case a15 => k_is
    case l15 => k_is
    case c15 => k_is
    case k15 => k_is
    case a16 => k_is
    case l16 => k_is
    case c16 => k_is
    case k16 => k_is
    case a17 => k_is
    case l17 => k_is
    case c17 => k_is
    case k17 => k_is
    case a18 => k_is
    case l18 => k_is
    case c18 => k_is
    case k18 => k_is
    case a19 => k_is
    case l19 => k_is
    case c19 => k_is
    case k19 => k_is
    case a20 => k_is
    case l20 => k_is
    case c20 => k_is
    case k20 => k_is
    case a21 => k_is
    case l21 => k_is
    case c21 => k_is
    case k21 => k_is
    case a22 => k_is
    case l22 => k_is
    case c22 => k_is
    case k22 => k_is
    case a23 => k_is
    case l23 => k_is
    case c23 => k_is
    case k23 => k_is
    case a24 => k_is
    case l24 => k_is
    case c24 => k_is
    case k24 => k_is
    case a25 => k_is
    case l25 => k_is
    case c25 => k_is
    case k25 => k_is
    case z_abs => k_is
    case z_all => k_is
    case z_bool => k_is
    case z_enumerate => k_is
    case z_int => k_is
    case z_isinstance => k_is
    case z_len => k_is
    case z_list => k_is
    case z_min => k_is
    case z_range => k_is
    case z_str => k_is
    case z_sum => k_is
    case z_tuple => k_is
    case z_zip => k_is

