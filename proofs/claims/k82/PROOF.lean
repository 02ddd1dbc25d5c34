import PyProof.Rows.All
import Wide.All
import OpenK.AllK
import Wide.FinOn
import HandS.ForMost
import HandS.Zip
import HandS.IsInst
import HandS.TupAny
import HandS.SortRule
import HandS.Style
import HandS.Walk
import HandS.Evl
import KE.DataMinMax
import HandS.Wide
import HandS.DictTup
import HandS.Small
import KE.SortData
import HandS.TryOnly
import HandS.Dict
import HandS.Iter
import HandS.Deep
import PySem.Challenge.RW_fewcolours_k82_whole_told_with_the_least
set_option Elab.async false
set_option linter.all false
set_option maxRecDepth 100000
namespace Z
open PySem PySem.Spec PyProof.Rows L2
/-! ### heaps but for some addresses -/
def Dom (H H' : Hp) : Prop := ∀ a, H a ≠ none → H' a ≠ none
structure Go (B : List Addr) (H H' : Hp) : Prop where
  k : ∀ a o, a ∉ B → H a = some o → H' a = some o
  d : Dom H H'
def Bk (B : List Addr) (H : Hp) : Prop := ∀ a ∈ B, H a ≠ none
section
variable {B C : List Addr} {H H' H1 H2 : Hp} {p L : Addr} {o : HO}
theorem dom_new : Dom H (upd H p o) := fun a h => by
  by_cases e : a = p
  · subst e
    rw [upd_same]
    exact fun z => nomatch z
  · rw [upd_ne e]
    exact h
theorem dom_mut (d : Dom H H') : Dom H (upd H' p o) := fun a h => dom_new a (d a h)
theorem Go.refl : Go B H H := ⟨fun _ _ _ h => h, fun _ h => h⟩
theorem Go.trans (a : Go B H H1) (b : Go B H1 H2) : Go B H H2 := ⟨fun c o n h => b.k c o n (a.k c o n h), fun c h => b.d c (a.d c h)⟩
theorem same_dom (s : Same H H') : Dom H H' := fun a h => by
  cases q : H a with
  | none => exact absurd q h
  | some o => rw [s a o q]; exact fun z => nomatch z
theorem Go.of (s : Same H H') : Go B H H' := ⟨fun a o _ h => s a o h, same_dom s⟩
theorem Go.new (h : H p = none) : Go B H (upd H p o) := ⟨fun a u _ e => by
  rw [upd_ne (ne_of_none e h)]
  exact e, dom_new⟩
theorem Go.mut (g : Go B H H') (h : H p = none) : Go B H (upd H' p o) := ⟨fun a u n e => by
  rw [upd_ne (ne_of_none e h)]
  exact g.k a u n e, dom_mut g.d⟩
theorem Go.at (g : Go B H H') (h : p ∈ B) : Go B H (upd H' p o) := ⟨fun a u n e => by
  rw [upd_ne (show a ≠ p from fun z => n (by rw [z]; exact h))]
  exact g.k a u n e, dom_mut g.d⟩
theorem Go.w (g : Go C H H') (s : ∀ a ∈ C, a ∈ B) : Go B H H' := ⟨fun a o n h => g.k a o (fun q => n (s a q)) h, g.d⟩
theorem Go.w1 (g : Go [L] H H') (s : L ∈ B) : Go B H H' := g.w fun a h => by rw [List.mem_singleton.mp h]; exact s
theorem Go.free (g : Go B H H') (h : H' p = none) : H p = none := by
  cases q : H p with
  | none => rfl
  | some o => exact absurd h (g.d p (by rw [q]; exact fun z => nomatch z))
theorem Bk.go (b : Bk B H) (g : Go C H H') : Bk B H' := fun a h => g.d a (b a h)
theorem Bk.ne (b : Bk B H) (h : H p = none) : p ∉ B := fun q => b p q h
theorem Bk.cons (b : Bk B H) (h : H p = some o) : Bk (p :: B) H := fun a q => by
  rcases List.mem_cons.mp q with e | e
  · subst e
    rw [h]
    exact fun z => nomatch z
  · exact b a e
theorem Bk.up (b : Bk B H) : Bk B (upd H p o) := fun a h => dom_new a (b a h)
theorem sm_new (h : H p = none) : Same H (upd H p o) := fun b x e => by
  rw [upd_ne (ne_of_none e h)]
  exact e
theorem sm_mut (s : Same H H') (h : H p = none) : Same H (upd H' p o) := fun b x e => by
  rw [upd_ne (ne_of_none e h)]
  exact s b x e
/-- what was new behind H, and is in B, may change -/
theorem Go.sm (g : Go B H1 H2) (s : Same H H1) (n : ∀ a ∈ B, H a = none) : Same H H2 := fun a o h => g.k a o (fun q => by rw [n a q] at h; cases h) (s a o h)
theorem Go.cons (g : Go (p :: B) H1 H2) (s : Go B H H1) (h : H p = none) : Go B H H2 := ⟨fun a o n e => g.k a o (fun q => by
  rcases List.mem_cons.mp q with z | z
  · rw [z, h] at e
    cases e
  · exact n z) (s.k a o n e), fun a e => g.d a (s.d a e)⟩
end
/-! ### the list that is drawn from -/
def Lf (L : Addr) (H : Hp) (n : Nat) : Prop := ∃ a b c : Int, H L = some (.lst [.int a, .int b, .int c]) ∧ 0 ≤ a ∧ 0 ≤ c ∧ c ≤ (n : Int)
section
variable {L p : Addr} {H H' : Hp} {n m : Nat} {o : HO} {B : List Addr}
theorem Lf.mono (h : Lf L H n) (l : n ≤ m) : Lf L H m := by
  obtain ⟨a, b, c, e, h1, h2, h3⟩ := h
  exact ⟨a, b, c, e, h1, h2, by omega⟩
theorem Lf.same (h : Lf L H n) (s : Same H H') : Lf L H' n := by
  obtain ⟨a, b, c, e, h1, h2, h3⟩ := h
  exact ⟨a, b, c, s _ _ e, h1, h2, h3⟩
theorem Lf.go (h : Lf L H n) (g : Go B H H') (i : L ∉ B) : Lf L H' n := by
  obtain ⟨a, b, c, e, h1, h2, h3⟩ := h
  exact ⟨a, b, c, g.k _ _ i e, h1, h2, h3⟩
theorem Lf.ne (h : Lf L H n) (e : H p = none) : p ≠ L := fun q => by
  obtain ⟨a, b, c, e', _⟩ := h
  rw [q, e'] at e
  cases e
theorem Lf.up (h : Lf L H n) (e : p ≠ L) : Lf L (upd H p o) n := by
  obtain ⟨a, b, c, e', h1, h2, h3⟩ := h
  refine ⟨a, b, c, ?_, h1, h2, h3⟩
  rw [upd_ne (Ne.symm e)]
  exact e'
theorem Lf.new (h : Lf L H n) (e : H p = none) : Lf L (upd H p o) n := h.up (h.ne e)
theorem Lf.bk (h : Lf L H n) : Bk [L] H := fun a q => by
  obtain ⟨_, _, _, e, _⟩ := h
  rw [List.mem_singleton.mp q, e]
  exact fun z => nomatch z
end
/-! ### data apart from some addresses -/
mutual
inductive Dt (B : List Addr) (H : Hp) : V → PyData → Prop
  | non : Dt B H .non .none
  | bl (b : Bool) : Dt B H (.bl b) (.bool b)
  | int (i : Int) : Dt B H (.int i) (.int i)
  | str (x : Str) : Dt B H (.str x) (.str x)
  | lst {a : Addr} {xs : List V} {ds : List PyData} : a ∉ B → H a = some (.lst xs) → DtA B H xs ds → Dt B H (.ref a) (.list ds)
  | tup {a : Addr} {xs : List V} {ds : List PyData} : a ∉ B → H a = some (.tup xs) → DtA B H xs ds → Dt B H (.ref a) (.tuple ds)
inductive DtA (B : List Addr) (H : Hp) : List V → List PyData → Prop
  | nil : DtA B H [] []
  | cons {v : V} {vs : List V} {d : PyData} {ds : List PyData} : Dt B H v d → DtA B H vs ds → DtA B H (v :: vs) (d :: ds)
end
section
variable {B C : List Addr} {H H' : Hp} {p L : Addr}
mutual
/-- the general way from one to another -/
theorem Dt.to (f : ∀ a o, a ∉ B → H a = some o → a ∉ C ∧ H' a = some o) : ∀ (d : PyData) (v : V), Dt B H v d → Dt C H' v d
  | .none, _, h => by cases h; exact .non
  | .bool b, _, h => by cases h; exact .bl b
  | .int i, _, h => by cases h; exact .int i
  | .str x, _, h => by cases h; exact .str x
  | .list ds, _, h => by
    cases h with
    | lst n hs ha => exact .lst (f _ _ n hs).1 (f _ _ n hs).2 (DtA.to f ds _ ha)
  | .tuple ds, _, h => by
    cases h with
    | tup n hs ha => exact .tup (f _ _ n hs).1 (f _ _ n hs).2 (DtA.to f ds _ ha)
  | .dict _, _, h => by cases h
theorem DtA.to (f : ∀ a o, a ∉ B → H a = some o → a ∉ C ∧ H' a = some o) : ∀ (ds : List PyData) (vs : List V), DtA B H vs ds → DtA C H' vs ds
  | [], _, h => by cases h; exact .nil
  | d :: ds, _, h => by
    cases h with
    | cons h1 h2 => exact .cons (Dt.to f d _ h1) (DtA.to f ds _ h2)
end
mutual
theorem Dt.dp {K : PySem.W.Frag} : ∀ (d : PyData) (v : V), Dt B H v d → Dp K H v d
  | .none, _, h => by cases h; exact .non
  | .bool b, _, h => by cases h; exact .bl b
  | .int i, _, h => by cases h; exact .int i
  | .str x, _, h => by cases h; exact .str x
  | .list ds, _, h => by
    cases h with
    | lst n hs ha => exact .lst (SqL.of hs) (DtA.dp ds _ ha)
  | .tuple ds, _, h => by
    cases h with
    | tup n hs ha => exact .tup (SqT.of hs) (DtA.dp ds _ ha)
  | .dict _, _, h => by cases h
theorem DtA.dp {K : PySem.W.Frag} : ∀ (ds : List PyData) (vs : List V), DtA B H vs ds → DpAll K H vs ds
  | [], _, h => by cases h; exact .nil
  | d :: ds, _, h => by
    cases h with
    | cons h1 h2 => exact .cons (Dt.dp d _ h1) (DtA.dp ds _ h2)
end
variable {d : PyData} {v : V} {ds : List PyData} {vs ws : List V}
theorem Dt.g (h : Dt B H v d) (g : Go B H H') : Dt B H' v d := Dt.to (fun a o n e => ⟨n, g.k a o n e⟩) d v h
theorem DtA.g (h : DtA B H vs ds) (g : Go B H H') : DtA B H' vs ds := DtA.to (fun a o n e => ⟨n, g.k a o n e⟩) ds vs h
theorem Dt.s (h : Dt B H v d) (s : Same H H') : Dt B H' v d := h.g (Go.of s)
theorem DtA.s (h : DtA B H vs ds) (s : Same H H') : DtA B H' vs ds := h.g (Go.of s)
/-- a new address may change, too -/
theorem Dt.fr (h : Dt B H v d) (e : H p = none) : Dt (p :: B) H v d := Dt.to (fun a o n q => ⟨fun z => by
  rcases List.mem_cons.mp z with y | y
  · rw [y, e] at q
    cases q
  · exact n y, q⟩) d v h
theorem DtA.fr (h : DtA B H vs ds) (e : H p = none) : DtA (p :: B) H vs ds := DtA.to (fun a o n q => ⟨fun z => by
  rcases List.mem_cons.mp z with y | y
  · rw [y, e] at q
    cases q
  · exact n y, q⟩) ds vs h
theorem Dt.un (h : Dt (p :: B) H v d) : Dt B H v d := Dt.to (fun a o n q => ⟨fun z => n (List.mem_cons_of_mem _ z), q⟩) d v h
theorem DtA.un (h : DtA (p :: B) H vs ds) : DtA B H vs ds := DtA.to (fun a o n q => ⟨fun z => n (List.mem_cons_of_mem _ z), q⟩) ds vs h
theorem Dt.sub (h : Dt B H v d) (s : ∀ a ∈ C, a ∈ B) : Dt C H v d := Dt.to (fun a o n q => ⟨fun z => n (s a z), q⟩) d v h
theorem DtA.sub (h : DtA B H vs ds) (s : ∀ a ∈ C, a ∈ B) : DtA C H vs ds := DtA.to (fun a o n q => ⟨fun z => n (s a z), q⟩) ds vs h
theorem Dt.dP {K : PySem.W.Frag} (h : Dt B H v d) : Dp K H v d := Dt.dp d v h
theorem DtA.len {vs : List V} : ∀ {ds : List PyData}, DtA B H vs ds → vs.length = ds.length := by
  induction vs with
  | nil => intro ds h; cases h; rfl
  | cons v vs ih => intro ds h; cases h with | cons h1 h2 => rw [List.length_cons, List.length_cons, ih h2]
theorem DtA.get {vs : List V} : ∀ {ds : List PyData} {i : Nat} {d : PyData}, DtA B H vs ds → ds[i]? = some d → ∃ v, vs[i]? = some v ∧ Dt B H v d := by
  induction vs with
  | nil => intro ds i d h e; cases h; simp at e
  | cons v vs ih =>
    intro ds i d h e
    cases h with
    | cons h1 h2 =>
      cases i with
      | zero => cases e; exact ⟨v, rfl, h1⟩
      | succ i => exact ih (i := i) h2 (by simpa using e)
theorem DtA.getV {vs : List V} : ∀ {ds : List PyData} {i : Nat} {v : V}, DtA B H vs ds → vs[i]? = some v → ∃ d, ds[i]? = some d ∧ Dt B H v d := by
  induction vs with
  | nil => intro ds i d h e; simp at e
  | cons v vs ih =>
    intro ds i d h e
    cases h with
    | cons h1 h2 =>
      cases i with
      | zero => cases e; exact ⟨_, rfl, h1⟩
      | succ i => exact ih (i := i) h2 (by simpa using e)
theorem DtA.app {vs ws : List V} : ∀ {ds es : List PyData}, DtA B H vs ds → DtA B H ws es → DtA B H (vs ++ ws) (ds ++ es) := by
  induction vs with
  | nil => intro ds es h h2; cases h; exact h2
  | cons v vs ih =>
    intro ds es h h2
    cases h with
    | cons h1 h3 => exact .cons h1 (ih h3 h2)
theorem DtA.one (h : Dt B H v d) : DtA B H [v] [d] := .cons h .nil
theorem DtA.ints : ∀ ns : List Int, DtA B H (ns.map V.int) (ns.map PyData.int)
  | [] => .nil
  | n :: ns => .cons (.int n) (DtA.ints ns)
theorem DtA.intsV : ∀ {ns : List Int} {vs : List V}, DtA B H vs (ns.map PyData.int) → vs = ns.map V.int
  | [], _, h => by cases h; rfl
  | n :: ns, _, h => by
    cases h with
    | cons h1 h2 =>
      cases h1
      rw [DtA.intsV h2]
      rfl
theorem DtA.blsV : ∀ {ns : List Bool} {vs : List V}, DtA B H vs (ns.map PyData.bool) → vs = ns.map V.bl
  | [], _, h => by cases h; rfl
  | n :: ns, _, h => by
    cases h with
    | cons h1 h2 =>
      cases h1
      rw [DtA.blsV h2]
      rfl
/-- a colour; a list of ints; a palette -/
def eC (ns : List Int) : PyData := .tuple (ns.map .int)
def eI (ns : List Int) : PyData := .list (ns.map .int)
def eP (cs : List (List Int)) : PyData := .list (cs.map eC)
theorem Dt.col {v : V} {ns : List Int} (h : Dt B H v (eC ns)) : ∃ a, v = .ref a ∧ a ∉ B ∧ H a = some (.tup (ns.map V.int)) := by
  cases h with
  | tup n hs ha =>
    have e := DtA.intsV ha
    subst e
    exact ⟨_, rfl, n, hs⟩
theorem Dt.ofCol {a : Addr} {ns : List Int} (n : a ∉ B) (h : H a = some (.tup (ns.map V.int))) : Dt B H (.ref a) (eC ns) := .tup n h (DtA.ints ns)
theorem Dt.ofInts {a : Addr} {ns : List Int} (n : a ∉ B) (h : H a = some (.lst (ns.map V.int))) : Dt B H (.ref a) (eI ns) := .lst n h (DtA.ints ns)
theorem Dt.ints {v : V} {ns : List Int} (h : Dt B H v (eI ns)) : ∃ a, v = .ref a ∧ a ∉ B ∧ H a = some (.lst (ns.map V.int)) := by
  cases h with
  | lst n hs ha =>
    have e := DtA.intsV ha
    subst e
    exact ⟨_, rfl, n, hs⟩
theorem Dt.tupI {v : V} {ds : List PyData} (h : Dt B H v (.tuple ds)) : ∃ a vs, v = .ref a ∧ a ∉ B ∧ H a = some (.tup vs) ∧ DtA B H vs ds := by
  cases h with
  | tup n hs ha => exact ⟨_, _, rfl, n, hs, ha⟩
theorem Dt.lstI {v : V} {ds : List PyData} (h : Dt B H v (.list ds)) : ∃ a vs, v = .ref a ∧ a ∉ B ∧ H a = some (.lst vs) ∧ DtA B H vs ds := by
  cases h with
  | lst n hs ha => exact ⟨_, _, rfl, n, hs, ha⟩
theorem Dt.pal {v : V} {cs : List (List Int)} (h : Dt B H v (eP cs)) : ∃ a vs, v = .ref a ∧ a ∉ B ∧ H a = some (.lst vs) ∧ DtA B H vs (cs.map eC) := Dt.lstI h
theorem Dt.intI {v : V} {i : Int} (h : Dt B H v (.int i)) : v = .int i := by
  cases h
  rfl
end
/-! ### the rules that speak of the written part, with it named -/
def rLenS (K : PySem.W.Frag) : List V → Hp → VK → Prop := fun xs H Q => ∃ p ys, xs = [.ref p] ∧ (SqL K H p ys ∨ SqT K H p ys) ∧ Q (.int ys.length) H
def rListOf (K : PySem.W.Frag) : List V → Hp → VK → Prop := fun xs H Q => ∃ p ys, xs = [.ref p] ∧ (SqL K H p ys ∨ SqT K H p ys) ∧ ∀ l, H l = none → Q (.ref l) (upd H l (.lst ys))
def rTupOf (K : PySem.W.Frag) : List V → Hp → VK → Prop := fun xs H Q => ∃ p ys, xs = [.ref p] ∧ ((SqL K H p ys ∧ ∀ l, H l = none → Q (.ref l) (upd H l (.tup ys))) ∨ (SqT K H p ys ∧ Q (.ref p) H))
section
variable (K : PySem.W.Frag) {X : Cx}
theorem ix_listK (h : X.K = K := by rfl) : IxR X (rIxL K) := h ▸ ix_list
theorem ix_tupK (h : X.K = K := by rfl) : IxR X (rIxT K) := h ▸ ix_tup
theorem sl_listK (h : X.K = K := by rfl) : SlR X (rSlL K) := h ▸ sl_list
theorem sl_tupAK (h : X.K = K := by rfl) : SlR X (rSlA K) := h ▸ sl_tupA
theorem op_catAK (h : X.K = K := by rfl) : OpR X (binaryOp .Add) (rCatA K) := h ▸ op_catA
theorem op_eqDK (hu : X.A.units + 64 < cLine) (h : X.K = K := by rfl) : OpR X (compareOp .Eq) (rEqD K) := h ▸ op_eqD hu
theorem op_neDK (hu : X.A.units + 64 < cLine) (h : X.K = K := by rfl) : OpR X (compareOp .NotEq) (rNeD K) := h ▸ op_neD hu
theorem len_K (h : X.K = K := by rfl) : CallR X (.builtin "len") (rLenS K) := h ▸ call_len_seq
theorem list_K (h : X.K = K := by rfl) : CallR X (.type "list") (rListOf K) := h ▸ call_list_of
theorem tuple_K (h : X.K = K := by rfl) : CallR X (.type "tuple") (rTupOf K) := h ▸ call_tuple_of
theorem cr_sumK (hc : X.calm = true) (h : X.K = K := by rfl) : CallR X (.builtin "sum") (rSum K) := h ▸ cr_sum hc
theorem cr_maxK (hc : X.calm = true) (h : X.K = K := by rfl) : CallR X (.builtin "max") (rMax K) := h ▸ cr_max hc
theorem cr_minK (hc : X.calm = true) (h : X.K = K := by rfl) : CallR X (.builtin "min") (rMin K) := h ▸ cr_min hc
theorem cr_anyK (hc : X.calm = true) (h : X.K = K := by rfl) : CallR X (.builtin "any") (rAny K) := h ▸ cr_any hc
theorem cr_allK (hc : X.calm = true) (h : X.K = K := by rfl) : CallR X (.builtin "all") (rAll K) := h ▸ cr_all hc
theorem call_isiK1 (h : X.K = K := by rfl) : CallR X (.builtin "isinstance") (rIsi K) := h ▸ call_isi
theorem call_isiTK (h : X.K = K := by rfl) : CallR X (.builtin "isinstance") (rIsiT K) := h ▸ call_isiT
theorem cr_sortedK (h : X.K = K := by rfl) : CallR X (.builtin "sorted") (rSortedPO K) := h ▸ cr_sortedPO
theorem mt_indexK (h : X.K = K := by rfl) : MtR X "list.index" (rIndex K) := h ▸ mt_index
theorem pi_listK {tg l : Expr} {tl : TE} (hl : PE X l tl) (h : X.K = K := by rfl) : PI X tg l (iList K tl) := h ▸ pi_list hl
theorem pg_tupK {pos : Pos} {es : List Expr} {kk : Nat} {t : TGs} {n : Nat} (hc : X.calm = true) (h : PGs X es t) (hn : (assignEach es X.env).length = n := by rfl) (hst : (assignEach es X.env).findIdx? (·.1) = none := by rfl) (h2 : X.K = K := by rfl) : PG X (.Tuple es kk pos) (gTup K n t) :=
  h2 ▸ pg_tup hc h hn hst
theorem pi_tupK {tg l : Expr} {tl : TE} (hl : PE X l tl) (h : X.K = K := by rfl) : PI X tg l (iTup K tl) := h ▸ pi_tup hl
end
/-! ### shapes -/
mutual
def wide : PyData → Bool
  | .none | .bool _ | .int _ | .str _ => true
  | .list xs | .tuple xs => decide (xs.length ≤ 100000) && wideAll xs
  | .dict _ => false
def wideAll : List PyData → Bool
  | [] => true
  | x :: xs => wide x && wideAll xs
end
def Sh (d : PyData) (k : Nat) : Prop := d.canLay0 = true ∧ d.depth ≤ k ∧ wide d = true
theorem sh_all : ∀ {ds : List PyData} {k : Nat}, (∀ d ∈ ds, Sh d k) → PyData.canLayAll0 ds = true ∧ PyData.depthAll ds ≤ k ∧ wideAll ds = true
  | [], _, _ => ⟨rfl, Nat.zero_le _, by rw [wideAll]⟩
  | d :: ds, k, h => by
    obtain ⟨h1, h2, h4⟩ := sh_all (ds := ds) (k := k) fun x hx => h x (List.mem_cons_of_mem _ hx)
    have h3 := h d (List.mem_cons_self ..)
    refine ⟨?_, ?_, ?_⟩
    · rw [PyData.canLayAll0, h1, h3.1]; rfl
    · rw [PyData.depthAll]
      exact Nat.max_le.mpr ⟨h3.2.1, h2⟩
    · rw [wideAll, h4, h3.2.2]; rfl
theorem sh_mem : ∀ {ds : List PyData} {k : Nat}, PyData.canLayAll0 ds = true → PyData.depthAll ds ≤ k → wideAll ds = true → ∀ d ∈ ds, Sh d k
  | [], _, _, _, _, _, h => nomatch h
  | d :: ds, k, h1, h2, h3, x, hx => by
    rw [PyData.canLayAll0] at h1
    rw [PyData.depthAll] at h2
    rw [wideAll] at h3
    have a := Bool.and_eq_true_iff.mp h1
    have b := Nat.max_le.mp h2
    have c := Bool.and_eq_true_iff.mp h3
    rcases List.mem_cons.mp hx with e | e
    · rw [e]; exact ⟨a.1, b.1, c.1⟩
    · exact sh_mem a.2 b.2 c.2 x e
theorem sh_tup {ds : List PyData} {k : Nat} (l : ds.length ≤ 100000) (h : ∀ d ∈ ds, Sh d k) : Sh (.tuple ds) (k + 1) := by
  obtain ⟨h1, h2, h3⟩ := sh_all h
  exact ⟨by rw [PyData.canLay0]; exact h1, by rw [PyData.depth]; omega, by rw [wide, h3, decide_eq_true l]; rfl⟩
theorem sh_lst {ds : List PyData} {k : Nat} (l : ds.length ≤ 100000) (h : ∀ d ∈ ds, Sh d k) : Sh (.list ds) (k + 1) := by
  obtain ⟨h1, h2, h3⟩ := sh_all h
  exact ⟨by rw [PyData.canLay0]; exact h1, by rw [PyData.depth]; omega, by rw [wide, h3, decide_eq_true l]; rfl⟩
theorem sh_int (i : Int) (k : Nat) : Sh (.int i) k := ⟨rfl, by rw [PyData.depth]; omega, by rw [wide]⟩
theorem sh_bool (i : Bool) (k : Nat) : Sh (.bool i) k := ⟨rfl, by rw [PyData.depth]; omega, by rw [wide]⟩
theorem sh_none (k : Nat) : Sh .none k := ⟨rfl, by rw [PyData.depth]; omega, by rw [wide]⟩
theorem sh_eC {ns : List Int} (l : ns.length ≤ 100000) : Sh (eC ns) 1 := sh_tup (by simpa using l) fun d hd => by
  obtain ⟨n, _, rfl⟩ := List.mem_map.mp hd
  exact sh_int n 0
theorem sh_eI {ns : List Int} (l : ns.length ≤ 100000) : Sh (eI ns) 1 := sh_lst (by simpa using l) fun d hd => by
  obtain ⟨n, _, rfl⟩ := List.mem_map.mp hd
  exact sh_int n 0
theorem sh_eP {cs : List (List Int)} (l : cs.length ≤ 100000) (h : ∀ c ∈ cs, c.length ≤ 100000) : Sh (eP cs) 2 := sh_lst (by simpa using l) fun d hd => by
  obtain ⟨n, m, rfl⟩ := List.mem_map.mp hd
  exact sh_eC (h n m)
theorem Sh.mono {d : PyData} {j k : Nat} (h : Sh d j) (l : j ≤ k) : Sh d k := ⟨h.1, Nat.le_trans h.2.1 l, h.2.2⟩
theorem Sh.sh {d : PyData} {k : Nat} (h : Sh d k) (l : k ≤ 64) : SeqAt.shaped d = true := by
  unfold SeqAt.shaped
  rw [h.1, decide_eq_true (Nat.le_trans h.2.1 l)]
  rfl
theorem Sh.tupI {ds : List PyData} {k : Nat} (h : Sh (.tuple ds) k) : ∃ j, k = j + 1 ∧ (∀ d ∈ ds, Sh d j) ∧ ds.length ≤ 100000 := by
  obtain ⟨h1, h2, h3⟩ := h
  rw [PyData.canLay0] at h1
  rw [PyData.depth] at h2
  rw [wide] at h3
  have c := Bool.and_eq_true_iff.mp h3
  exact ⟨k - 1, by omega, sh_mem h1 (by omega) c.2, of_decide_eq_true c.1⟩
theorem Sh.lstI {ds : List PyData} {k : Nat} (h : Sh (.list ds) k) : ∃ j, k = j + 1 ∧ (∀ d ∈ ds, Sh d j) ∧ ds.length ≤ 100000 := by
  obtain ⟨h1, h2, h3⟩ := h
  rw [PyData.canLay0] at h1
  rw [PyData.depth] at h2
  rw [wide] at h3
  have c := Bool.and_eq_true_iff.mp h3
  exact ⟨k - 1, by omega, sh_mem h1 (by omega) c.2, of_decide_eq_true c.1⟩
/-! ### isinstance -/
def tyn : PyData → String
  | .none => "NoneType" | .bool _ => "bool" | .int _ => "int" | .str _ => "str" | .list _ => "list" | .tuple _ => "tuple" | .dict _ => "dict"
theorem Dt.ty {K : PySem.W.Frag} {B : List Addr} {H : Hp} {v : V} {d : PyData} (h : Dt B H v d) : TyX K H v (.type (tyn d)) := by
  cases h with
  | non => exact .base .non
  | bl b => exact .base (.bl b)
  | int i => exact .base (.int i)
  | str x => exact .base (.str x)
  | lst n hs ha => exact .base (.lst hs)
  | tup n hs ha => exact .base (.tup hs)
theorem r_isi {K : PySem.W.Frag} {H : Hp} {Q : VK} {x : V} {t n : String} {b : Bool} (h : TyX K H x (.type t)) (e : kitB t n = some b) (q : Q (.bl b) H) : rIsi K [x, .ty n] H Q := ⟨x, .ty n, _, _, b, rfl, .ty n, h, kit_ty e, q⟩
theorem iteD {c A B : Prop} [Decidable c] (hc : c) (h : A) : if decide c = true then A else B := by
  rw [if_pos (decide_eq_true hc)]
  exact h
theorem iteE {A B : Prop} {c : Bool} (hc : c = true) (h : A) : if c = true then A else B := by
  rw [if_pos hc]
  exact h
theorem iteN {A B : Prop} {c : Bool} (hc : c = false) (h : B) : if c = true then A else B := by
  rw [hc, if_neg Bool.false_ne_true]
  exact h
/-! ### comprehensions -/
theorem lc_yes {te : TE} {σ : L2.St} {H : Hp} {Qy : VK} {N : Hp → Prop} (h : te σ H Qy) : tYes σ H (fun b H3 => if b = true then te σ H3 Qy else N H3) := by
  show if true = true then te σ H Qy else N H
  rw [if_pos rfl]
  exact h
theorem walk_zipT {K : PySem.W.Frag} {a b : Addr} {xs ys : List V} {n : Nat} (hn : n = min xs.length ys.length) : Walk (RZ.ItzT K a b) n (fun H => SqT K H a xs ∧ SqT K H b ys) (YPair (fun i => xs[i]?) (fun i => ys[i]?)) := by
  subst hn
  refine ⟨fun i _ hi q => ?_, fun _ q => ⟨xs, ys, q.1, q.2, by omega⟩, fun i H v H' _ q y => ?_⟩
  · have h1 : i < xs.length := by omega
    have h2 : i < ys.length := by omega
    exact ⟨xs, ys, xs[i], ys[i], q.1, q.2, by simp [h1], by simp [h2]⟩
  · obtain ⟨T, x, z, h1, h2, h3, h4, h5⟩ := y
    exact ⟨T, x, z, h1, h2, h3, h4 xs q.1, h5 ys q.2⟩
theorem sz {n : Nat} (h : n ≤ 100000) : n < sizeLine := Nat.lt_of_le_of_lt h (by decide)
/-- a comprehension that leaves all as it was: what it makes, item by item -/
theorem lc_pure {J : It} {n : Nat} {G : Hp → Prop} {Y : Nat → Hp → V → Hp → Prop} (w : Walk J n G Y) {g : TG} {tt : TT} {te : TE} {vs : List Nat} {σ : L2.St} {H1 : Hp} {D : Addr} {Qd : Hp → Prop} {B : List Addr}
    (hD : H1 D = none) (hB : Bk B H1) (hG : ∀ H', Same H1 H' → G H') (hn : n ≤ 100000) (e : Nat → Option PyData)
    (hs : ∀ (i : Nat) (x : V) (H' H'' : Hp) (Ny : V → Hp → Prop) (Nn : Hp → Prop), i < n → Same H1 H' → Bk (D :: B) H' → Y i H' x H'' → (∀ y H4 d, e i = some d → Same H' H4 → Dt (D :: B) H4 y d → Ny y H4) → (∀ H3, e i = none → Same H' H3 → Nn H3) →
      g x (wipe σ vs) H'' fun σ2 H2 => wipe σ2 vs = wipe σ vs ∧ tt σ2 H2 fun b H3 => if b = true then te σ2 H3 Ny else Nn H3)
    (hd : ∀ (H' : Hp) (ws : List V), Same H1 H' → H' D = some (.lst ws) → DtA (D :: B) H' ws ((List.range n).filterMap e) → Qd H') :
    ∃ W : Nat → Nat → Hp → Prop, (∃ m, W 0 m (upd H1 D (.lst []))) ∧ ∀ i m H, W i m H →
      (J.stop i H ∧ Qd H) ∨ (J.go i H ∧ ∃ Nx : Hp → Prop, (∀ H', Nx H' → ∃ m', m' < m ∧ W (i + 1) m' H') ∧ ∀ x H', J.yld i H x H' → g x (wipe σ vs) H' fun σ2 H2 => wipe σ2 vs = wipe σ vs ∧ tt σ2 H2 fun b H3 =>
        if b = true then te σ2 H3 fun y H4 => ∃ acc, H4 D = some (.lst acc) ∧ acc.length < sizeLine ∧ Nx (upd H4 D (.lst (acc ++ [y]))) else Nx H3) := by
  refine lc_it w (fun i H' => Same H1 H' ∧ ∃ ws, H' D = some (.lst ws) ∧ DtA (D :: B) H' ws ((List.range i).filterMap e) ∧ ws.length ≤ i) ⟨sm_new hD, [], upd_same, .nil, Nat.le_refl _⟩ (fun i H' _ h => hG H' h.1) (fun i x H' H'' hi h y => ?_) (fun H' h => ?_)
  · obtain ⟨s1, ws, eD, hA, hl⟩ := h
    have hb : Bk (D :: B) H' := (hB.go (Go.of (B := B) s1)).cons eD
    refine hs i x H' H'' _ _ hi s1 hb y (fun y H4 d ed s4 hy => ?_) (fun H3 ed s3 => ?_)
    · refine ⟨ws, s4 _ _ eD, sz (by omega), sm_mut (s1.trans s4) hD, ws ++ [y], upd_same, ?_, by simp; omega⟩
      rw [List.range_succ, List.filterMap_append]
      have g4 : Go (D :: B) H4 (upd H4 D (.lst (ws ++ [y]))) := Go.refl.at (List.mem_cons_self ..)
      refine DtA.app ((hA.s s4).g g4) ?_
      simp only [List.filterMap_cons, List.filterMap_nil, ed]
      exact .one (hy.g g4)
    · refine ⟨s1.trans s3, ws, s3 _ _ eD, ?_, by omega⟩
      rw [List.range_succ, List.filterMap_append]
      simp only [List.filterMap_cons, List.filterMap_nil, ed, List.append_nil]
      exact hA.s s3
  · obtain ⟨s1, ws, eD, hA, hl⟩ := h
    exact hd H' ws s1 eD hA
theorem fm_take {α : Type} (ys : List α) : ∀ n, (List.range n).filterMap (fun i => ys[i]?) = ys.take n
  | 0 => by simp
  | n + 1 => by
    rw [List.range_succ, List.filterMap_append, fm_take ys n, List.take_add_one]
    cases h : ys[n]? <;> simp [h]
theorem fm_all {α : Type} {ys : List α} {n : Nat} (h : ys.length = n) : (List.range n).filterMap (fun i => ys[i]?) = ys := by
  rw [fm_take, ← h, List.take_length]
theorem at0 {α : Type} {xs : List α} {i : Int} {v : α} (h : 0 ≤ i) (e : xs[i.toNat]? = some v) : atI xs i = some v := by
  have := atI_nat e
  rw [Int.toNat_of_nonneg h] at this
  exact this
theorem bit_ok (b : Bool) : (-(2 ^ 64) : Int) < (if b = true then 1 else 0) ∧ (if b = true then 1 else 0 : Int) < 2 ^ 64 := by cases b <;> decide
theorem md {j : Int} (h : 0 < j) : 0 < j := h
theorem at_in {xs : List V} {r : Int} (h0 : 0 ≤ r) (h1 : r < xs.length) : ∃ v, v ∈ xs ∧ atI xs r = some v := by
  have h : r.toNat < xs.length := by omega
  exact ⟨xs[r.toNat], List.getElem_mem h, at0 h0 (List.getElem?_eq_getElem h)⟩
theorem at_int {ns : List Int} {r : Int} (h0 : 0 ≤ r) (h1 : r < ns.length) : ∃ z, z ∈ ns ∧ atI (ns.map V.int) r = some (.int z) := by
  have h : r.toNat < ns.length := by omega
  exact ⟨ns[r.toNat], List.getElem_mem h, at0 h0 (by rw [List.getElem?_map, List.getElem?_eq_getElem h]; rfl)⟩
theorem at2 (x y : V) (b : Bool) : atI [x, y] (if b = true then 1 else 0) = some (if b = true then y else x) := by cases b <;> rfl
/-- numbers within bounds -/
def cIn (lo hi : Int) (ns : List Int) : Prop := ∀ x ∈ ns, lo ≤ x ∧ x ≤ hi
theorem cIn.app {lo hi x : Int} {ns : List Int} (h : cIn lo hi ns) (h1 : lo ≤ x) (h2 : x ≤ hi) : cIn lo hi (ns ++ [x]) := fun y hy => by
  rcases List.mem_append.mp hy with q | q
  · exact h y q
  · rw [List.mem_singleton.mp q]
    exact ⟨h1, h2⟩
theorem cIn.nil {lo hi : Int} : cIn lo hi [] := fun _ h => nomatch h
theorem cIn.mono {lo hi lo' hi' : Int} {ns : List Int} (h : cIn lo hi ns) (h1 : lo' ≤ lo) (h2 : hi ≤ hi') : cIn lo' hi' ns := fun x hx => by
  have := h x hx
  omega
/-- a comprehension of drawn numbers -/
theorem lc_ints {J : It} {n : Nat} {G : Hp → Prop} {Y : Nat → Hp → V → Hp → Prop} (w : Walk J n G Y) {g : TG} {tt : TT} {te : TE} {vs : List Nat} {σ : L2.St} {H1 : Hp} {D L : Addr} {Qd : Hp → Prop} (N u : Nat) (lo hi : Int)
    (hD : H1 D = none) (hL : Lf L H1 N) (hG : ∀ H', Go [L] H1 H' → G H') (hn : n ≤ 100000)
    (hs : ∀ (i : Nat) (x : V) (H' H'' : Hp) (Ny : V → Hp → Prop) (Nn : Hp → Prop), i < n → Go [L] H1 H' → Lf L H' (N + u * i) → Y i H' x H'' → (∀ (z : Int) H4, Go [L] H' H4 → Lf L H4 (N + u * i + u) → lo ≤ z → z ≤ hi → Ny (.int z) H4) →
      g x (wipe σ vs) H'' fun σ2 H2 => wipe σ2 vs = wipe σ vs ∧ tt σ2 H2 fun b H3 => if b = true then te σ2 H3 Ny else Nn H3)
    (hd : ∀ (H' : Hp) (ns : List Int), Go [L] H1 H' → Lf L H' (N + u * n) → H' D = some (.lst (ns.map V.int)) → ns.length = n → cIn lo hi ns → Qd H') :
    ∃ W : Nat → Nat → Hp → Prop, (∃ m, W 0 m (upd H1 D (.lst []))) ∧ ∀ i m H, W i m H →
      (J.stop i H ∧ Qd H) ∨ (J.go i H ∧ ∃ Nx : Hp → Prop, (∀ H', Nx H' → ∃ m', m' < m ∧ W (i + 1) m' H') ∧ ∀ x H', J.yld i H x H' → g x (wipe σ vs) H' fun σ2 H2 => wipe σ2 vs = wipe σ vs ∧ tt σ2 H2 fun b H3 =>
        if b = true then te σ2 H3 fun y H4 => ∃ acc, H4 D = some (.lst acc) ∧ acc.length < sizeLine ∧ Nx (upd H4 D (.lst (acc ++ [y]))) else Nx H3) := by
  have nD : D ∉ [L] := hL.bk.ne hD
  refine lc_it w (fun i H' => Go [L] H1 H' ∧ Lf L H' (N + u * i) ∧ ∃ ns : List Int, H' D = some (.lst (ns.map V.int)) ∧ ns.length = i ∧ cIn lo hi ns) ⟨Go.new hD, hL.new hD, [], upd_same, rfl, cIn.nil⟩ (fun i H' _ h => hG H' h.1) (fun i x H' H'' hi h y => ?_) (fun H' h => ?_)
  · obtain ⟨g1, l1, ns, eD, en, cn⟩ := h
    refine hs i x H' H'' _ _ hi g1 l1 y (fun z H4 g4 l4 z0 z1 => ?_)
    refine ⟨ns.map V.int, g4.k D _ nD eD, sz (by rw [List.length_map]; omega), (g1.trans g4).mut hD, (l4.up (hL.ne hD)).mono (by rw [Nat.mul_succ]; omega), ns ++ [z], ?_, by simp; omega, cn.app z0 z1⟩
    rw [upd_same, List.map_append]
    rfl
  · obtain ⟨g1, l1, ns, eD, en, cn⟩ := h
    exact hd H' ns g1 l1 eD en cn
theorem mat {a : List Int} {i : Nat} {x : V} (h : i < a.length) (e : (a.map V.int)[i]? = some x) : x = .int a[i] := by
  rw [List.getElem?_map, List.getElem?_eq_getElem h] at e
  exact (Option.some.inj e).symm
end Z

set_option Elab.async false
set_option linter.all false
set_option maxRecDepth 100000
namespace Z
open PySem PySem.Spec PyProof.Rows L2
open PySem.W (dataLt minD alike alikeAll dataLt_tuple dataLt_all_yes dataLt_all_no dataLt_int min_list_data readsAll_at reads_keeps AlikeAll)
/-! ### the least of pairs -/
def enc (p : Int × Int) : PyData := eC [p.1, p.2]
theorem enc_inj {p q : Int × Int} (h : enc p = enc q) : p = q := by
  have h1 : [PyData.int p.1, PyData.int p.2] = [PyData.int q.1, PyData.int q.2] := by
    unfold enc eC at h
    exact PyData.tuple.inj h
  have h2 := (List.cons.inj h1)
  have h3 := (List.cons.inj h2.2)
  exact Prod.ext (PyData.int.inj h2.1) (PyData.int.inj h3.1)
theorem lt_enc (p q : Int × Int) : dataLt (enc p) (enc q) = SrtO.lexB p q := by
  unfold enc eC
  rw [dataLt_tuple]
  simp only [List.map_cons, List.map_nil]
  unfold SrtO.lexB
  by_cases h : p.1 = q.1
  · rw [if_pos h, dataLt_all_yes (by rfl) (by simp [PyData.eqv, h])]
    by_cases h2 : p.2 = q.2
    · rw [dataLt_all_yes (by rfl) (by simp [PyData.eqv, h2]), decide_eq_false (by omega)]
      rfl
    · rw [dataLt_all_no (by rfl) (by simp [PyData.eqv, h2]), dataLt_int]
  · rw [if_neg h, dataLt_all_no (by rfl) (by simp [PyData.eqv, h]), dataLt_int]
def minP (p : Int × Int) (ps : List (Int × Int)) : Int × Int := ps.foldl (fun a y => if SrtO.lexB y a then y else a) p
theorem minD_enc (p : Int × Int) (ps : List (Int × Int)) : minD (enc p) (ps.map enc) = enc (minP p ps) := by
  unfold minD minP
  induction ps generalizing p with
  | nil => rfl
  | cons x r ih =>
    rw [List.map_cons, List.foldl_cons, List.foldl_cons, lt_enc]
    by_cases h : SrtO.lexB x p = true
    · rw [if_pos h, if_pos h]; exact ih x
    · rw [if_neg h, if_neg h]; exact ih p
theorem minP_le (p : Int × Int) (ps : List (Int × Int)) : ∀ q ∈ p :: ps, SrtO.lexB q (minP p ps) = false := by
  unfold minP
  induction ps generalizing p with
  | nil =>
    intro q hq
    rw [List.mem_singleton.mp hq]
    exact SrtO.lexB_no.mpr (by simp only [List.foldl_nil]; omega)
  | cons x r ih =>
    intro q hq
    rw [List.foldl_cons]
    by_cases h : SrtO.lexB x p = true
    · rw [if_pos h]
      rcases List.mem_cons.mp hq with e | e
      · have i1 := SrtO.lexB_no.mp (ih x x (List.mem_cons_self ..))
        have i2 := SrtO.lexB_iff.mp h
        rw [e]
        exact SrtO.lexB_no.mpr (by omega)
      · exact ih x q e
    · rw [if_neg h]
      rcases List.mem_cons.mp hq with e | e
      · exact ih p q (by rw [e]; exact List.mem_cons_self ..)
      · rcases List.mem_cons.mp e with e | e
        · have i1 := SrtO.lexB_no.mp (ih p p (List.mem_cons_self ..))
          have i2 := SrtO.lexB_no.mp (Bool.eq_false_iff.mpr h)
          rw [e]
          exact SrtO.lexB_no.mpr (by omega)
        · exact ih p q (List.mem_cons_of_mem _ e)
theorem alike_enc (p q : Int × Int) : alike (enc p) (enc q) = true := by
  unfold enc eC
  simp [alike, alikeAll]
theorem dep_enc : ∀ ps : List (Int × Int), PyData.depthAll (ps.map enc) ≤ 1
  | [] => Nat.zero_le _
  | p :: ps => by
    rw [List.map_cons, PyData.depthAll]
    exact Nat.max_le.mpr ⟨(sh_eC (ns := [p.1, p.2]) (by simp)).2.1, dep_enc ps⟩
/-- min(xs), xs a list of pairs of ints: one of the least -/
def rMinP (K : PySem.W.Frag) : List V → Hp → VK → Prop := fun vs H Q => ∃ (a : Addr) (xs : List V) (p : Int × Int) (ps : List (Int × Int)), vs = [V.ref a] ∧ SqL K H a xs ∧ DpAll K H xs ((p :: ps).map enc) ∧
  ∀ (i : Nat) (x : V), xs[i]? = some x → (p :: ps)[i]? = some (minP p ps) → Q x H
theorem cr_minP (K : PySem.W.Frag) {X : Cx} (hc : X.calm = true) (hu : X.A.units + 64 < cLine) (hK : X.K = K := by rfl) : CallR X (.builtin "min") (rMinP K) := by
  subst hK
  intro pins s σ H vs us Q I r h
  obtain ⟨a, xs, p, ps, rfl, hs, hd, q⟩ := h
  obtain ⟨its, rv, hl, hz⟩ := I.list hs
  obtain ⟨u, rfl, ru⟩ := vals1 r
  obtain rfl : u = Value.ref a := ru
  obtain ⟨as, hr⟩ := Dp.readsAll I _ xs its hd rv
  rw [List.map_cons] at hr
  have hdep := dep_enc (p :: ps)
  rw [List.map_cons] at hdep
  refine min_list_data (x := enc p) (xs := ps.map enc) (I.ok.hd hc) hl.isList (by simpa using hr) ⟨fun x hx y hy => ?_, fun x hx => ?_⟩ (by omega) fun i v h' tk bs hv rd hk => ?_
  · rw [← List.map_cons] at hx hy
    obtain ⟨x, _, rfl⟩ := List.mem_map.mp hx
    obtain ⟨y, _, rfl⟩ := List.mem_map.mp hy
    exact alike_enc x y
  · rw [← List.map_cons] at hx
    obtain ⟨x, _, rfl⟩ := List.mem_map.mp hx
    intro z
    unfold enc eC at z
    cases z
  · have hv2 : its[i]? = some v := by simpa using hv
    have hi : i < its.length := (List.getElem?_eq_some_iff.mp hv2).1
    have hi2 : i < xs.length := by rw [rv.length]; exact hi
    obtain ⟨w, hw, rw1⟩ := rv.get (List.getElem?_eq_getElem hi2)
    have ew : w = v := Option.some.inj (hw.symm.trans hv2)
    subst ew
    obtain ⟨cs, r1, l1, m1, _⟩ := readsAll_at hr i w hv2
    rw [← List.map_cons] at l1 m1 r1
    rw [List.length_map] at l1
    have eg : ((p :: ps).map enc).getD i .none = enc (p :: ps)[i] := by
      rw [List.getD_eq_getElem?_getD, List.getElem?_map, List.getElem?_eq_getElem l1]
      rfl
    rw [eg] at r1
    rw [minD_enc] at rd
    have ee := SeqAt.Reads.unique _ _ _ _ _ (sh_eC (ns := [((p :: ps)[i]).1, ((p :: ps)[i]).2]) (by simp)).1 (reads_keeps hk r1) rd
    have ep : (p :: ps)[i] = minP p ps := enc_inj ee
    exact ⟨xs[i], H, I.kept (t' := tk) hk, rw1, q i _ (List.getElem?_eq_getElem hi2) (by rw [List.getElem?_eq_getElem l1, ep])⟩
theorem DtA.rev {B : List Addr} {H : Hp} : ∀ {vs : List V} {ds : List PyData}, DtA B H vs ds → DtA B H vs.reverse ds.reverse
  | [], _, h => by
    cases h
    exact .nil
  | v :: vs, _, h => by
    cases h with
    | cons h1 h2 =>
      rw [List.reverse_cons, List.reverse_cons]
      exact (DtA.rev h2).app (.one h1)
theorem DtA.dP {K : PySem.W.Frag} {B : List Addr} {H : Hp} {vs : List V} {ds : List PyData} (h : DtA B H vs ds) : DpAll K H vs ds := DtA.dp ds vs h
/-- a comprehension of drawn data -/
theorem lc_dtsB {J : It} {n : Nat} {G : Hp → Prop} {Y : Nat → Hp → V → Hp → Prop} (w : Walk J n G Y) {g : TG} {tt : TT} {te : TE} {vs : List Nat} {σ : L2.St} {H1 : Hp} {D L : Addr} {B : List Addr} {Qd : Hp → Prop} (N u : Nat) (Pd : PyData → Prop)
    (hD : H1 D = none) (hL : Lf L H1 N) (LB : L ∈ B) (hB : Bk B H1) (hG : ∀ H', Go [L] H1 H' → G H') (hn : n ≤ 100000)
    (hs : ∀ (i : Nat) (x : V) (H' H'' : Hp) (Ny : V → Hp → Prop) (Nn : Hp → Prop), i < n → Go [L] H1 H' → Lf L H' (N + u * i) → Bk (D :: B) H' → Y i H' x H'' → (∀ (v : V) (d : PyData) H4, Go [L] H' H4 → Lf L H4 (N + u * i + u) → Dt (D :: B) H4 v d → Pd d → Ny v H4) →
      g x (wipe σ vs) H'' fun σ2 H2 => wipe σ2 vs = wipe σ vs ∧ tt σ2 H2 fun b H3 => if b = true then te σ2 H3 Ny else Nn H3)
    (hd : ∀ (H' : Hp) (ws : List V) (ds : List PyData), Go [L] H1 H' → Lf L H' (N + u * n) → H' D = some (.lst ws) → DtA (D :: B) H' ws ds → ds.length = n → (∀ d ∈ ds, Pd d) → Qd H') :
    ∃ W : Nat → Nat → Hp → Prop, (∃ m, W 0 m (upd H1 D (.lst []))) ∧ ∀ i m H, W i m H →
      (J.stop i H ∧ Qd H) ∨ (J.go i H ∧ ∃ Nx : Hp → Prop, (∀ H', Nx H' → ∃ m', m' < m ∧ W (i + 1) m' H') ∧ ∀ x H', J.yld i H x H' → g x (wipe σ vs) H' fun σ2 H2 => wipe σ2 vs = wipe σ vs ∧ tt σ2 H2 fun b H3 =>
        if b = true then te σ2 H3 fun y H4 => ∃ acc, H4 D = some (.lst acc) ∧ acc.length < sizeLine ∧ Nx (upd H4 D (.lst (acc ++ [y]))) else Nx H3) := by
  have nD : D ∉ [L] := hL.bk.ne hD
  refine lc_it w (fun i H' => Go [L] H1 H' ∧ Lf L H' (N + u * i) ∧ ∃ ws ds, H' D = some (.lst ws) ∧ DtA (D :: B) H' ws ds ∧ ds.length = i ∧ ∀ d ∈ ds, Pd d) ⟨Go.new hD, hL.new hD, [], [], upd_same, .nil, rfl, fun _ h => (nomatch h)⟩ (fun i H' _ h => hG H' h.1) (fun i x H' H'' hi h y => ?_) (fun H' h => ?_)
  · obtain ⟨g1, l1, ws, ds, eD, hA, en, hp⟩ := h
    refine hs i x H' H'' _ _ hi g1 l1 ((hB.go g1).cons eD) y (fun z d H4 g4 l4 dz pd => ?_)
    have gm : Go (D :: B) H4 (upd H4 D (.lst (ws ++ [z]))) := Go.refl.at (List.mem_cons_self ..)
    have lw := hA.len
    refine ⟨ws, g4.k D _ nD eD, sz (by omega), (g1.trans g4).mut hD, (l4.up (hL.ne hD)).mono (by rw [Nat.mul_succ]; omega), ws ++ [z], ds ++ [d], upd_same, ((hA.g (g4.w1 (List.mem_cons_of_mem _ LB))).g gm).app (.one (dz.g gm)), by simp; omega, fun e he => ?_⟩
    rcases List.mem_append.mp he with he | he
    · exact hp e he
    · rw [List.mem_singleton.mp he]
      exact pd
  · obtain ⟨g1, l1, ws, ds, eD, hA, en, hp⟩ := h
    exact hd H' ws ds g1 l1 eD hA en hp
/-- a part of a list -/
def cutL {α : Type} (xs : List α) (lo hi : Option Int) : List α := (xs.drop (HT.sIx xs.length 0 lo)).take (HT.sIx xs.length xs.length hi - HT.sIx xs.length 0 lo)
theorem cutL_sub {α : Type} {xs : List α} {lo hi : Option Int} {x : α} (h : x ∈ cutL xs lo hi) : x ∈ xs := List.mem_of_mem_drop (List.mem_of_mem_take h)
theorem cutL_len {α : Type} (xs : List α) (lo hi : Option Int) : (cutL xs lo hi).length ≤ xs.length := by
  unfold cutL
  rw [List.length_take, List.length_drop]
  omega
theorem DtA.drop {B : List Addr} {H : Hp} : ∀ (n : Nat) {vs : List V} {ds : List PyData}, DtA B H vs ds → DtA B H (vs.drop n) (ds.drop n)
  | 0, _, _, h => h
  | n + 1, [], _, h => by cases h; exact .nil
  | n + 1, v :: vs, _, h => by
    cases h with
    | cons h1 h2 => exact DtA.drop n h2
theorem DtA.take {B : List Addr} {H : Hp} : ∀ (n : Nat) {vs : List V} {ds : List PyData}, DtA B H vs ds → DtA B H (vs.take n) (ds.take n)
  | 0, _, _, h => .nil
  | n + 1, [], _, h => by cases h; exact .nil
  | n + 1, v :: vs, _, h => by
    cases h with
    | cons h1 h2 => exact .cons h1 (DtA.take n h2)
theorem DtA.cut {B : List Addr} {H : Hp} {vs : List V} {ds : List PyData} (h : DtA B H vs ds) (lo hi : Option Int) : DtA B H (cutV vs lo hi) (cutL ds lo hi) := by
  unfold cutV cutL
  rw [h.len]
  exact DtA.take _ (DtA.drop _ h)
theorem slice_dt {K : PySem.W.Frag} {B : List Addr} {H : Hp} {x : V} {ds : List PyData} {lo hi : Option Int} {Q : VK} (hx : Dt B H x (.tuple ds)) (hB : Bk B H) (q : ∀ v H', Same H H' → Dt B H' v (.tuple (cutL ds lo hi)) → Q v H') : rSlA K x lo hi H Q := by
  obtain ⟨a, vs, rfl, na, ha, hA⟩ := hx.tupI
  refine ⟨a, vs, rfl, SqT.of ha, fun h => q _ H (Same.refl _) ?_, fun _ p hp => q _ _ (sm_new hp) (.tup (hB.ne hp) upd_same ((hA.cut lo hi).s (sm_new hp)))⟩
  have e : cutL ds lo hi = ds := by
    unfold cutL
    rw [← hA.len, h.1, h.2, List.drop_zero, Nat.sub_zero, hA.len, List.take_length]
  rw [e]
  exact hx
theorem cat_dt {K : PySem.W.Frag} {B : List Addr} {H : Hp} {x y : V} {xs ys : List PyData} {Q : VK} (hx : Dt B H x (.tuple xs)) (hy : Dt B H y (.tuple ys)) (hB : Bk B H) (l : xs.length + ys.length ≤ 100000) (q : ∀ v H', Same H H' → Dt B H' v (.tuple (xs ++ ys)) → Q v H') : rCatA K x y H Q := by
  obtain ⟨a, vs, rfl, na, ha, hA⟩ := hx.tupI
  obtain ⟨b, ws, rfl, nb, hb, hC⟩ := hy.tupI
  have l1 := hA.len
  have l2 := hC.len
  refine ⟨a, b, vs, ws, rfl, rfl, SqT.of ha, SqT.of hb, Nat.le_of_lt (sz (by omega)), fun e => ?_, fun _ e => ?_, fun _ _ p hp => q _ _ (sm_new hp) (.tup (hB.ne hp) upd_same ((hA.app hC).s (sm_new hp)))⟩
  · subst e
    have : xs = [] := List.eq_nil_of_length_eq_zero (by rw [← l1]; rfl)
    subst this
    exact q _ H (Same.refl _) hy
  · subst e
    have : ys = [] := List.eq_nil_of_length_eq_zero (by rw [← l2]; rfl)
    subst this
    exact q _ H (Same.refl _) (by rw [List.append_nil]; exact hx)
theorem sh_cut {ds : List PyData} {k : Nat} {lo hi : Option Int} (h : Sh (.tuple ds) k) : Sh (.tuple (cutL ds lo hi)) k := by
  obtain ⟨j, rfl, h1, h2⟩ := h.tupI
  exact sh_tup (Nat.le_trans (cutL_len _ _ _) h2) fun d hd => h1 d (cutL_sub hd)
theorem sh_cat {xs ys : List PyData} {k : Nat} (h1 : Sh (.tuple xs) k) (h2 : Sh (.tuple ys) k) (l : xs.length + ys.length ≤ 100000) : Sh (.tuple (xs ++ ys)) k := by
  obtain ⟨j, rfl, a1, a2⟩ := h1.tupI
  obtain ⟨j', e, b1, b2⟩ := h2.tupI
  have : j = j' := by omega
  subst this
  exact sh_tup (by simpa using l) fun d hd => by
    rcases List.mem_append.mp hd with h | h
    · exact a1 d h
    · exact b1 d h
/-! ### a comprehension in another one -/
def FrAll (sc : Scope) : List Str → Prop
  | [] => True
  | x :: xs => (sc.names.lookup x = some .cell ∨ sc.names.lookup x = some .free) ∧ FrAll sc xs
theorem FrAll.mem {sc : Scope} : ∀ {xs : List Str}, FrAll sc xs → ∀ x ∈ xs, sc.names.lookup x = some .cell ∨ sc.names.lookup x = some .free
  | [], _, _, h => nomatch h
  | y :: ys, h, x, hx => by
    rcases List.mem_cons.mp hx with e | e
    · rw [e]; exact h.1
    · exact FrAll.mem h.2 x e
def frC (fr : List Str) (scope : Scope) : Bool := scope.names.all fun y => match y.2 with
  | .free => decide (y.1 ∈ fr)
  | _ => true
theorem blkOk_in {N : List Str} {sc scope : Scope} {own : List (Str × Nat)} (fr : List Str) (h : blkC N { kind := .function, names := fr.map fun x => (x, .free), isGenerator := false, isCoroutine := false } scope own = true) (h2 : frC fr scope = true) (hf : FrAll sc fr) : BlkOk N sc scope own := by
  have b := blkOk_by h
  refine ⟨b.kind, b.uniq, b.ix, fun y hy e => ?_, b.own⟩
  have := List.all_eq_true.mp h2 y hy
  rw [e] at this
  exact hf.mem _ (of_decide_eq_true this)
end Z

set_option Elab.async false
set_option linter.all false
set_option maxRecDepth 100000
set_option maxHeartbeats 400000
namespace Z
open PySem PySem.Spec PyProof.Rows L2
/-! ### '9' * n, and its number -/
def nines (n : Nat) : Str := ⟨(List.replicate n (Str.ofString "9").cps).foldl (· ++ ·) #[]⟩
theorem nines_int : ∀ i : Fin 41, 1 ≤ i.val → PySem.intText? (nines i.val) = some ((10 : Int) ^ i.val - 1) ∧ (nines i.val).length ≤ 640 := by decide +kernel
def rRep9 : R2 := fun x y H Q => ∃ n : Int, x = .str "9" ∧ y = .int n ∧ 1 ≤ n ∧ n ≤ 40 ∧ Q (.str (nines n.toNat)) H
theorem op_rep9 {X : Cx} : OpR X (binaryOp .Mult) rRep9 := by
  intro pins s σ H x y v u Q I rx ry h
  obtain ⟨n, rfl, rfl, n1, n2, q⟩ := h
  obtain ⟨t, rfl⟩ := rx
  obtain ⟨t', rfl⟩ := ry
  have l9 : (Str.ofString "9").length = 1 := by decide
  refine P.mul_str ?_ (fun _ _ => ?_) (fun _ _ => ?_) ?_
  · rw [decide_eq_false (by omega), decide_eq_false (by omega)]; rfl
  · rw [l9]
    have : (1 : Int) ≤ (2 ^ 63 - 1) / n := Int.le_ediv_of_mul_le (by omega) (by omega)
    omega
  · rw [l9, Nat.one_mul]
    have : n.toNat ≤ 40 := by omega
    show decide (n.toNat > sizeLine) = false
    exact decide_eq_false (fun h => absurd (Nat.lt_of_lt_of_le h this) (by decide))
  · rw [if_neg (by omega)]
    by_cases e : n = 1
    · subst e
      exact ⟨.str (nines 1), H, I, ⟨t, rfl⟩, q⟩
    · have e2 : ((n == 1) || (Str.ofString "9").length == 0) = false := by
        rw [l9]
        simp [e]
      rw [e2, if_neg Bool.false_ne_true]
      refine ⟨?_, .str (nines n.toNat), H, I.tok _, ⟨_, rfl⟩, q⟩
      exact Nat.le_trans (nines_int ⟨n.toNat, by omega⟩ (by show 1 ≤ n.toNat; omega)).2 (by decide)
/-! ### fractions: the greatest measure -/
def ab (t : Int) : Nat := t.natAbs
def gm (t b : Int) : Nat := Nat.gcd t.natAbs b.natAbs
def pn (t b : Int) : Int := (if b < 0 then -t else t) / (gm t b : Int)
def pd (t b : Int) : Int := (if b < 0 then -b else b) / (gm t b : Int)
theorem gm_pos {t b : Int} (h : b ≠ 0) : 0 < gm t b := Nat.gcd_pos_of_pos_right _ (by omega)
theorem gm_le {t b : Int} (h : b ≠ 0) : gm t b ≤ b.natAbs := Nat.gcd_le_right _ (by omega)
theorem pd_pos {t b : Int} (h : b ≠ 0) : 0 < pd t b := by
  have h1 := gm_pos (t := t) h
  have h2 := gm_le (t := t) h
  unfold pd
  have : (1 : Int) ≤ (if b < 0 then -b else b) / (gm t b : Int) := Int.le_ediv_of_mul_le (by omega) (by split <;> omega)
  omega
theorem pd_le {t b : Int} (h : b ≠ 0) : pd t b ≤ (b.natAbs : Int) := by
  have h1 := gm_pos (t := t) h
  unfold pd
  have h2 : (if b < 0 then -b else b) = (b.natAbs : Int) := by split <;> omega
  rw [h2]
  exact Int.ediv_le_self _ (by omega)
theorem ediv_natAbs {x g : Int} (h : 0 < g) : (x / g).natAbs ≤ x.natAbs := by
  rcases Int.le_total 0 x with h1 | h1
  · have a := Int.ediv_nonneg h1 (Int.le_of_lt h)
    have b := Int.ediv_le_self g h1
    omega
  · have a : x ≤ x / g := Int.le_ediv_of_mul_le h (by
      have : x * g ≤ x * 1 := Int.mul_le_mul_of_nonpos_left h1 (by omega)
      omega)
    have b : x / g < 1 := Int.ediv_lt_of_lt_mul h (by omega)
    omega
theorem pn_le {t b : Int} (h : b ≠ 0) : (pn t b).natAbs ≤ t.natAbs := by
  have h1 := gm_pos (t := t) h
  unfold pn
  refine Nat.le_trans (ediv_natAbs (by omega)) ?_
  split <;> omega
/-! ### // by a great number of either sign -/
def CDivN2 (_ j : Int) : Prop := j ≠ 0 ∧ j.natAbs.log2 < 9000
theorem op_fdivM {X : Cx} : OpR X (binaryOp .FloorDiv) (rI CDivN2 fun i j => .int (i.fdiv j)) := opI fun _ _ _ _ _ _ _ hc q => floordiv_int hc.1 q (.inl (PyProof.noPylong_of_log2 hc.2))
theorem fdiv_neg' {t g : Int} (h : 0 < g) : t.fdiv (-g) = (-t) / g := by
  have e : t.fdiv (-g) = (-t).fdiv g := by
    rw [← Int.neg_fdiv_neg (-t) g, Int.neg_neg]
  rw [e, Int.fdiv_eq_ediv_of_nonneg _ (by omega)]
theorem gm_dvd_l (t b : Int) : (gm t b : Int) ∣ t := Int.ofNat_dvd_left.mpr (Nat.gcd_dvd_left _ _)
theorem gm_dvd_r (t b : Int) : (gm t b : Int) ∣ b := Int.ofNat_dvd_left.mpr (Nat.gcd_dvd_right _ _)
theorem pn_mul {t b : Int} (h : b ≠ 0) : pn t b * (gm t b : Int) = if b < 0 then -t else t := by
  unfold pn
  refine Int.ediv_mul_cancel ?_
  split
  · exact Int.dvd_neg.mpr (gm_dvd_l t b)
  · exact gm_dvd_l t b
theorem pd_mul {t b : Int} (h : b ≠ 0) : pd t b * (gm t b : Int) = if b < 0 then -b else b := by
  unfold pd
  refine Int.ediv_mul_cancel ?_
  split
  · exact Int.dvd_neg.mpr (gm_dvd_r t b)
  · exact gm_dvd_r t b
theorem cross {t b : Int} (h : b ≠ 0) : pn t b * b = t * pd t b := by
  have g0 : (gm t b : Int) ≠ 0 := by have := gm_pos (t := t) h; omega
  have e1 := pn_mul (t := t) h
  have e2 := pd_mul (t := t) h
  refine Int.eq_of_mul_eq_mul_right g0 ?_
  have a1 : pn t b * b * (gm t b : Int) = (pn t b * (gm t b : Int)) * b := by rw [Int.mul_assoc, Int.mul_comm b, ← Int.mul_assoc]
  have a2 : t * pd t b * (gm t b : Int) = t * (pd t b * (gm t b : Int)) := Int.mul_assoc ..
  rw [a1, a2, e1, e2]
  split
  · rw [Int.neg_mul, Int.mul_neg]
  · rfl
theorem gm_low {t b : Int} (h : b ≠ 0) : gm (pn t b) (pd t b) = 1 := by
  have gp := gm_pos (t := t) h
  have e1 := pn_mul (t := t) h
  have e2 := pd_mul (t := t) h
  have n1 : (pn t b).natAbs * gm t b = t.natAbs := by
    have := congrArg Int.natAbs e1
    rw [Int.natAbs_mul, Int.natAbs_natCast] at this
    rw [this]
    split <;> omega
  have n2 : (pd t b).natAbs * gm t b = b.natAbs := by
    have := congrArg Int.natAbs e2
    rw [Int.natAbs_mul, Int.natAbs_natCast] at this
    rw [this]
    split <;> omega
  have h3 : gm (pn t b) (pd t b) * gm t b = gm t b := by
    show Nat.gcd (pn t b).natAbs (pd t b).natAbs * gm t b = gm t b
    rw [← Nat.gcd_mul_right, n1, n2]
    rfl
  exact Nat.eq_of_mul_eq_mul_right gp (by rw [h3, Nat.one_mul])
theorem pn_low {t b : Int} (h : b ≠ 0) : pn (pn t b) (pd t b) = pn t b := by
  have hp := pd_pos (t := t) h
  show (if pd t b < 0 then -(pn t b) else pn t b) / (gm (pn t b) (pd t b) : Int) = pn t b
  rw [gm_low h, if_neg (by omega)]
  exact Int.ediv_one _
theorem pd_low {t b : Int} (h : b ≠ 0) : pd (pn t b) (pd t b) = pd t b := by
  have hp := pd_pos (t := t) h
  show (if pd t b < 0 then -(pd t b) else pd t b) / (gm (pn t b) (pd t b) : Int) = pd t b
  rw [gm_low h, if_neg (by omega)]
  exact Int.ediv_one _
end Z

set_option Elab.async false
set_option linter.all false
set_option maxRecDepth 100000
namespace Z
open PySem PySem.Spec PyProof.Rows L2 L2.DX
/-! ### sorted(d.items()), keys tuples of ints, values ints -/
def entI (e : List Int × Int) : List L2.Key × V := (e.1.map Sum.inl, V.int e.2)
def eRow (e : List Int × Int) : PyData := .tuple [eC e.1, .int e.2]
theorem kV_ints (ns : List Int) : (ns.map Sum.inl).map kV = ns.map V.int := by
  rw [List.map_map]
  rfl
theorem reads_ints {h : Heap} : ∀ {ns : List Int} {us : List Value}, Vals (ns.map V.int) us → ReadsAll h us (ns.map .int) []
  | [], _, r => by
    cases r
    exact .nil
  | n :: ns, _, r => by
    cases r with
    | cons r1 r2 =>
      obtain ⟨t, rfl⟩ := r1
      exact ReadsAll.cons (as := []) (bs := []) (.int n t) (reads_ints r2)
theorem zipped {α β : Type} {R : α → β → Prop} : ∀ {as : List α} {bs : List β}, PySem.W.EachIs R as bs → ∃ zs : List (α × β), zs.map Prod.fst = as ∧ zs.map Prod.snd = bs ∧ ∀ z ∈ zs, R z.1 z.2
  | _, _, .nil => ⟨[], rfl, rfl, fun _ h => nomatch h⟩
  | a :: as, b :: bs, .cons h t => by
    obtain ⟨zs, e1, e2, h3⟩ := zipped t
    refine ⟨(a, b) :: zs, by rw [List.map_cons, e1], by rw [List.map_cons, e2], fun z hz => ?_⟩
    rcases List.mem_cons.mp hz with e | e
    · rw [e]; exact h
    · exact h3 z e
theorem fm_some {α : Type} (f : Nat → α) : ∀ n : Nat, (List.range n).filterMap (fun i => some (f i)) = (List.range n).map f := fun n => by
  rw [← List.filterMap_eq_map]
  rfl
def rSortII : List V → Hp → VK → Prop := fun vs H Q => ∃ (p a : Addr) (ks : List (List Int × Int)), vs = [.ref p] ∧ H p = some (itemsO p a) ∧ H a = some (.dT (ks.map entI)) ∧ ks.length ≤ 1000 ∧
  ∀ (H' : Hp) (l : Addr) (ps : List (Addr × List Int × Int)), Same H H' → H l = none → (ps.map (·.2)).Perm ks → H' l = some (.lst (ps.map fun z => V.ref z.1)) →
    (∀ z ∈ ps, ∃ q, H z.1 = none ∧ H' z.1 = some (.tup [.ref q, .int z.2.2]) ∧ H q = some (.tup (z.2.1.map V.int))) → Q (.ref l) H'
section
variable {X : Cx}
theorem set_dictU (hu : X.A.units + 64 < cLine) : PSet X rSetD := set_dict (by omega)
theorem cr_sortedII (hc : X.calm = true) (hu : X.A.units + 64 < cLine) : CallR X (.builtin "sorted") rSortII := by
  intro pins s σ H xs us Q I r h
  obtain ⟨p, a, ks, rfl, hp, ha, h64, q⟩ := h
  obtain rfl := Vals.ref1 r
  have view : s.heap.IsItemsView p a := (show ObjOk X.prog X.w H s.heap p (itemsO p a) from I.hok p _ hp).1
  obtain ⟨z, hd, xs', rel, o, es, ep, ho, hx, hdat, hes, his, hn⟩ := dt_of I.hok ha
  have l1 : (ks.map entI).length = xs'.length := Paired.length rel
  rw [List.length_map] at l1
  have l2 : es.size = xs'.length := size_of_entries hes
  have hh : X.A.handled = none := I.ok.hd hc
  refine DT.sortedI (es := es) (ep := ep) hh view ⟨o, ho, hx, hdat⟩ (by rw [sizeLine_eq]; omega) fun h' tk as hk hlt hl hG => ?_
  have lak : as.length = ks.length := by omega
  have nd : as.Nodup := List.Pairwise.imp (fun h => Nat.ne_of_lt h) hG.rise
  have pr : ∀ (j : Nat) (b : Addr), as[j]? = some b → ∃ (e : List Int × Int) (kq : Addr) (t : Tok), ks[j]? = some e ∧ H kq = some (.tup (e.1.map V.int)) ∧ h'.get? b = some { cls := .type "tuple", data := .seq #[Value.ref kq, Value.int e.2 t] } := by
    intro j b hj
    obtain ⟨en, he, hg⟩ := hG.pairs j b hj
    rw [entry_at hes j] at he
    cases hxj : xs'[j]? with
    | none =>
      rw [hxj] at he
      exact nomatch (show (none : Option DictEntry) = some en from he)
    | some x =>
      rw [hxj] at he
      have een : entryOfKey (tupleKind (mixKind X.prog X.w)) x = en := Option.some.inj he
      obtain ⟨e0, he0, r1, r2, r3⟩ := pget rel hxj
      rw [List.getElem?_map] at he0
      cases hkj : ks[j]? with
      | none =>
        rw [hkj] at he0
        exact nomatch (show (none : Option (List L2.Key × V)) = some e0 from he0)
      | some e =>
        rw [hkj] at he0
        have ee : entI e = e0 := Option.some.inj he0
        rw [← ee] at r2 r3
        obtain ⟨t, r3'⟩ : ∃ t, x.2.2 = Value.int e.2 t := r3
        refine ⟨e, x.2.1, t, rfl, ?_, ?_⟩
        · have r2' : H x.2.1 = some (.tup ((e.1.map Sum.inl).map kV)) := r2
          rw [kV_ints] at r2'
          exact r2'
        · rw [hg, ← een, ← r3']
          all_goals rfl
  have hob : (h'.push { cls := .type "list", data := .seq (as.map Value.ref).toArray }).get? h'.objs.size = some (seqObj "list" (as.map Value.ref).toArray 0) := Heap.get?_push_size _ rfl
  have kb : ∀ b o, s.heap.get? b = some o → (h'.push { cls := .type "list", data := .seq (as.map Value.ref).toArray }).get? b = some o := fun b o e => Heap.get?_push_of_some _ (hk b o e)
  have ne0 : ∀ b o, h'.get? b = some o → b ≠ h'.objs.size := fun b o e => Nat.ne_of_lt (Heap.lt_size e)
  generalize hh2 : h'.push { cls := .type "list", data := .seq (as.map Value.ref).toArray } = h2 at hob kb ⊢
  have ka : ∀ b o, h'.get? b = some o → h2.get? b = some o := fun b o e => by rw [← hh2]; exact Heap.get?_push_of_some _ e
  have rd : ∀ (j : Nat) (b : Addr) (e : List Int × Int), as[j]? = some b → ks[j]? = some e → Reads h2 (.ref b) (eRow e) [] := by
    intro j b e hj he
    obtain ⟨e', kq, t, he', hkq, hg⟩ := pr j b hj
    have ee : e' = e := Option.some.inj (he'.symm.trans he)
    subst ee
    obtain ⟨_, its, rv, ot, hot, hct, nt, hdt⟩ := (show ObjOk X.prog X.w H s.heap kq (.tup (e'.1.map V.int)) from I.hok kq _ hkq)
    refine .tuple (ka _ _ hg) rfl rfl ?_
    refine ReadsAll.cons (as := []) (bs := []) (Reads.tuple (kb _ _ hot) hct hdt ?_) (ReadsAll.cons (as := []) (bs := []) (.int _ t) .nil)
    have := reads_ints (h := h2) rv
    simpa using this
  have lens : (as.map Value.ref).length = ks.length := by rw [List.length_map, lak]
  have zidx : ∀ pz ∈ (as.map Value.ref).zip ks, ∃ (j : Nat) (b : Addr), pz.1 = .ref b ∧ as[j]? = some b ∧ ks[j]? = some pz.2 := by
    intro pz hpz
    obtain ⟨j, hj⟩ := List.mem_iff_getElem?.mp hpz
    obtain ⟨h1, h2'⟩ := List.getElem?_zip_eq_some.mp hj
    rw [List.getElem?_map] at h1
    cases e : as[j]? with
    | none => rw [e] at h1; cases h1
    | some b =>
      rw [e] at h1
      exact ⟨j, b, (Option.some.inj h1).symm, e, h2'⟩
  refine PySem.W.list_sort_data (s := { s with heap := h2, toks := tk }) (A := X.A.in1) (n := 0) (vs := as.map Value.ref) (bs := ks) (enc := eRow) (R := fun v e => ∃ (j : Nat) (b : Addr), v = .ref b ∧ as[j]? = some b ∧ ks[j]? = some e) hob
    (PySem.W.EachIs.of_zip lens zidx) (PySem.W.EachIs.of_zip lens fun pz hpz => ?_) (PySem.W.AllAlike.of fun b b' => ?_) (PySem.W.Sortable.tuples fun b => ⟨_, _, rfl⟩) (by rw [sizeLine_eq]; omega) (fun b _ => ?_) fun out lo eo => ?_
  · obtain ⟨j, b, e1, e2, e3⟩ := zidx pz hpz
    rw [e1]
    exact ⟨[], rd j b _ e2 e3, fun h => nomatch h⟩
  · unfold eRow eC
    simp [PySem.W.alike, PySem.W.alikeAll, PySem.W.alike_ints]
  · have : (eRow b).depth = 2 := by
      unfold eRow eC
      simp [PyData.depth, PyData.depthAll, PySem.W.depth_ints]
    show X.A.units + 1 + 1 + (eRow b).depth < cLine
    omega
  · show EP X pins σ Q (.ref h'.objs.size) { s with heap := sortedHeap h2 h'.objs.size (as.map Value.ref) out.toArray, toks := tk }
    obtain ⟨zs0, z1, z2, z3⟩ := zipped eo
    -- the addresses
    obtain ⟨zs, w1, w2, w3⟩ : ∃ zs : List (Addr × List Int × Int), zs.map (fun z => Value.ref z.1) = out ∧ zs.map (·.2) = ks.mergeSort (PySem.W.dataLe false eRow) ∧ ∀ z ∈ zs, ∃ j : Nat, as[j]? = some z.1 ∧ ks[j]? = some z.2 := by
      rw [← z1, ← z2]
      clear z1 z2 eo lo
      induction zs0 with
      | nil => exact ⟨[], rfl, rfl, fun _ h => nomatch h⟩
      | cons y ys ih =>
        obtain ⟨zs, w1, w2, w3⟩ := ih fun z hz => z3 z (List.mem_cons_of_mem _ hz)
        obtain ⟨j, b, e1, e2, e3⟩ := z3 y (List.mem_cons_self ..)
        refine ⟨(b, y.2) :: zs, by rw [List.map_cons, List.map_cons, w1, e1], by rw [List.map_cons, List.map_cons, w2], fun z hz => ?_⟩
        rcases List.mem_cons.mp hz with e | e
        · rw [e]; exact ⟨j, e2, e3⟩
        · exact w3 z e
    have hperm : (zs.map (·.2)).Perm ks := by
      rw [w2]
      exact List.mergeSort_perm _ _
    have kF : ∀ b o, b ≠ h'.objs.size → h2.get? b = some o → (sortedHeap h2 h'.objs.size (as.map Value.ref) out.toArray).get? b = some o := fun b o hb e => (PyProof.Rows.sortedHeap_old hb (Heap.lt_size e)).trans e
    have kS : ∀ b o, s.heap.get? b = some o → (sortedHeap h2 h'.objs.size (as.map Value.ref) out.toArray).get? b = some o := fun b o e => kF b o (ne0 _ _ (hk b o e)) (kb b o e)
    obtain ⟨eF, heF⟩ := PyProof.Rows.sortedHeap_at (vs := as.map Value.ref) (out := out.toArray) hob
    have I1 : Inv X pins σ H { s with heap := sortedHeap h2 h'.objs.size (as.map Value.ref) out.toArray, toks := tk } := I.kept (t' := tk) kS
    have hn0 : H h'.objs.size = none := I.hok.fresh (Nat.le_of_lt hlt)
    have hlen : (zs.map fun z => V.ref z.1).length ≤ sizeLine := by
      have e := hperm.length_eq
      rw [List.length_map] at e
      rw [List.length_map, sizeLine_eq]
      omega
    have rv : Vals (zs.map fun z => V.ref z.1) out.toArray.toList := by
      show Vals _ out
      rw [← w1]
      exact vals_maps (fun z : Addr × List Int × Int => V.ref z.1) (fun z => Value.ref z.1) zs fun _ _ => rfl
    have I2 : Inv X pins σ (upd H h'.objs.size (.lst (zs.map fun z => V.ref z.1))) { s with heap := sortedHeap h2 h'.objs.size (as.map Value.ref) out.toArray, toks := tk } :=
      I1.take (h' := sortedHeap h2 h'.objs.size (as.map Value.ref) out.toArray) (t' := tk) (fun b ob _ e => e) (I.fpOk (Nat.le_of_lt hlt) hn0) ⟨hlen, out.toArray.toList, eF, rv, heF⟩
    obtain ⟨H2, I3, g, qt⟩ := takeT (P := fun b vs => ∃ (j : Nat) (e : List Int × Int) (kq : Addr), as[j]? = some b ∧ ks[j]? = some e ∧ vs = [.ref kq, .int e.2] ∧ H kq = some (.tup (e.1.map V.int))) I as _ I2 nd fun b hb => by
      obtain ⟨j, hj⟩ := List.mem_iff_getElem?.mp hb
      obtain ⟨e, kq, t, he, hkq, hg⟩ := pr j b hj
      have hbl : s.heap.objs.size ≤ b := Nat.le_of_lt (hG.above b hb)
      refine ⟨hbl, ?_, [.ref kq, .int e.2], ⟨j, e, kq, hj, he, rfl, hkq⟩, fun H3 => ⟨(by rw [sizeLine_eq]; show 2 ≤ 16777216; omega), [Value.ref kq, Value.int e.2 t], .cons rfl (.cons ⟨t, rfl⟩ .nil), ⟨_, kF _ _ (ne0 _ _ hg) (ka _ _ hg), rfl, 0, rfl⟩⟩⟩
      rw [upd_ne (ne0 _ _ hg)]
      exact I.hok.fresh hbl
    have gr : ∀ b o, H b = some o → H2 b = some o := fun b o e => g b o (by rw [upd_ne (ne_of_none e hn0)]; exact e)
    refine ⟨.ref h'.objs.size, H2, I3, rfl, q H2 h'.objs.size zs gr hn0 hperm (g _ _ upd_same) fun z' hz' => ?_⟩
    obtain ⟨i, i1, i2⟩ := w3 z' hz'
    obtain ⟨vs, ⟨j, e, kq, j1, j2, ev, hkq⟩, hH⟩ := qt z'.1 (List.mem_of_getElem? i1)
    have eij : i = j := (List.getElem?_inj (List.getElem?_eq_some_iff.mp i1).1 nd).mp (i1.trans j1.symm)
    subst eij
    have ee : e = z'.2 := Option.some.inj (j2.symm.trans i2)
    rw [ev, ee] at hH
    rw [ee] at hkq
    exact ⟨kq, I.hok.fresh (Nat.le_of_lt (hG.above _ (List.mem_of_getElem? i1))), hH, hkq⟩
end
end Z

set_option Elab.async false
set_option linter.all false
set_option maxRecDepth 100000
set_option maxHeartbeats 400000
namespace Z
open PySem PySem.Spec PyProof.Rows L2
/-! ### lists of lists -/
def eN (ns : List (List Int)) : PyData := .list (ns.map eI)
def eG (ps : List (List (List Int))) : PyData := .list (ps.map eP)
theorem sh_eN {ns : List (List Int)} (l : ns.length ≤ 100000) (h : ∀ c ∈ ns, c.length ≤ 100000) : Sh (eN ns) 2 := sh_lst (by simpa using l) fun d hd => by
  obtain ⟨n, m, rfl⟩ := List.mem_map.mp hd
  exact sh_eI (h n m)
theorem sh_eG {ps : List (List (List Int))} (l : ps.length ≤ 100000) (h : ∀ p ∈ ps, p.length ≤ 100000 ∧ ∀ c ∈ p, c.length ≤ 100000) : Sh (eG ps) 3 := sh_lst (by simpa using l) fun d hd => by
  obtain ⟨n, m, rfl⟩ := List.mem_map.mp hd
  exact sh_eP (h n m).1 (h n m).2
theorem DtA.mk {B : List Addr} {H : Hp} : ∀ {vs : List V} {ds : List PyData}, vs.length = ds.length → (∀ (i : Nat) v d, vs[i]? = some v → ds[i]? = some d → Dt B H v d) → DtA B H vs ds
  | [], [], _, _ => .nil
  | [], _ :: _, h, _ => nomatch h
  | _ :: _, [], h, _ => nomatch h
  | v :: vs, d :: ds, h, f => .cons (f 0 v d rfl rfl) (DtA.mk (by simpa using h) fun i v d h1 h2 => f (i + 1) v d h1 h2)
theorem DtA.two {B : List Addr} {H : Hp} {vs : List V} {ds : List PyData} {i : Nat} {v : V} {d : PyData} (h : DtA B H vs ds) (h1 : vs[i]? = some v) (h2 : ds[i]? = some d) : Dt B H v d := by
  obtain ⟨d', e, h3⟩ := h.getV h1
  rw [h2] at e
  cases e
  exact h3
theorem at2i (x y : Int) (b : Bool) : ∃ z : Int, atI [V.int x, V.int y] (if b = true then 1 else 0) = some (.int z) ∧ (z = x ∨ z = y) := by
  cases b
  · exact ⟨x, rfl, .inl rfl⟩
  · exact ⟨y, rfl, .inr rfl⟩
theorem ixN_last {n : Nat} (h : 0 < n) : ixN n (-1) = some (n - 1) := by
  unfold ixN
  rw [if_neg (by omega), if_pos (by omega)]
  congr 1
  omega
theorem DtA.set {B : List Addr} {H : Hp} {v : V} {d : PyData} : ∀ {vs : List V} {ds : List PyData} (j : Nat), DtA B H vs ds → Dt B H v d → DtA B H (vs.set j v) (ds.set j d)
  | [], _, _, h, _ => by cases h; exact .nil
  | _ :: _, _, 0, h, hv => by cases h with | cons h1 h2 => exact .cons hv h2
  | _ :: _, _, j + 1, h, hv => by cases h with | cons h1 h2 => exact .cons h1 (DtA.set j h2 hv)
theorem Dt.lst2 {B : List Addr} {H : Hp} {v : V} {ds : List PyData} (h : Dt B H v (.list ds)) : ∃ a vs, v = .ref a ∧ a ∉ B ∧ H a = some (.lst vs) ∧ DtA B H vs ds := by
  cases h with
  | lst n hs ha => exact ⟨_, _, rfl, n, hs, ha⟩
theorem cut_fromV {α : Type} (xs : List α) {n : Int} (h0 : 0 ≤ n) : cutL xs (some n) none = xs.drop n.toNat := by
  unfold cutL
  have e : HT.sIx xs.length 0 (some n) = min n.toNat xs.length := by
    show (if n < 0 then (n + (xs.length : Int)).toNat else min n.toNat xs.length) = _
    rw [if_neg (by omega)]
  have e2 : HT.sIx xs.length xs.length none = xs.length := rfl
  rw [e, e2]
  rcases Nat.le_total n.toNat xs.length with h | h
  · rw [Nat.min_eq_left h, List.take_of_length_le (by rw [List.length_drop]; omega)]
  · rw [Nat.min_eq_right h, List.drop_of_length_le (Nat.le_refl _), List.drop_of_length_le h, List.take_nil]
theorem cut_toV {α : Type} (xs : List α) {n : Int} (h0 : 0 ≤ n) : cutL xs none (some n) = xs.take n.toNat := by
  unfold cutL
  have e : HT.sIx xs.length xs.length (some n) = min n.toNat xs.length := by
    show (if n < 0 then (n + (xs.length : Int)).toNat else min n.toNat xs.length) = _
    rw [if_neg (by omega)]
  have e2 : HT.sIx xs.length 0 none = 0 := rfl
  rw [e, e2, List.drop_zero, Nat.sub_zero]
  rcases Nat.le_total n.toNat xs.length with h | h
  · rw [Nat.min_eq_left h]
  · rw [Nat.min_eq_right h, List.take_length, List.take_of_length_le h]
theorem pg_lstK {X : Cx} (K : PySem.W.Frag) {pos : Pos} {es : List Expr} {kk : Nat} {t : TGs} {n : Nat} (hc : X.calm = true) (h : PGs X es t) (hn : (assignEach es X.env).length = n := by rfl) (hst : (assignEach es X.env).findIdx? (·.1) = none := by rfl) (h2 : X.K = K := by rfl) : PG X (.Tuple es kk pos) (gLst K n t) :=
  h2 ▸ pg_lst hc h hn hst
theorem pi_zipAK {X : Cx} (K : PySem.W.Frag) {e e2 : Expr} {ta : TA} {p pos tpos : Pos} {elts : List Expr} {kk : Nat} (hg : Gl X "zip") (hm : X.mg "zip" = none) (ha : PA X [e, e2] ta)
    (hs : starEach [e, e2] X.env = (false, eval e X.env) :: starEach [e2] X.env := by rfl) (hpl : (backTo pos (starEach [e2] X.env)).any (·.1) = false := by rfl) (hK : X.K = K := by rfl) :
    PI X (.Tuple elts kk tpos) (.Call (.Name "zip" p) [e, e2] [] pos) (RZ.iZipA K ta) := by
  subst hK
  exact RZ.pi_zipA hg hm ha hs hpl
theorem yesT {σ : L2.St} {H : Hp} {A N : Hp → Prop} (h : A H) : tYes σ H (fun b H3 => if b = true then A H3 else N H3) := by
  show if true = true then A H else N H
  rw [if_pos rfl]
  exact h
/-- any walk -/
theorem walk_W {J : It} {n : Nat} {G : Hp → Prop} {Y : Nat → Hp → V → Hp → Prop} (w : Walk J n G Y) {R : (Hp → Prop) → V → Hp → Prop} {Qd : Hp → Prop} {H0 : Hp} (Pv : Nat → Hp → Prop) (h0 : Pv 0 H0) (hG : ∀ i H, i ≤ n → Pv i H → G H) (hs : ∀ i x H H', i < n → Pv i H → Y i H x H' → R (Pv (i + 1)) x H') (hd : ∀ H, Pv n H → Qd H) :
    ∃ W : Nat → Nat → Hp → Prop, (∃ m, W 0 m H0) ∧ ∀ i m H, W i m H → (J.stop i H ∧ Qd H) ∨ (J.go i H ∧ ∃ Nx : Hp → Prop, (∀ H', Nx H' → ∃ m', m' < m ∧ W (i + 1) m' H') ∧ ∀ x H', J.yld i H x H' → R Nx x H') := by
  obtain ⟨w1, w2, w3⟩ := w
  refine ⟨fun i m H => i ≤ n ∧ m = n - i ∧ Pv i H, ⟨n, Nat.zero_le _, rfl, h0⟩, fun i m H h => ?_⟩
  obtain ⟨hi, hm, hp⟩ := h
  have g := hG i H hi hp
  by_cases e : i = n
  · subst e
    exact .inl ⟨w2 _ g, hd _ hp⟩
  · refine .inr ⟨w1 i H (by omega) g, Pv (i + 1), fun H' h' => ⟨n - (i + 1), by omega, by omega, rfl, h'⟩, fun x H' y => ?_⟩
    exact hs i x H H' (by omega) hp (w3 i H x H' (by omega) g y)
theorem colsOf {Pc : List Int → Prop} : ∀ {ds : List PyData}, (∀ d ∈ ds, ∃ c, d = eC c ∧ Pc c) → ∃ cs : List (List Int), ds = cs.map eC ∧ ∀ c ∈ cs, Pc c
  | [], _ => ⟨[], rfl, fun _ h => nomatch h⟩
  | d :: ds, h => by
    obtain ⟨m, e, hm⟩ := colsOf (ds := ds) fun x hx => h x (List.mem_cons_of_mem _ hx)
    obtain ⟨z, ez, hz⟩ := h d (List.mem_cons_self ..)
    refine ⟨z :: m, by rw [e, ez]; rfl, fun y hy => ?_⟩
    rcases List.mem_cons.mp hy with q | q
    · rw [q]; exact hz
    · exact hm y q
/-- a list whose items are new lists, each another one; what is in these was there ahead -/
structure Rws (B : List Addr) (H H' : Hp) (D : Addr) (rs : List Addr) (dss : List (List PyData)) : Prop where
  len : rs.length = dss.length
  nd : rs.Nodup
  nD : D ∉ rs
  fr : ∀ r ∈ rs, H r = none
  row : ∀ (i : Nat) r ds, rs[i]? = some r → dss[i]? = some ds → ∃ ws, H' r = some (.lst ws) ∧ DtA B H ws ds
section
variable {B C : List Addr} {H H' H2 : Hp} {D p : Addr} {rs : List Addr} {dss : List (List PyData)}
theorem Rws.s (h : Rws B H H' D rs dss) (s : Same H' H2) : Rws B H H2 D rs dss := ⟨h.len, h.nd, h.nD, h.fr, fun i r ds h1 h2 => by
  obtain ⟨ws, e, a⟩ := h.row i r ds h1 h2
  exact ⟨ws, s _ _ e, a⟩⟩
theorem Rws.up {o : HO} (h : Rws B H H' D rs dss) (n : p ∉ rs) : Rws B H (upd H' p o) D rs dss := ⟨h.len, h.nd, h.nD, h.fr, fun i r ds h1 h2 => by
  obtain ⟨ws, e, a⟩ := h.row i r ds h1 h2
  refine ⟨ws, ?_, a⟩
  rw [upd_ne (fun z => n (by rw [← z]; exact List.mem_of_getElem? h1))]
  exact e⟩
theorem Rws.go (h : Rws B H H' D rs dss) (g : Go C H' H2) (n : ∀ r ∈ rs, r ∉ C) : Rws B H H2 D rs dss := ⟨h.len, h.nd, h.nD, h.fr, fun i r ds h1 h2 => by
  obtain ⟨ws, e, a⟩ := h.row i r ds h1 h2
  exact ⟨ws, g.k _ _ (n r (List.mem_of_getElem? h1)) e, a⟩⟩
theorem Rws.tail {r : Addr} {ds : List PyData} (h : Rws B H H' D (r :: rs) (ds :: dss)) : Rws B H H' D rs dss := ⟨by simpa using h.len, (List.nodup_cons.mp h.nd).2, fun z => h.nD (List.mem_cons_of_mem _ z), fun x hx => h.fr x (List.mem_cons_of_mem _ hx), fun i x ds h1 h2 => h.row (i + 1) x ds h1 h2⟩
theorem Rws.dt (h : Rws B H H' D rs dss) (b : Bk B H) (s : Go B H H') : DtA B H' (rs.map V.ref) (dss.map PyData.list) := by
  refine DtA.mk (by rw [List.length_map, List.length_map]; exact h.len) fun i v d h1 h2 => ?_
  rw [List.getElem?_map] at h1 h2
  cases e1 : rs[i]? with
  | none => rw [e1] at h1; cases h1
  | some r =>
    cases e2 : dss[i]? with
    | none => rw [e2] at h2; cases h2
    | some ds =>
      rw [e1] at h1
      rw [e2] at h2
      cases h1
      cases h2
      obtain ⟨ws, e, a⟩ := h.row i r ds e1 e2
      exact .lst (b.ne (h.fr r (List.mem_of_getElem? e1))) e (a.g s)
end
/-- a comprehension of known values -/
theorem lc_vals {J : It} {n : Nat} {G : Hp → Prop} {Y : Nat → Hp → V → Hp → Prop} (w : Walk J n G Y) {g : TG} {tt : TT} {te : TE} {vs : List Nat} {σ : L2.St} {H1 : Hp} {D : Addr} {Qd : Hp → Prop}
    (hD : H1 D = none) (hG : ∀ H', Same H1 H' → G H') (hn : n ≤ 100000) (f : Nat → V)
    (hs : ∀ (i : Nat) (x : V) (H' H'' : Hp) (Ny : V → Hp → Prop) (Nn : Hp → Prop), i < n → Same H1 H' → Y i H' x H'' → (∀ H4, Same H' H4 → Ny (f i) H4) →
      g x (wipe σ vs) H'' fun σ2 H2 => wipe σ2 vs = wipe σ vs ∧ tt σ2 H2 fun b H3 => if b = true then te σ2 H3 Ny else Nn H3)
    (hd : ∀ (H' : Hp), Same H1 H' → H' D = some (.lst ((List.range n).map f)) → Qd H') :
    ∃ W : Nat → Nat → Hp → Prop, (∃ m, W 0 m (upd H1 D (.lst []))) ∧ ∀ i m H, W i m H →
      (J.stop i H ∧ Qd H) ∨ (J.go i H ∧ ∃ Nx : Hp → Prop, (∀ H', Nx H' → ∃ m', m' < m ∧ W (i + 1) m' H') ∧ ∀ x H', J.yld i H x H' → g x (wipe σ vs) H' fun σ2 H2 => wipe σ2 vs = wipe σ vs ∧ tt σ2 H2 fun b H3 =>
        if b = true then te σ2 H3 fun y H4 => ∃ acc, H4 D = some (.lst acc) ∧ acc.length < sizeLine ∧ Nx (upd H4 D (.lst (acc ++ [y]))) else Nx H3) := by
  refine lc_it w (fun i H' => Same H1 H' ∧ H' D = some (.lst ((List.range i).map f))) ⟨sm_new hD, upd_same⟩ (fun i H' _ h => hG H' h.1) (fun i x H' H'' hi h y => ?_) (fun H' h => hd H' h.1 h.2)
  obtain ⟨s1, eD⟩ := h
  refine hs i x H' H'' _ _ hi s1 y (fun H4 s4 => ?_)
  refine ⟨_, s4 _ _ eD, sz (by rw [List.length_map, List.length_range]; omega), sm_mut (s1.trans s4) hD, ?_⟩
  rw [upd_same, List.range_succ, List.map_append]
  rfl
/-- a comprehension of new lists -/
theorem lc_rows {J : It} {n : Nat} {G : Hp → Prop} {Y : Nat → Hp → V → Hp → Prop} (w : Walk J n G Y) {g : TG} {tt : TT} {te : TE} {vs : List Nat} {σ : L2.St} {H1 : Hp} {D : Addr} {Qd : Hp → Prop} (B : List Addr)
    (hD : H1 D = none) (hG : ∀ H', Same H1 H' → G H') (hn : n ≤ 100000) (e : Nat → List PyData)
    (hs : ∀ (i : Nat) (x : V) (H' H'' : Hp) (Ny : V → Hp → Prop) (Nn : Hp → Prop), i < n → Same H1 H' → Y i H' x H'' → (∀ r ws H4, Same H' H4 → H' r = none → H4 r = some (.lst ws) → DtA B H1 ws (e i) → Ny (.ref r) H4) →
      g x (wipe σ vs) H'' fun σ2 H2 => wipe σ2 vs = wipe σ vs ∧ tt σ2 H2 fun b H3 => if b = true then te σ2 H3 Ny else Nn H3)
    (hd : ∀ (H' : Hp) (rs : List Addr), Same H1 H' → H' D = some (.lst (rs.map V.ref)) → Rws B H1 H' D rs ((List.range n).map e) → Qd H') :
    ∃ W : Nat → Nat → Hp → Prop, (∃ m, W 0 m (upd H1 D (.lst []))) ∧ ∀ i m H, W i m H →
      (J.stop i H ∧ Qd H) ∨ (J.go i H ∧ ∃ Nx : Hp → Prop, (∀ H', Nx H' → ∃ m', m' < m ∧ W (i + 1) m' H') ∧ ∀ x H', J.yld i H x H' → g x (wipe σ vs) H' fun σ2 H2 => wipe σ2 vs = wipe σ vs ∧ tt σ2 H2 fun b H3 =>
        if b = true then te σ2 H3 fun y H4 => ∃ acc, H4 D = some (.lst acc) ∧ acc.length < sizeLine ∧ Nx (upd H4 D (.lst (acc ++ [y]))) else Nx H3) := by
  refine lc_it w (fun i H' => Same H1 H' ∧ ∃ rs, H' D = some (.lst (rs.map V.ref)) ∧ Rws B H1 H' D rs ((List.range i).map e)) ⟨sm_new hD, [], upd_same, ⟨rfl, List.nodup_nil, (fun h => nomatch h), (fun _ h => nomatch h), (fun i r ds h => by simp at h)⟩⟩ (fun i H' _ h => hG H' h.1) (fun i x H' H'' hi h y => ?_) (fun H' h => ?_)
  · obtain ⟨s1, rs, eD, R⟩ := h
    have hl : rs.length = i := by rw [R.len, List.length_map, List.length_range]
    refine hs i x H' H'' _ _ hi s1 y (fun r ws H4 s4 hr er ha => ?_)
    have nr : r ≠ D := fun z => by rw [z, eD] at hr; cases hr
    have nrs : r ∉ rs := fun z => by
      obtain ⟨j, hj, ej⟩ := List.getElem_of_mem z
      obtain ⟨ws', e', _⟩ := R.row j r (e j) (by rw [List.getElem?_eq_getElem hj, ej]) (by rw [List.getElem?_map, List.getElem?_range (by omega)]; rfl)
      rw [e'] at hr
      cases hr
    refine ⟨_, s4 _ _ eD, sz (by rw [List.length_map]; omega), sm_mut (s1.trans s4) hD, rs ++ [r], by rw [upd_same, List.map_append]; rfl, ?_⟩
    have R4 := (R.s s4).up (o := .lst (rs.map V.ref ++ [.ref r])) (R.nD)
    refine ⟨by simp [hl], ?_, ?_, fun z hz => ?_, fun j z ds h1 h2 => ?_⟩
    · rw [List.nodup_append]
      refine ⟨R.nd, by simp, fun a ha b hb => ?_⟩
      rw [List.mem_singleton.mp hb]
      exact fun q => nrs (by rw [← q]; exact ha)
    · intro q
      rcases List.mem_append.mp q with q | q
      · exact R.nD q
      · exact nr (List.mem_singleton.mp q).symm
    · rcases List.mem_append.mp hz with q | q
      · exact R.fr z q
      · rw [List.mem_singleton.mp q]
        exact s1.free hr
    · rw [List.getElem?_append] at h1
      rw [List.range_succ, List.map_append, List.getElem?_append, List.length_map, List.length_range] at h2
      by_cases c : j < rs.length
      · rw [if_pos c] at h1
        rw [if_pos (by omega)] at h2
        exact R4.row j z ds h1 h2
      · rw [if_neg c] at h1
        rw [if_neg (by omega)] at h2
        have j0 : j - rs.length = 0 := by
          cases q : j - rs.length with
          | zero => rfl
          | succ m => rw [q] at h1; simp at h1
        rw [j0] at h1
        rw [show j - i = 0 by omega] at h2
        cases h1
        cases h2
        refine ⟨ws, ?_, ha⟩
        rw [upd_ne nr]
        exact er
  · obtain ⟨s1, rs, eD, R⟩ := h
    exact hd H' rs s1 eD R
end Z

set_option Elab.async false
set_option linter.all false
set_option maxRecDepth 100000
set_option maxHeartbeats 400000
namespace Z
open PySem PySem.Spec PyProof.Rows L2
/-! ### sorted(xs), xs a list of data -/
theorem each_lift {α β γ : Type} {R : α → β → Prop} {R' : γ → β → Prop} {S : γ → α → Prop} (f : ∀ a b, R a b → ∃ c, S c a ∧ R' c b) : ∀ {as : List α} {bs : List β}, PySem.W.EachIs R as bs → ∃ cs : List γ, Paired S cs as ∧ PySem.W.EachIs R' cs bs
  | _, _, .nil => ⟨[], .nil, .nil⟩
  | a :: as, b :: bs, .cons h t => by
    obtain ⟨cs, h1, h2⟩ := each_lift f t
    obtain ⟨c, h3, h4⟩ := f a b h
    exact ⟨c :: cs, .cons h3 h1, .cons h4 h2⟩
theorem rdAll {h : Heap} : ∀ {vs : List Value} {ds : List PyData} {as : List Addr}, ReadsAll h vs ds as → vs.length = ds.length ∧ ∀ (j : Nat) v d, vs[j]? = some v → ds[j]? = some d → ∃ as, Reads h v d as
  | [], _, _, hh => by
    cases hh
    exact ⟨rfl, fun j v d h => by simp at h⟩
  | v :: vs, _, _, hh => by
    cases hh with
    | cons h1 h2 =>
      have ih := rdAll h2
      refine ⟨by rw [List.length_cons, List.length_cons, ih.1], fun j v d e1 e2 => ?_⟩
      cases j with
      | zero =>
        cases e1
        cases e2
        exact ⟨_, h1⟩
      | succ j => exact ih.2 j v d (by simpa using e1) (by simpa using e2)
def rSortedD (K : PySem.W.Frag) : List V → Hp → VK → Prop := fun vs H Q => ∃ (a : Addr) (xs : List V) (β : Type) (enc : β → PyData) (bs : List β), vs = [.ref a] ∧ SqL K H a xs ∧ DpAll K H xs (bs.map enc) ∧ PySem.W.AllAlike (bs.map enc) ∧ PySem.W.Sortable (bs.map enc) ∧ bs.length ≤ 10000 ∧ (∀ b ∈ bs, (enc b).depth ≤ 50) ∧
  ∀ (ys : List V) (p : Addr), PySem.W.EachIs (fun y b => ∃ j : Nat, xs[j]? = some y ∧ bs[j]? = some b) ys (bs.mergeSort (PySem.W.dataLe false enc)) → H p = none → Q (.ref p) (upd H p (.lst ys))
theorem cr_sortedD (K : PySem.W.Frag) {X : Cx} (hu : X.A.units + 64 < cLine) (hK : X.K = K := by rfl) : CallR X (.builtin "sorted") (rSortedD K) := by
  subst hK
  intro pins s σ H vs us Q I r h
  obtain ⟨a, xs, β, enc, bs, rfl, hs, hd, hal, hso, hl, hdep, q⟩ := h
  obtain ⟨its, rv, hp, hz⟩ := I.list hs
  obtain ⟨u, rfl, ru⟩ := vals1 r
  obtain rfl : u = Value.ref a := ru
  obtain ⟨as, hr⟩ := Dp.readsAll I _ xs its hd rv
  have le1 : its.length = xs.length := rv.length.symm
  have ra := @rdAll s.heap
  have le2 : its.length = bs.length := by
    have := (ra hr).1
    rwa [List.length_map] at this
  have zx : ∀ pz ∈ its.zip bs, ∃ j : Nat, its[j]? = some pz.1 ∧ bs[j]? = some pz.2 := by
    intro pz hpz
    obtain ⟨j, hj⟩ := List.mem_iff_getElem?.mp hpz
    obtain ⟨h1, h2⟩ := List.getElem?_zip_eq_some.mp hj
    exact ⟨j, h1, h2⟩
  refine PySem.W.sorted_data (enc := enc) (bs := bs) (R := fun v b => ∃ j : Nat, its[j]? = some v ∧ bs[j]? = some b) hp.isList (PySem.W.EachIs.of_zip le2 zx) (PySem.W.EachIs.of_zip le2 fun pz hpz => ?_) hal hso (by have : sizeLine = 16777216 := rfl; omega) (fun b hb => by have := hdep b hb; omega) fun out lo eo => ?_
  · obtain ⟨j, e1, e2⟩ := zx pz hpz
    exact (ra hr).2 j _ _ e1 (by rw [List.getElem?_map, e2]; rfl)
  · obtain ⟨ys, v1, v2⟩ := each_lift (S := L2.RelV) (R' := fun y b => ∃ j : Nat, xs[j]? = some y ∧ bs[j]? = some b) (fun v b h => by
      obtain ⟨j, e1, e2⟩ := h
      have hj : j < its.length := (List.getElem?_eq_some_iff.mp e1).1
      obtain ⟨u, hu, ru⟩ := rv.get (List.getElem?_eq_getElem (show j < xs.length by omega))
      rw [e1] at hu
      cases hu
      exact ⟨_, ru, j, List.getElem?_eq_getElem (by omega), e2⟩) eo
    obtain ⟨e, he⟩ := sortedAll_at s.heap its out.toArray
    have ly : ys.length = out.length := Paired.length v1
    refine ⟨.ref (s.heap.objs.size + 1), upd H (s.heap.objs.size + 1) (.lst ys), I.laid (fun b o e => sortedAll_old e) (by omega) ⟨by have : sizeLine = 16777216 := rfl; omega, out, e, v1, he⟩, rfl, q ys _ v2 (I.hok.fresh (by omega))⟩
/-- what is sorted is what was there -/
theorem each_mem {xs : List V} {β : Type} {bs cs : List β} {ys : List V} (h : PySem.W.EachIs (fun y b => ∃ j : Nat, xs[j]? = some y ∧ bs[j]? = some b) ys cs) {B : List Addr} {H : Hp} {enc : β → PyData} (hA : DtA B H xs (bs.map enc)) : DtA B H ys (cs.map enc) := by
  induction h with
  | nil => exact .nil
  | cons h t ih =>
    obtain ⟨j, e1, e2⟩ := h
    exact .cons (hA.two e1 (by rw [List.getElem?_map, e2]; rfl)) ih
end Z

set_option Elab.async false
set_option linter.all false
set_option maxRecDepth 100000
set_option maxHeartbeats 400000
namespace Z
open PySem PySem.Spec PyProof.Rows L2 L2.DX
theorem op_inDK (K : PySem.W.Frag) {X : Cx} (hu : X.A.units + 65 < cLine) (h : X.K = K := by rfl) : OpR X (compareOp .In) (rInD K) := h ▸ op_inD hu
theorem hu65 {k : Nat} {A : Around} (h : Room k A) : A.units + 65 < cLine := by
  have := h.un
  omega
/-! ### dicts by colours -/
theorem inl_inj {a b : List Int} (h : a.map (Sum.inl (β := Str)) = b.map Sum.inl) : a = b := by
  refine (List.map_inj_right (fun x y e => ?_)).mp h
  exact Sum.inl.inj e
theorem put_keys (ks : List (List Int × Int)) (c : List Int) (n : Int) : ∃ ks' : List (List Int × Int), putK (ks.map entI) (c.map Sum.inl) (.int n) = ks'.map entI ∧ (∀ e ∈ ks', e.1 = c ∨ ∃ f ∈ ks, f.1 = e.1) ∧ (∀ f ∈ ks, ∃ e ∈ ks', e.1 = f.1) ∧ (∃ e ∈ ks', e.1 = c) ∧ ks'.length ≤ ks.length + 1 := by
  unfold putK
  by_cases b : ((ks.map entI).any fun kv => decide (kv.1 = c.map Sum.inl)) = true
  · rw [if_pos b]
    refine ⟨ks.map fun e => if e.1.map (Sum.inl (β := Str)) = c.map Sum.inl then (e.1, n) else e, ?_, fun e he => ?_, fun f hf => ?_, ?_, by simp⟩
    · rw [List.map_map, List.map_map]
      refine List.map_congr_left fun e _ => ?_
      show (if (entI e).1 = c.map Sum.inl then ((entI e).1, V.int n) else entI e) = entI (if e.1.map Sum.inl = c.map Sum.inl then (e.1, n) else e)
      by_cases x : e.1.map (Sum.inl (β := Str)) = c.map Sum.inl
      · rw [if_pos (show (entI e).1 = _ from x), if_pos x]
        rfl
      · rw [if_neg (show ¬ (entI e).1 = _ from x), if_neg x]
    · obtain ⟨f, hf, rfl⟩ := List.mem_map.mp he
      right
      refine ⟨f, hf, ?_⟩
      split <;> rfl
    · refine ⟨_, List.mem_map.mpr ⟨f, hf, rfl⟩, ?_⟩
      split <;> rfl
    · obtain ⟨kv, hkv, hd⟩ := List.any_eq_true.mp b
      obtain ⟨f, hf, rfl⟩ := List.mem_map.mp hkv
      have hd' : f.1.map (Sum.inl (β := Str)) = c.map Sum.inl := of_decide_eq_true hd
      refine ⟨_, List.mem_map.mpr ⟨f, hf, rfl⟩, ?_⟩
      rw [if_pos hd']
      exact inl_inj hd'
  · rw [if_neg b]
    refine ⟨ks ++ [(c, n)], by rw [List.map_append]; rfl, fun e he => ?_, fun f hf => ⟨f, List.mem_append_left _ hf, rfl⟩, ⟨(c, n), by simp, rfl⟩, by simp⟩
    rcases List.mem_append.mp he with x | x
    · exact .inr ⟨e, x, rfl⟩
    · rw [List.mem_singleton.mp x]
      exact .inl rfl
theorem val_int (ks : List (List Int × Int)) (k : List L2.Key) : valV (ks.map entI) k = none ∨ ∃ n : Int, valV (ks.map entI) k = some (.int n) := by
  unfold valV
  cases h : (ks.map entI).find? fun kv => decide (kv.1 = k) with
  | none => exact .inl rfl
  | some kv =>
    obtain ⟨f, _, rfl⟩ := List.mem_map.mp (List.mem_of_find?_eq_some h)
    exact .inr ⟨f.2, rfl⟩
theorem val_at {ks : List (List Int × Int)} {e : List Int × Int} (h : e ∈ ks) : ∃ n : Int, valV (ks.map entI) (e.1.map Sum.inl) = some (.int n) := by
  rcases val_int ks (e.1.map Sum.inl) with z | z
  · exfalso
    unfold valV at z
    rw [Option.map_eq_none_iff, List.find?_eq_none] at z
    exact z (entI e) (List.mem_map.mpr ⟨e, h, rfl⟩) (by simp [entI])
  · exact z
/-- one more of a colour -/
def wS (φ : List Int → Int) (ks : List (List Int × Int)) : Int := (ks.map fun e => e.2 * φ e.1).sum
def gV (ks : List (List Int × Int)) (c : List Int) : V := (valV (ks.map entI) (c.map Sum.inl)).getD (.int 0)
theorem val_cons (e : List Int × Int) (ks : List (List Int × Int)) (c : List Int) : valV ((e :: ks).map entI) (c.map Sum.inl) = if e.1 = c then some (.int e.2) else valV (ks.map entI) (c.map Sum.inl) := by
  unfold valV
  rw [List.map_cons, List.find?_cons]
  by_cases h : e.1 = c
  · rw [if_pos h]
    have : decide ((entI e).1 = c.map Sum.inl) = true := decide_eq_true (by rw [← h]; rfl)
    rw [this]
    rfl
  · rw [if_neg h]
    have : decide ((entI e).1 = c.map Sum.inl) = false := decide_eq_false (fun z => h (inl_inj z))
    rw [this]
theorem val_none {ks : List (List Int × Int)} {c : List Int} (h : c ∉ ks.map Prod.fst) : valV (ks.map entI) (c.map Sum.inl) = none := by
  induction ks with
  | nil => rfl
  | cons e ks ih =>
    rw [val_cons, if_neg (fun z => h (by rw [← z]; simp)), ih (fun z => h (by rw [List.map_cons]; exact List.mem_cons_of_mem _ z))]
theorem val_some {ks : List (List Int × Int)} (nd : (ks.map Prod.fst).Nodup) {e : List Int × Int} (h : e ∈ ks) : valV (ks.map entI) (e.1.map Sum.inl) = some (.int e.2) := by
  induction ks with
  | nil => cases h
  | cons f ks ih =>
    rw [List.map_cons, List.nodup_cons] at nd
    rw [val_cons]
    rcases List.mem_cons.mp h with z | z
    · rw [z, if_pos rfl]
    · rw [if_neg (fun y => nd.1 (by rw [y]; exact List.mem_map.mpr ⟨e, z, rfl⟩)), ih nd.2 z]
def upK (c : List Int) (n : Int) (e : List Int × Int) : List Int × Int := if e.1 = c then (e.1, n) else e
theorem up_fst (c : List Int) (n : Int) (ks : List (List Int × Int)) : (ks.map (upK c n)).map Prod.fst = ks.map Prod.fst := by
  rw [List.map_map]
  refine List.map_congr_left fun e _ => ?_
  show (upK c n e).1 = e.1
  unfold upK
  split <;> rfl
theorem up_sum (φ : List Int → Int) {c : List Int} {n : Int} : ∀ {ks : List (List Int × Int)}, (ks.map Prod.fst).Nodup → ∀ {m : Int}, (c, m) ∈ ks → wS φ (ks.map (upK c n)) = wS φ ks + (n - m) * φ c
  | [], _, _, h => nomatch h
  | e :: ks, nd, m, h => by
    rw [List.map_cons, List.nodup_cons] at nd
    have same : c ∉ ks.map Prod.fst → ks.map (upK c n) = ks := fun hc => by
      refine (List.map_congr_left fun f hf => ?_).trans (List.map_id _)
      unfold upK
      rw [if_neg (fun z => hc (by rw [← z]; exact List.mem_map.mpr ⟨f, hf, rfl⟩))]
      rfl
    unfold wS at *
    rcases List.mem_cons.mp h with z | z
    · have hc : c ∉ ks.map Prod.fst := by have := nd.1; rw [← z] at this; exact this
      rw [List.map_cons, same hc, List.map_cons, List.sum_cons, List.map_cons, List.sum_cons, ← z]
      unfold upK
      rw [if_pos rfl]
      show n * φ c + _ = m * φ c + _ + (n - m) * φ c
      rw [Int.sub_mul]
      omega
    · have ih := up_sum φ (c := c) (n := n) nd.2 z
      unfold wS at ih
      have ne : e.1 ≠ c := fun y => nd.1 (by rw [y]; exact List.mem_map.mpr ⟨_, z, rfl⟩)
      rw [List.map_cons, List.map_cons, List.sum_cons, ih, List.map_cons, List.sum_cons]
      have : upK c n e = e := by unfold upK; rw [if_neg ne]
      rw [this]
      omega
/-- what the dict holds behind one more of c -/
theorem put_count (ks : List (List Int × Int)) (c : List Int) (nd : (ks.map Prod.fst).Nodup) (z : Int) (hz : gV ks c = .int z) : ∃ ks' : List (List Int × Int), putK (ks.map entI) (c.map Sum.inl) (.int (z + 1)) = ks'.map entI ∧ (ks'.map Prod.fst).Nodup ∧ (∀ φ, wS φ ks' = wS φ ks + φ c) ∧ (∀ e ∈ ks', e = (c, z + 1) ∨ e ∈ ks) ∧ (∀ f ∈ ks.map Prod.fst, f ∈ ks'.map Prod.fst) ∧ c ∈ ks'.map Prod.fst ∧ ks'.length ≤ ks.length + 1 := by
  by_cases hc : c ∈ ks.map Prod.fst
  · obtain ⟨e, he, rfl⟩ := List.mem_map.mp hc
    have hv := val_some nd he
    have ez : e.2 = z := by
      unfold gV at hz
      rw [hv] at hz
      exact V.int.inj hz
    have any : ((ks.map entI).any fun kv => decide (kv.1 = e.1.map Sum.inl)) = true := List.any_eq_true.mpr ⟨entI e, List.mem_map.mpr ⟨e, he, rfl⟩, decide_eq_true rfl⟩
    refine ⟨ks.map (upK e.1 (z + 1)), ?_, by rw [up_fst]; exact nd, fun φ => ?_, fun f hf => ?_, fun f hf => by rw [up_fst]; exact hf, by rw [up_fst]; exact hc, by simp⟩
    · unfold putK
      rw [if_pos any, List.map_map, List.map_map]
      refine List.map_congr_left fun f _ => ?_
      show (if (entI f).1 = e.1.map Sum.inl then ((entI f).1, V.int (z + 1)) else entI f) = entI (upK e.1 (z + 1) f)
      unfold upK
      by_cases x : f.1 = e.1
      · rw [if_pos x, if_pos (show (entI f).1 = _ by rw [← x]; rfl)]
        rfl
      · rw [if_neg x, if_neg (show ¬ (entI f).1 = _ from fun y => x (inl_inj y))]
    · rw [up_sum φ nd (m := z) (by rw [← ez]; exact he)]
      have : z + 1 - z = 1 := by omega
      rw [this, Int.one_mul]
    · obtain ⟨g, hg, rfl⟩ := List.mem_map.mp hf
      unfold upK
      split
      · rename_i h
        exact .inl (by rw [h])
      · exact .inr hg
  · have hv := val_none hc
    have ez : z = 0 := by
      unfold gV at hz
      rw [hv] at hz
      exact (V.int.inj hz).symm
    have any : ¬ ((ks.map entI).any fun kv => decide (kv.1 = c.map Sum.inl)) = true := fun h => by
      obtain ⟨kv, hkv, hd⟩ := List.any_eq_true.mp h
      obtain ⟨f, hf, rfl⟩ := List.mem_map.mp hkv
      exact hc (by rw [← inl_inj (of_decide_eq_true hd)]; exact List.mem_map.mpr ⟨f, hf, rfl⟩)
    refine ⟨ks ++ [(c, z + 1)], ?_, ?_, fun φ => ?_, fun f hf => ?_, fun f hf => ?_, by simp, by simp⟩
    · unfold putK
      rw [if_neg any, List.map_append]
      rfl
    · rw [List.map_append, List.nodup_append]
      refine ⟨nd, by simp, fun a ha b hb => ?_⟩
      simp at hb
      rw [hb]
      exact fun y => hc (by rw [← y]; exact ha)
    · unfold wS
      rw [List.map_append, List.sum_append]
      simp [ez]
    · rcases List.mem_append.mp hf with x | x
      · exact .inr x
      · exact .inl (List.mem_singleton.mp x)
    · rw [List.map_append]
      exact List.mem_append_left _ hf
end Z

set_option Elab.async false
set_option linter.all false
set_option maxRecDepth 100000
namespace Z
open PySem PySem.Spec PyProof.Rows L2 L2.DX
def topS (i : Nat) : Stmt := PySem.Challenge.pw_fewcolours_k82_whole_told_with_the_least.main.body.getD i (.Pass ⟨0, 0, 0, 0⟩)
abbrev s_apart : Stmt := topS 1
abbrev N_apart : List Str := ["one", "other", "a", "b"]
theorem sc_apart : FnScope N_apart ["one", "other"] (defScope s_apart) := ⟨rfl, rfl, rfl, by decide +kernel, rfl, by decide +kernel, by decide +kernel⟩
abbrev s_nearest : Stmt := topS 3
abbrev N_nearest : List Str := ["palette", "colour", "squares", "one"]
theorem sc_nearest : FnScope N_nearest ["palette", "colour"] (defScope s_nearest) := ⟨rfl, rfl, rfl, by decide +kernel, rfl, by decide +kernel, by decide +kernel⟩
abbrev s_counts_in : Stmt := topS 5
abbrev N_counts_in : List Str := ["picture", "counts", "row", "colour"]
theorem sc_counts_in : FnScope N_counts_in ["picture"] (defScope s_counts_in) := ⟨rfl, rfl, rfl, by decide +kernel, rfl, by decide +kernel, by decide +kernel⟩
abbrev s_most_used : Stmt := topS 6
abbrev N_most_used : List Str := ["picture", "many", "order", "colour", "count", "less"]
theorem sc_most_used : FnScope N_most_used ["picture", "many"] (defScope s_most_used) := ⟨rfl, rfl, rfl, by decide +kernel, rfl, by decide +kernel, by decide +kernel⟩
abbrev s_numbers_by : Stmt := topS 7
abbrev N_numbers_by : List Str := ["picture", "palette", "row", "colour"]
theorem sc_numbers_by : FnScope N_numbers_by ["picture", "palette"] (defScope s_numbers_by) := ⟨rfl, rfl, rfl, by decide +kernel, rfl, by decide +kernel, by decide +kernel⟩
abbrev s_painted : Stmt := topS 8
abbrev N_painted : List Str := ["numbers", "palette", "row", "number"]
theorem sc_painted : FnScope N_painted ["numbers", "palette"] (defScope s_painted) := ⟨rfl, rfl, rfl, by decide +kernel, rfl, by decide +kernel, by decide +kernel⟩
abbrev s_lost_in : Stmt := topS 9
abbrev N_lost_in : List Str := ["picture", "other", "row", "beside", "a", "b"]
theorem sc_lost_in : FnScope N_lost_in ["picture", "other"] (defScope s_lost_in) := ⟨rfl, rfl, rfl, by decide +kernel, rfl, by decide +kernel, by decide +kernel⟩
abbrev s_l_mix : Stmt := topS 11
abbrev N_l_mix : List Str := ["_law_cell", "_law_k", "_law_m"]
theorem sc_l_mix : FnScope N_l_mix ["_law_cell", "_law_k"] (defScope s_l_mix) := ⟨rfl, rfl, rfl, by decide +kernel, rfl, by decide +kernel, by decide +kernel⟩
abbrev s_l_left : Stmt := topS 12
abbrev N_l_left : List Str := ["_law_script", "_law_k", "_law_cell"]
theorem sc_l_left : FnScope N_l_left ["_law_script", "_law_k"] (defScope s_l_left) := ⟨rfl, rfl, rfl, by decide +kernel, rfl, by decide +kernel, by decide +kernel⟩
abbrev s_l_pick : Stmt := topS 13
abbrev N_l_pick : List Str := ["_law_left_here", "_law_many", "_law_digit"]
theorem sc_l_pick : FnScope N_l_pick ["_law_left_here", "_law_many"] (defScope s_l_pick) := ⟨rfl, rfl, rfl, by decide +kernel, rfl, by decide +kernel, by decide +kernel⟩
abbrev s_l_kind : Stmt := topS 14
abbrev N_l_kind : List Str := ["_law_left_here"]
theorem sc_l_kind : FnScope N_l_kind ["_law_left_here"] (defScope s_l_kind) := ⟨rfl, rfl, rfl, by decide +kernel, rfl, by decide +kernel, by decide +kernel⟩
abbrev s_l_colour : Stmt := topS 15
abbrev N_l_colour : List Str := ["_law_left_here", "_law_kind_here", "_law_wide", "_law_span", "_law_place"]
theorem sc_l_colour : FnScope N_l_colour ["_law_left_here", "_law_kind_here"] (defScope s_l_colour) := ⟨rfl, rfl, rfl, by decide +kernel, rfl, by decide +kernel, by decide +kernel⟩
abbrev s_l_palette : Stmt := topS 16
abbrev N_l_palette : List Str := ["_law_left_here", "_law_kind_here", "_law_many", "_law_found", "_law_k", "_law_colour_here"]
theorem sc_l_palette : FnScope N_l_palette ["_law_left_here", "_law_kind_here"] (defScope s_l_palette) := ⟨rfl, rfl, rfl, by decide +kernel, rfl, by decide +kernel, by decide +kernel⟩
abbrev s_l_picture : Stmt := topS 17
abbrev N_l_picture : List Str := ["_law_left_here", "_law_kind_here", "_law_high", "_law_wide", "_law_some", "_law_found", "_law_row", "_law_spots", "_law_column", "_law_colour_here", "_law_side", "_law_k"]
theorem sc_l_picture : FnScope N_l_picture ["_law_left_here", "_law_kind_here"] (defScope s_l_picture) := ⟨rfl, rfl, rfl, by decide +kernel, rfl, by decide +kernel, by decide +kernel⟩
abbrev s_l_apart : Stmt := topS 18
abbrev N_l_apart : List Str := ["_law_one", "_law_other", "_law_a", "_law_b"]
theorem sc_l_apart : FnScope N_l_apart ["_law_one", "_law_other"] (defScope s_l_apart) := ⟨rfl, rfl, rfl, by decide +kernel, rfl, by decide +kernel, by decide +kernel⟩
abbrev s_l_all_tellings : Stmt := topS 19
abbrev N_l_all_tellings : List Str := ["_law_many", "_law_wide", "_law_found", "_law_spot", "_law_longer", "_law_one", "_law_number"]
theorem sc_l_all_tellings : FnScope N_l_all_tellings ["_law_many", "_law_wide"] (defScope s_l_all_tellings) := ⟨rfl, rfl, rfl, by decide +kernel, rfl, by decide +kernel, by decide +kernel⟩
abbrev s_l_piece_right : Stmt := topS 20
abbrev N_l_piece_right : List Str := ["_law_spots", "_law_few", "_law_due", "_law_numbers", "_law_lost"]
theorem sc_l_piece_right : FnScope N_l_piece_right ["_law_spots", "_law_few"] (defScope s_l_piece_right) := ⟨rfl, rfl, rfl, by decide +kernel, rfl, by decide +kernel, by decide +kernel⟩
abbrev s_l_no_other : Stmt := topS 21
abbrev N_l_no_other : List Str := ["_law_picture_here", "_law_palette_here", "_law_numbers", "_law_row", "_law_told", "_law_colour_here", "_law_number", "_law_here", "_law_k", "_law_one"]
theorem sc_l_no_other : FnScope N_l_no_other ["_law_picture_here", "_law_palette_here", "_law_numbers"] (defScope s_l_no_other) := ⟨rfl, rfl, rfl, by decide +kernel, rfl, by decide +kernel, by decide +kernel⟩
abbrev s_l_counts_right : Stmt := topS 22
abbrev N_l_counts_right : List Str := ["_law_picture_here", "_law_palette_here", "_law_lost", "_law_total", "_law_colour_here", "_law_count", "_law_used", "_law_told", "_law_kept", "_law_row", "_law_beside", "_law_one", "_law_other"]
theorem sc_l_counts_right : FnScope N_l_counts_right ["_law_picture_here", "_law_palette_here", "_law_lost"] (defScope s_l_counts_right) := ⟨rfl, rfl, rfl, by decide +kernel, rfl, by decide +kernel, by decide +kernel⟩
abbrev s_law : Stmt := topS 23
abbrev N_law : List Str := ["_law_script", "_law_k", "_law_left_here", "_law_kind_here", "_law_picture_here", "_law_palette_here", "_law_spots", "_law_numbers", "_law_lost"]
theorem sc_law : FnScope N_law ["_law_script"] (defScope s_law) := ⟨rfl, rfl, rfl, by decide +kernel, rfl, by decide +kernel, by decide +kernel⟩
structure Tx (K : PySem.W.Frag) (mg : Str → Option Value) where
  f_apart : Addr
  d_apart : FuncData
  F_apart : Fun K "apart" "apart" s_apart f_apart d_apart
  b_apart : Binds K d_apart ["one", "other"] []
  g_apart : mg "apart" = some (.ref f_apart)
  f_nearest : Addr
  d_nearest : FuncData
  F_nearest : Fun K "nearest" "nearest" s_nearest f_nearest d_nearest
  b_nearest : Binds K d_nearest ["palette", "colour"] []
  g_nearest : mg "nearest" = some (.ref f_nearest)
  f_counts_in : Addr
  d_counts_in : FuncData
  F_counts_in : Fun K "counts_in" "counts_in" s_counts_in f_counts_in d_counts_in
  b_counts_in : Binds K d_counts_in ["picture"] []
  g_counts_in : mg "counts_in" = some (.ref f_counts_in)
  f_most_used : Addr
  d_most_used : FuncData
  F_most_used : Fun K "most_used" "most_used" s_most_used f_most_used d_most_used
  b_most_used : Binds K d_most_used ["picture", "many"] []
  g_most_used : mg "most_used" = some (.ref f_most_used)
  f_numbers_by : Addr
  d_numbers_by : FuncData
  F_numbers_by : Fun K "numbers_by" "numbers_by" s_numbers_by f_numbers_by d_numbers_by
  b_numbers_by : Binds K d_numbers_by ["picture", "palette"] []
  g_numbers_by : mg "numbers_by" = some (.ref f_numbers_by)
  f_painted : Addr
  d_painted : FuncData
  F_painted : Fun K "painted" "painted" s_painted f_painted d_painted
  b_painted : Binds K d_painted ["numbers", "palette"] []
  g_painted : mg "painted" = some (.ref f_painted)
  f_lost_in : Addr
  d_lost_in : FuncData
  F_lost_in : Fun K "lost_in" "lost_in" s_lost_in f_lost_in d_lost_in
  b_lost_in : Binds K d_lost_in ["picture", "other"] []
  g_lost_in : mg "lost_in" = some (.ref f_lost_in)
  f_l_mix : Addr
  d_l_mix : FuncData
  F_l_mix : Fun K "_law_mix" "_law_mix" s_l_mix f_l_mix d_l_mix
  b_l_mix : Binds K d_l_mix ["_law_cell", "_law_k"] []
  g_l_mix : mg "_law_mix" = some (.ref f_l_mix)
  f_l_left : Addr
  d_l_left : FuncData
  F_l_left : Fun K "_law_left" "_law_left" s_l_left f_l_left d_l_left
  b_l_left : Binds K d_l_left ["_law_script", "_law_k"] []
  g_l_left : mg "_law_left" = some (.ref f_l_left)
  f_l_pick : Addr
  d_l_pick : FuncData
  F_l_pick : Fun K "_law_pick" "_law_pick" s_l_pick f_l_pick d_l_pick
  b_l_pick : Binds K d_l_pick ["_law_left_here", "_law_many"] []
  g_l_pick : mg "_law_pick" = some (.ref f_l_pick)
  f_l_kind : Addr
  d_l_kind : FuncData
  F_l_kind : Fun K "_law_kind" "_law_kind" s_l_kind f_l_kind d_l_kind
  b_l_kind : Binds K d_l_kind ["_law_left_here"] []
  g_l_kind : mg "_law_kind" = some (.ref f_l_kind)
  f_l_colour : Addr
  d_l_colour : FuncData
  F_l_colour : Fun K "_law_colour" "_law_colour" s_l_colour f_l_colour d_l_colour
  b_l_colour : Binds K d_l_colour ["_law_left_here", "_law_kind_here"] []
  g_l_colour : mg "_law_colour" = some (.ref f_l_colour)
  f_l_palette : Addr
  d_l_palette : FuncData
  F_l_palette : Fun K "_law_palette" "_law_palette" s_l_palette f_l_palette d_l_palette
  b_l_palette : Binds K d_l_palette ["_law_left_here", "_law_kind_here"] []
  g_l_palette : mg "_law_palette" = some (.ref f_l_palette)
  f_l_picture : Addr
  d_l_picture : FuncData
  F_l_picture : Fun K "_law_picture" "_law_picture" s_l_picture f_l_picture d_l_picture
  b_l_picture : Binds K d_l_picture ["_law_left_here", "_law_kind_here"] []
  g_l_picture : mg "_law_picture" = some (.ref f_l_picture)
  f_l_apart : Addr
  d_l_apart : FuncData
  F_l_apart : Fun K "_law_apart" "_law_apart" s_l_apart f_l_apart d_l_apart
  b_l_apart : Binds K d_l_apart ["_law_one", "_law_other"] []
  g_l_apart : mg "_law_apart" = some (.ref f_l_apart)
  f_l_all_tellings : Addr
  d_l_all_tellings : FuncData
  F_l_all_tellings : Fun K "_law_all_tellings" "_law_all_tellings" s_l_all_tellings f_l_all_tellings d_l_all_tellings
  b_l_all_tellings : Binds K d_l_all_tellings ["_law_many", "_law_wide"] []
  g_l_all_tellings : mg "_law_all_tellings" = some (.ref f_l_all_tellings)
  f_l_piece_right : Addr
  d_l_piece_right : FuncData
  F_l_piece_right : Fun K "_law_piece_right" "_law_piece_right" s_l_piece_right f_l_piece_right d_l_piece_right
  b_l_piece_right : Binds K d_l_piece_right ["_law_spots", "_law_few"] []
  g_l_piece_right : mg "_law_piece_right" = some (.ref f_l_piece_right)
  f_l_no_other : Addr
  d_l_no_other : FuncData
  F_l_no_other : Fun K "_law_no_other" "_law_no_other" s_l_no_other f_l_no_other d_l_no_other
  b_l_no_other : Binds K d_l_no_other ["_law_picture_here", "_law_palette_here", "_law_numbers"] []
  g_l_no_other : mg "_law_no_other" = some (.ref f_l_no_other)
  f_l_counts_right : Addr
  d_l_counts_right : FuncData
  F_l_counts_right : Fun K "_law_counts_right" "_law_counts_right" s_l_counts_right f_l_counts_right d_l_counts_right
  b_l_counts_right : Binds K d_l_counts_right ["_law_picture_here", "_law_palette_here", "_law_lost"] []
  g_l_counts_right : mg "_law_counts_right" = some (.ref f_l_counts_right)
  z_abs : mg "abs" = none
  z_enumerate : mg "enumerate" = none
  z_int : mg "int" = none
  z_len : mg "len" = none
  z_min : mg "min" = none
  z_range : mg "range" = none
  z_sorted : mg "sorted" = none
  z_sum : mg "sum" = none
  z_tuple : mg "tuple" = none
  z_zip : mg "zip" = none
section
variable {P : Program} {w : World} {K : PySem.W.Frag} {mg : Str → Option Value} {base : Heap}
/-! ### mix -/
def spMix : Sp := fun vs H Q _ => ∃ c n : Int, vs = [.int c, .int n] ∧ 0 ≤ n ∧ n < 2000000000 ∧ ∀ r : Int, 0 ≤ r → r < 1999999973 → Q (.int r) H
theorem ok_l_mix (T : Tx K mg) {k : Nat} : FnOk P w K mg base CX0 (k + 1) T.f_l_mix T.d_l_mix ["_law_cell", "_law_k"] spMix := by
  refine T.F_l_mix.ok sc_l_mix (fun vs H Q E h => ?_) (fun cdv A outer s H vs Q E hr h => ?_)
  · obtain ⟨c, n, rfl, _⟩ := h
    rfl
  · obtain ⟨c, n, rfl, h1, h2, q⟩ := h
    refine ⟨_, (pss_cons (ps_set (i := 2) sc_l_mix.nd rfl (.inl rfl) (pe_op op_mod (pe_op op_mul (pe_op op_add (pe_op op_add (pe_op op_mod (pv 0) pe_int) (pe_op op_mul (pe_op op_mul (pv 1) (pv 1)) pe_int)) pe_int) pe_int) pe_int))
      (pss_one (ps_ret (pe_op op_mod (pe_op op_mul (pv 2) (pv 2)) pe_int)))), ?_⟩
    refine ⟨.int c, rfl, _, _, rfl, rfl, md (by decide), .int n, rfl, .int n, rfl, _, _, rfl, rfl, .inl ⟨by omega, by omega⟩, _, _, rfl, rfl, .inr ⟨by decide, by decide⟩, _, _, rfl, rfl, _, _, rfl, rfl, _, _, rfl, rfl, .inr ⟨by decide, by decide⟩, _, _, rfl, rfl, md (by decide), ?_⟩
    refine ⟨_, rfl, _, rfl, _, _, rfl, rfl, .inl ⟨?_, ?_⟩, _, _, rfl, rfl, md (by decide), ?_⟩
    · omega
    · omega
    · exact q _ (Int.emod_nonneg _ (by decide)) (Int.emod_lt_of_pos _ (by decide))
/-! ### left -/
def spLeft (K : PySem.W.Frag) : Sp := fun vs H Q _ => ∃ (a : Addr) (ns : List Int) (n : Int), vs = [.ref a, .int n] ∧ SqL K H a (ns.map V.int) ∧ 0 ≤ n ∧ ∀ (p : Addr) (x y : Int), H p = none → 0 ≤ x → Q (.ref p) (upd H p (.lst [.int x, .int y, .int 0]))
theorem left_end {c n : Int} {H : Hp} {Q : VK} (q : ∀ (p : Addr) (x y : Int), H p = none → 0 ≤ x → Q (.ref p) (upd H p (.lst [.int x, .int y, .int 0]))) (p : Addr) (hp : H p = none) (b : Bool) :
    Q (.ref p) (upd H p (.lst [.int ((if c < 0 then -c else c) * (if b = true then 1 else 0)), .int (c + 1000003 * n), .int 0])) := by
  refine q p _ _ hp ?_
  cases b <;> simp <;> split <;> omega
theorem ok_l_left (T : Tx K mg) {k : Nat} : FnOk P w K mg base CX0 (k + 1) T.f_l_left T.d_l_left ["_law_script", "_law_k"] (spLeft K) := by
  refine T.F_l_left.ok sc_l_left (fun vs H Q E h => ?_) (fun cdv A outer s H vs Q E hr h => ?_)
  · obtain ⟨a, ns, n, rfl, _⟩ := h
    rfl
  · obtain ⟨a, ns, n, rfl, hS, h1, q⟩ := h
    refine ⟨_, (pss_cons (ps_set (i := 2) sc_l_left.nd rfl (.inl rfl) (pe_ifExp (pt_cmpR op_lt (pv 1) (pe_callB (len_K K) (by rfl) T.z_len PySem.boot_len (pa_cons (pv 0) pa_nil)) (nomark _)) (pe_ix (ix_listK K) (pv 0) (pv 1) (fun _ _ => rfl)) pe_int))
      (pss_one (ps_ret (pe_lst (pa_cons (pe_op op_mul (pe_callB call_abs (by rfl) T.z_abs (by decide +kernel) (pa_cons (pv 2) pa_nil)) (pe_callTy call_int1 (by rfl) T.z_int (by decide +kernel) (pa_cons (pe_cmpR op_ge (pe_callB call_abs (by rfl) T.z_abs (by decide +kernel) (pa_cons (pv 2) pa_nil)) (pe_op op_pow pe_int pe_int) (nomark _)) pa_nil))) (pa_cons (pe_op op_add (pv 2) (pe_op op_mul pe_int (pv 1))) (pa_cons pe_int pa_nil))))))), ?_⟩
    refine ⟨_, rfl, _, rfl, a, _, rfl, .inl hS, _, _, rfl, rfl, _, rfl, ite2 (fun e => ?_) (fun e => ?_)⟩
    · have e1 : n < (ns.map V.int).length := of_decide_eq_true e
      rw [List.length_map] at e1
      have g : atI (ns.map V.int) n = some (.int (ns[n.toNat]'(by omega))) := at0 h1 (by rw [List.getElem?_map, List.getElem?_eq_getElem]; rfl)
      refine ⟨_, rfl, _, rfl, a, _, _, _, rfl, rfl, hS, g, ?_⟩
      exact ⟨_, rfl, _, rfl, _, rfl, _, rfl, _, _, rfl, rfl, ⟨by decide, by decide, by decide⟩, _, _, rfl, rfl, .inr ⟨_, rfl, _, _, rfl, rfl, .inr (bit_ok _), _, rfl, _, rfl, _, _, rfl, rfl, .inl ⟨by decide, by decide⟩, _, _, rfl, rfl, (by show 3 ≤ sizeLine; decide), fun p hp => left_end q p hp _⟩⟩
    · exact ⟨_, rfl, _, rfl, _, rfl, _, rfl, _, _, rfl, rfl, ⟨by decide, by decide, by decide⟩, _, _, rfl, rfl, .inr ⟨_, rfl, _, _, rfl, rfl, .inr (bit_ok _), _, rfl, _, rfl, _, _, rfl, rfl, .inl ⟨by decide, by decide⟩, _, _, rfl, rfl, (by show 3 ≤ sizeLine; decide), fun p hp => left_end q p hp _⟩⟩
/-! ### pick -/
def spPick : Sp := fun vs H Q _ => ∃ (L : Addr) (m : Int) (n : Nat), vs = [.ref L, .int m] ∧ Lf L H n ∧ n < 1000000000 ∧ 0 < m ∧ m < 1073741824 ∧ ∀ (r : Int) (H' : Hp), Go [L] H H' → Lf L H' (n + 1) → 0 ≤ r → r < m → Q (.int r) H'
theorem ok_l_pick (T : Tx K mg) {k : Nat} : FnOk P w K mg base CX0 (k + 2) T.f_l_pick T.d_l_pick ["_law_left_here", "_law_many"] spPick := by
  refine T.F_l_pick.ok sc_l_pick (fun vs H Q E h => ?_) (fun cdv A outer s H vs Q E hr h => ?_)
  · obtain ⟨L, m, n, rfl, _⟩ := h
    rfl
  · obtain ⟨L, m, n, rfl, ⟨a, b, c, hL, a0, c0, cn⟩, hn, m0, m1, q⟩ := h
    refine ⟨_, (pss_cons (ps_asg (pe_op op_add (pe_ix (ix_listK K) (pv 0) pe_int (fun _ _ => rfl)) pe_int) (pg_sub (pv 0) pe_int set_list))
      (pss_cons (ps_if (pt_cmpR op_gt (pe_ix (ix_listK K) (pv 0) pe_int (fun _ _ => rfl)) pe_int (nomark _)) (pss_cons (ps_set (i := 2) sc_l_pick.nd rfl (.inl rfl) (pe_op op_mod (pe_ix (ix_listK K) (pv 0) pe_int (fun _ _ => rfl)) (pv 1)))
      (pss_cons (ps_asg (pe_op op_fdiv (pe_ix (ix_listK K) (pv 0) pe_int (fun _ _ => rfl)) (pv 1)) (pg_sub (pv 0) pe_int set_list))
      (pss_one (ps_ret (pv 2))))) pss_nil)
      (pss_one (ps_ret (pe_op op_mod (pe_op op_fdiv (pe_call (ok_l_mix T (k := k)) hr (by rfl) T.g_l_mix T.F_l_mix.kp T.b_l_mix .nil pass0 (pa_cons (pe_call (ok_l_mix T (k := k)) hr (by rfl) T.g_l_mix T.F_l_mix.kp T.b_l_mix .nil pass0 (pa_cons (pe_ix (ix_listK K) (pv 0) pe_int (fun _ _ => rfl)) (pa_cons (pe_ix (ix_listK K) (pv 0) pe_int (fun _ _ => rfl)) pa_nil))) (pa_cons (pe_op op_add (pe_ix (ix_listK K) (pv 0) pe_int (fun _ _ => rfl)) pe_int) pa_nil))) pe_int) (pv 1)))))), ?_⟩
    refine ⟨_, rfl, L, _, 2, .int c, rfl, rfl, SqL.of hL, rfl, _, _, rfl, rfl, _, rfl, L, _, _, 2, rfl, rfl, hL, rfl, ?_⟩
    generalize hH : upd H L (.lst (List.set [V.int a, V.int b, V.int c] 2 (V.int (c + 1)))) = H1
    have hL1 : H1 L = some (.lst [.int a, .int b, .int (c + 1)]) := by rw [← hH]; exact upd_same
    have g1 : Go [L] H H1 := by rw [← hH]; exact Go.refl.at (List.mem_singleton.mpr rfl)
    refine ⟨_, rfl, L, _, 0, .int a, rfl, rfl, SqL.of hL1, rfl, _, _, rfl, rfl, _, rfl, ite2 (fun e => ?_) (fun e => ?_)⟩
    · have e1 : 0 < a := of_decide_eq_true e
      refine ⟨_, rfl, L, _, 0, .int a, rfl, rfl, SqL.of hL1, rfl, _, rfl, _, _, rfl, rfl, md m0, ?_⟩
      refine ⟨_, rfl, L, _, 0, .int a, rfl, rfl, SqL.of hL1, rfl, _, rfl, _, _, rfl, rfl, ⟨m0, m1⟩, _, rfl, L, _, _, 0, rfl, rfl, hL1, rfl, ?_⟩
      refine ⟨_, rfl, ?_⟩
      exact q _ _ (g1.at (List.mem_singleton.mpr rfl)) ⟨a / m, b, c + 1, upd_same, Int.ediv_nonneg a0 (by omega), by omega, by omega⟩ (Int.emod_nonneg _ (by omega)) (Int.emod_lt_of_pos _ m0)
    · refine ⟨_, rfl, L, _, 1, .int b, rfl, rfl, SqL.of hL1, rfl, _, rfl, L, _, 2, .int (c + 1), rfl, rfl, SqL.of hL1, rfl, _, _, rfl, by omega, by omega, fun r1 _ _ => ?_⟩
      refine ⟨_, rfl, L, _, 2, .int (c + 1), rfl, rfl, SqL.of hL1, rfl, _, _, rfl, rfl, _, _, rfl, by omega, by omega, fun r2 _ _ => ?_⟩
      refine ⟨_, _, rfl, rfl, ⟨by decide, by decide⟩, _, rfl, _, _, rfl, rfl, md m0, ?_⟩
      exact q _ _ g1 ⟨a, b, c + 1, hL1, a0, by omega, by omega⟩ (Int.emod_nonneg _ (by omega)) (Int.emod_lt_of_pos _ m0)
/-! ### kind -/
def spKind : Sp := fun vs H Q _ => ∃ (L : Addr) (n : Nat), vs = [.ref L] ∧ Lf L H n ∧ n < 100000000 ∧ ∀ (v : V) (H' : Hp) (wd sp : Int), Go [L] H H' → Lf L H' (n + 2) → 1 ≤ wd → wd ≤ 5 → 3 ≤ sp → sp ≤ 1000 → Dt [L] H' v (eC [wd, sp]) → Q v H'
theorem ok_l_kind (T : Tx K mg) {k : Nat} : FnOk P w K mg base CX0 (k + 3) T.f_l_kind T.d_l_kind ["_law_left_here"] spKind := by
  refine T.F_l_kind.ok sc_l_kind (fun vs H Q E h => ?_) (fun cdv A outer s H vs Q E hr h => ?_)
  · obtain ⟨L, n, rfl, _⟩ := h
    rfl
  · obtain ⟨L, n, rfl, hL, hn, q⟩ := h
    refine ⟨_, (pss_one (ps_ret (pe_tup (pa_cons (pe_ix (ix_listK K) (pe_lst (pa_cons pe_int (pa_cons pe_int (pa_cons pe_int (pa_cons pe_int (pa_cons pe_int (pa_cons pe_int (pa_cons pe_int (pa_cons pe_int pa_nil))))))))) (pe_call (ok_l_pick T (k := k)) hr (by rfl) T.g_l_pick T.F_l_pick.kp T.b_l_pick .nil pass0 (pa_cons (pv 0) (pa_cons pe_int pa_nil))) (fun _ _ => rfl)) (pa_cons (pe_ix (ix_listK K) (pe_lst (pa_cons pe_int (pa_cons pe_int (pa_cons pe_int (pa_cons pe_int (pa_cons pe_int (pa_cons pe_int pa_nil))))))) (pe_call (ok_l_pick T (k := k)) hr (by rfl) T.g_l_pick T.F_l_pick.kp T.b_l_pick .nil pass0 (pa_cons (pv 0) (pa_cons pe_int pa_nil))) (fun _ _ => rfl)) pa_nil))))), ?_⟩
    refine ⟨(by show 8 ≤ sizeLine; decide), fun p hp => ?_⟩
    refine ⟨_, rfl, L, 8, n, rfl, hL.new hp, by omega, by decide, by decide, fun r1 H1 g1 l1 a1 b1 => ?_⟩
    have e1 : H1 p = some (.lst ([1, 2, 3, 3, 3, 4, 5, 2].map V.int)) := g1.k p _ (hL.bk.ne hp) upd_same
    obtain ⟨wd, mw, ew⟩ := at_int (ns := [1, 2, 3, 3, 3, 4, 5, 2]) a1 b1
    refine ⟨p, _, r1, .int wd, rfl, rfl, SqL.of e1, ew, (by show 6 ≤ sizeLine; decide), fun p2 hp2 => ?_⟩
    refine ⟨_, rfl, L, 6, n + 1, rfl, l1.new hp2, by omega, by decide, by decide, fun r2 H2 g2 l2 a2 b2 => ?_⟩
    have e2 : H2 p2 = some (.lst ([3, 6, 20, 256, 1000, 10].map V.int)) := g2.k p2 _ (l1.bk.ne hp2) upd_same
    obtain ⟨sp, ms, es⟩ := at_int (ns := [3, 6, 20, 256, 1000, 10]) a2 b2
    refine ⟨p2, _, r2, .int sp, rfl, rfl, SqL.of e2, es, (by show 2 ≤ sizeLine; decide), fun p3 hp3 => ?_⟩
    simp at mw ms
    refine q _ _ wd sp (((((Go.new hp).trans g1).trans (Go.new hp2)).trans g2).trans (Go.new hp3)) (l2.new hp3) (by omega) (by omega) (by omega) (by omega) (Dt.ofCol (l2.bk.ne hp3) upd_same)
/-! ### colour -/
def spColour : Sp := fun vs H Q _ => ∃ (L : Addr) (B : List Addr) (n : Nat) (kv : V) (wd sp : Int), vs = [.ref L, kv] ∧ Lf L H n ∧ L ∈ B ∧ Bk B H ∧ n < 100000000 ∧ Dt [L] H kv (eC [wd, sp]) ∧ 0 ≤ wd ∧ wd ≤ 5 ∧ 1 ≤ sp ∧ sp ≤ 1000 ∧
  ∀ (v : V) (H' : Hp) (ns : List Int), Go [L] H H' → Lf L H' (n + 10) → Dt B H' v (eC ns) → (ns.length : Int) = wd → cIn 0 999 ns → Q v H'
theorem ok_l_colour (T : Tx K mg) {k : Nat} : FnOk P w K mg base CX0 (k + 3) T.f_l_colour T.d_l_colour ["_law_left_here", "_law_kind_here"] spColour := by
  refine T.F_l_colour.ok sc_l_colour (fun vs H Q E h => ?_) (fun cdv A outer s H vs Q E hr h => ?_)
  · obtain ⟨L, B, n, kv, wd, sp, rfl, _⟩ := h
    rfl
  · obtain ⟨L, B, n, kv, wd, sp, rfl, hL, LB, hB, hn, hk, w0, w1, s0, s1, q⟩ := h
    obtain ⟨ka, rfl, nk, hkT⟩ := hk.col
    refine ⟨_, (pss_cons (ps_asg (pv 1) (pg_tupK K (n := 2) rfl (pgs_cons (pg_name (i := 2) sc_l_colour.nd rfl (.inl rfl)) (pgs_cons (pg_name (i := 3) sc_l_colour.nd rfl (.inr rfl)) pgs_nil))))
      (pss_one (ps_ret (pe_callTy (tuple_K K) (by rfl) T.z_tuple (by decide +kernel) (pa_cons (pe_lc (own := [("_law_place", 4)]) (by rfl) sc_l_colour.nd (pi_range1 (by rfl) T.z_range (pa_cons (pv 2) pa_nil)) (blkOk_by (own := [("_law_place", 4)]) (N := N_l_colour) (sc := defScope s_l_colour) (by decide +kernel)) (fun _ _ _ _ _ => (pg_name (i := 4) sc_l_colour.nd rfl (.inl rfl))) (fun _ _ _ _ _ => pts_nil) (fun _ _ _ _ _ => (pe_ix (ix_listK K) (pe_lst (pa_cons (pe_call (ok_l_pick T (k := k)) hr (by rfl) T.g_l_pick T.F_l_pick.kp T.b_l_pick .nil pass0 (pa_cons (pv 0) (pa_cons (pv 3) pa_nil))) (pa_cons pe_int pa_nil))) (pe_callTy call_int1 (by rfl) T.z_int (by decide +kernel) (pa_cons (pe_cmpR op_eq (pe_call (ok_l_pick T (k := k)) hr (by rfl) T.g_l_pick T.F_l_pick.kp T.b_l_pick .nil pass0 (pa_cons (pv 0) (pa_cons pe_int pa_nil))) pe_int (nomark _)) pa_nil)) (fun _ _ => rfl)))) pa_nil))))), ?_⟩
    refine ⟨_, rfl, ka, [.int wd, .int sp], rfl, SqT.of hkT, rfl, .int wd, _, rfl, .int sp, _, rfl, rfl, ?_⟩
    refine ⟨_, rfl, wd, rfl, by omega, by omega, fun D hD => ?_⟩
    refine lc_range (lo := 0) (n := wd.toNat) (fun i H' => ∃ ns : List Int, ns.length = i ∧ cIn 0 999 ns ∧ Go [L] H H' ∧ Lf L H' (n + 2 * i) ∧ H' D = some (.lst (ns.map V.int)))
      ⟨[], rfl, cIn.nil, Go.new hD, hL.new hD, upd_same⟩ (fun i H1 hi h1 => ?_) (fun H1 h1 => ?_)
    · obtain ⟨ns, en, cn, g, l, eD⟩ := h1
      have nD : D ∉ [L] := hL.bk.ne hD
      refine ⟨rfl, lc_yes ?_⟩
      refine ⟨_, rfl, _, rfl, L, sp, n + 2 * i, rfl, l, by omega, by omega, by omega, fun r1 H2 g2 l2 a1 b1 => ?_⟩
      refine ⟨(by show 2 ≤ sizeLine; decide), fun p hp => ?_⟩
      refine ⟨_, rfl, L, 8, n + 2 * i + 1, rfl, l2.new hp, by omega, by decide, by decide, fun r2 H3 g3 l3 a2 b2 => ?_⟩
      have e3 : H3 p = some (.lst [.int r1, .int 999]) := g3.k p _ (l2.bk.ne hp) upd_same
      refine ⟨rfl, .inr ⟨_, rfl, p, _, _, _, rfl, rfl, SqL.of e3, at2 _ _ _, ns.map V.int, ?_⟩⟩
      have gg : Go [L] H1 H3 := (g2.trans (Go.new hp)).trans g3
      obtain ⟨x, ex, x0, x1⟩ : ∃ x : Int, (if decide (V.int r2 = V.int 0) = true then V.int 999 else V.int r1) = .int x ∧ 0 ≤ x ∧ x ≤ 999 := by
        by_cases hb : decide (V.int r2 = V.int 0) = true
        · rw [if_pos hb]
          exact ⟨999, rfl, by decide, by decide⟩
        · rw [if_neg hb]
          exact ⟨r1, rfl, by omega, by omega⟩
      refine ⟨gg.k D _ nD eD, sz (by rw [List.length_map]; omega), ns ++ [x], ?_, cn.app x0 x1, (g.trans gg).mut hD, (l3.up (hL.ne hD)).mono (by omega), ?_⟩
      · rw [List.length_append]
        simp
        omega
      · rw [upd_same, List.map_append, ex]
        rfl
    · obtain ⟨ns, en, cn, g, l, eD⟩ := h1
      refine ⟨D, _, rfl, .inl ⟨SqL.of eD, fun t ht => ?_⟩⟩
      exact q _ _ ns (g.trans (Go.new ht)) ((l.new ht).mono (by omega)) (Dt.ofCol ((hB.go g).ne ht) upd_same) (by omega) cn
/-! ### palette -/
def cOk (wd : Int) (c : List Int) : Prop := (c.length : Int) = wd ∧ cIn 0 999 c
def spPalette : Sp := fun vs H Q _ => ∃ (L : Addr) (n : Nat) (kv : V) (wd sp : Int), vs = [.ref L, kv] ∧ Lf L H n ∧ n < 10000000 ∧ Dt [L] H kv (eC [wd, sp]) ∧ 0 ≤ wd ∧ wd ≤ 5 ∧ 1 ≤ sp ∧ sp ≤ 1000 ∧
  ∀ (v : V) (H' : Hp) (cs : List (List Int)), Go [L] H H' → Lf L H' (n + 1000) → Dt [L] H' v (eP cs) → 0 < cs.length → cs.length ≤ 40 → (∀ c ∈ cs, cOk wd c) → Q v H'
theorem ok_l_palette (T : Tx K mg) {k : Nat} : FnOk P w K mg base CX0 (k + 4) T.f_l_palette T.d_l_palette ["_law_left_here", "_law_kind_here"] spPalette := by
  refine T.F_l_palette.ok sc_l_palette (fun vs H Q E h => ?_) (fun cdv A outer s H vs Q E hr h => ?_)
  · obtain ⟨L, n, kv, wd, sp, rfl, _⟩ := h
    rfl
  · obtain ⟨L, n, kv, wd, sp, rfl, hL, hn, hk, w0, w1, s0, s1, q⟩ := h
    refine ⟨_, (pss_cons (ps_set (i := 2) sc_l_palette.nd rfl (.inl rfl) (pe_ix (ix_listK K) (pe_lst (pa_cons pe_int (pa_cons pe_int (pa_cons pe_int (pa_cons pe_int (pa_cons pe_int (pa_cons pe_int (pa_cons pe_int (pa_cons (pe_op op_add pe_int (pe_call (ok_l_pick T (k := k + 1)) hr (by rfl) T.g_l_pick T.F_l_pick.kp T.b_l_pick .nil pass0 (pa_cons (pv 0) (pa_cons pe_int pa_nil)))) pa_nil))))))))) (pe_call (ok_l_pick T (k := k + 1)) hr (by rfl) T.g_l_pick T.F_l_pick.kp T.b_l_pick .nil pass0 (pa_cons (pv 0) (pa_cons pe_int pa_nil))) (fun _ _ => rfl)))
      (pss_cons (ps_set (i := 3) sc_l_palette.nd rfl (.inl rfl) (pe_lst pa_nil))
      (pss_cons (ps_for PassesOwn.never rfl (pi_range1 (by rfl) T.z_range (pa_cons (pv 2) pa_nil)) (pg_name (i := 4) sc_l_palette.nd rfl (.inl rfl)) (pss_cons (ps_set (i := 5) sc_l_palette.nd rfl (.inl rfl) (pe_call (ok_l_colour T (k := k)) hr (by rfl) T.g_l_colour T.F_l_colour.kp T.b_l_colour .nil pass0 (pa_cons (pv 0) (pa_cons (pv 1) pa_nil))))
      (Evl.pss_cut (ps_if (PW.pt (pw_and (pt_cmpR (op_neDK K hr.units) (pv 3) (pe_lst pa_nil) (nomark _)) (pw_and1 (pt_cmpR op_eq (pe_call (ok_l_pick T (k := k + 1)) hr (by rfl) T.g_l_pick T.F_l_pick.kp T.b_l_pick .nil pass0 (pa_cons (pv 0) (pa_cons pe_int pa_nil))) pe_int (nomark _))))) (pss_one (ps_set (i := 5) sc_l_palette.nd rfl (.inl rfl) (pe_ix (ix_listK K) (pv 3) (pe_call (ok_l_pick T (k := k + 1)) hr (by rfl) T.g_l_pick T.F_l_pick.kp T.b_l_pick .nil pass0 (pa_cons (pv 0) (pa_cons (pe_callB (len_K K) (by rfl) T.z_len PySem.boot_len (pa_cons (pv 3) pa_nil)) pa_nil))) (fun _ _ => rfl)))) pss_nil)
      (pss_one (ps_expr (pe_bm PySem.F.plainAttrs_list PySem.F.slot_list_append PySem.F.type_list_append mt_append (pv 3) (pa_cons (pv 5) pa_nil)))))))
      (pss_one (ps_ret (pv 3)))))), ?_⟩
    refine ⟨_, rfl, L, 31, n, rfl, hL, by omega, by decide, by decide, fun r1 H1 g1 l1 a1 b1 => ?_⟩
    refine ⟨_, _, rfl, rfl, (by show 8 ≤ sizeLine; decide), fun p hp => ?_⟩
    refine ⟨_, rfl, L, 8, n + 1, rfl, l1.new hp, by omega, by decide, by decide, fun r2 H2 g2 l2 a2 b2 => ?_⟩
    have e2 : H2 p = some (.lst ([1, 2, 3, 4, 5, 7, 9, 10 + r1].map V.int)) := g2.k p _ (l1.bk.ne hp) upd_same
    obtain ⟨m, mm, em⟩ := at_int (ns := [1, 2, 3, 4, 5, 7, 9, 10 + r1]) a2 b2
    refine ⟨p, _, r2, .int m, rfl, rfl, SqL.of e2, em, ?_⟩
    have hm : 1 ≤ m ∧ m ≤ 40 := by
      simp at mm
      omega
    have gH : Go [L] H H2 := (g1.trans (Go.new hp)).trans g2
    refine ⟨Nat.zero_le _, fun D hD => ?_⟩
    have hD0 : H D = none := gH.free hD
    refine ⟨_, rfl, m, rfl, by omega, by omega, for_range (lo := 0) (n := m.toNat) (fun i σ H' => ∃ y4 y5 vs cs, σ = [some (.ref L), some kv, some (.int m), some (.ref D), y4, y5] ∧ Go [L] H H' ∧ Lf L H' (n + 2 + 12 * i) ∧ H' D = some (.lst vs) ∧ DtA [D, L] H' vs (cs.map eC) ∧ cs.length = i ∧ ∀ c ∈ cs, cOk wd c)
      ⟨none, none, [], [], rfl, gH.mut hD0, (l2.new hD).mono (by omega), upd_same, .nil, rfl, fun _ h => nomatch h⟩ (fun i σ H3 hi h3 => ?_) (fun σ H3 h3 => ?_)⟩
    · obtain ⟨y4, y5, vs, cs, rfl, g3, l3, eD, hA, hl, hc⟩ := h3
      have nD : D ∉ [L] := hL.bk.ne hD0
      have bk3 : Bk [D, L] H3 := l3.bk.cons eD
      refine ⟨_, rfl, _, rfl, L, [D, L], n + 2 + 12 * i, kv, wd, sp, rfl, l3, by simp, bk3, by omega, hk.g g3, w0, w1, s0, s1, fun v H4 ns g4 l4 d4 n4 c4 => ?_⟩
      have eD4 := g4.k D _ nD eD
      refine ⟨fun σ' H' => ∃ y4 v c, σ' = [some (.ref L), some kv, some (.int m), some (.ref D), y4, some v] ∧ Go [L] H3 H' ∧ Lf L H' (n + 2 + 12 * i + 12) ∧ Dt [D, L] H' v (eC c) ∧ cOk wd c, ?_, fun σ' H' hM => ?_⟩
      · refine ⟨_, rfl, Nat.zero_le _, fun z hz => ⟨eP cs, .list [], ?_, .lst (SqL.of upd_same) .nil, ?_, rfl, _, rfl, ite2 (fun e => ?_) (fun e => ?_)⟩⟩
        · exact Dt.dP (B := [L]) (.lst nD ((Go.new (B := [L]) hz).k D _ nD eD4) (((hA.g (g4.w1 (by simp))).un).g (Go.new hz)))
        · exact (sh_eP (by omega) fun c h => by have := (hc c h).1; omega).sh (by omega)
        · have hcs : cs ≠ [] := fun z => by
            subst z
            exact absurd e (by decide)
          have hlen : 0 < cs.length := List.length_pos_iff.mpr hcs
          refine ⟨_, rfl, L, 6, n + 2 + 12 * i + 10, rfl, l4.new hz, by omega, by decide, by decide, fun r5 H5 g5 l5 a5 b5 => ?_⟩
          have g45 : Go [L] H4 H5 := (Go.new hz).trans g5
          refine ⟨rfl, _, rfl, ite2 (fun e => ?_) (fun e => ?_)⟩
          · have eD5 := g45.k D _ nD eD4
            have hA5 := hA.g ((g4.trans g45).w1 (B := [D, L]) (by simp))
            have lv := hA5.len
            rw [List.length_map] at lv
            refine ⟨_, rfl, _, rfl, _, rfl, D, _, rfl, .inl (SqL.of eD5), L, _, n + 2 + 12 * i + 11, rfl, l5, by omega, by omega, by omega, fun r6 H6 g6 l6 a6 b6 => ?_⟩
            have eD6 := g6.k D _ nD eD5
            have hr6 : r6.toNat < cs.length := by omega
            obtain ⟨v6, f6, d6⟩ := (hA5.g (g6.w1 (B := [D, L]) (by simp))).get (i := r6.toNat) (d := eC cs[r6.toNat]) (by rw [List.getElem?_map, List.getElem?_eq_getElem hr6]; rfl)
            refine ⟨D, _, _, _, rfl, rfl, SqL.of eD6, at0 a6 f6, ?_⟩
            exact ⟨_, v6, _, rfl, (g4.trans g45).trans g6, l6.mono (by omega), d6, hc _ (List.getElem_mem hr6)⟩
          · exact ⟨_, v, ns, rfl, g4.trans g45, l5.mono (by omega), d4.g (g45.w1 (by simp)), n4, c4⟩
        · exact iteF ⟨_, v, ns, rfl, g4.trans (Go.new hz), (l4.new hz).mono (by omega), d4.g (Go.new hz), n4, c4⟩
      · obtain ⟨z4, v7, c7, rfl, g7, l7, d7, o7⟩ := hM
        have eD7 := g7.k D _ nD eD
        have hA7 := hA.g (g7.w1 (B := [D, L]) (by simp))
        have lv := hA7.len
        rw [List.length_map] at lv
        have gm : Go [D, L] H' (upd H' D (.lst (vs ++ [v7]))) := Go.refl.at (by simp)
        refine ⟨_, rfl, .inl ⟨rfl, _, SqL.of eD7⟩, _, rfl, D, _, _, rfl, rfl, eD7, sz (by omega), ?_⟩
        refine ⟨z4, some v7, vs ++ [v7], cs ++ [c7], rfl, (g3.trans g7).mut hD0, (l7.up (hL.ne hD0)).mono (by omega), upd_same, ?_, by simp; omega, fun c h => ?_⟩
        · rw [List.map_append]
          exact (hA7.g gm).app (.one (d7.g gm))
        · rcases List.mem_append.mp h with h | h
          · exact hc c h
          · rw [List.mem_singleton.mp h]
            exact o7
    · obtain ⟨y4, y5, vs, cs, rfl, g3, l3, eD, hA, hl, hc⟩ := h3
      exact ⟨_, rfl, q _ _ cs g3 (l3.mono (by omega)) (.lst (hL.bk.ne hD0) eD hA.un) (by omega) (by omega) hc⟩
/-! ### apart, both ways -/
def ap (a b : List Int) : Int := ((a.zip b).map fun p => (p.1 - p.2) ^ 2).sum
theorem ap_len (a b : List Int) : ((a.zip b).map fun p => (p.1 - p.2) ^ 2).length = min a.length b.length := by simp
theorem sq_ok {x y : Int} (h1 : -100000000 ≤ x) (h2 : x ≤ 100000000) (h3 : -100000000 ≤ y) (h4 : y ≤ 100000000) : CPow (x - y) 2 := ⟨by decide, by decide, by omega⟩
theorem zat {a b : List Int} {i : Nat} {f : Int × Int → PyData} (h1 : i < a.length) (h2 : i < b.length) : ((a.zip b).map f)[i]? = some (f (a[i], b[i])) := by
  rw [List.getElem?_map, List.getElem?_eq_getElem (by simp; omega)]
  simp
def spApart : Sp := fun vs H Q _ => ∃ (B : List Addr) (x y : V) (a b : List Int), vs = [x, y] ∧ Dt B H x (eC a) ∧ Dt B H y (eC b) ∧ a.length = b.length ∧ b.length ≤ 100 ∧ cIn (-100000000) 100000000 a ∧ cIn (-100000000) 100000000 b ∧ ∀ H', Same H H' → Q (.int (ap a b)) H'
theorem ok_apart (T : Tx K mg) {k : Nat} : FnOk P w K mg base CX0 (k + 1) T.f_apart T.d_apart ["one", "other"] spApart := by
  refine T.F_apart.ok sc_apart (fun vs H Q E h => ?_) (fun cdv A outer s H vs Q E hr h => ?_)
  · obtain ⟨B, x, y, a, b, rfl, _⟩ := h
    rfl
  · obtain ⟨B, x, y, a, b, rfl, ha, hb, hl, hz, ca, cb, q⟩ := h
    obtain ⟨pa, rfl, na, ta⟩ := ha.col
    obtain ⟨pb, rfl, nb, tb⟩ := hb.col
    refine ⟨_, (pss_one (ps_ret (pe_callB (cr_sumK K rfl) (by rfl) T.z_sum (by decide +kernel) (pa_cons (pe_lc (own := [("a", 2), ("b", 3)]) (by rfl) sc_apart.nd (RZ.pi_zipA (by rfl) T.z_zip (pa_cons (pv 0) (pa_cons (pv 1) pa_nil))) (blkOk_by (own := [("a", 2), ("b", 3)]) (N := N_apart) (sc := defScope s_apart) (by decide +kernel)) (fun _ _ _ _ _ => (pg_tupK K (n := 2) rfl (pgs_cons (pg_name (i := 2) sc_apart.nd rfl (.inl rfl)) (pgs_cons (pg_name (i := 3) sc_apart.nd rfl (.inl rfl)) pgs_nil)))) (fun _ _ _ _ _ => pts_nil) (fun _ _ _ _ _ => (pe_op op_pow (pe_op op_sub (pv 2) (pv 3)) pe_int))) pa_nil)))), ?_⟩
    refine ⟨_, rfl, _, rfl, pa, pb, _, _, rfl, .inr ⟨SqT.of ta, SqT.of tb, fun D hD => ?_⟩⟩
    refine lc_pure (B := []) (walk_zipT (n := a.length) (xs := a.map V.int) (ys := b.map V.int) (by simp; omega)) hD (fun _ h => nomatch h) (fun H' s' => ⟨SqT.of (s' _ _ ta), SqT.of (s' _ _ tb)⟩) (by omega)
      (fun i => ((a.zip b).map fun p => PyData.int ((p.1 - p.2) ^ 2))[i]?) (fun i x H' H'' Ny Nn hi s1 bk y ky kn => ?_) (fun H' ws s1 eD hA => ?_)
    · obtain ⟨t, x, y, rfl, ht, rfl, e1, e2⟩ := y
      have i2 : i < b.length := by omega
      have x1 := mat hi e1
      have x2 := mat i2 e2
      have c1 := ca _ (List.getElem_mem hi)
      have c2 := cb _ (List.getElem_mem i2)
      refine ⟨t, [x, y], rfl, SqT.of upd_same, rfl, x, _, rfl, y, _, rfl, rfl, rfl, lc_yes ?_⟩
      refine ⟨_, rfl, _, rfl, _, _, x1, x2, _, _, rfl, rfl, sq_ok c1.1 c1.2 c2.1 c2.2, ?_⟩
      exact ky _ _ _ (zat hi i2) (sm_new ht) (.int _)
    · rw [fm_all (by simp; omega)] at hA
      have hA2 : DtA (D :: []) H' ws (((a.zip b).map fun p => (p.1 - p.2) ^ 2).map PyData.int) := by rw [List.map_map]; exact hA
      refine ⟨D, _, rfl, SqL.of (by rw [eD, hA2.intsV]), ?_⟩
      exact q _ s1
/-! ### the law's own apart -/
theorem ok_l_apart (T : Tx K mg) {k : Nat} : FnOk P w K mg base CX0 (k + 1) T.f_l_apart T.d_l_apart ["_law_one", "_law_other"] spApart := by
  refine T.F_l_apart.ok sc_l_apart (fun vs H Q E h => ?_) (fun cdv A outer s H vs Q E hr h => ?_)
  · obtain ⟨B, x, y, a, b, rfl, _⟩ := h
    rfl
  · obtain ⟨B, x, y, a, b, rfl, ha, hb, hl, hz, ca, cb, q⟩ := h
    obtain ⟨pa, rfl, na, ta⟩ := ha.col
    obtain ⟨pb, rfl, nb, tb⟩ := hb.col
    refine ⟨_, (pss_one (ps_ret (pe_callB (cr_sumK K rfl) (by rfl) T.z_sum (by decide +kernel) (pa_cons (pe_lc (own := [("_law_a", 2), ("_law_b", 3)]) (by rfl) sc_l_apart.nd (RZ.pi_zipA (by rfl) T.z_zip (pa_cons (pv 0) (pa_cons (pv 1) pa_nil))) (blkOk_by (own := [("_law_a", 2), ("_law_b", 3)]) (N := N_l_apart) (sc := defScope s_l_apart) (by decide +kernel)) (fun _ _ _ _ _ => (pg_tupK K (n := 2) rfl (pgs_cons (pg_name (i := 2) sc_l_apart.nd rfl (.inl rfl)) (pgs_cons (pg_name (i := 3) sc_l_apart.nd rfl (.inl rfl)) pgs_nil)))) (fun _ _ _ _ _ => pts_nil) (fun _ _ _ _ _ => (pe_op op_mul (pe_op op_sub (pv 2) (pv 3)) (pe_op op_sub (pv 2) (pv 3))))) pa_nil)))), ?_⟩
    refine ⟨_, rfl, _, rfl, pa, pb, _, _, rfl, .inr ⟨SqT.of ta, SqT.of tb, fun D hD => ?_⟩⟩
    refine lc_pure (B := []) (walk_zipT (n := a.length) (xs := a.map V.int) (ys := b.map V.int) (by simp; omega)) hD (fun _ h => nomatch h) (fun H' s' => ⟨SqT.of (s' _ _ ta), SqT.of (s' _ _ tb)⟩) (by omega)
      (fun i => ((a.zip b).map fun p => PyData.int ((p.1 - p.2) ^ 2))[i]?) (fun i x H' H'' Ny Nn hi s1 bk y ky kn => ?_) (fun H' ws s1 eD hA => ?_)
    · obtain ⟨t, x, y, rfl, ht, rfl, e1, e2⟩ := y
      have i2 : i < b.length := by omega
      have x1 := mat hi e1
      have x2 := mat i2 e2
      have c1 := ca _ (List.getElem_mem hi)
      have c2 := cb _ (List.getElem_mem i2)
      refine ⟨t, [x, y], rfl, SqT.of upd_same, rfl, x, _, rfl, y, _, rfl, rfl, rfl, lc_yes ?_⟩
      refine ⟨_, rfl, _, rfl, _, _, x1, x2, _, rfl, _, rfl, _, _, x1, x2, _, _, rfl, rfl, .inl ⟨by omega, by omega⟩, ?_⟩
      exact ky _ _ _ (zat hi i2) (sm_new ht) (by rw [Int.pow_succ, Int.pow_succ, Int.pow_zero, Int.one_mul]; exact .int _)
    · rw [fm_all (by simp; omega)] at hA
      have hA2 : DtA (D :: []) H' ws (((a.zip b).map fun p => (p.1 - p.2) ^ 2).map PyData.int) := by rw [List.map_map]; exact hA
      refine ⟨D, _, rfl, SqL.of (by rw [eD, hA2.intsV]), ?_⟩
      exact q _ s1
/-! ### the nearest -/
def near (cs : List (List Int)) (c : List Int) (i : Nat) : Prop := ∃ h : i < cs.length, ∀ (j : Nat) (hj : j < cs.length), ap cs[i] c < ap cs[j] c ∨ (ap cs[i] c = ap cs[j] c ∧ i ≤ j)
theorem near_one {cs : List (List Int)} {c : List Int} {i j : Nat} (h1 : near cs c i) (h2 : near cs c j) : i = j := by
  obtain ⟨a, f⟩ := h1
  obtain ⟨b, g⟩ := h2
  have x := f j b
  have y := g i a
  omega
def pOk (cs : List (List Int)) (c : List Int) : Prop := cs.length ≤ 1000 ∧ c.length ≤ 100 ∧ cIn (-100000000) 100000000 c ∧ ∀ x ∈ cs, x.length = c.length ∧ cIn (-100000000) 100000000 x
def spNear : Sp := fun vs H Q _ => ∃ (B : List Addr) (pl cv : V) (cs : List (List Int)) (c : List Int), vs = [pl, cv] ∧ Dt B H pl (eP cs) ∧ Dt B H cv (eC c) ∧ pOk cs c ∧ 0 < cs.length ∧
  ∀ H' (i : Nat), Same H H' → near cs c i → Q (.int i) H'
theorem first_at {ns : List Int} {m : Int} (h : m ∈ ns) : ∃ j : Nat, ns[j]? = some m ∧ ∀ i x, i < j → ns[i]? = some x → x ≠ m := by
  induction ns with
  | nil => cases h
  | cons n ns ih =>
    by_cases e : n = m
    · exact ⟨0, by rw [e]; rfl, fun i x hi => by omega⟩
    · have hm : m ∈ ns := by
        rcases List.mem_cons.mp h with z | z
        · exact absurd z.symm e
        · exact z
      obtain ⟨j, h1, h2⟩ := ih hm
      refine ⟨j + 1, h1, fun i x hi hx => ?_⟩
      cases i with
      | zero =>
        have : n = x := Option.some.inj hx
        rw [← this]; exact e
      | succ i => exact h2 i x (by omega) hx
theorem near_of {cs : List (List Int)} {c : List Int} {j : Nat} {m : Int} (hle : ∀ y ∈ cs.map (fun x => ap x c), m ≤ y) (h1 : (cs.map fun x => ap x c)[j]? = some m) (h2 : ∀ i x, i < j → (cs.map fun x => ap x c)[i]? = some x → x ≠ m) : near cs c j := by
  have hj : j < cs.length := by
    have := (List.getElem?_eq_some_iff.mp h1).1
    rwa [List.length_map] at this
  rw [List.getElem?_map, List.getElem?_eq_getElem hj] at h1
  have e : ap cs[j] c = m := Option.some.inj h1
  refine ⟨hj, fun i hi => ?_⟩
  have l := hle (ap cs[i] c) (List.mem_map.mpr ⟨_, List.getElem_mem hi, rfl⟩)
  by_cases hij : i < j
  · have := h2 i (ap cs[i] c) hij (by rw [List.getElem?_map, List.getElem?_eq_getElem hi]; rfl)
    omega
  · omega
theorem flat_ints (ns : List Int) : (ns.map V.int).all flatV = true := by
  induction ns with
  | nil => rfl
  | cons n ns ih => rw [List.map_cons, List.all_cons, ih]; rfl
theorem ok_nearest (T : Tx K mg) {k : Nat} : FnOk P w K mg base CX0 (k + 2) T.f_nearest T.d_nearest ["palette", "colour"] spNear := by
  refine T.F_nearest.ok sc_nearest (fun vs H Q E h => ?_) (fun cdv A outer s H vs Q E hr h => ?_)
  · obtain ⟨B, pl, cv, cs, c, rfl, _⟩ := h
    rfl
  · obtain ⟨B, pl, cv, cs, c, rfl, hp, hc, ⟨o1, o2, o3, o4⟩, c0, q⟩ := h
    obtain ⟨pa, vs, rfl, np, ep, hA⟩ := hp.pal
    have lv := hA.len
    rw [List.length_map] at lv
    refine ⟨_, (pss_cons (ps_setLc (i := 2) (own := [("one", 3)]) (by rfl) sc_nearest.nd rfl rfl (sw_true rfl rfl rfl (by decide +kernel)) (pi_listK K (pv 0)) (blkOk_by (own := [("one", 3)]) (N := N_nearest) (sc := defScope s_nearest) (by decide +kernel)) (fun _ _ _ _ _ => (pg_name (i := 3) sc_nearest.nd rfl (.inl rfl))) (fun _ _ _ _ _ => pts_nil) (fun _ _ _ _ _ => (pe_call (ok_apart T (k := k)) hr (by rfl) T.g_apart T.F_apart.kp T.b_apart .nil pass0 (pa_cons (pv 3) (pa_cons (pv 1) pa_nil)))))
      (pss_one (ps_ret (pe_bm PySem.F.plainAttrs_list PySem.F.slot_list_index PySem.F.type_list_index (mt_indexK K) (pv 2) (pa_cons (pe_callB (cr_minK K rfl) (by rfl) T.z_min (by decide +kernel) (pa_cons (pv 2) pa_nil)) pa_nil))))), ?_⟩
    refine ⟨_, rfl, pa, rfl, ⟨_, SqL.of ep⟩, fun D hD => ?_⟩
    refine lc_pure (B := []) (walk_list (xs := vs)) hD (fun _ h => nomatch h) (fun H' s' => SqL.of (s' _ _ ep)) (by omega)
      (fun i => (cs.map fun x => PyData.int (ap x c))[i]?) (fun i x H' H'' Ny Nn hi t1 bk y ky kn => ?_) (fun H8 ws s8 eS hW => ?_)
    · obtain ⟨rfl, y⟩ := y
      obtain ⟨d1, f1, h1⟩ := hA.getV y
      have hi2 : i < cs.length := by omega
      rw [List.getElem?_map, List.getElem?_eq_getElem hi2] at f1
      have ed : d1 = eC cs[i] := (Option.some.inj f1).symm
      subst ed
      have oc := o4 _ (List.getElem_mem hi2)
      refine ⟨rfl, lc_yes ⟨_, rfl, _, rfl, B, x, cv, cs[i], c, rfl, h1.s t1, hc.s t1, oc.1, o2, oc.2, o3, fun H3 s3 => ?_⟩⟩
      exact ky _ _ _ (by rw [List.getElem?_map, List.getElem?_eq_getElem hi2]; rfl) s3 (.int _)
    · rw [fm_all (by simp; omega)] at hW
      have hW2 : DtA [D] H8 ws ((cs.map fun x => ap x c).map PyData.int) := by rw [List.map_map]; exact hW
      have ews := hW2.intsV
      subst ews
      refine ⟨_, rfl, .inl ⟨rfl, _, SqL.of eS⟩, _, rfl, D, _, rfl, SqL.of eS, (by rw [List.length_map]; omega), fun m hm hle => ?_⟩
      obtain ⟨j, h1, h2⟩ := first_at hm
      refine ⟨D, _, _, j, .int m, rfl, rfl, SqL.of eS, rfl, flat_ints _, (by rw [List.getElem?_map, h1]; rfl), (by unfold eqV; simp), fun i z hi hz => ?_, ?_⟩
      · rw [List.getElem?_map] at hz
        cases hx : (cs.map fun x => ap x c)[i]? with
        | none => rw [hx] at hz; cases hz
        | some x =>
          rw [hx] at hz
          have ez : V.int x = z := Option.some.inj hz
          rw [← ez]
          have := h2 i x hi hx
          unfold eqV
          simp [this]
      · exact q _ j s8 (near_of hle h1 h2)
/-! ### pictures that are drawn -/
def picOk (wd : Int) (ps : List (List (List Int))) : Prop := 0 < ps.length ∧ ps.length ≤ 16 ∧ ∃ wz : Nat, 1 ≤ wz ∧ wz ≤ 16 ∧ ∀ p ∈ ps, p.length = wz ∧ ∀ c ∈ p, cOk wd c
def spPicture : Sp := fun vs H Q _ => ∃ (L : Addr) (n : Nat) (kv : V) (wd sp : Int), vs = [.ref L, kv] ∧ Lf L H n ∧ n < 1000000 ∧ Dt [L] H kv (eC [wd, sp]) ∧ 0 ≤ wd ∧ wd ≤ 5 ∧ 1 ≤ sp ∧ sp ≤ 1000 ∧
  ∀ (a : Addr) (vs : List V) (H' : Hp) (ps : List (List (List Int))), Go [L] H H' → Lf L H' (n + 4000) → H a = none → H' a = some (.lst vs) → DtA [a, L] H' vs (ps.map eP) → picOk wd ps → Q (.ref a) H'
set_option maxHeartbeats 1000000 in
theorem ok_l_picture (T : Tx K mg) {k : Nat} : FnOk P w K mg base CX0 (k + 4) T.f_l_picture T.d_l_picture ["_law_left_here", "_law_kind_here"] spPicture := by
  refine T.F_l_picture.ok sc_l_picture (fun vs H Q E h => ?_) (fun cdv A outer s H vs Q E hr h => ?_)
  · obtain ⟨L, n, kv, wd, sp, rfl, _⟩ := h
    rfl
  · obtain ⟨L, n, kv, wd, sp, rfl, hL, hn, hk, w0, w1, s0, s1, q⟩ := h
    refine ⟨_, (pss_cons (ps_asg (pe_lc (own := [("_law_side", 10)]) (by rfl) sc_l_picture.nd (pi_range1 (by rfl) T.z_range (pa_cons pe_int pa_nil)) (blkOk_by (own := [("_law_side", 10)]) (N := N_l_picture) (sc := defScope s_l_picture) (by decide +kernel)) (fun _ _ _ _ _ => (pg_name (i := 10) sc_l_picture.nd rfl (.inl rfl))) (fun _ _ _ _ _ => pts_nil) (fun _ _ _ _ _ => (pe_ix (ix_listK K) (pe_lst (pa_cons (pe_op op_add pe_int (pe_call (ok_l_pick T (k := k + 1)) hr (by rfl) T.g_l_pick T.F_l_pick.kp T.b_l_pick .nil pass0 (pa_cons (pv 0) (pa_cons pe_int pa_nil)))) (pa_cons (pe_op op_add pe_int (pe_call (ok_l_pick T (k := k + 1)) hr (by rfl) T.g_l_pick T.F_l_pick.kp T.b_l_pick .nil pass0 (pa_cons (pv 0) (pa_cons pe_int pa_nil)))) pa_nil))) (pe_callTy call_int1 (by rfl) T.z_int (by decide +kernel) (pa_cons (pe_cmpR op_eq (pe_call (ok_l_pick T (k := k + 1)) hr (by rfl) T.g_l_pick T.F_l_pick.kp T.b_l_pick .nil pass0 (pa_cons (pv 0) (pa_cons pe_int pa_nil))) pe_int (nomark _)) pa_nil)) (fun _ _ => rfl)))) (pg_lstK K (n := 2) rfl (pgs_cons (pg_name (i := 2) sc_l_picture.nd rfl (.inl rfl)) (pgs_cons (pg_name (i := 3) sc_l_picture.nd rfl (.inl rfl)) pgs_nil))))
      (pss_cons (ps_setLc (i := 4) (own := [("_law_k", 11)]) (by rfl) sc_l_picture.nd rfl rfl (sw_true rfl rfl rfl (by decide +kernel)) (pi_range1 (by rfl) T.z_range (pa_cons (pe_op op_add pe_int (pe_call (ok_l_pick T (k := k + 1)) hr (by rfl) T.g_l_pick T.F_l_pick.kp T.b_l_pick .nil pass0 (pa_cons (pv 0) (pa_cons pe_int pa_nil)))) pa_nil)) (blkOk_by (own := [("_law_k", 11)]) (N := N_l_picture) (sc := defScope s_l_picture) (by decide +kernel)) (fun _ _ _ _ _ => (pg_name (i := 11) sc_l_picture.nd rfl (.inl rfl))) (fun _ _ _ _ _ => pts_nil) (fun _ _ _ _ _ => (pe_call (ok_l_colour T (k := k)) hr (by rfl) T.g_l_colour T.F_l_colour.kp T.b_l_colour .nil pass0 (pa_cons (pv 0) (pa_cons (pv 1) pa_nil)))))
      (pss_cons (ps_set (i := 5) sc_l_picture.nd rfl (.inl rfl) (pe_lst pa_nil))
      (pss_cons (ps_for PassesOwn.never rfl (pi_range1 (by rfl) T.z_range (pa_cons (pv 2) pa_nil)) (pg_name (i := 6) sc_l_picture.nd rfl (.inl rfl)) (pss_cons (ps_set (i := 7) sc_l_picture.nd rfl (.inl rfl) (pe_lst pa_nil))
      (pss_cons (ps_for PassesOwn.never rfl (pi_range1 (by rfl) T.z_range (pa_cons (pv 3) pa_nil)) (pg_name (i := 8) sc_l_picture.nd rfl (.inl rfl)) (pss_cons (ps_set (i := 9) sc_l_picture.nd rfl (.inl rfl) (pe_ix (ix_listK K) (pv 4) (pe_call (ok_l_pick T (k := k + 1)) hr (by rfl) T.g_l_pick T.F_l_pick.kp T.b_l_pick .nil pass0 (pa_cons (pv 0) (pa_cons (pe_callB (len_K K) (by rfl) T.z_len PySem.boot_len (pa_cons (pv 4) pa_nil)) pa_nil))) (fun _ _ => rfl)))
      (Evl.pss_cut (ps_if (pt_cmpR op_eq (pe_call (ok_l_pick T (k := k + 1)) hr (by rfl) T.g_l_pick T.F_l_pick.kp T.b_l_pick .nil pass0 (pa_cons (pv 0) (pa_cons pe_int pa_nil))) pe_int (nomark _)) (pss_one (ps_set (i := 9) sc_l_picture.nd rfl (.inl rfl) (pe_call (ok_l_colour T (k := k)) hr (by rfl) T.g_l_colour T.F_l_colour.kp T.b_l_colour .nil pass0 (pa_cons (pv 0) (pa_cons (pv 1) pa_nil))))) pss_nil)
      (pss_one (ps_expr (pe_bm PySem.F.plainAttrs_list PySem.F.slot_list_append PySem.F.type_list_append mt_append (pv 7) (pa_cons (pv 9) pa_nil)))))))
      (pss_one (ps_expr (pe_bm PySem.F.plainAttrs_list PySem.F.slot_list_append PySem.F.type_list_append mt_append (pv 5) (pa_cons (pv 7) pa_nil)))))))
      (pss_one (ps_ret (pv 5))))))), ?_⟩
    refine ⟨2, rfl, by decide, by decide, fun D hD => ?_⟩
    refine lc_ints (walk_range (lo := 0) (n := 2)) n 3 1 16 hD hL (fun _ _ => True.intro) (by omega) (fun i x H' H'' Ny Nn hi g' l' y ky => ?_) (fun H1 xs g1 l1 eD ln cn => ?_)
    · obtain ⟨rfl, rfl⟩ := y
      refine ⟨rfl, lc_yes ⟨_, rfl, L, 6, _, rfl, l', by omega, by decide, by decide, fun r1 H1 g1 l1 a1 b1 => ?_⟩⟩
      refine ⟨_, _, rfl, rfl, _, rfl, L, 16, _, rfl, l1, by omega, by decide, by decide, fun r2 H2 g2 l2 a2 b2 => ?_⟩
      refine ⟨_, _, rfl, rfl, (by show 2 ≤ sizeLine; decide), fun p hp => ?_⟩
      refine ⟨_, rfl, L, 8, _, rfl, l2.new hp, by omega, by decide, by decide, fun r3 H3 g3 l3 a3 b3 => ?_⟩
      have e3 : H3 p = some (.lst [.int (1 + r1), .int (1 + r2)]) := g3.k p _ (l2.bk.ne hp) upd_same
      obtain ⟨z3, f3, hz3⟩ := at2i (1 + r1) (1 + r2) (decide (V.int r3 = V.int 0))
      refine ⟨rfl, .inr ⟨_, rfl, p, _, _, _, rfl, rfl, SqL.of e3, f3, ?_⟩⟩
      exact ky z3 _ (((g1.trans g2).trans (Go.new hp)).trans g3) (l3.mono (by omega)) (by omega) (by omega)
    obtain ⟨hi, wz, rfl⟩ : ∃ hi wz, xs = [hi, wz] := by
      match xs, ln with
      | [a, b], _ => exact ⟨a, b, rfl⟩
    have chi := cn hi (by simp)
    have cwz := cn wz (by simp)
    refine ⟨D, [.int hi, .int wz], rfl, SqL.of eD, rfl, _, _, rfl, _, _, rfl, rfl, ?_⟩
    refine ⟨_, rfl, L, 8, _, rfl, l1, by omega, by decide, by decide, fun r2 H2 g2 l2 a2 b2 => ?_⟩
    have hk2 := hk.g (g1.trans g2)
    refine ⟨_, _, rfl, rfl, 1 + r2, rfl, by omega, by omega, fun D2 hD2 => ?_⟩
    refine lc_dtsB (walk_range (lo := 0) (n := (1 + r2).toNat)) (B := [L]) (n + 7) 10 (fun d => ∃ c, d = eC c ∧ cOk wd c) hD2 (l2.mono (by omega)) (by simp) l2.bk (fun _ _ => True.intro) (by omega) (fun j x H4 H5 Ny Nn hj g4 l4 bk4 y ky => ?_) (fun H4 ws ds g4 l4 eD4 hW hn4 hp4 => ?_)
    · obtain ⟨rfl, rfl⟩ := y
      refine ⟨rfl, lc_yes ⟨_, rfl, _, rfl, L, [D2, L], n + 7 + 10 * j, kv, wd, sp, rfl, l4, by simp, bk4, by omega, hk2.g g4, w0, w1, s0, s1, fun v H5 c g5 l5 d5 n5 c5 => ?_⟩⟩
      exact ky _ _ _ g5 l5 d5 ⟨c, rfl, n5, c5⟩
    obtain ⟨cs, rfl, hcs⟩ := colsOf hp4
    rw [List.length_map] at hn4
    have lw := hW.len
    rw [List.length_map] at lw
    have hk4 := hk2.g g4
    have gH4 := (g1.trans g2).trans g4
    have nD2 : D2 ∉ [L] := l2.bk.ne hD2
    have hW1 := hW.un
    refine ⟨Nat.zero_le _, fun F hF => ?_⟩
    have hFH : H F = none := gH4.free hF
    have nF : F ∉ [L] := l4.bk.ne hF
    have sF := sm_new (o := .lst []) hF
    have g5 := gH4.trans (Go.new (o := .lst []) hF)
    have l5 := l4.new (o := .lst []) hF
    have eF5 : (upd H4 F (.lst [])) F = some (.lst []) := upd_same
    have eD5 := sF _ _ eD4
    have hW5 := (hW1.fr hF).s sF
    have hk5 := (hk4.fr hF).s sF
    have nDF : D2 ∉ [F, L] := fun z => by
      rcases List.mem_cons.mp z with e | e
      · rw [← e, eD4] at hF
        cases hF
      · exact nD2 e
    generalize upd H4 F (.lst []) = H5 at *
    refine ⟨_, rfl, hi, rfl, by omega, by omega, for_range (lo := 0) (n := hi.toNat) (fun i σ H' => ∃ y6 y7 y8 y9 y10 y11 vs ps, σ = [some (.ref L), some kv, some (.int hi), some (.int wz), some (.ref D2), some (.ref F), y6, y7, y8, y9, y10, y11] ∧ Go [L] H H' ∧ Lf L H' (n + 100 + 200 * i) ∧ H' D2 = some (.lst ws) ∧ DtA [F, L] H' ws (cs.map eC) ∧ Dt [F, L] H' kv (eC [wd, sp]) ∧ H' F = some (.lst vs) ∧ DtA [F, L] H' vs (ps.map eP) ∧ ps.length = i ∧ ∀ p ∈ ps, p.length = wz.toNat ∧ ∀ c ∈ p, cOk wd c)
      ⟨_, _, _, _, _, _, [], [], rfl, g5, l5.mono (by omega), eD5, hW5, hk5, eF5, .nil, rfl, fun _ h => nomatch h⟩ (fun i σ H6 hi6 h6 => ?_) (fun σ H6 h6 => ?_)⟩
    · obtain ⟨y6, y7, y8, y9, y10, y11, vs, ps, rfl, g6, l6, eD6, hW6, hk6, eF6, hA6, lp6, hp6⟩ := h6
      have bk6 : Bk [F, L] H6 := l6.bk.cons eF6
      have lv6 := hA6.len
      rw [List.length_map] at lv6
      refine ⟨Nat.zero_le _, fun S hS => ?_⟩
      have hSH : H S = none := g6.free hS
      have nS : S ∉ [F, L] := bk6.ne hS
      have nSF : F ≠ S := fun z => nS (by rw [z]; exact List.mem_cons_self ..)
      have nSL : S ∉ [L] := fun z => nS (List.mem_cons_of_mem _ z)
      have nDS : D2 ∉ [S, F, L] := fun z => by
        rcases List.mem_cons.mp z with e | e
        · rw [← e, eD6] at hS
          cases hS
        · exact nDF e
      have s7 := sm_new (o := .lst []) hS
      have eS7 : (upd H6 S (.lst [])) S = some (.lst []) := upd_same
      have g7 := g6.trans (Go.of s7)
      have l7 := l6.same s7
      have eD7 := s7 _ _ eD6
      have hW7 := (hW6.fr hS).s s7
      have hk7 := (hk6.fr hS).s s7
      have eF7 := s7 _ _ eF6
      have hA7 := (hA6.fr hS).s s7
      generalize upd H6 S (.lst []) = H7 at *
      refine ⟨_, rfl, wz, rfl, by omega, by omega, for_range (lo := 0) (n := wz.toNat) (fun j σ H' => ∃ y6 y8 y9 y10 y11 us qs, σ = [some (.ref L), some kv, some (.int hi), some (.int wz), some (.ref D2), some (.ref F), y6, some (.ref S), y8, y9, y10, y11] ∧ Go [S, L] H7 H' ∧ Lf L H' (n + 100 + 200 * i + 12 * j) ∧ H' S = some (.lst us) ∧ DtA [S, F, L] H' us (qs.map eC) ∧ qs.length = j ∧ ∀ c ∈ qs, cOk wd c)
        ⟨_, _, _, _, _, [], [], rfl, Go.refl, l7.mono (by omega), eS7, .nil, rfl, fun _ h => nomatch h⟩ (fun j σ H8 hj h8 => ?_) (fun σ H8 h8 => ?_)⟩
      · obtain ⟨y6, y8, y9, y10, y11, us, qs, rfl, g8, l8, eS8, hU, lq, hq⟩ := h8
        have g8' : Go [S, F, L] H7 H8 := g8.w (by simp)
        have eD8 := g8'.k D2 _ nDS eD7
        have hW8 := hW7.g g8'
        have hk8 := hk7.g g8'
        have bk8 : Bk [S, F, L] H8 := ((bk6.go (Go.of (B := []) s7)).go g8).cons eS8
        have lu := hU.len
        rw [List.length_map] at lu
        refine ⟨_, rfl, _, rfl, _, rfl, D2, _, rfl, .inl (SqL.of eD8), L, _, _, rfl, l8, by omega, by omega, by omega, fun r9 H9 g9 l9 a9 b9 => ?_⟩
        have g9' : Go [S, F, L] H8 H9 := g9.w1 (by simp)
        have eD9 := g9'.k D2 _ nDS eD8
        have hr9 : r9.toNat < cs.length := by omega
        obtain ⟨v9, f9, d9⟩ := (hW8.g g9').get (i := r9.toNat) (d := eC cs[r9.toNat]) (by rw [List.getElem?_map, List.getElem?_eq_getElem hr9]; rfl)
        have o9 := hcs _ (List.getElem_mem hr9)
        refine ⟨D2, _, _, _, rfl, rfl, SqL.of eD9, at0 a9 f9, ?_⟩
        refine ⟨fun σ' H' => ∃ y6 y8 y10 y11 v c, σ' = [some (.ref L), some kv, some (.int hi), some (.int wz), some (.ref D2), some (.ref F), y6, some (.ref S), y8, some v, y10, y11] ∧ Go [L] H8 H' ∧ Lf L H' (n + 100 + 200 * i + 12 * j + 12) ∧ Dt [S, F, L] H' v (eC c) ∧ cOk wd c, ?_, fun σ' H' hM => ?_⟩
        · refine ⟨_, rfl, L, 4, _, rfl, l9, by omega, by decide, by decide, fun r10 H10 g10 l10 a10 b10 => ?_⟩
          have g10' : Go [S, F, L] H9 H10 := g10.w1 (by simp)
          refine ⟨rfl, _, rfl, ite2 (fun e => ?_) (fun e => ?_)⟩
          · refine ⟨_, rfl, _, rfl, L, [S, F, L], _, kv, wd, sp, rfl, l10, by simp, (bk8.go g9).go g10, by omega, ((hk8.g g9').g g10').sub (by simp), w0, w1, s0, s1, fun v H11 c g11 l11 d11 n11 c11 => ?_⟩
            exact ⟨_, _, _, _, v, c, rfl, (g9.trans g10).trans g11, l11.mono (by omega), d11, n11, c11⟩
          · exact ⟨_, _, _, _, v9, _, rfl, g9.trans g10, l10.mono (by omega), d9.g g10', o9⟩
        · obtain ⟨y6, y8, y10, y11, v, c, rfl, gM, lM, dM, oM⟩ := hM
          have eSM := gM.k S _ nSL eS8
          have gm : Go [S, F, L] H' (upd H' S (.lst (us ++ [v]))) := Go.refl.at (by simp)
          refine ⟨_, rfl, .inl ⟨rfl, _, SqL.of eSM⟩, _, rfl, S, _, _, rfl, rfl, eSM, sz (by omega), ?_⟩
          refine ⟨_, _, _, _, _, us ++ [v], qs ++ [c], rfl, (g8.trans (gM.w1 (by simp))).at (by simp), (lM.up (show S ≠ L by simpa using nSL)).mono (by omega), upd_same, ?_, by simp; omega, fun c' h => ?_⟩
          · rw [List.map_append]
            exact ((hU.g (gM.w1 (by simp))).g gm).app (.one (dM.g gm))
          · rcases List.mem_append.mp h with h | h
            · exact hq c' h
            · rw [List.mem_singleton.mp h]
              exact oM
      · obtain ⟨y6, y8, y9, y10, y11, us, qs, rfl, g8, l8, eS8, hU, lq, hq⟩ := h8
        have g8' : Go [S, F, L] H7 H8 := g8.w (by simp)
        have nFS : F ∉ [S, L] := fun z => by
          rcases List.mem_cons.mp z with e | e
          · exact nSF e
          · exact nF e
        have eF8 := g8.k F _ nFS eF7
        have gm : Go [F, L] H8 (upd H8 F (.lst (vs ++ [.ref S]))) := Go.refl.at (by simp)
        refine ⟨_, rfl, .inl ⟨rfl, _, SqL.of eF8⟩, _, rfl, F, _, _, rfl, rfl, eF8, sz (by omega), ?_⟩
        refine ⟨_, _, _, _, _, _, vs ++ [.ref S], ps ++ [qs], rfl, ((g8.cons g7 hSH).mut hFH), (l8.up (show F ≠ L by simpa using nF)).mono (by omega), gm.k D2 _ nDF (g8'.k D2 _ nDS eD7), ((hW7.g g8').un).g gm, ((hk7.g g8').un).g gm, upd_same, ?_, by simp; omega, fun p h => ?_⟩
        · rw [List.map_append]
          exact (((hA7.g g8').un).g gm).app (.one (Dt.g (.lst nS eS8 hU.un) gm))
        · rcases List.mem_append.mp h with h | h
          · exact hp6 p h
          · rw [List.mem_singleton.mp h]
            exact ⟨by omega, hq⟩
    · obtain ⟨y6, y7, y8, y9, y10, y11, vs, ps, rfl, g6, l6, eD6, hW6, hk6, eF6, hA6, lp6, hp6⟩ := h6
      exact ⟨_, rfl, q F vs H6 ps g6 (l6.mono (by omega)) hFH eF6 hA6 ⟨by omega, by omega, wz.toNat, by omega, by omega, hp6⟩⟩
/-! ### what is lost -/
def rowL (p q : List (List Int)) : Int := (List.zipWith ap p q).sum
def lostL (ps qs : List (List (List Int))) : Int := (List.zipWith rowL ps qs).sum
def gOk (wd : Nat) (ps : List (List (List Int))) : Prop := wd ≤ 100 ∧ ps.length ≤ 100 ∧ ∀ p ∈ ps, p.length ≤ 100 ∧ ∀ c ∈ p, c.length = wd ∧ cIn (-100000000) 100000000 c
theorem take_one {α β γ : Type} {f : α → β → γ} {ps : List α} {qs : List β} {i : Nat} (h1 : i < ps.length) (h2 : i < qs.length) : (List.zipWith f ps qs).take (i + 1) = (List.zipWith f ps qs).take i ++ [f ps[i] qs[i]] := by
  rw [List.take_add_one, List.getElem?_eq_getElem (by rw [List.length_zipWith]; omega), List.getElem_zipWith]
  rfl
theorem take_sum {α β : Type} {f : α → β → Int} {ps : List α} {qs : List β} {i : Nat} (h1 : i < ps.length) (h2 : i < qs.length) : ((List.zipWith f ps qs).take (i + 1)).sum = ((List.zipWith f ps qs).take i).sum + f ps[i] qs[i] := by
  rw [take_one h1 h2, List.sum_append]
  simp
theorem take_full {α β : Type} {f : α → β → Int} {ps : List α} {qs : List β} {n : Nat} (h : n = min ps.length qs.length) : (List.zipWith f ps qs).take n = List.zipWith f ps qs := List.take_of_length_le (by rw [List.length_zipWith]; omega)
theorem palAt {B : List Addr} {H : Hp} {vs : List V} {ps : List (List (List Int))} (h : DtA B H vs (ps.map eP)) {i : Nat} {v : V} (hv : vs[i]? = some v) : ∃ (hi : i < ps.length) (a : Addr) (us : List V), v = .ref a ∧ a ∉ B ∧ H a = some (.lst us) ∧ DtA B H us (ps[i].map eC) := by
  obtain ⟨d, f, g⟩ := h.getV hv
  rw [List.getElem?_map] at f
  by_cases hi : i < ps.length
  · rw [List.getElem?_eq_getElem hi] at f
    have ed : d = eP ps[i] := (Option.some.inj f).symm
    subst ed
    obtain ⟨a, us, h1, h2, h3, h4⟩ := g.lst2
    exact ⟨hi, a, us, h1, h2, h3, h4⟩
  · rw [List.getElem?_eq_none (by omega)] at f
    cases f
theorem colAt {B : List Addr} {H : Hp} {vs : List V} {cs : List (List Int)} (h : DtA B H vs (cs.map eC)) {i : Nat} {v : V} (hv : vs[i]? = some v) : ∃ (hi : i < cs.length), Dt B H v (eC cs[i]) := by
  obtain ⟨d, f, g⟩ := h.getV hv
  rw [List.getElem?_map] at f
  by_cases hi : i < cs.length
  · rw [List.getElem?_eq_getElem hi] at f
    have ed : d = eC cs[i] := (Option.some.inj f).symm
    subst ed
    exact ⟨hi, g⟩
  · rw [List.getElem?_eq_none (by omega)] at f
    cases f
def spLost : Sp := fun vs H Q _ => ∃ (a b : Addr) (us vs' : List V) (ps qs : List (List (List Int))) (wd : Nat), vs = [.ref a, .ref b] ∧ H a = some (.lst us) ∧ DtA [] H us (ps.map eP) ∧ H b = some (.lst vs') ∧ DtA [] H vs' (qs.map eP) ∧ gOk wd ps ∧ gOk wd qs ∧ ps.length = qs.length ∧ (∀ i (h1 : i < ps.length) (h2 : i < qs.length), ps[i].length = qs[i].length) ∧ ∀ H', Same H H' → Q (.int (lostL ps qs)) H'
set_option maxHeartbeats 1000000 in
theorem ok_lost_in (T : Tx K mg) {k : Nat} : FnOk P w K mg base CX0 (k + 2) T.f_lost_in T.d_lost_in ["picture", "other"] spLost := by
  refine T.F_lost_in.ok sc_lost_in (fun vs H Q E h => ?_) (fun cdv A outer s H vs Q E hr h => ?_)
  · obtain ⟨a, b, us, vs', ps, qs, wd, rfl, _⟩ := h
    rfl
  · obtain ⟨a, b, us, vs', ps, qs, wd, rfl, ea, hU, eb, hV, op, oq, le, lr, q⟩ := h
    have lu := hU.len
    have lv := hV.len
    rw [List.length_map] at lu lv
    have lp := op.2.1
    refine ⟨_, (pss_one (ps_ret (pe_callB (cr_sumK K rfl) (by rfl) T.z_sum (by decide +kernel) (pa_cons (pe_lc2 (own := [("row", 2), ("beside", 3), ("a", 4), ("b", 5)]) (vs1 := [4, 5]) (by rfl) sc_lost_in.nd (RZ.pi_zipA (by rfl) T.z_zip (pa_cons (pv 0) (pa_cons (pv 1) pa_nil))) (blkOk_by (own := [("row", 2), ("beside", 3), ("a", 4), ("b", 5)]) (N := N_lost_in) (sc := defScope s_lost_in) (by decide +kernel)) (by decide) (fun _ _ _ _ _ => (pg_tupK K (n := 2) rfl (pgs_cons (pg_name (i := 2) sc_lost_in.nd rfl (.inl rfl)) (pgs_cons (pg_name (i := 3) sc_lost_in.nd rfl (.inl rfl)) pgs_nil)))) (fun _ _ _ _ _ => pts_nil) (fun _ _ _ _ _ => (pi_zipAK K (by rfl) T.z_zip (pa_cons (pv 2) (pa_cons (pv 3) pa_nil)))) (fun _ _ _ _ _ => (pg_tupK K (n := 2) rfl (pgs_cons (pg_name (i := 4) sc_lost_in.nd rfl (.inl rfl)) (pgs_cons (pg_name (i := 5) sc_lost_in.nd rfl (.inl rfl)) pgs_nil)))) (fun _ _ _ _ _ => pts_nil) (fun _ _ _ _ _ => (pe_call (ok_apart T (k := k)) hr (by rfl) T.g_apart T.F_apart.kp T.b_apart .nil pass0 (pa_cons (pv 4) (pa_cons (pv 5) pa_nil))))) pa_nil)))), ?_⟩
    refine ⟨_, rfl, _, rfl, a, b, _, _, rfl, .inl ⟨SqL.of ea, SqL.of eb, fun D hD => ?_⟩⟩
    refine walk_W (walk_zip (n := ps.length) (xs := us) (ys := vs') (by omega)) (fun i H' => Same H H' ∧ ∃ acc : List Int, H' D = some (.lst (acc.map V.int)) ∧ acc.sum = ((List.zipWith rowL ps qs).take i).sum ∧ acc.length ≤ 100 * i) ⟨sm_new hD, [], upd_same, by simp, by simp⟩ (fun i H' _ h => ⟨SqL.of (h.1 _ _ ea), SqL.of (h.1 _ _ eb)⟩) (fun i x H1 H2 hi h y => ?_) (fun H1 h => ?_)
    · obtain ⟨s1, acc, eD, es, el⟩ := h
      obtain ⟨t, x, y, rfl, ht, rfl, e1, e2⟩ := y
      obtain ⟨hi1, a1, us1, rfl, _, ea1, hU1⟩ := palAt hU e1
      obtain ⟨hi2, b1, vs1, rfl, _, eb1, hV1⟩ := palAt hV e2
      have lu1 := hU1.len
      have lv1 := hV1.len
      rw [List.length_map] at lu1 lv1
      have l12 := lr i hi1 hi2
      have o1 := op.2.2 _ (List.getElem_mem hi1)
      have o2 := oq.2.2 _ (List.getElem_mem hi2)
      have s2 := s1.trans (sm_new (o := .tup [.ref a1, .ref b1]) ht)
      have eD2 := (sm_new (o := .tup [.ref a1, .ref b1]) ht) _ _ eD
      refine ⟨t, _, rfl, SqT.of upd_same, rfl, _, _, rfl, _, _, rfl, rfl, rfl, ?_⟩
      generalize upd H1 t (.tup [.ref a1, .ref b1]) = H2 at *
      refine yesT ⟨_, rfl, _, rfl, a1, b1, _, _, rfl, .inl ⟨SqL.of (s2 _ _ ea1), SqL.of (s2 _ _ eb1), ?_⟩⟩
      refine walk_W (walk_zip (n := ps[i].length) (xs := us1) (ys := vs1) (by omega)) (fun j H' => Same H H' ∧ ∃ acc : List Int, H' D = some (.lst (acc.map V.int)) ∧ acc.sum = ((List.zipWith rowL ps qs).take i).sum + ((List.zipWith ap ps[i] qs[i]).take j).sum ∧ acc.length ≤ 100 * i + j) ⟨s2, acc, eD2, by simp [es], by omega⟩ (fun j H' _ h => ⟨SqL.of (h.1 _ _ ea1), SqL.of (h.1 _ _ eb1)⟩) (fun j x H3 H4 hj h y => ?_) (fun H3 h => ?_)
      · obtain ⟨s3, acc3, eD3, es3, el3⟩ := h
        obtain ⟨t3, x, y, rfl, ht3, rfl, e1, e2⟩ := y
        obtain ⟨hj1, d1⟩ := colAt hU1 e1
        obtain ⟨hj2, d2⟩ := colAt hV1 e2
        have c1 := o1.2 _ (List.getElem_mem hj1)
        have c2 := o2.2 _ (List.getElem_mem hj2)
        have s4 := sm_new (o := .tup [x, y]) ht3
        refine ⟨t3, _, rfl, SqT.of upd_same, rfl, _, _, rfl, _, _, rfl, rfl, rfl, ?_⟩
        generalize upd H3 t3 (.tup [x, y]) = H4 at *
        refine yesT ⟨_, rfl, _, rfl, [], x, y, _, _, rfl, d1.s (s3.trans s4), d2.s (s3.trans s4), c1.1.trans c2.1.symm, by rw [c2.1]; exact op.1, c1.2, c2.2, fun H5 s5 => ?_⟩
        refine ⟨_, s5 _ _ (s4 _ _ eD3), sz (by rw [List.length_map]; omega), sm_mut ((s3.trans s4).trans s5) hD, acc3 ++ [ap ps[i][j] qs[i][j]], by rw [upd_same, List.map_append]; rfl, ?_, by rw [List.length_append]; simp; omega⟩
        rw [List.sum_append, es3, take_sum hj1 hj2]
        simp
        omega
      · obtain ⟨s3, acc3, eD3, es3, el3⟩ := h
        refine ⟨s3, acc3, eD3, ?_, by omega⟩
        rw [es3, take_sum hi1 hi2, take_full (f := ap) (ps := ps[i]) (qs := qs[i]) (by omega)]
        rfl
    · obtain ⟨s1, acc, eD, es, el⟩ := h
      refine ⟨D, _, rfl, SqL.of eD, ?_⟩
      rw [es, take_full (by omega)]
      exact q H1 s1
/-! ### numbers of the nearest -/
open Classical in
noncomputable def nrI (cs : List (List Int)) (c : List Int) : Nat := if h : ∃ i, near cs c i then h.choose else 0
theorem nr_of {cs : List (List Int)} {c : List Int} {i : Nat} (h : near cs c i) : nrI cs c = i := by
  unfold nrI
  rw [dif_pos ⟨i, h⟩]
  exact near_one (Exists.choose_spec (⟨i, h⟩ : ∃ i, near cs c i)) h
noncomputable def nums (cs : List (List Int)) (ps : List (List (List Int))) : List (List PyData) := ps.map fun p => p.map fun c => PyData.int (nrI cs c)
def spNumby : Sp := fun vs H Q _ => ∃ (pa ca : Addr) (pvs cvs : List V) (ps : List (List (List Int))) (cs : List (List Int)), vs = [.ref pa, .ref ca] ∧ H pa = some (.lst pvs) ∧ DtA [] H pvs (ps.map eP) ∧ H ca = some (.lst cvs) ∧ DtA [] H cvs (cs.map eC) ∧ 0 < cs.length ∧ ps.length ≤ 1000 ∧ (∀ p ∈ ps, p.length ≤ 1000 ∧ ∀ c ∈ p, pOk cs c) ∧
  ∀ (D : Addr) (rs : List Addr) (H' : Hp), Same H H' → H D = none → H' D = some (.lst (rs.map V.ref)) → Rws [] H H' D rs (nums cs ps) → Q (.ref D) H'
theorem palAt' {B : List Addr} {H : Hp} {vs : List V} {ps : List (List (List Int))} (h : DtA B H vs (ps.map eP)) {i : Nat} {v : V} (hv : vs[i]? = some v) : ∃ (hi : i < ps.length) (a : Addr) (us : List V), v = .ref a ∧ a ∉ B ∧ H a = some (.lst us) ∧ DtA B H us (ps[i].map eC) := by
  obtain ⟨d, f, g⟩ := h.getV hv
  rw [List.getElem?_map] at f
  by_cases hi : i < ps.length
  · rw [List.getElem?_eq_getElem hi] at f
    have ed : d = eP ps[i] := (Option.some.inj f).symm
    subst ed
    obtain ⟨a, us, h1, h2, h3, h4⟩ := g.lst2
    exact ⟨hi, a, us, h1, h2, h3, h4⟩
  · rw [List.getElem?_eq_none (by omega)] at f
    cases f
theorem colAt' {B : List Addr} {H : Hp} {vs : List V} {cs : List (List Int)} (h : DtA B H vs (cs.map eC)) {i : Nat} {v : V} (hv : vs[i]? = some v) : ∃ (hi : i < cs.length), Dt B H v (eC cs[i]) := by
  obtain ⟨d, f, g⟩ := h.getV hv
  rw [List.getElem?_map] at f
  by_cases hi : i < cs.length
  · rw [List.getElem?_eq_getElem hi] at f
    have ed : d = eC cs[i] := (Option.some.inj f).symm
    subst ed
    exact ⟨hi, g⟩
  · rw [List.getElem?_eq_none (by omega)] at f
    cases f
theorem mp_range {α β : Type} (f : α → β) (d : α) (xs : List α) : (List.range xs.length).map (fun i => f (xs.getD i d)) = xs.map f := by
  refine List.ext_getElem (by simp) fun i h1 h2 => ?_
  have hi : i < xs.length := by simpa using h1
  simp [List.getD_eq_getElem?_getD, List.getElem?_eq_getElem hi]
theorem ok_numbers_by (T : Tx K mg) {k : Nat} : FnOk P w K mg base CX0 (k + 3) T.f_numbers_by T.d_numbers_by ["picture", "palette"] spNumby := by
  refine T.F_numbers_by.ok sc_numbers_by (fun vs H Q E h => ?_) (fun cdv A outer s H vs Q E hr h => ?_)
  · obtain ⟨pa, ca, pvs, cvs, ps, cs, rfl, _⟩ := h
    rfl
  · obtain ⟨pa, ca, pvs, cvs, ps, cs, rfl, epa, hP, eca, hC, c0, lp, ok, q⟩ := h
    have lpv := hP.len
    rw [List.length_map] at lpv
    refine ⟨_, (pss_one (ps_ret (pe_lc (own := [("row", 2)]) (by rfl) sc_numbers_by.nd (pi_listK K (pv 0)) (blkOk_by (own := [("row", 2)]) (N := N_numbers_by) (sc := defScope s_numbers_by) (by decide +kernel)) (fun _ _ _ _ _ => (pg_name (i := 2) sc_numbers_by.nd rfl (.inl rfl))) (fun _ _ _ _ _ => pts_nil) (fun _ _ _ _ _ => (pe_lc (own := [("colour", 3)]) (by rfl) sc_numbers_by.nd (pi_listK K (pv 2)) (blkOk_in (own := [("colour", 3)]) (N := N_numbers_by) ["palette"] (by decide +kernel) (by decide +kernel) ⟨.inl rfl, trivial⟩) (fun _ _ _ _ _ => (pg_name (i := 3) sc_numbers_by.nd rfl (.inl rfl))) (fun _ _ _ _ _ => pts_nil) (fun _ _ _ _ _ => (pe_call (ok_nearest T (k := k)) hr (by rfl) T.g_nearest T.F_nearest.kp T.b_nearest .nil pass0 (pa_cons (pv 1) (pa_cons (pv 3) pa_nil))))))))), ?_⟩
    refine ⟨_, rfl, pa, rfl, ⟨_, SqL.of epa⟩, fun D hD => ?_⟩
    refine lc_rows (walk_list (xs := pvs)) [] hD (fun H' s' => SqL.of (s' _ _ epa)) (by omega) (fun i => (ps.getD i []).map fun c => PyData.int (nrI cs c)) (fun i x H' H'' Ny Nn hi t1 y ky => ?_) (fun H8 rs s8 eS R => ?_)
    · obtain ⟨rfl, y⟩ := y
      obtain ⟨hi1, ra, us, rfl, _, er, hU⟩ := palAt' hP y
      have gd : ps.getD i [] = ps[i] := by rw [List.getD_eq_getElem?_getD, List.getElem?_eq_getElem hi1]; rfl
      rw [gd] at ky
      have ok1 := ok _ (List.getElem_mem hi1)
      have lu := hU.len
      rw [List.length_map] at lu
      refine ⟨rfl, lc_yes ⟨_, rfl, ra, rfl, ⟨_, SqL.of (t1 _ _ er)⟩, fun E hE => ?_⟩⟩
      refine lc_vals (walk_list (xs := us)) hE (fun H' s' => SqL.of (s' _ _ (t1 _ _ er))) (by omega) (fun j => V.int (nrI cs (ps[i].getD j []))) (fun j x H2 H3 Ny2 Nn2 hj t2 y2 ky2 => ?_) (fun H7 s7 eE => ?_)
      · obtain ⟨rfl, y2⟩ := y2
        obtain ⟨hj1, dj⟩ := colAt' hU y2
        have gj : ps[i].getD j [] = ps[i][j] := by rw [List.getD_eq_getElem?_getD, List.getElem?_eq_getElem hj1]; rfl
        rw [gj] at ky2
        have t12 := t1.trans t2
        refine ⟨rfl, lc_yes ⟨_, rfl, _, rfl, [], .ref ca, x, cs, ps[i][j], rfl, .lst (fun h => nomatch h) (t12 _ _ eca) (hC.s t12), dj.s t12, ok1.2 _ (List.getElem_mem hj1), c0, fun H4 m s4 nm => ?_⟩⟩
        rw [← nr_of nm]
        exact ky2 _ s4
      · rw [lu, mp_range (fun c => V.int (nrI cs c))] at eE
        refine ky E _ H7 s7 hE eE ?_
        have := DtA.ints (B := []) (H := H) (ps[i].map fun c => (nrI cs c : Int))
        rw [List.map_map, List.map_map] at this
        exact this
    · rw [lpv, mp_range (fun p : List (List Int) => p.map fun c => PyData.int (nrI cs c))] at R
      exact q D rs H8 s8 hD eS R
/-! ### painted -/
def pnt (cs : List (List Int)) (ns : List (List Int)) : List (List PyData) := ns.map fun r => r.map fun x => eC (cs.getD x.toNat [])
theorem row_vals {B : List Addr} {H : Hp} {pvs : List V} {cs : List (List Int)} (hA : DtA B H pvs (cs.map eC)) {r : List Int} (hr : ∀ x ∈ r, 0 ≤ x ∧ x < (cs.length : Int)) : DtA B H ((List.range r.length).map fun j => pvs.getD (r.getD j 0).toNat .non) (r.map fun x => eC (cs.getD x.toNat [])) := by
  have lv := hA.len
  rw [List.length_map] at lv
  refine DtA.mk (by simp) fun i v d h1 h2 => ?_
  have hi : i < r.length := by
    have := (List.getElem?_eq_some_iff.mp h2).1
    rwa [List.length_map] at this
  rw [List.getElem?_map, List.getElem?_range hi] at h1
  rw [List.getElem?_map, List.getElem?_eq_getElem hi] at h2
  cases h1
  cases h2
  have b := hr _ (List.getElem_mem hi)
  have hx : (r[i]).toNat < cs.length := by omega
  have g : r.getD i 0 = r[i] := by rw [List.getD_eq_getElem?_getD, List.getElem?_eq_getElem hi]; rfl
  show Dt B H (pvs.getD (r.getD i 0).toNat V.non) (eC (cs.getD (r[i]).toNat []))
  rw [g]
  refine hA.two (i := (r[i]).toNat) ?_ ?_
  · rw [List.getD_eq_getElem?_getD, List.getElem?_eq_getElem (by omega)]; rfl
  · rw [List.getElem?_map, List.getElem?_eq_getElem hx, List.getD_eq_getElem?_getD, List.getElem?_eq_getElem hx]; rfl
def spPainted : Sp := fun vs H Q _ => ∃ (B : List Addr) (na pa : Addr) (rvs pvs : List V) (ns cs : List (List Int)), vs = [.ref na, .ref pa] ∧ H na = some (.lst rvs) ∧ DtA [] H rvs (ns.map eI) ∧ H pa = some (.lst pvs) ∧ DtA B H pvs (cs.map eC) ∧ ns.length ≤ 1000 ∧ (∀ r ∈ ns, r.length ≤ 1000 ∧ ∀ x ∈ r, 0 ≤ x ∧ x < (cs.length : Int)) ∧
  ∀ (D : Addr) (rs : List Addr) (H' : Hp), Same H H' → H D = none → H' D = some (.lst (rs.map V.ref)) → Rws B H H' D rs (pnt cs ns) → Q (.ref D) H'
theorem ok_painted (T : Tx K mg) {k : Nat} : FnOk P w K mg base CX0 (k + 1) T.f_painted T.d_painted ["numbers", "palette"] spPainted := by
  refine T.F_painted.ok sc_painted (fun vs H Q E h => ?_) (fun cdv A outer s H vs Q E hr h => ?_)
  · obtain ⟨B, na, pa, rvs, pvs, ns, cs, rfl, _⟩ := h
    rfl
  · obtain ⟨B, na, pa, rvs, pvs, ns, cs, rfl, en, hN, ep, hA, ln, hb, q⟩ := h
    have lv := hA.len
    rw [List.length_map] at lv
    have lr := hN.len
    rw [List.length_map] at lr
    refine ⟨_, (pss_one (ps_ret (pe_lc (own := [("row", 2)]) (by rfl) sc_painted.nd (pi_listK K (pv 0)) (blkOk_by (own := [("row", 2)]) (N := N_painted) (sc := defScope s_painted) (by decide +kernel)) (fun _ _ _ _ _ => (pg_name (i := 2) sc_painted.nd rfl (.inl rfl))) (fun _ _ _ _ _ => pts_nil) (fun _ _ _ _ _ => (pe_lc (own := [("number", 3)]) (by rfl) sc_painted.nd (pi_listK K (pv 2)) (blkOk_in (own := [("number", 3)]) (N := N_painted) ["palette"] (by decide +kernel) (by decide +kernel) ⟨.inl rfl, trivial⟩) (fun _ _ _ _ _ => (pg_name (i := 3) sc_painted.nd rfl (.inl rfl))) (fun _ _ _ _ _ => pts_nil) (fun _ _ _ _ _ => (pe_ix (ix_listK K) (pv 1) (pv 3) (fun _ _ => rfl)))))))), ?_⟩
    refine ⟨_, rfl, na, rfl, ⟨_, SqL.of en⟩, fun D hD => ?_⟩
    refine lc_rows (walk_list (xs := rvs)) B hD (fun H' s' => SqL.of (s' _ _ en)) (by omega) (fun i => (ns.getD i []).map fun x => eC (cs.getD x.toNat [])) (fun i x H' H'' Ny Nn hi t1 y ky => ?_) (fun H8 rs s8 eS R => ?_)
    · obtain ⟨rfl, y⟩ := y
      obtain ⟨d1, f1, h1⟩ := hN.getV y
      have hi2 : i < ns.length := by omega
      rw [List.getElem?_map, List.getElem?_eq_getElem hi2] at f1
      have ed : d1 = eI ns[i] := (Option.some.inj f1).symm
      subst ed
      obtain ⟨ra, rfl, _, er⟩ := h1.ints
      have hb1 := hb _ (List.getElem_mem hi2)
      have gd : ns.getD i [] = ns[i] := by rw [List.getD_eq_getElem?_getD, List.getElem?_eq_getElem hi2]; rfl
      rw [gd] at ky
      refine ⟨rfl, lc_yes ⟨_, rfl, ra, rfl, ⟨_, SqL.of (t1 _ _ er)⟩, fun E hE => ?_⟩⟩
      refine lc_vals (walk_list (xs := ns[i].map V.int)) hE (fun H' s' => SqL.of (s' _ _ (t1 _ _ er))) (by rw [List.length_map]; omega) (fun j => pvs.getD (ns[i].getD j 0).toNat .non) (fun j x H2 H3 Ny2 Nn2 hj t2 y2 ky2 => ?_) (fun H7 s7 eE => ?_)
      · obtain ⟨rfl, y2⟩ := y2
        rw [List.length_map] at hj
        have ex := mat hj y2
        subst ex
        have b := hb1.2 _ (List.getElem_mem hj)
        have gj : ns[i].getD j 0 = ns[i][j] := by rw [List.getD_eq_getElem?_getD, List.getElem?_eq_getElem hj]; rfl
        rw [gj] at ky2
        refine ⟨rfl, lc_yes ⟨_, rfl, _, rfl, pa, _, _, _, rfl, rfl, SqL.of (t2 _ _ (t1 _ _ ep)), at0 b.1 ?_, ky2 _ (Same.refl _)⟩⟩
        rw [List.getD_eq_getElem?_getD, List.getElem?_eq_getElem (by omega)]; rfl
      · rw [List.length_map] at eE
        exact ky E _ H7 s7 hE eE (row_vals hA hb1.2)
    · rw [lr] at R
      refine q D rs H8 s8 hD eS ?_
      have e : (List.range ns.length).map (fun i => (ns.getD i []).map fun x => eC (cs.getD x.toNat [])) = pnt cs ns := by
        unfold pnt
        refine List.ext_getElem (by simp) fun i h1 h2 => ?_
        have hi : i < ns.length := by simpa using h1
        simp [List.getD_eq_getElem?_getD, List.getElem?_eq_getElem hi]
      rw [e] at R
      exact R
/-! ### counts -/
theorem take_map_sum {α : Type} (f : α → Int) {l : List α} {i : Nat} (h : i < l.length) : ((l.take (i + 1)).map f).sum = ((l.take i).map f).sum + f l[i] := by
  rw [List.take_add_one, List.getElem?_eq_getElem h, List.map_append, List.sum_append]
  simp
theorem perm_sum {l m : List Int} (h : l.Perm m) : l.sum = m.sum := by
  induction h with
  | nil => rfl
  | cons x _ ih => rw [List.sum_cons, List.sum_cons, ih]
  | swap x y l => rw [List.sum_cons, List.sum_cons, List.sum_cons, List.sum_cons]; omega
  | trans _ _ a b => rw [a, b]
def spCounts : Sp := fun vs H Q _ => ∃ (pa : Addr) (pvs : List V) (ps : List (List (List Int))), vs = [.ref pa] ∧ H pa = some (.lst pvs) ∧ DtA [] H pvs (ps.map eP) ∧ ps.length ≤ 100 ∧ (∀ p ∈ ps, p.length ≤ 100) ∧
  ∀ (D : Addr) (ys : List V) (rs : List (List Int × Int)) (H' : Hp), Same H H' → H D = none → H' D = some (.lst ys) → DtA [] H' ys (rs.map eRow) → rs.length ≤ 10000 → (∀ r ∈ rs, (∃ p ∈ ps, r.1 ∈ p) ∧ 0 ≤ r.2 ∧ r.2 ≤ 10000) → (∀ p ∈ ps, ∀ c ∈ p, ∃ r ∈ rs, r.1 = c) → (∀ φ : List Int → Int, wS φ rs = (ps.map fun p => (p.map φ).sum).sum) → Q (.ref D) H'
set_option maxHeartbeats 1000000 in
theorem ok_counts_in (T : Tx K mg) {k : Nat} : FnOk P w K mg base CX0 (k + 1) T.f_counts_in T.d_counts_in ["picture"] spCounts := by
  refine T.F_counts_in.ok sc_counts_in (fun vs H Q E h => ?_) (fun cdv A outer s H vs Q E hr h => ?_)
  · obtain ⟨pa, pvs, ps, rfl, _⟩ := h
    rfl
  · obtain ⟨pa, pvs, ps, rfl, epa, hP, lp, lpp, q⟩ := h
    have lpv := hP.len
    rw [List.length_map] at lpv
    refine ⟨_, (pss_cons (ps_set (i := 1) sc_counts_in.nd rfl (.inr rfl) pe_dnewT)
      (pss_cons (ps_for PassesOwn.never rfl (pi_listK K (pv 0)) (pg_name (i := 2) sc_counts_in.nd rfl (.inl rfl)) (pss_one (ps_for PassesOwn.never rfl (pi_listK K (pv 2)) (pg_name (i := 3) sc_counts_in.nd rfl (.inl rfl)) (pss_one (ps_asg (pe_op op_add (pe_dget2 (hu_of hr) (pv 1) (pv 3) pe_int ⟨rfl, rfl, rfl, rfl⟩) pe_int) (pg_sub (pv 1) (pv 3) (set_dictU hr.units)))))))
      (pss_one (ps_ret (pe_callB (cr_sortedD K hr.units) (by rfl) T.z_sorted (by decide +kernel) (pa_cons (pe_lock (pe_lc (own := [("colour", 3)]) (by rfl) sc_counts_in.nd (pi_keys (pv 1)) (blkOk_by (own := [("colour", 3)]) (N := N_counts_in) (sc := defScope s_counts_in) (by decide +kernel)) (fun _ _ _ _ _ => (pg_name (i := 3) sc_counts_in.nd rfl (.inl rfl))) (fun _ _ _ _ _ => pts_nil) (fun _ _ _ _ _ => (pe_tup (pa_cons (pv 3) (pa_cons (pe_dget (hu_of hr) (pv 1) (pv 3) (fun _ _ => rfl)) pa_nil)))))) pa_nil)))))), ?_⟩
    refine fun D hD => ?_
    have s0 := sm_new (o := .dT []) hD
    refine ⟨_, rfl, pa, rfl, ⟨_, SqL.of (s0 _ _ epa)⟩, for_list (xs := pvs) (fun i σ H' => ∃ y2 y3, ∃ ks : List (List Int × Int), σ = [some (.ref pa), some (.ref D), y2, y3] ∧ Same H H' ∧ H' D = some (.dT (ks.map entI)) ∧ (∀ e ∈ ks, (∃ p ∈ ps, e.1 ∈ p) ∧ 0 ≤ e.2 ∧ e.2 ≤ 100 * (i : Int)) ∧ (∀ (j : Nat) (hj : j < ps.length), j < i → ∀ c ∈ ps[j], c ∈ ks.map Prod.fst) ∧ (ks.map Prod.fst).Nodup ∧ (∀ φ : List Int → Int, wS φ ks = ((ps.take i).map fun p => (p.map φ).sum).sum) ∧ ks.length ≤ 100 * i)
      ⟨_, _, [], rfl, s0, upd_same, (fun _ h => nomatch h), (fun j hj h => absurd h (by omega)), List.nodup_nil, (fun φ => by simp [wS]), by simp⟩ (fun i σ H' _ h => ?_) (fun i x σ H1 hx h => ?_) (fun σ H1 h => ?_)⟩
    · obtain ⟨y2, y3, ks, rfl, s1, _⟩ := h
      exact SqL.of (s1 _ _ epa)
    · obtain ⟨y2, y3, ks, rfl, s1, eD, hk, hin, nd, hs, lk⟩ := h
      obtain ⟨hi, ra, us, rfl, _, era, hU⟩ := palAt' hP hx
      have lpi := lpp _ (List.getElem_mem hi)
      have lu := hU.len
      rw [List.length_map] at lu
      refine ⟨_, rfl, ra, rfl, ⟨_, SqL.of (s1 _ _ era)⟩, for_list (xs := us) (fun m σ H' => ∃ y3, ∃ ks : List (List Int × Int), σ = [some (.ref pa), some (.ref D), some (.ref ra), y3] ∧ Same H H' ∧ H' D = some (.dT (ks.map entI)) ∧ (∀ e ∈ ks, (∃ p ∈ ps, e.1 ∈ p) ∧ 0 ≤ e.2 ∧ e.2 ≤ 100 * (i : Int) + (m : Int)) ∧ (∀ (j : Nat) (hj : j < ps.length), j < i → ∀ c ∈ ps[j], c ∈ ks.map Prod.fst) ∧ (ks.map Prod.fst).Nodup ∧ (∀ φ : List Int → Int, wS φ ks = ((ps.take i).map fun p => (p.map φ).sum).sum + ((ps[i].take m).map φ).sum) ∧ (∀ (j : Nat) (hj : j < ps[i].length), j < m → ps[i][j] ∈ ks.map Prod.fst) ∧ ks.length ≤ 100 * i + m)
        ⟨_, ks, rfl, s1, eD, (fun e he => ⟨(hk e he).1, (hk e he).2.1, by have := (hk e he).2.2; omega⟩), hin, nd, (fun φ => by rw [hs φ]; simp), (fun j hj h => absurd h (by omega)), by omega⟩ (fun m σ H' _ h => ?_) (fun m x σ H2 hx h => ?_) (fun σ H2 h => ?_)⟩
      · obtain ⟨y3, ks, rfl, s2, _⟩ := h
        exact SqL.of (s2 _ _ era)
      · obtain ⟨y3, ks, rfl, s2, eD, hk, hin, nd, hs, hm, lk⟩ := h
        obtain ⟨hm1, dx⟩ := colAt' hU hx
        obtain ⟨ca, rfl, _, eca⟩ := (dx.s s2).col
        have lm : m < us.length := (List.getElem?_eq_some_iff.mp hx).1
        have eca' : H2 ca = some (.tup ((ps[i][m].map Sum.inl).map kV)) := by rw [kV_ints]; exact eca
        obtain ⟨z, ez, z0, z1⟩ : ∃ z : Int, gV ks ps[i][m] = .int z ∧ 0 ≤ z ∧ z ≤ 100 * (i : Int) + (m : Int) := by
          by_cases hc : ps[i][m] ∈ ks.map Prod.fst
          · obtain ⟨e, he, ec⟩ := List.mem_map.mp hc
            refine ⟨e.2, ?_, (hk e he).2⟩
            unfold gV
            rw [← ec, val_some nd he]
            rfl
          · refine ⟨0, ?_, by omega, by omega⟩
            unfold gV
            rw [val_none hc]
            rfl
        obtain ⟨ks', e', h1, h2, h3, h4, h5, h6⟩ := put_count ks ps[i][m] nd z ez
        refine ⟨_, rfl, D, rfl, .inr ⟨_, .inl eD⟩, _, rfl, _, DGet.t eD eca', z, _, ez, rfl, _, rfl, _, rfl, D, _, rfl, DPut.t eD eca' (sz (by rw [List.length_map]; omega)), ?_⟩
        refine ⟨_, ks', rfl, sm_mut s2 hD, by rw [upd_same, ← e'], fun e he => ?_, fun j hj hji c hc => h4 _ (hin j hj hji c hc), h1, fun φ => ?_, fun j hj hjm => ?_, by omega⟩
        · rcases h3 e he with y | y
          · rw [y]
            exact ⟨⟨_, List.getElem_mem hi, List.getElem_mem hm1⟩, by show 0 ≤ z + 1; omega, by show z + 1 ≤ _; omega⟩
          · have := hk e y
            exact ⟨this.1, this.2.1, by omega⟩
        · rw [h2 φ, hs φ, take_map_sum φ hm1]
          omega
        · by_cases c : j = m
          · subst c
            exact h5
          · exact h4 _ (hm j hj (by omega))
      · obtain ⟨y3, ks, rfl, s2, eD, hk, hin, nd, hs, hm, lk⟩ := h
        refine ⟨_, _, ks, rfl, s2, eD, fun e he => ⟨(hk e he).1, (hk e he).2.1, by have := (hk e he).2.2; omega⟩, fun j hj hji c hc => ?_, nd, fun φ => ?_, by omega⟩
        · by_cases z : j = i
          · subst z
            obtain ⟨n, hn, rfl⟩ := List.getElem_of_mem hc
            exact hm n hn (by omega)
          · exact hin j hj (by omega) c hc
        · rw [hs φ, take_map_sum (fun p => (p.map φ).sum) hi, lu, List.take_length]
    · obtain ⟨y2, y3, ks, rfl, s1, eD, hk, hin, nd, hs, lk⟩ := h
      refine ⟨D, _, eD, trivial, fun od => ?_⟩
      have eF : (upd H1 D (.frz od (.dT (ks.map entI)))) D = some (.frz od (.dT (ks.map entI))) := upd_same
      have sF : Same H (upd H1 D (.frz od (.dT (ks.map entI)))) := sm_mut s1 hD
      generalize upd H1 D (.frz od (.dT (ks.map entI))) = HF at *
      refine ⟨_, rfl, D, od, rfl, .inr ⟨_, eF, fun R hR => ?_⟩⟩
      have nRD : R ≠ D := fun z => by rw [z, eF] at hR; cases hR
      refine lc_it walk_keysT (fun i H' => Same HF H' ∧ ∃ ws, H' R = some (.lst ws) ∧ DtA [R, D] H' ws ((ks.take i).map eRow)) ⟨sm_new hR, [], upd_same, .nil⟩ (fun i H' _ h => h.1 _ _ eF) (fun i x H3 H2 hi h y => ?_) (fun H2 h => ?_)
      · obtain ⟨s2, ws, eR, hW⟩ := h
        obtain ⟨eH, kk, vv, qa, ek, rfl, eq⟩ := y
        subst eH
        rw [List.length_map] at hi
        rw [List.getElem?_map, List.getElem?_eq_getElem hi] at ek
        have e1 : entI ks[i] = (kk, vv) := Option.some.inj ek
        have e2 : kk = ks[i].1.map Sum.inl := congrArg Prod.fst e1.symm
        subst e2
        have en := val_some nd (List.getElem_mem hi)
        have eq' : H2 qa = some (.tup (ks[i].1.map V.int)) := by rw [eq, kV_ints]
        have eD2 := s2 _ _ eF
        have nqR : qa ≠ R := fun z => by rw [z, eR] at eq'; cases eq'
        have nqD : qa ≠ D := fun z => by rw [z, eD2] at eq'; cases eq'
        refine ⟨rfl, yesT ⟨_, rfl, _, rfl, _, rfl, D, .int ks[i].2, rfl, .inr ⟨_, _, _, .inr ⟨_, eD2⟩, rfl, eq, en.symm⟩, (by show 2 ≤ sizeLine; decide), fun t ht => ?_⟩⟩
        have nt : t ∉ [R, D] := fun z => by
          simp only [List.mem_cons, List.not_mem_nil, or_false] at z
          rcases z with z | z
          · rw [z, eR] at ht; cases ht
          · rw [z, eD2] at ht; cases ht
        have s3 := sm_new (o := .tup [.ref qa, .int ks[i].2]) ht
        have gm : Go [R, D] (upd H2 t (.tup [.ref qa, .int ks[i].2])) (upd (upd H2 t (.tup [.ref qa, .int ks[i].2])) R (.lst (ws ++ [.ref t]))) := Go.refl.at (by simp)
        have lw := hW.len
        refine ⟨ws, s3 _ _ eR, sz (by rw [lw]; simp; omega), sm_mut (s2.trans s3) hR, ws ++ [.ref t], upd_same, ?_⟩
        rw [List.take_add_one, List.getElem?_eq_getElem hi, List.map_append]
        refine ((hW.s s3).g gm).app (.one ?_)
        exact Dt.g (.tup nt upd_same (.cons (Dt.ofCol (by simp [nqR, nqD]) (s3 _ _ eq')) (.one (.int _)))) gm
      · obtain ⟨s2, ws, eR, hW⟩ := h
        have eD2 := s2 _ _ eF
        rw [List.length_map, List.take_length] at hW
        refine ⟨eD2, ?_⟩
        have gD : Go [D] H2 (upd H2 D (.dT (ks.map entI))) := Go.refl.at (by simp)
        have eR3 : (upd H2 D (.dT (ks.map entI))) R = some (.lst ws) := by rw [upd_ne nRD]; exact eR
        have hW3 := (hW.sub (C := [D]) (by simp)).g gD
        have s3 : Same H (upd H2 D (.dT (ks.map entI))) := sm_mut (sF.trans s2) hD
        generalize upd H2 D (.dT (ks.map entI)) = H3 at *
        have hW4 : DtA [] H3 ws (ks.map eRow) := hW3.sub (fun _ h => nomatch h)
        refine ⟨R, ws, _, eRow, ks, rfl, SqL.of eR3, DtA.dp _ _ hW4, ?_, PySem.W.Sortable.tuples fun b => ⟨_, _, rfl⟩, by omega, fun b _ => ?_, fun ys p ey hp => ?_⟩
        · refine PySem.W.AllAlike.of fun b b' => ?_
          unfold eRow eC
          simp [PySem.W.alike, PySem.W.alikeAll, PySem.W.alike_ints]
        · have : (eRow b).depth = 2 := by
            unfold eRow eC
            simp [PyData.depth, PyData.depthAll, PySem.W.depth_ints]
          omega
        · have hY := each_mem ey hW4
          have pm := List.mergeSort_perm ks (PySem.W.dataLe false eRow)
          refine q p ys _ _ (s3.trans (sm_new hp)) (s3.free hp) upd_same (hY.s (sm_new hp)) (by rw [pm.length_eq]; omega) (fun r hr => ?_) (fun p hp c hc => ?_) (fun φ => ?_)
          · have := hk r (pm.mem_iff.mp hr)
            exact ⟨this.1, this.2.1, by omega⟩
          · obtain ⟨j, hj, rfl⟩ := List.getElem_of_mem hp
            obtain ⟨e, he, z⟩ := List.mem_map.mp (hin j hj (by omega) c hc)
            exact ⟨e, pm.mem_iff.mpr he, z⟩
          · have e1 : wS φ (ks.mergeSort (PySem.W.dataLe false eRow)) = wS φ ks := perm_sum (pm.map _)
            rw [e1, hs φ, lpv, List.take_length]
theorem eqv_sh {d : PyData} {k : Nat} (h : Sh d k) : PyData.eqv d d = true := SeqAt.eqv_refl d h.1
theorem eqvAll_map {α : Type} [DecidableEq α] {f : α → PyData} (h : ∀ a b, PyData.eqv (f a) (f b) = decide (a = b)) : ∀ xs ys : List α, PyData.eqvAll (xs.map f) (ys.map f) = decide (xs = ys)
  | [], [] => by simp [PyData.eqvAll]
  | [], _ :: _ => by simp [PyData.eqvAll]
  | _ :: _, [] => by simp [PyData.eqvAll]
  | x :: xs, y :: ys => by
    rw [List.map_cons, List.map_cons, PyData.eqvAll, h, eqvAll_map h xs ys]
    simp [List.cons.injEq, Bool.decide_and]
theorem eqv_eC (a b : List Int) : PyData.eqv (eC a) (eC b) = decide (a = b) := by
  unfold eC
  rw [PyData.eqv]
  exact eqvAll_map (f := PyData.int) (fun x y => by rw [PyData.eqv]; by_cases h : x = y <;> simp [h]) a b
/-! ### how far apart: sums of squares -/
theorem sq_comm (x y : Int) : (x - y) ^ 2 = (y - x) ^ 2 := by
  rw [Int.pow_succ, Int.pow_succ, Int.pow_zero, Int.pow_succ, Int.pow_succ, Int.pow_zero]
  have : y - x = -(x - y) := by omega
  rw [this, Int.one_mul, Int.one_mul, Int.neg_mul_neg]
theorem sq_nn (x : Int) : 0 ≤ x ^ 2 := by
  rw [Int.pow_succ, Int.pow_succ, Int.pow_zero, Int.one_mul]
  rcases Int.le_total 0 x with h | h
  · exact Int.mul_nonneg h h
  · exact Int.mul_nonneg_of_nonpos_of_nonpos h h
theorem sq_zero {x : Int} (h : x ^ 2 = 0) : x = 0 := by
  rw [Int.pow_succ, Int.pow_succ, Int.pow_zero, Int.one_mul] at h
  rcases Int.mul_eq_zero.mp h with z | z <;> exact z
theorem ap_cons (x y : Int) (a b : List Int) : ap (x :: a) (y :: b) = (x - y) ^ 2 + ap a b := by
  unfold ap
  simp
theorem ap_nil (b : List Int) : ap [] b = 0 := by
  unfold ap
  simp
theorem ap_comm : ∀ a b : List Int, ap a b = ap b a
  | [], b => by unfold ap; simp
  | x :: a, [] => by unfold ap; simp
  | x :: a, y :: b => by rw [ap_cons, ap_cons, ap_comm a b, sq_comm]
theorem ap_nn : ∀ a b : List Int, 0 ≤ ap a b
  | [], b => by rw [ap_nil]; exact Int.le_refl _
  | x :: a, [] => by rw [ap_comm, ap_nil]; exact Int.le_refl _
  | x :: a, y :: b => by
    rw [ap_cons]
    have := ap_nn a b
    have := sq_nn (x - y)
    omega
theorem ap_zero : ∀ {a b : List Int}, a.length = b.length → (ap a b = 0 ↔ a = b)
  | [], [], _ => by simp [ap_nil]
  | x :: a, y :: b, h => by
    rw [ap_cons]
    have h1 := ap_nn a b
    have h2 := sq_nn (x - y)
    have ih := ap_zero (a := a) (b := b) (by simpa using h)
    constructor
    · intro e
      have e1 : (x - y) ^ 2 = 0 := by omega
      have e2 : ap a b = 0 := by omega
      have e3 := sq_zero e1
      rw [ih.mp e2, show x = y by omega]
    · intro e
      obtain ⟨e1, e2⟩ := List.cons.inj e
      rw [ih.mpr e2, e1]
      simp
theorem zw_comm {α : Type} {f : α → α → Int} (h : ∀ a b, f a b = f b a) : ∀ xs ys : List α, (List.zipWith f xs ys).sum = (List.zipWith f ys xs).sum
  | [], ys => by cases ys <;> simp
  | x :: xs, [] => by simp
  | x :: xs, y :: ys => by
    rw [List.zipWith_cons_cons, List.zipWith_cons_cons, List.sum_cons, List.sum_cons, zw_comm h xs ys, h]
theorem zw_nn {α β : Type} {f : α → β → Int} (h : ∀ a b, 0 ≤ f a b) : ∀ (xs : List α) (ys : List β), 0 ≤ (List.zipWith f xs ys).sum
  | [], _ => by simp
  | _ :: _, [] => by simp
  | x :: xs, y :: ys => by
    rw [List.zipWith_cons_cons, List.sum_cons]
    have := zw_nn h xs ys
    have := h x y
    omega
theorem zw_zero {α : Type} {f : α → α → Int} (h : ∀ a b, 0 ≤ f a b) : ∀ {xs ys : List α}, xs.length = ys.length → (∀ i (h1 : i < xs.length) (h2 : i < ys.length), f xs[i] ys[i] = 0 ↔ xs[i] = ys[i]) → ((List.zipWith f xs ys).sum = 0 ↔ xs = ys)
  | [], [], _, _ => by simp
  | x :: xs, y :: ys, hl, hz => by
    rw [List.zipWith_cons_cons, List.sum_cons]
    have h1 := zw_nn h xs ys
    have h2 := h x y
    have ih := zw_zero h (xs := xs) (ys := ys) (by simpa using hl) (fun i a b => hz (i + 1) (by simp; omega) (by simp; omega))
    have z0 : f x y = 0 ↔ x = y := hz 0 (by simp) (by simp)
    constructor
    · intro e
      rw [z0.mp (by omega), ih.mp (by omega)]
    · intro e
      obtain ⟨e1, e2⟩ := List.cons.inj e
      rw [z0.mpr e1, ih.mpr e2]
      rfl
theorem rowL_nn (a b : List (List Int)) : 0 ≤ rowL a b := zw_nn ap_nn a b
theorem lost_comm (ps qs : List (List (List Int))) : lostL ps qs = lostL qs ps := zw_comm (fun a b => zw_comm ap_comm a b) ps qs
theorem lost_zero {wd : Nat} {ps qs : List (List (List Int))} (op : gOk wd ps) (oq : gOk wd qs) (le : ps.length = qs.length) (lr : ∀ i (h1 : i < ps.length) (h2 : i < qs.length), ps[i].length = qs[i].length) : lostL ps qs = 0 ↔ ps = qs := by
  refine zw_zero rowL_nn le fun i h1 h2 => ?_
  refine zw_zero ap_nn (lr i h1 h2) fun j j1 j2 => ?_
  refine ap_zero ?_
  rw [((op.2.2 _ (List.getElem_mem h1)).2 _ (List.getElem_mem j1)).1, ((oq.2.2 _ (List.getElem_mem h2)).2 _ (List.getElem_mem j2)).1]
theorem lost_cut (ps qs : List (List (List Int))) (n : Nat) : lostL (ps.take n) (qs.take n) + lostL (ps.drop n) (qs.drop n) = lostL ps qs := by
  unfold lostL
  rw [← List.take_zipWith, ← List.drop_zipWith, ← List.sum_append, List.take_append_drop]
/-! ### the most used ones -/
def enM (r : List Int × Int) : PyData := .tuple [.int (-r.2), eC r.1]
theorem row47 {B : List Addr} {H : Hp} {v : V} {r : List Int × Int} (h : Dt B H v (eRow r)) : ∃ a q, v = .ref a ∧ a ∉ B ∧ H a = some (.tup [.ref q, .int r.2]) ∧ q ∉ B ∧ H q = some (.tup (r.1.map V.int)) := by
  obtain ⟨a, vs, rfl, na, ea, hA⟩ := h.tupI
  cases hA with
  | cons h1 h2 =>
    cases h2 with
    | cons h3 h4 =>
      cases h4
      obtain ⟨q, rfl, nq, eq⟩ := h1.col
      cases h3
      exact ⟨a, q, rfl, na, ea, nq, eq⟩
theorem most47 {B : List Addr} {H : Hp} {v : V} {r : List Int × Int} (h : Dt B H v (enM r)) : ∃ a q, v = .ref a ∧ a ∉ B ∧ H a = some (.tup [.int (-r.2), .ref q]) ∧ q ∉ B ∧ H q = some (.tup (r.1.map V.int)) := by
  obtain ⟨a, vs, rfl, na, ea, hA⟩ := h.tupI
  cases hA with
  | cons h1 h2 =>
    cases h2 with
    | cons h3 h4 =>
      cases h4
      obtain ⟨q, rfl, nq, eq⟩ := h3.col
      cases h1
      exact ⟨a, q, rfl, na, ea, nq, eq⟩
def spMost : Sp := fun vs H Q _ => ∃ (pa : Addr) (pvs : List V) (ps : List (List (List Int))), vs = [.ref pa, .int 3] ∧ H pa = some (.lst pvs) ∧ DtA [] H pvs (ps.map eP) ∧ ps.length ≤ 100 ∧ (∀ p ∈ ps, p.length ≤ 100) ∧ (∃ p ∈ ps, 0 < p.length) ∧
  ∀ (D : Addr) (vs' : List V) (us : List (List Int)) (H' : Hp), Same H H' → H' D = some (.lst vs') → DtA [] H' vs' (us.map eC) → 0 < us.length → us.length ≤ 3 → (∀ u ∈ us, ∃ p ∈ ps, u ∈ p) → Q (.ref D) H'
set_option maxHeartbeats 1000000 in
theorem ok_most_used (T : Tx K mg) {k : Nat} : FnOk P w K mg base CX0 (k + 2) T.f_most_used T.d_most_used ["picture", "many"] spMost := by
  refine T.F_most_used.ok sc_most_used (fun vs H Q E h => ?_) (fun cdv A outer s H vs Q E hr h => ?_)
  · obtain ⟨pa, pvs, ps, rfl, _⟩ := h
    rfl
  · obtain ⟨pa, pvs, ps, rfl, epa, hP, lp, lpp, ⟨p0, mp0, lp0⟩, q⟩ := h
    refine ⟨_, (pss_cons (ps_set (i := 2) sc_most_used.nd rfl (.inl rfl) (pe_callB (cr_sortedD K hr.units) (by rfl) T.z_sorted (by decide +kernel) (pa_cons (pe_lc (own := [("colour", 3), ("count", 4)]) (by rfl) sc_most_used.nd (pi_listK K (pe_call (ok_counts_in T (k := k)) hr (by rfl) T.g_counts_in T.F_counts_in.kp T.b_counts_in .nil pass0 (pa_cons (pv 0) pa_nil))) (blkOk_by (own := [("colour", 3), ("count", 4)]) (N := N_most_used) (sc := defScope s_most_used) (by decide +kernel)) (fun _ _ _ _ _ => (pg_tupK K (n := 2) rfl (pgs_cons (pg_name (i := 3) sc_most_used.nd rfl (.inl rfl)) (pgs_cons (pg_name (i := 4) sc_most_used.nd rfl (.inl rfl)) pgs_nil)))) (fun _ _ _ _ _ => pts_nil) (fun _ _ _ _ _ => (pe_tup (pa_cons (pe_un un_neg (pv 4)) (pa_cons (pv 3) pa_nil))))) pa_nil)))
      (pss_one (ps_ret (pe_lc (own := [("less", 5), ("colour", 3)]) (by rfl) sc_most_used.nd (pi_listK K (pe_slice (sl_listK K) (pv 2) po_none (po_some (pv 1)))) (blkOk_by (own := [("less", 5), ("colour", 3)]) (N := N_most_used) (sc := defScope s_most_used) (by decide +kernel)) (fun _ _ _ _ _ => (pg_tupK K (n := 2) rfl (pgs_cons (pg_name (i := 5) sc_most_used.nd rfl (.inl rfl)) (pgs_cons (pg_name (i := 3) sc_most_used.nd rfl (.inl rfl)) pgs_nil)))) (fun _ _ _ _ _ => pts_nil) (fun _ _ _ _ _ => (pv 3)))))), ?_⟩
    refine ⟨_, rfl, pa, pvs, ps, rfl, epa, hP, lp, lpp, fun D0 ys rs H1 s1 hD0 eD0 hY lrs hr1 hr2 _ => ?_⟩
    have ly := hY.len
    rw [List.length_map] at ly
    have rs0 : 0 < rs.length := by
      obtain ⟨r, hr, _⟩ := hr2 p0 mp0 (p0[0]'lp0) (List.getElem_mem lp0)
      exact List.length_pos_of_mem hr
    refine ⟨D0, rfl, ⟨_, SqL.of eD0⟩, fun D hD => ?_⟩
    refine lc_pure (B := []) (walk_list (xs := ys)) hD (fun _ h => nomatch h) (fun H' s' => SqL.of (s' _ _ eD0)) (by omega) (fun i => (rs.map enM)[i]?) (fun i x H2 H3 Ny Nn hi s2 bk y ky kn => ?_) (fun H2 ws s2 eS hW => ?_)
    · obtain ⟨rfl, y⟩ := y
      obtain ⟨d, fd, dx⟩ := hY.getV y
      have hi2 : i < rs.length := by omega
      rw [List.getElem?_map, List.getElem?_eq_getElem hi2] at fd
      have ed : d = eRow rs[i] := (Option.some.inj fd).symm
      subst ed
      obtain ⟨a, qa, rfl, _, e1, _, e2⟩ := row47 (dx.s s2)
      refine ⟨a, _, rfl, SqT.of e1, rfl, _, _, rfl, _, _, rfl, rfl, rfl, lc_yes ⟨_, rfl, _, rfl, _, rfl, (by show 2 ≤ sizeLine; decide), fun t ht => ?_⟩⟩
      have nq : qa ∉ [D] := fun m => by
        rw [List.mem_singleton.mp m] at e2
        obtain ⟨d2, fd2, dx2⟩ := hY.getV y
        obtain ⟨a', qa', ea', _, e1', _, e2'⟩ := row47 (dx.s (Same.refl H1))
        cases ea'
        have := s2 _ _ e1'
        rw [e1] at this
        cases this
        rw [List.mem_singleton.mp m, hD] at e2'
        cases e2'
      refine ky _ _ (enM rs[i]) (by rw [List.getElem?_map, List.getElem?_eq_getElem hi2]; rfl) (sm_new ht) ?_
      exact .tup (bk.ne ht) upd_same (.cons (.int _) (.one (Dt.ofCol nq ((sm_new ht) _ _ e2))))
    · rw [fm_all (by simp; omega)] at hW
      have hW2 := hW.sub (C := []) (fun _ h => nomatch h)
      refine ⟨D, ws, _, enM, rs, rfl, SqL.of eS, DtA.dp _ _ hW2, PySem.W.AllAlike.of fun b b' => ?_, PySem.W.Sortable.tuples fun b => ⟨_, _, rfl⟩, lrs, fun b _ => ?_, fun zs p ez hp => ?_⟩
      · unfold enM eC
        simp [PySem.W.alike, PySem.W.alikeAll, PySem.W.alike_ints]
      · have : (enM b).depth = 2 := by
          unfold enM eC
          simp [PyData.depth, PyData.depthAll, PySem.W.depth_ints]
        omega
      have hZ := each_mem ez hW2
      have pm := List.mergeSort_perm rs (PySem.W.dataLe false enM)
      generalize rs.mergeSort (PySem.W.dataLe false enM) = rt at *
      have s3 := sm_new (o := .lst zs) hp
      have ep : (upd H2 p (.lst zs)) p = some (.lst zs) := upd_same
      have hZ3 := hZ.s s3
      generalize upd H2 p (.lst zs) = H3 at *
      have lt := pm.length_eq
      refine ⟨_, rfl, _, rfl, 3, rfl, p, _, rfl, SqL.of ep, fun c hc => ?_⟩
      have s4 := sm_new (o := .lst (cutV zs none (some 3))) hc
      have ec : (upd H3 c (.lst (cutV zs none (some 3)))) c = some (.lst (cutV zs none (some 3))) := upd_same
      generalize upd H3 c (.lst (cutV zs none (some 3))) = H4 at *
      have k1 := (hZ3.s s4).cut none (some 3)
      rw [cut_toV _ (by decide), ← List.map_take, show (3 : Int).toNat = 3 from rfl] at k1
      have lk := k1.len
      rw [List.length_map, List.length_take] at lk
      refine ⟨c, rfl, ⟨_, SqL.of ec⟩, fun R hR => ?_⟩
      refine lc_vals (walk_list (xs := cutV zs none (some 3))) hR (fun H' s' => SqL.of (s' _ _ ec)) (by omega) (fun i => match H4 (match (cutV zs none (some 3)).getD i .non with | .ref a => a | _ => 0) with | some (.tup [_, v]) => v | _ => .non) (fun i x H5 H6 Ny Nn hi s5 y ky => ?_) (fun H5 s5 eR => ?_)
      · obtain ⟨rfl, y⟩ := y
        obtain ⟨d, fd, dx⟩ := k1.getV y
        have hi2 : i < (rt.take 3).length := by rw [List.length_take]; omega
        rw [List.getElem?_map, List.getElem?_eq_getElem hi2] at fd
        have ed : d = enM (rt.take 3)[i] := (Option.some.inj fd).symm
        subst ed
        obtain ⟨a, qa, rfl, _, e1, _, e2⟩ := most47 dx
        have gx : (cutV zs none (some 3)).getD i .non = .ref a := by rw [List.getD_eq_getElem?_getD, y]; rfl
        rw [gx] at ky
        simp only [e1] at ky
        exact ⟨a, _, rfl, SqT.of (s5 _ _ e1), rfl, _, _, rfl, _, _, rfl, rfl, rfl, lc_yes ⟨_, rfl, ky _ (Same.refl _)⟩⟩
      · refine q R _ ((rt.take 3).map Prod.fst) H5 ((((s1.trans s2).trans s3).trans s4).trans s5) eR ?_ (by rw [List.length_map, List.length_take]; omega) (by rw [List.length_map, List.length_take]; omega) (fun u hu => ?_)
        · refine DtA.mk (by rw [List.length_map, List.length_map, List.length_range, List.length_map, List.length_take]; omega) fun i v d h1 h2 => ?_
          rw [List.getElem?_map] at h1 h2
          rw [List.getElem?_map] at h2
          have hi : i < (cutV zs none (some 3)).length := by
            cases z : (List.range (cutV zs none (some 3)).length)[i]? with
            | none => rw [z] at h1; cases h1
            | some w => exact (by have := (List.getElem?_eq_some_iff.mp z).1; simpa using this)
          rw [List.getElem?_range hi] at h1
          obtain ⟨d0, fd, dx⟩ := k1.getV (List.getElem?_eq_getElem hi)
          have hi2 : i < (rt.take 3).length := by rw [List.length_take]; omega
          rw [List.getElem?_map, List.getElem?_eq_getElem hi2] at fd
          have ed : d0 = enM (rt.take 3)[i] := (Option.some.inj fd).symm
          subst ed
          obtain ⟨a, qa, ea, _, e1, _, e2⟩ := most47 dx
          have gx : (cutV zs none (some 3)).getD i .non = .ref a := by rw [List.getD_eq_getElem?_getD, List.getElem?_eq_getElem hi, ea]; rfl
          have h1' := Option.some.inj h1
          dsimp only at h1'
          rw [gx] at h1'
          simp only [e1] at h1'
          rw [List.getElem?_eq_getElem hi2] at h2
          have h2' : eC (rt.take 3)[i].1 = d := Option.some.inj h2
          rw [← h1', ← h2']
          exact Dt.ofCol (fun h => nomatch h) (s5 _ _ e2)
        · obtain ⟨r, hr, rfl⟩ := List.mem_map.mp hu
          exact (hr1 r (pm.mem_iff.mp (List.mem_of_mem_take hr))).1
/-! ### all tellings -/
def tl (w : Nat) : Nat → List (List Int)
  | 0 => [[]]
  | m + 1 => (tl w m).flatMap fun one => (List.range w).map fun n : Nat => one ++ [(n : Int)]
theorem tl_len (w : Nat) : ∀ m, (tl w m).length = w ^ m
  | 0 => rfl
  | m + 1 => by
    rw [tl, List.length_flatMap]
    have : (tl w m).map (fun one => ((List.range w).map fun n : Nat => one ++ [(n : Int)]).length) = (tl w m).map fun _ => w := List.map_congr_left fun x _ => by simp
    rw [this, List.map_const', List.sum_replicate_nat, tl_len w m, Nat.pow_succ]
theorem tl_mem {w : Nat} : ∀ {m : Nat} {ns : List Int}, ns ∈ tl w m → ns.length = m ∧ cIn 0 ((w : Int) - 1) ns
  | 0, ns, h => by
    rw [tl, List.mem_singleton] at h
    rw [h]
    exact ⟨rfl, cIn.nil⟩
  | m + 1, ns, h => by
    rw [tl, List.mem_flatMap] at h
    obtain ⟨one, h1, h2⟩ := h
    obtain ⟨n, hn, rfl⟩ := List.mem_map.mp h2
    obtain ⟨l, c⟩ := tl_mem h1
    have := List.mem_range.mp hn
    exact ⟨by simp [l], c.app (by omega) (by omega)⟩
def spTell : Sp := fun vs H Q _ => ∃ m w : Nat, vs = [.int (m : Int), .int (w : Int)] ∧ m ≤ 4 ∧ w ≤ 3 ∧
  ∀ (D : Addr) (ts : List V) (H' : Hp), Same H H' → H' D = some (.lst ts) → DtA [] H' ts ((tl w m).map eI) → Q (.ref D) H'
theorem pow_in {w m : Nat} (hw : w ≤ 3) (hm : m ≤ 4) : w ^ m ≤ 81 := Nat.le_trans (Nat.pow_le_pow_left hw m) (Nat.le_trans (Nat.pow_le_pow_right (by decide) hm) (by decide))
set_option maxHeartbeats 1000000 in
theorem ok_l_all_tellings (T : Tx K mg) {k : Nat} : FnOk P w K mg base CX0 (k + 1) T.f_l_all_tellings T.d_l_all_tellings ["_law_many", "_law_wide"] spTell := by
  refine T.F_l_all_tellings.ok sc_l_all_tellings (fun vs H Q E h => ?_) (fun cdv A outer s H vs Q E hr h => ?_)
  · obtain ⟨m, w', rfl, _⟩ := h
    rfl
  · obtain ⟨m, wd, rfl, hm, hw, q⟩ := h
    refine ⟨_, (pss_cons (ps_set (i := 2) sc_l_all_tellings.nd rfl (.inl rfl) (pe_lst (pa_cons (pe_lst pa_nil) pa_nil)))
      (pss_cons (ps_for PassesOwn.never rfl (pi_range1 (by rfl) T.z_range (pa_cons (pv 0) pa_nil)) (pg_name (i := 3) sc_l_all_tellings.nd rfl (.inl rfl)) (pss_cons (ps_set (i := 4) sc_l_all_tellings.nd rfl (.inl rfl) (pe_lst pa_nil))
      (pss_cons (ps_for PassesOwn.never rfl (pi_listK K (pv 2)) (pg_name (i := 5) sc_l_all_tellings.nd rfl (.inr rfl)) (pss_one (ps_expr (pe_bm PySem.F.plainAttrs_list PySem.F.slot_list_extend PySem.F.type_list_extend mt_extend (pv 4) (pa_cons (pe_lc (own := [("_law_number", 6)]) (by rfl) sc_l_all_tellings.nd (pi_range1 (by rfl) T.z_range (pa_cons (pv 1) pa_nil)) (blkOk_by (own := [("_law_number", 6)]) (N := N_l_all_tellings) (sc := defScope s_l_all_tellings) (by decide +kernel)) (fun _ _ _ _ _ => (pg_name (i := 6) sc_l_all_tellings.nd rfl (.inl rfl))) (fun _ _ _ _ _ => pts_nil) (fun _ _ _ _ _ => (pe_op op_cat (pv 5) (pe_lst (pa_cons (pv 6) pa_nil))))) pa_nil)))))
      (pss_one (ps_set (i := 2) sc_l_all_tellings.nd rfl (.inl rfl) (pv 4))))))
      (pss_one (ps_ret (pv 2))))), ?_⟩
    refine ⟨Nat.zero_le _, fun E0 hE0 => ⟨(by show 1 ≤ sizeLine; decide), fun F0 hF0 => ?_⟩⟩
    have s0 := (sm_new (o := .lst []) hE0).trans (sm_new (o := .lst [.ref E0]) hF0)
    have e0 : (upd (upd H E0 (.lst [])) F0 (.lst [.ref E0])) E0 = some (.lst (([] : List Int).map V.int)) := (sm_new hF0) _ _ upd_same
    refine ⟨_, rfl, (m : Int), rfl, by omega, by omega, for_range (lo := 0) (n := (m : Int).toNat) (fun i σ H' => ∃ y3 y4 y5 y6 fa ts, σ = [some (.int (m : Int)), some (.int (wd : Int)), some (.ref fa), y3, y4, y5, y6] ∧ Same H H' ∧ H' fa = some (.lst ts) ∧ DtA [] H' ts ((tl wd i).map eI))
      ⟨_, _, _, _, F0, [.ref E0], rfl, s0, upd_same, .one (Dt.ofInts (fun h => nomatch h) e0)⟩ (fun i σ H1 hi h1 => ?_) (fun σ H1 h1 => ?_)⟩
    · obtain ⟨y3, y4, y5, y6, fa, ts, rfl, s1, efa, hT⟩ := h1
      have lt := hT.len
      rw [List.length_map, tl_len] at lt
      have p81 := pow_in (m := i) hw (by omega)
      refine ⟨Nat.zero_le _, fun G hG => ?_⟩
      have s2 := sm_new (o := .lst []) hG
      have eG : (upd H1 G (.lst [])) G = some (.lst []) := upd_same
      refine ⟨_, rfl, fa, rfl, ⟨_, SqL.of (s2 _ _ efa)⟩, for_list (xs := ts) (fun j σ H' => ∃ y3 y5 y6 us, σ = [some (.int (m : Int)), some (.int (wd : Int)), some (.ref fa), y3, some (.ref G), y5, y6] ∧ Same H1 H' ∧ H' G = some (.lst us) ∧ DtA [G] H' us ((((tl wd i).take j).flatMap fun one => (List.range wd).map fun n : Nat => one ++ [(n : Int)]).map eI) ∧ us.length = wd * j)
        ⟨_, _, _, [], rfl, s2, eG, .nil, by simp⟩ (fun j σ H' _ h => ?_) (fun j x σ H2 hx h => ?_) (fun σ H2 h => ?_)⟩
      · obtain ⟨y3, y5, y6, us, rfl, s3, _⟩ := h
        exact SqL.of (s3 _ _ efa)
      · obtain ⟨y3, y5, y6, us, rfl, s3, eG3, hU, lu⟩ := h
        obtain ⟨d, fd, dx⟩ := hT.getV hx
        have hj : j < ts.length := (List.getElem?_eq_some_iff.mp hx).1
        have hj2 : j < (tl wd i).length := by rw [tl_len]; omega
        rw [List.getElem?_map, List.getElem?_eq_getElem hj2] at fd
        have ed : d = eI (tl wd i)[j] := (Option.some.inj fd).symm
        subst ed
        have lone := (tl_mem (List.getElem_mem hj2)).1
        obtain ⟨oa, rfl, _, eo⟩ := dx.ints
        refine ⟨_, rfl, .inl ⟨rfl, _, SqL.of eG3⟩, _, rfl, (wd : Int), rfl, by omega, by omega, fun D hD => ?_⟩
        refine lc_rows (walk_range (lo := 0) (n := (wd : Int).toNat)) [G] hD (fun _ _ => True.intro) (by omega) (fun n => ((tl wd i)[j] ++ [(n : Int)]).map PyData.int) (fun n x H3 H4 Ny Nn hn s4 y ky => ?_) (fun H4 rs s4 eD R => ?_)
        · obtain ⟨rfl, rfl⟩ := y
          refine ⟨rfl, lc_yes ⟨_, rfl, _, rfl, (by show 1 ≤ sizeLine; decide), fun z hz => ?_⟩⟩
          have ez : (0 : Int) + (n : Int) = (n : Int) := by omega
          have s5 := sm_new (o := .lst [.int (0 + (n : Int))]) hz
          refine ⟨oa, z, _, _, rfl, rfl, s5 _ _ (s4 _ _ (s3 _ _ eo)), upd_same, (by rw [List.length_map, lone]; exact Nat.le_of_lt (sz (by simp; omega))), fun p hp => ?_⟩
          refine ky p _ _ (s5.trans (sm_new hp)) (s5.free hp) upd_same ?_
          have e : (tl wd i)[j].map V.int ++ [V.int (0 + (n : Int))] = ((tl wd i)[j] ++ [(n : Int)]).map V.int := by rw [List.map_append, ez]; rfl
          rw [e]
          exact DtA.ints _
        have eG4 := s4 _ _ eG3
        have lr : rs.length = wd := by rw [R.len, List.length_map, List.length_range]; omega
        refine ⟨G, D, _, _, rfl, rfl, eG4, eD, (by rw [List.length_map]; exact Nat.le_of_lt (sz (by have : wd * j ≤ 3 * 81 := Nat.mul_le_mul hw (by omega); omega))), ?_⟩
        have gm : Go [G] H4 (upd H4 G (.lst (us ++ rs.map V.ref))) := Go.refl.at (by simp)
        have bkG : Bk [G] H2 := fun a ha => by rw [List.mem_singleton.mp ha, eG3]; exact fun z => nomatch z
        refine ⟨_, _, _, us ++ rs.map V.ref, rfl, sm_mut (s3.trans s4) hG, upd_same, ?_, by rw [List.length_append, List.length_map, lu, lr, Nat.mul_succ]⟩
        rw [List.take_add_one, List.getElem?_eq_getElem hj2, List.flatMap_append, List.map_append]
        refine ((hU.s s4).g gm).app ?_
        have dR := (R.dt bkG (Go.of s4)).g gm
        rw [List.map_map, show (wd : Int).toNat = wd by omega] at dR
        have e : ((some (tl wd i)[j]).toList.flatMap fun one => (List.range wd).map fun n : Nat => one ++ [(n : Int)]).map eI = (List.range wd).map (PyData.list ∘ fun n : Nat => ((tl wd i)[j] ++ [(n : Int)]).map PyData.int) := by
          simp only [Option.toList_some, List.flatMap_cons, List.flatMap_nil, List.append_nil, List.map_map]
          rfl
        rw [e]
        exact dR
      · obtain ⟨y3, y5, y6, us, rfl, s3, eG3, hU, lu⟩ := h
        refine ⟨_, rfl, _, _, _, _, G, us, rfl, s1.trans s3, eG3, ?_⟩
        rw [List.take_of_length_le (by rw [tl_len]; omega)] at hU
        exact hU.sub (fun _ h => nomatch h)
    · obtain ⟨y3, y4, y5, y6, fa, ts, rfl, s1, efa, hT⟩ := h1
      rw [show (m : Int).toNat = m by omega] at hT
      exact ⟨_, rfl, q fa ts H1 s1 efa hT⟩
/-! ### a piece, by all tellings -/
theorem least_ex : ∀ {ns : List Int}, ns ≠ [] → ∃ m ∈ ns, ∀ y ∈ ns, m ≤ y
  | [], h => absurd rfl h
  | [a], _ => ⟨a, by simp, fun y hy => by rw [List.mem_singleton.mp hy]; exact Int.le_refl _⟩
  | a :: b :: ns, _ => by
    obtain ⟨m, h1, h2⟩ := least_ex (ns := b :: ns) (by simp)
    by_cases c : a ≤ m
    · exact ⟨a, by simp, fun y hy => by
        rcases List.mem_cons.mp hy with z | z
        · rw [z]; exact Int.le_refl _
        · exact Int.le_trans c (h2 y z)⟩
    · exact ⟨m, List.mem_cons_of_mem _ h1, fun y hy => by
        rcases List.mem_cons.mp hy with z | z
        · rw [z]; omega
        · exact h2 y z⟩
theorem near_ex {cs : List (List Int)} (c : List Int) (h : 0 < cs.length) : near cs c (nrI cs c) := by
  obtain ⟨m, h1, h2⟩ := least_ex (ns := cs.map fun x => ap x c) (fun z => by
    have := congrArg List.length z
    simp at this
    rw [this] at h
    exact absurd h (by simp))
  obtain ⟨j, e1, e2⟩ := first_at h1
  have n := near_of h2 e1 e2
  rw [nr_of n]
  exact n
def pr (fw : List (List Int)) (ns : List Int) : List (List Int) := ns.map fun x => fw.getD x.toNat []
def ctM (sp fw : List (List Int)) (m : Nat) (ns : List Int) : Int := rowL (sp.take m) (pr fw ns)
noncomputable def nN (sp fw : List (List Int)) (m : Nat) : List Int := (sp.take m).map fun c => (nrI fw c : Int)
theorem ct_step {sp fw : List (List Int)} {m : Nat} (hm : m < sp.length) {x : List Int} (hx : x.length = m) (n : Nat) : ctM sp fw (m + 1) (x ++ [(n : Int)]) = ctM sp fw m x + ap sp[m] (fw.getD n []) := by
  unfold ctM rowL pr
  have z := (List.zipWith_append (by rw [List.length_take, List.length_map]; omega) : List.zipWith ap (sp.take m ++ [sp[m]]) (x.map (fun y => fw.getD y.toNat []) ++ [fw.getD n []]) = List.zipWith ap (sp.take m) (x.map fun y => fw.getD y.toNat []) ++ List.zipWith ap [sp[m]] [fw.getD n []])
  rw [List.take_add_one, List.getElem?_eq_getElem hm, List.map_append]
  show (List.zipWith ap (sp.take m ++ [sp[m]]) (x.map (fun y => fw.getD y.toNat []) ++ [fw.getD n []])).sum = _
  rw [z, List.sum_append]
  simp
theorem tl_first {sp fw : List (List Int)} (h0 : 0 < fw.length) : ∀ m, m ≤ sp.length → ∃ A B, tl fw.length m = A ++ nN sp fw m :: B ∧ (∀ a ∈ A, ctM sp fw m (nN sp fw m) < ctM sp fw m a) ∧ ∀ b ∈ B, ctM sp fw m (nN sp fw m) ≤ ctM sp fw m b
  | 0, _ => ⟨[], [], by unfold nN; simp [tl], (fun _ h => nomatch h), (fun _ h => nomatch h)⟩
  | m + 1, hm => by
    obtain ⟨A, B, e, hA, hB⟩ := tl_first (sp := sp) h0 m (by omega)
    have hm2 : m < sp.length := by omega
    obtain ⟨hn, near⟩ := near_ex sp[m] h0
    have eN : nN sp fw (m + 1) = nN sp fw m ++ [(nrI fw sp[m] : Int)] := by
      unfold nN
      rw [List.take_add_one, List.getElem?_eq_getElem hm2, List.map_append]
      rfl
    have lN : (nN sp fw m).length = m := by unfold nN; rw [List.length_map, List.length_take]; omega
    have memT : ∀ x, x ∈ A ∨ x ∈ B → x.length = m := fun x hx => by
      refine (tl_mem (w := fw.length) (m := m) ?_).1
      rw [e]
      rcases hx with z | z
      · exact List.mem_append_left _ z
      · exact List.mem_append_right _ (List.mem_cons_of_mem _ z)
    have gd : ∀ j (hj : j < fw.length), ap sp[m] (fw.getD j []) = ap fw[j] sp[m] := fun j hj => by
      rw [List.getD_eq_getElem?_getD, List.getElem?_eq_getElem hj, ap_comm]
      rfl
    have dle : ∀ j, j < fw.length → ap sp[m] (fw.getD (nrI fw sp[m]) []) ≤ ap sp[m] (fw.getD j []) := fun j hj => by
      rw [gd _ hn, gd j hj]
      have := near j hj
      omega
    have dlt : ∀ j, j < nrI fw sp[m] → ap sp[m] (fw.getD (nrI fw sp[m]) []) < ap sp[m] (fw.getD j []) := fun j hj => by
      rw [gd _ hn, gd j (by omega)]
      have := near j (by omega)
      omega
    have rsplit : List.range fw.length = List.range (nrI fw sp[m]) ++ nrI fw sp[m] :: (List.range fw.length).drop (nrI fw sp[m] + 1) := by
      have h1 := List.take_append_drop (nrI fw sp[m]) (List.range fw.length)
      rw [List.take_range, Nat.min_eq_left (Nat.le_of_lt hn), List.drop_eq_getElem_cons (by rw [List.length_range]; exact hn), List.getElem_range] at h1
      exact h1.symm
    refine ⟨(A.flatMap fun one => (List.range fw.length).map fun n : Nat => one ++ [(n : Int)]) ++ (List.range (nrI fw sp[m])).map fun n : Nat => nN sp fw m ++ [(n : Int)], ((List.range fw.length).drop (nrI fw sp[m] + 1)).map (fun n : Nat => nN sp fw m ++ [(n : Int)]) ++ B.flatMap fun one => (List.range fw.length).map fun n : Nat => one ++ [(n : Int)], ?_, fun a ha => ?_, fun b hb => ?_⟩
    · rw [tl, e, List.flatMap_append, List.flatMap_cons, eN]
      have : (List.range fw.length).map (fun n : Nat => nN sp fw m ++ [(n : Int)]) = (List.range (nrI fw sp[m])).map (fun n : Nat => nN sp fw m ++ [(n : Int)]) ++ (nN sp fw m ++ [(nrI fw sp[m] : Int)]) :: ((List.range fw.length).drop (nrI fw sp[m] + 1)).map (fun n : Nat => nN sp fw m ++ [(n : Int)]) := by
        have := congrArg (List.map fun n : Nat => nN sp fw m ++ [(n : Int)]) rsplit
        rw [List.map_append, List.map_cons] at this
        exact this
      rw [this]
      simp only [List.append_assoc, List.cons_append]
    · rw [eN, ct_step hm2 lN]
      rcases List.mem_append.mp ha with z | z
      · obtain ⟨x, hx, h2⟩ := List.mem_flatMap.mp z
        obtain ⟨n, hn2, rfl⟩ := List.mem_map.mp h2
        rw [ct_step hm2 (memT x (.inl hx))]
        have := hA x hx
        have := dle n (List.mem_range.mp hn2)
        omega
      · obtain ⟨n, hn2, rfl⟩ := List.mem_map.mp z
        rw [ct_step hm2 lN]
        have := dlt n (List.mem_range.mp hn2)
        omega
    · rw [eN, ct_step hm2 lN]
      rcases List.mem_append.mp hb with z | z
      · obtain ⟨n, hn2, rfl⟩ := List.mem_map.mp z
        rw [ct_step hm2 lN]
        have := dle n (List.mem_range.mp (List.mem_of_mem_drop hn2))
        omega
      · obtain ⟨x, hx, h2⟩ := List.mem_flatMap.mp z
        obtain ⟨n, hn2, rfl⟩ := List.mem_map.mp h2
        rw [ct_step hm2 (memT x (.inr hx))]
        have := hB x hx
        have := dle n (List.mem_range.mp hn2)
        omega
def c5 (wd : Nat) (c : List Int) : Prop := c.length = wd ∧ cIn 0 999 c
def spPiece : Sp := fun vs H Q _ => ∃ (sa fa : Addr) (svs fvs : List V) (sp fw : List (List Int)) (wd : Nat), vs = [.ref sa, .ref fa] ∧ H sa = some (.lst svs) ∧ DtA [] H svs (sp.map eC) ∧ H fa = some (.lst fvs) ∧ DtA [] H fvs (fw.map eC) ∧ wd ≤ 5 ∧ sp.length ≤ 4 ∧ 0 < fw.length ∧ fw.length ≤ 3 ∧ (∀ c ∈ sp, c5 wd c) ∧ (∀ c ∈ fw, c5 wd c) ∧ ∀ H', Same H H' → Q (.bl true) H'
set_option maxHeartbeats 1000000 in
theorem ok_l_piece_right (T : Tx K mg) {k : Nat} : FnOk P w K mg base CX0 (k + 4) T.f_l_piece_right T.d_l_piece_right ["_law_spots", "_law_few"] spPiece := by
  refine T.F_l_piece_right.ok sc_l_piece_right (fun vs H Q E h => ?_) (fun cdv A outer s H vs Q E hr h => ?_)
  · obtain ⟨sa, fa, svs, fvs, sp, fw, wd, rfl, _⟩ := h
    rfl
  · obtain ⟨sa, fa, svs, fvs, sp, fw, wd, rfl, esa, hS, efa, hF, w5, l4, f0, f3, os, of, q⟩ := h
    have lsv := hS.len
    have lfv := hF.len
    rw [List.length_map] at lsv lfv
    obtain ⟨A1, B1, etl, hA, hB⟩ := tl_first (sp := sp) f0 sp.length (Nat.le_refl _)
    generalize hN : nN sp fw sp.length = N at *
    refine ⟨_, (pss_cons (ps_set (i := 2) sc_l_piece_right.nd rfl (.inl rfl) pe_non)
      (pss_cons (ps_for PassesOwn.never rfl (pi_listK K (pe_call (ok_l_all_tellings T (k := k + 2)) hr (by rfl) T.g_l_all_tellings T.F_l_all_tellings.kp T.b_l_all_tellings .nil pass0 (pa_cons (pe_callB (len_K K) (by rfl) T.z_len PySem.boot_len (pa_cons (pv 0) pa_nil)) (pa_cons (pe_callB (len_K K) (by rfl) T.z_len PySem.boot_len (pa_cons (pv 1) pa_nil)) pa_nil)))) (pg_name (i := 3) sc_l_piece_right.nd rfl (.inl rfl)) (pss_cons (ps_set (i := 4) sc_l_piece_right.nd rfl (.inl rfl) (pe_call (ok_lost_in T (k := k + 1)) hr (by rfl) T.g_lost_in T.F_lost_in.kp T.b_lost_in .nil pass0 (pa_cons (pe_lst (pa_cons (pv 0) pa_nil)) (pa_cons (pe_call (ok_painted T (k := k + 2)) hr (by rfl) T.g_painted T.F_painted.kp T.b_painted .nil pass0 (pa_cons (pe_lst (pa_cons (pv 3) pa_nil)) (pa_cons (pv 1) pa_nil))) pa_nil))))
      (pss_one (ps_if (PW.pt (pw_or (pt_cmpR op_isN (pv 2) pe_non (nomark _)) (pw_or1 (pt_cmpR op_lt (pv 4) (pe_ix (ix_tupK K) (pv 2) pe_int (fun _ _ => rfl)) (nomark _))))) (pss_one (ps_set (i := 2) sc_l_piece_right.nd rfl (.inl rfl) (pe_tup (pa_cons (pv 4) (pa_cons (pv 3) pa_nil))))) pss_nil))))
      (pss_one (ps_ret (pe_cmpR (op_eqDK K hr.units) (pe_call (ok_numbers_by T (k := k)) hr (by rfl) T.g_numbers_by T.F_numbers_by.kp T.b_numbers_by .nil pass0 (pa_cons (pe_lst (pa_cons (pv 0) pa_nil)) (pa_cons (pv 1) pa_nil))) (pe_lst (pa_cons (pe_ix (ix_tupK K) (pv 2) pe_int (fun _ _ => rfl)) pa_nil)) (nomark _)))))), ?_⟩
    refine ⟨_, rfl, sa, _, rfl, .inl (SqL.of esa), _, rfl, fa, _, rfl, .inl (SqL.of efa), sp.length, fw.length, (by rw [lsv, lfv]; rfl), l4, f3, fun D ts H1 s1 eD hT => ?_⟩
    have lt := hT.len
    rw [List.length_map] at lt
    refine ⟨D, rfl, ⟨_, SqL.of eD⟩, for_list (xs := ts) (fun i σ H' => Same H1 H' ∧ ∃ y3 y4 dv, σ = [some (.ref sa), some (.ref fa), some dv, y3, y4] ∧ ((i = 0 ∧ dv = .non) ∨ (0 < i ∧ ∃ ta c xv ns, dv = .ref ta ∧ H' ta = some (.tup [.int c, xv]) ∧ Dt [] H' xv (eI ns) ∧ (i ≤ A1.length → ctM sp fw sp.length N < c) ∧ (A1.length < i → c = ctM sp fw sp.length N ∧ ns = N))))
      ⟨Same.refl _, _, _, _, rfl, .inl ⟨rfl, rfl⟩⟩ (fun i σ H' _ h => SqL.of (h.1 _ _ eD)) (fun i x σ H2 hx h => ?_) (fun σ H2 h => ?_)⟩
    · obtain ⟨s2, y3, y4, dv, rfl, hd⟩ := h
      have t2 := s1.trans s2
      obtain ⟨d, fd, dx⟩ := (hT.s s2).getV hx
      have hi : i < ts.length := (List.getElem?_eq_some_iff.mp hx).1
      have hi2 : i < (tl fw.length sp.length).length := by omega
      rw [List.getElem?_map, List.getElem?_eq_getElem hi2] at fd
      have ed : d = eI (tl fw.length sp.length)[i] := (Option.some.inj fd).symm
      subst ed
      obtain ⟨ln, cn⟩ := tl_mem (List.getElem_mem hi2)
      have place : (i < A1.length → ctM sp fw sp.length N < ctM sp fw sp.length (tl fw.length sp.length)[i]) ∧ (i = A1.length → (tl fw.length sp.length)[i] = N) ∧ (A1.length < i → ctM sp fw sp.length N ≤ ctM sp fw sp.length (tl fw.length sp.length)[i]) := by
        have eg : (tl fw.length sp.length)[i]? = (A1 ++ N :: B1)[i]? := by rw [etl]
        rw [List.getElem?_eq_getElem hi2] at eg
        refine ⟨fun h => ?_, fun h => ?_, fun h => ?_⟩
        · rw [List.getElem?_append_left h, List.getElem?_eq_getElem h] at eg
          rw [Option.some.inj eg]
          exact hA _ (List.getElem_mem h)
        · have e0 : i - A1.length = 0 := by omega
          rw [List.getElem?_append_right (by omega), e0] at eg
          exact Option.some.inj eg
        · rw [List.getElem?_append_right (by omega)] at eg
          obtain ⟨z, ez⟩ : ∃ z, i - A1.length = z + 1 := ⟨i - A1.length - 1, by omega⟩
          rw [ez, List.getElem?_cons_succ] at eg
          exact hB _ (List.mem_of_getElem? eg.symm)
      generalize (tl fw.length sp.length)[i] = ns at *
      refine ⟨_, rfl, (by show 1 ≤ sizeLine; decide), fun p1 hp1 => ?_⟩
      have u1 := sm_new (o := .lst [.ref sa]) hp1
      have ep1 : (upd H2 p1 (.lst [.ref sa])) p1 = some (.lst [.ref sa]) := upd_same
      generalize upd H2 p1 (.lst [.ref sa]) = H3 at *
      refine ⟨_, rfl, (by show 1 ≤ sizeLine; decide), fun p2 hp2 => ?_⟩
      have u2 := sm_new (o := .lst [x]) hp2
      have ep2 : (upd H3 p2 (.lst [x])) p2 = some (.lst [x]) := upd_same
      generalize upd H3 p2 (.lst [x]) = H4 at *
      have t4 := (t2.trans u1).trans u2
      have v4 := u1.trans u2
      refine ⟨_, rfl, [], p2, fa, [x], fvs, [ns], fw, rfl, ep2, .one (dx.s v4), t4 _ _ efa, hF.s t4, by simp, fun r hr' => ?_, fun D5 rs5 H5 s5 hD5 eD5 R5 => ?_⟩
      · rw [List.mem_singleton.mp hr']
        refine ⟨by omega, fun y hy => ?_⟩
        have := cn y hy
        omega
      have t5 := t4.trans s5
      have hR5 : DtA [] H5 (rs5.map V.ref) ([pr fw ns].map eP) := by
        have := R5.dt (fun _ h => nomatch h) (Go.of s5)
        have e : (pnt fw [ns]).map PyData.list = [pr fw ns].map eP := by
          unfold pnt pr eP
          simp [Function.comp_def]
        rw [e] at this
        exact this
      have okc : ∀ c, c5 wd c → c.length = wd ∧ cIn (-100000000) 100000000 c := fun c hc => ⟨hc.1, hc.2.mono (by decide) (by decide)⟩
      have g1 : gOk wd [sp] := ⟨by omega, by simp, fun p hp => by
        rw [List.mem_singleton.mp hp]
        exact ⟨by omega, fun c hc => okc c (os c hc)⟩⟩
      have g2 : gOk wd [pr fw ns] := ⟨by omega, by simp, fun p hp => by
        rw [List.mem_singleton.mp hp]
        unfold pr
        refine ⟨by rw [List.length_map]; omega, fun c hc => ?_⟩
        obtain ⟨y, hy, rfl⟩ := List.mem_map.mp hc
        have := cn y hy
        rw [List.getD_eq_getElem?_getD, List.getElem?_eq_getElem (show y.toNat < fw.length by omega)]
        exact okc _ (of _ (List.getElem_mem _))⟩
      refine ⟨p1, D5, _, _, [sp], [pr fw ns], wd, rfl, s5 _ _ (u2 _ _ ep1), .one (.lst (fun h => nomatch h) (t5 _ _ esa) (hS.s t5)), eD5, hR5, g1, g2, rfl, fun j h1 h2 => ?_, fun H6 s6 => ?_⟩
      · have : j = 0 := by simp at h1; omega
        subst this
        show sp.length = (pr fw ns).length
        unfold pr
        rw [List.length_map]
        exact ln.symm
      have ec : lostL [sp] [pr fw ns] = ctM sp fw sp.length ns := by
        unfold lostL ctM
        rw [List.take_length]
        simp
      rw [ec]
      have t6 := t5.trans s6
      have w6 : Same H2 H6 := (v4.trans s5).trans s6
      have w16 := s2.trans w6
      have dx6 := dx.s w6
      -- set it
      have setIt : ∀ {N' : L2.St → Hp → Prop}, (∀ ta H7, Same H6 H7 → H7 ta = some (.tup [.int (ctM sp fw sp.length ns), x]) → N' [some (.ref sa), some (.ref fa), some (.ref ta), some x, some (.int (ctM sp fw sp.length ns))] H7) → True := fun _ => trivial
      rcases hd with ⟨rfl, rfl⟩ | ⟨i0, ta, c, xv, ns0, rfl, eta, dxv, b1, b2⟩
      · refine ⟨_, rfl, rfl, true, rfl, iteT ?_⟩
        refine ⟨_, rfl, _, rfl, (by show 2 ≤ sizeLine; decide), fun tn htn => ?_⟩
        refine ⟨w16.trans (sm_new htn), _, _, _, rfl, .inr ⟨by omega, tn, _, x, ns, rfl, upd_same, dx6.s (sm_new htn), fun h => place.1 (by omega), fun h => ?_⟩⟩
        have := place.2.1 (by omega)
        exact ⟨by rw [this], this⟩
      · refine ⟨_, rfl, rfl, false, rfl, iteF ?_⟩
        refine ⟨_, rfl, _, rfl, ta, _, 0, .int c, rfl, rfl, SqT.of (w6 _ _ eta), rfl, _, _, rfl, rfl, _, rfl, ite2 (fun e => ?_) (fun e => ?_)⟩
        · have lt2 : ctM sp fw sp.length ns < c := of_decide_eq_true e
          refine ⟨_, rfl, _, rfl, (by show 2 ≤ sizeLine; decide), fun tn htn => ?_⟩
          refine ⟨w16.trans (sm_new htn), _, _, _, rfl, .inr ⟨by omega, tn, _, x, ns, rfl, upd_same, dx6.s (sm_new htn), fun h => place.1 (by omega), fun h => ?_⟩⟩
          by_cases z : i = A1.length
          · have := place.2.1 z
            exact ⟨by rw [this], this⟩
          · have h1 := place.2.2 (by omega)
            have h2 := (b2 (by omega)).1
            omega
        · have ge2 : ¬ ctM sp fw sp.length ns < c := fun z => e (decide_eq_true z)
          refine ⟨w16, _, _, _, rfl, .inr ⟨by omega, ta, c, xv, ns0, rfl, w6 _ _ eta, dxv.s w6, fun h => b1 (by omega), fun h => ?_⟩⟩
          by_cases z : i = A1.length
          · have h1 := place.2.1 z
            have h2 := b1 (by omega)
            rw [h1] at ge2
            omega
          · exact b2 (by omega)
    · obtain ⟨s2, y3, y4, dv, rfl, hd⟩ := h
      have t2 := s1.trans s2
      have lA : A1.length < ts.length := by
        have := congrArg List.length etl
        rw [List.length_append, List.length_cons] at this
        omega
      rcases hd with ⟨h0, _⟩ | ⟨i0, ta, c, xv, ns0, rfl, eta, dxv, b1, b2⟩
      · omega
      obtain ⟨_, rfl⟩ := b2 lA
      refine ⟨_, rfl, (by show 1 ≤ sizeLine; decide), fun p1 hp1 => ?_⟩
      have u1 := sm_new (o := .lst [.ref sa]) hp1
      have ep1 : (upd H2 p1 (.lst [.ref sa])) p1 = some (.lst [.ref sa]) := upd_same
      generalize upd H2 p1 (.lst [.ref sa]) = H3 at *
      have t3 := t2.trans u1
      refine ⟨_, rfl, p1, fa, _, fvs, [sp], fw, rfl, ep1, .one (.lst (fun h => nomatch h) (t3 _ _ esa) (hS.s t3)), t3 _ _ efa, hF.s t3, f0, by simp, fun p hp => ?_, fun D5 rs5 H5 s5 hD5 eD5 R5 => ?_⟩
      · rw [List.mem_singleton.mp hp]
        refine ⟨by omega, fun c hc => ?_⟩
        have o := os c hc
        refine ⟨by omega, by have := o.1; omega, o.2.mono (by decide) (by decide), fun y hy => ?_⟩
        have := of y hy
        exact ⟨by rw [this.1, o.1], this.2.mono (by decide) (by decide)⟩
      have hR5 := R5.dt (fun _ h => nomatch h) (Go.of s5)
      have v5 := u1.trans s5
      refine ⟨_, rfl, ta, _, 1, xv, rfl, rfl, SqT.of (v5 _ _ eta), rfl, (by show 1 ≤ sizeLine; decide), fun p6 hp6 => ?_⟩
      have u6 := sm_new (o := .lst [xv]) hp6
      have e5 : (nums fw [sp]).map PyData.list = [eI ns0] := by
        rw [← hN]
        unfold nums nN eI
        rw [List.take_length]
        simp [Function.comp_def]
      rw [e5] at hR5
      have sh : Sh (.list [eI ns0]) 2 := sh_lst (by simp) fun d hd => by
        rw [List.mem_singleton.mp hd]
        refine sh_eI ?_
        rw [← hN]
        unfold nN
        rw [List.length_map, List.length_take]
        omega
      refine ⟨_, _, ((Dt.lst (B := []) (fun h => nomatch h) eD5 hR5).s u6).dP, (Dt.lst (B := []) (fun h => nomatch h) upd_same (.one ((dxv.s v5).s u6))).dP, sh.sh (by omega), sh.sh (by omega), ?_⟩
      rw [eqv_sh sh]
      exact q _ ((t3.trans s5).trans u6)
/-! ### the law's own nearest -/
def prF (cs : List (List Int)) (c : List Int) (i : Nat) : Option (Int × Int) := (cs[i]?).map fun x => (ap x c, (i : Int))
def prs (cs : List (List Int)) (c : List Int) : List (Int × Int) := (List.range cs.length).filterMap (prF cs c)
theorem prs_map (cs : List (List Int)) (c : List Int) : (List.range cs.length).filterMap (fun i => (prF cs c i).map enc) = (prs cs c).map enc := by
  unfold prs
  rw [List.map_filterMap]
theorem prs_at (cs : List (List Int)) (c : List Int) : prs cs c = cs.zipIdx.map fun x => (ap x.1 c, (x.2 : Int)) := by
  have e : prF cs c = fun i => (cs.zipIdx.map fun x => (ap x.1 c, (x.2 : Int)))[i]? := by
    funext i
    unfold prF
    rw [List.getElem?_map, List.getElem?_zipIdx]
    cases cs[i]? <;> simp
  unfold prs
  rw [e, fm_all (by simp)]
theorem near_min {cs : List (List Int)} {c : List Int} {p : Int × Int} {ps : List (Int × Int)} {i : Nat} (e : prs cs c = p :: ps) (h : (p :: ps)[i]? = some (minP p ps)) : near cs c i ∧ (minP p ps).2 = i := by
  have le := minP_le p ps
  rw [← e, prs_at] at le h
  have hi : i < cs.length := by
    have := (List.getElem?_eq_some_iff.mp h).1
    simpa using this
  rw [List.getElem?_map, List.getElem?_zipIdx, List.getElem?_eq_getElem hi] at h
  have em : (ap cs[i] c, (i : Int)) = minP p ps := by
    have := Option.some.inj h
    simpa using this
  rw [← em] at le
  refine ⟨⟨hi, fun j hj => ?_⟩, by rw [← em]⟩
  have := SrtO.lexB_no.mp (le (ap cs[j] c, (j : Int)) (List.mem_map.mpr ⟨(cs[j], j), by
    rw [List.mem_iff_getElem?]
    exact ⟨j, by rw [List.getElem?_zipIdx, List.getElem?_eq_getElem hj]; simp⟩, rfl⟩))
  simp only at this
  omega
/-! ### no other one -/
def spNoOther : Sp := fun vs H Q _ => ∃ (pa ca na : Addr) (pvs cvs nvs : List V) (ps : List (List (List Int))) (cs : List (List Int)), vs = [.ref pa, .ref ca, .ref na] ∧ H pa = some (.lst pvs) ∧ DtA [] H pvs (ps.map eP) ∧ H ca = some (.lst cvs) ∧ DtA [] H cvs (cs.map eC) ∧ H na = some (.lst nvs) ∧ DtA [] H nvs ((nums cs ps).map PyData.list) ∧ 0 < cs.length ∧ ps.length ≤ 100 ∧ (∀ p ∈ ps, p.length ≤ 100 ∧ ∀ c ∈ p, pOk cs c) ∧ ∀ H', Same H H' → Q (.bl true) H'
theorem min_pair {cs : List (List Int)} {c : List Int} {p : Int × Int} {ps : List (Int × Int)} {i : Nat} (e : prs cs c = p :: ps) (h : (p :: ps)[i]? = some (minP p ps)) (hi : i < cs.length) : minP p ps = (ap cs[i] c, (i : Int)) := by
  rw [← e, prs_at, List.getElem?_map, List.getElem?_zipIdx, List.getElem?_eq_getElem hi] at h
  have := Option.some.inj h
  simp at this
  exact this.symm
set_option maxHeartbeats 1000000 in
theorem ok_l_no_other (T : Tx K mg) {k : Nat} : FnOk P w K mg base CX0 (k + 2) T.f_l_no_other T.d_l_no_other ["_law_picture_here", "_law_palette_here", "_law_numbers"] spNoOther := by
  refine T.F_l_no_other.ok sc_l_no_other (fun vs H Q E h => ?_) (fun cdv A outer s H vs Q E hr h => ?_)
  · obtain ⟨pa, ca, na, pvs, cvs, nvs, ps, cs, rfl, _⟩ := h
    rfl
  · obtain ⟨pa, ca, na, pvs, cvs, nvs, ps, cs, rfl, epa, hP, eca, hC, ena, hN, c0, lp, ok, q⟩ := h
    have lpv := hP.len
    have lcv := hC.len
    have lnv := hN.len
    rw [List.length_map] at lpv lcv lnv
    have lnu : (nums cs ps).length = ps.length := by unfold nums; rw [List.length_map]
    refine ⟨_, (pss_cons (ps_for PassesOwn.never rfl (RZ.pi_zipA (by rfl) T.z_zip (pa_cons (pv 0) (pa_cons (pv 2) pa_nil))) (pg_tupK K (n := 2) rfl (pgs_cons (pg_name (i := 3) sc_l_no_other.nd rfl (.inl rfl)) (pgs_cons (pg_name (i := 4) sc_l_no_other.nd rfl (.inl rfl)) pgs_nil))) (pss_one (ps_for PassesOwn.never rfl (RZ.pi_zipA (by rfl) T.z_zip (pa_cons (pv 3) (pa_cons (pv 4) pa_nil))) (pg_tupK K (n := 2) rfl (pgs_cons (pg_name (i := 5) sc_l_no_other.nd rfl (.inr rfl)) (pgs_cons (pg_name (i := 6) sc_l_no_other.nd rfl (.inl rfl)) pgs_nil))) (pss_cons (ps_set (i := 7) sc_l_no_other.nd rfl (.inl rfl) (pe_tup (pa_cons (pe_call (ok_l_apart T (k := k)) hr (by rfl) T.g_l_apart T.F_l_apart.kp T.b_l_apart .nil pass0 (pa_cons (pv 5) (pa_cons (pe_ix (ix_listK K) (pv 1) (pv 6) (fun _ _ => rfl)) pa_nil))) (pa_cons (pv 6) pa_nil))))
      (pss_one (ps_if (pt_cmpR (op_neDK K hr.units) (pe_callB (cr_minP K rfl hr.units) (by rfl) T.z_min (by decide +kernel) (pa_cons (pe_lc (own := [("_law_k", 8), ("_law_one", 9)]) (by rfl) sc_l_no_other.nd (pi_enum (by rfl) T.z_enumerate (pa_cons (pv 1) pa_nil)) (blkOk_by (own := [("_law_k", 8), ("_law_one", 9)]) (N := N_l_no_other) (sc := defScope s_l_no_other) (by decide +kernel)) (fun _ _ _ _ _ => (pg_tupK K (n := 2) rfl (pgs_cons (pg_name (i := 8) sc_l_no_other.nd rfl (.inl rfl)) (pgs_cons (pg_name (i := 9) sc_l_no_other.nd rfl (.inl rfl)) pgs_nil)))) (fun _ _ _ _ _ => pts_nil) (fun _ _ _ _ _ => (pe_tup (pa_cons (pe_call (ok_l_apart T (k := k)) hr (by rfl) T.g_l_apart T.F_l_apart.kp T.b_l_apart .nil pass0 (pa_cons (pv 5) (pa_cons (pv 9) pa_nil))) (pa_cons (pv 8) pa_nil))))) pa_nil)) (pv 7) (nomark _)) (pss_one (ps_ret pe_bl)) pss_nil))))))
      (pss_one (ps_ret pe_bl))), ?_⟩
    refine ⟨_, rfl, _, rfl, pa, na, _, _, rfl, .inl ⟨SqL.of epa, SqL.of ena, ?_⟩⟩
    refine for_it (walk_zip (n := ps.length) (xs := pvs) (ys := nvs) (by omega)) (fun i σ H' => ∃ y3 y4 y5 y6 y7 y8 y9, σ = [some (.ref pa), some (.ref ca), some (.ref na), y3, y4, y5, y6, y7, y8, y9] ∧ Same H H')
      ⟨_, _, _, _, _, _, _, rfl, Same.refl _⟩ (fun i σ H' _ h => ?_) (fun i x σ H1 H2 hi h y => ?_) (fun σ H1 h => ?_)
    · obtain ⟨y3, y4, y5, y6, y7, y8, y9, rfl, s1⟩ := h
      exact ⟨SqL.of (s1 _ _ epa), SqL.of (s1 _ _ ena)⟩
    · obtain ⟨y3, y4, y5, y6, y7, y8, y9, rfl, s1⟩ := h
      obtain ⟨t, x, y, rfl, ht, rfl, e1, e2⟩ := y
      obtain ⟨hi1, ra, us, rfl, _, era, hU⟩ := palAt' hP e1
      obtain ⟨d, fd, dy⟩ := hN.getV e2
      rw [List.getElem?_map, List.getElem?_eq_getElem (show i < (nums cs ps).length by omega)] at fd
      have en : (nums cs ps)[i]'(by omega) = ps[i].map fun c => PyData.int (nrI cs c) := by
        unfold nums
        rw [List.getElem_map]
      have ed : d = .list (ps[i].map fun c => PyData.int (nrI cs c)) := by
        have := (Option.some.inj fd).symm
        rw [en] at this
        exact this
      subst ed
      obtain ⟨ta, ns, rfl, _, eta, hT⟩ := dy.lst2
      have ok1 := ok _ (List.getElem_mem hi1)
      have lu := hU.len
      have lns := hT.len
      rw [List.length_map] at lu lns
      have s2 := s1.trans (sm_new (o := .tup [.ref ra, .ref ta]) ht)
      refine ⟨t, _, rfl, SqT.of upd_same, rfl, _, _, rfl, _, _, rfl, rfl, ?_⟩
      generalize upd H1 t (.tup [.ref ra, .ref ta]) = H2 at *
      refine ⟨_, rfl, _, rfl, ra, ta, _, _, rfl, .inl ⟨SqL.of (s2 _ _ era), SqL.of (s2 _ _ eta), ?_⟩⟩
      refine for_it (walk_zip (n := ps[i].length) (xs := us) (ys := ns) (by omega)) (fun j σ H' => ∃ y5 y6 y7 y8 y9, σ = [some (.ref pa), some (.ref ca), some (.ref na), some (.ref ra), some (.ref ta), y5, y6, y7, y8, y9] ∧ Same H H')
        ⟨_, _, _, _, _, rfl, s2⟩ (fun j σ H' _ h => ?_) (fun j x σ H3 H4 hj h y => ?_) (fun σ H3 h => ?_)
      · obtain ⟨y5, y6, y7, y8, y9, rfl, s3⟩ := h
        exact ⟨SqL.of (s3 _ _ era), SqL.of (s3 _ _ eta)⟩
      · obtain ⟨y5, y6, y7, y8, y9, rfl, s3⟩ := h
        obtain ⟨t3, x, y, rfl, ht3, rfl, f1, f2⟩ := y
        obtain ⟨hj1, dx⟩ := colAt' hU f1
        obtain ⟨d, gd, dn⟩ := hT.getV f2
        rw [List.getElem?_map, List.getElem?_eq_getElem hj1] at gd
        have ed : d = .int (nrI cs ps[i][j]) := (Option.some.inj gd).symm
        subst ed
        have ey : y = .int (nrI cs ps[i][j]) := by cases dn; rfl
        subst ey
        have s4 := s3.trans (sm_new (o := .tup [x, .int (nrI cs ps[i][j])]) ht3)
        refine ⟨t3, _, rfl, SqT.of upd_same, rfl, _, _, rfl, _, _, rfl, rfl, ?_⟩
        generalize upd H3 t3 (.tup [x, .int (nrI cs ps[i][j])]) = H4 at *
        have po := ok1.2 _ (List.getElem_mem hj1)
        obtain ⟨o1, o2, o3, o4⟩ := id po
        have nx := near_ex ps[i][j] c0
        obtain ⟨hn, _⟩ := id nx
        generalize hc : ps[i][j] = c at *
        obtain ⟨v, fv, dv⟩ := hC.get (i := nrI cs c) (d := eC cs[nrI cs c]) (by rw [List.getElem?_map, List.getElem?_eq_getElem hn]; rfl)
        have on := o4 _ (List.getElem_mem hn)
        refine ⟨_, rfl, _, rfl, _, rfl, ca, _, _, v, rfl, rfl, SqL.of (s4 _ _ eca), atI_nat fv, [], x, v, c, cs[nrI cs c], rfl, dx.s s4, dv.s s4, on.1.symm, by rw [on.1]; exact o2, o3, on.2, fun H5 s5 => ?_⟩
        refine ⟨_, rfl, (by show 2 ≤ sizeLine; decide), fun hh hhh => ?_⟩
        have s6 := (s4.trans s5).trans (sm_new (o := .tup [.int (ap c cs[nrI cs c]), .int (nrI cs c)]) hhh)
        have eh : (upd H5 hh (.tup [.int (ap c cs[nrI cs c]), .int (nrI cs c)])) hh = some (.tup [.int (ap c cs[nrI cs c]), .int (nrI cs c)]) := upd_same
        generalize upd H5 hh (.tup [.int (ap c cs[nrI cs c]), .int (nrI cs c)]) = H6 at *
        refine ⟨_, rfl, ca, _, rfl, SqL.of (s6 _ _ eca), fun D hD => ?_⟩
        refine lc_pure (B := []) (walk_enum (xs := cvs)) hD (fun _ h => nomatch h) (fun H' s' => SqL.of (s' _ _ (s6 _ _ eca))) (by omega)
          (fun i => (prF cs c i).map enc) (fun m x2 H7 H8 Ny Nn hm s7 bk y ky kn => ?_) (fun H7 ws s7 eD hW => ?_)
        · obtain ⟨t7, x7, y7', rfl, ht7, rfl, g1, g2⟩ := y
          obtain ⟨hm2, dm⟩ := colAt' hC g2
          have ex : V.int m = x7 := Option.some.inj g1
          subst ex
          have oc := o4 _ (List.getElem_mem hm2)
          have t8 := (s6.trans s7).trans (sm_new (o := .tup [.int m, y7']) ht7)
          refine ⟨t7, _, rfl, SqT.of upd_same, rfl, _, _, rfl, y7', _, rfl, rfl, rfl, lc_yes ?_⟩
          refine ⟨_, rfl, _, rfl, [], x, y7', c, cs[m], rfl, dx.s t8, dm.s t8, oc.1.symm, by rw [oc.1]; exact o2, o3, oc.2, fun H9 s9 => ?_⟩
          refine ⟨_, rfl, (by show 2 ≤ sizeLine; decide), fun t2 ht2 => ?_⟩
          have u9 := (sm_new ht7).trans s9
          refine ky _ _ (enc (ap cs[m] c, (m : Int))) ?_ (u9.trans (sm_new ht2)) ?_
          · unfold prF
            rw [List.getElem?_eq_getElem hm2]
            rfl
          · rw [ap_comm cs[m] c]
            exact Dt.ofCol ((bk.go (Go.of (B := []) u9)).ne ht2) upd_same
        · rw [lcv, prs_map] at hW
          have hl : (prs cs c).length = cs.length := by rw [prs_at]; simp
          obtain ⟨p, qs, e⟩ : ∃ p qs, prs cs c = p :: qs := by
            cases h : prs cs c with
            | nil => rw [h] at hl; simp at hl; omega
            | cons p qs => exact ⟨p, qs, rfl⟩
          rw [e] at hW
          refine ⟨D, ws, p, qs, rfl, SqL.of eD, hW.dP, fun m x2 hx hm => ?_⟩
          obtain ⟨hnm, h2⟩ := near_min e hm
          have hm1 : m < cs.length := hnm.1
          have em := near_one hnm nx
          have mp := min_pair e hm hm1
          obtain ⟨d, fd', gd'⟩ := hW.getV hx
          rw [List.getElem?_map, hm] at fd'
          have ed : d = enc (minP p qs) := (Option.some.inj fd').symm
          subst ed
          rw [mp] at gd'
          subst em
          rw [ap_comm cs[nrI cs c] c] at gd'
          have dh : Dt [] H7 (.ref hh) (enc (ap c cs[nrI cs c], (nrI cs c : Int))) := Dt.ofCol (fun h => nomatch h) (s7 _ _ eh)
          have sh : Sh (enc (ap c cs[nrI cs c], (nrI cs c : Int))) 1 := sh_eC (by simp)
          refine ⟨_, rfl, _, _, gd'.dP, dh.dP, sh.sh (by omega), sh.sh (by omega), _, rfl, iteN (by rw [eqv_sh sh]; rfl) ?_⟩
          exact ⟨_, _, _, _, _, rfl, s6.trans s7⟩
      · obtain ⟨y5, y6, y7, y8, y9, rfl, s3⟩ := h
        exact ⟨_, _, _, _, _, _, _, rfl, s3⟩
    · obtain ⟨y3, y4, y5, y6, y7, y8, y9, rfl, s1⟩ := h
      exact q _ s1
/-! ### by counts, and by the most used ones -/
noncomputable def phi (cs : List (List Int)) (c : List Int) : Int := ap c (cs.getD (nrI cs c) [])
theorem c5_ok {wd : Nat} {c : List Int} (h : c5 wd c) : c.length = wd ∧ cIn (-100000000) 100000000 c := ⟨h.1, h.2.mono (by decide) (by decide)⟩
theorem c5_pok {wd : Nat} {cs : List (List Int)} {c : List Int} (hw : wd ≤ 5) (h1 : c5 wd c) (h2 : ∀ x ∈ cs, c5 wd x) (l : cs.length ≤ 1000) : pOk cs c := ⟨l, by have := h1.1; omega, (c5_ok h1).2, fun x hx => ⟨by rw [(h2 x hx).1, h1.1], (c5_ok (h2 x hx)).2⟩⟩
theorem nr_lt {cs : List (List Int)} (c : List Int) (h : 0 < cs.length) : nrI cs c < cs.length := (near_ex c h).1
theorem nums_eI (cs : List (List Int)) (ps : List (List (List Int))) : (nums cs ps).map PyData.list = (ps.map fun p => p.map fun c => (nrI cs c : Int)).map eI := by
  unfold nums eI
  rw [List.map_map, List.map_map]
  refine List.map_congr_left fun p _ => ?_
  simp [Function.comp_def]
theorem pnt_eP (cs : List (List Int)) (ps : List (List (List Int))) : (pnt cs (ps.map fun p => p.map fun c => (nrI cs c : Int))).map PyData.list = (ps.map fun p => p.map fun c => cs.getD (nrI cs c) []).map eP := by
  unfold pnt eP
  rw [List.map_map, List.map_map, List.map_map]
  refine List.map_congr_left fun p _ => ?_
  simp [Function.comp_def]
noncomputable def toldP (cs : List (List Int)) (ps : List (List (List Int))) : List (List (List Int)) := ps.map fun p => p.map fun c => cs.getD (nrI cs c) []
theorem gd_mem {cs : List (List Int)} (c : List Int) (h : 0 < cs.length) : cs.getD (nrI cs c) [] ∈ cs := by
  have := nr_lt c h
  rw [List.getD_eq_getElem?_getD, List.getElem?_eq_getElem this]
  exact List.getElem_mem _
theorem near_self {wd : Nat} {cs : List (List Int)} {c : List Int} (hc : c ∈ cs) (h2 : ∀ x ∈ cs, c5 wd x) : cs.getD (nrI cs c) [] = c := by
  obtain ⟨j, hj, ej⟩ := List.getElem_of_mem hc
  have h0 : 0 < cs.length := by omega
  obtain ⟨hn, hle⟩ := near_ex c h0
  have := hle j hj
  have z : ap cs[j] c = 0 := (ap_zero (by rw [ej])).mpr ej
  have nn := ap_nn cs[nrI cs c] c
  have e0 : ap cs[nrI cs c] c = 0 := by omega
  rw [List.getD_eq_getElem?_getD, List.getElem?_eq_getElem hn]
  show cs[nrI cs c] = c
  exact (ap_zero (by rw [(h2 _ (List.getElem_mem hn)).1, (h2 _ hc).1])).mp e0
theorem any_in (us : List (List Int)) (c : List Int) : ((us.map eC).any fun z => PyData.eqv z (eC c)) = decide (c ∈ us) := by
  rw [List.any_map]
  by_cases h : c ∈ us
  · rw [decide_eq_true h]
    refine List.any_eq_true.mpr ⟨c, h, ?_⟩
    show PyData.eqv (eC c) (eC c) = true
    rw [eqv_eC, decide_eq_true rfl]
  · rw [decide_eq_false h, List.any_eq_false]
    intro x hx
    show ¬ PyData.eqv (eC x) (eC c) = true
    rw [eqv_eC]
    exact fun z => h (by rw [← of_decide_eq_true z]; exact hx)
def spCountsR : Sp := fun vs H Q _ => ∃ (pa ca : Addr) (pvs cvs : List V) (ps : List (List (List Int))) (cs : List (List Int)) (wd : Nat) (z : Int), vs = [.ref pa, .ref ca, .int z] ∧ H pa = some (.lst pvs) ∧ DtA [] H pvs (ps.map eP) ∧ H ca = some (.lst cvs) ∧ DtA [] H cvs (cs.map eC) ∧ wd ≤ 5 ∧ 0 < cs.length ∧ cs.length ≤ 40 ∧ ps.length ≤ 16 ∧ (∀ p ∈ ps, p.length ≤ 16 ∧ ∀ c ∈ p, c5 wd c) ∧ (∃ p ∈ ps, 0 < p.length) ∧ (∀ c ∈ cs, c5 wd c) ∧ z = (ps.map fun p => (p.map (phi cs)).sum).sum ∧ ∀ H', Same H H' → Q (.bl true) H'
set_option maxHeartbeats 2000000 in
theorem ok_l_counts_right (T : Tx K mg) {k : Nat} : FnOk P w K mg base CX0 (k + 4) T.f_l_counts_right T.d_l_counts_right ["_law_picture_here", "_law_palette_here", "_law_lost"] spCountsR := by
  refine T.F_l_counts_right.ok sc_l_counts_right (fun vs H Q E h => ?_) (fun cdv A outer s H vs Q E hr h => ?_)
  · obtain ⟨pa, ca, pvs, cvs, ps, cs, wd, z, rfl, _⟩ := h
    rfl
  · obtain ⟨pa, ca, pvs, cvs, ps, cs, wd, z, rfl, epa, hP, eca, hC, w5, c0, c40, lp, okp, ne, okc, hz, q⟩ := h
    refine ⟨_, (pss_cons (ps_set (i := 3) sc_l_counts_right.nd rfl (.inl rfl) pe_int)
      (pss_cons (ps_for PassesOwn.never rfl (pi_listK K (pe_call (ok_counts_in T (k := k + 2)) hr (by rfl) T.g_counts_in T.F_counts_in.kp T.b_counts_in .nil pass0 (pa_cons (pv 0) pa_nil))) (pg_tupK K (n := 2) rfl (pgs_cons (pg_name (i := 4) sc_l_counts_right.nd rfl (.inl rfl)) (pgs_cons (pg_name (i := 5) sc_l_counts_right.nd rfl (.inl rfl)) pgs_nil))) (pss_one (ps_set (i := 3) sc_l_counts_right.nd rfl (.inl rfl) (pe_op op_add (pv 3) (pe_op op_mul (pv 5) (pe_call (ok_lost_in T (k := k + 1)) hr (by rfl) T.g_lost_in T.F_lost_in.kp T.b_lost_in .nil pass0 (pa_cons (pe_lst (pa_cons (pe_lst (pa_cons (pv 4) pa_nil)) pa_nil)) (pa_cons (pe_call (ok_painted T (k := k + 2)) hr (by rfl) T.g_painted T.F_painted.kp T.b_painted .nil pass0 (pa_cons (pe_call (ok_numbers_by T (k := k)) hr (by rfl) T.g_numbers_by T.F_numbers_by.kp T.b_numbers_by .nil pass0 (pa_cons (pe_lst (pa_cons (pe_lst (pa_cons (pv 4) pa_nil)) pa_nil)) (pa_cons (pv 1) pa_nil))) (pa_cons (pv 1) pa_nil))) pa_nil))))))))
      (pss_cons (ps_set (i := 6) sc_l_counts_right.nd rfl (.inr rfl) (pe_call (ok_most_used T (k := k + 1)) hr (by rfl) T.g_most_used T.F_most_used.kp T.b_most_used .nil pass0 (pa_cons (pv 0) (pa_cons pe_int pa_nil))))
      (pss_cons (ps_set (i := 7) sc_l_counts_right.nd rfl (.inl rfl) (pe_call (ok_painted T (k := k + 2)) hr (by rfl) T.g_painted T.F_painted.kp T.b_painted .nil pass0 (pa_cons (pe_call (ok_numbers_by T (k := k)) hr (by rfl) T.g_numbers_by T.F_numbers_by.kp T.b_numbers_by .nil pass0 (pa_cons (pv 0) (pa_cons (pv 6) pa_nil))) (pa_cons (pv 6) pa_nil))))
      (pss_cons (ps_setLc (i := 8) (own := [("_law_row", 9), ("_law_beside", 10)]) (by rfl) sc_l_counts_right.nd rfl rfl (sw_true rfl rfl rfl (by decide +kernel)) (RZ.pi_zipA (by rfl) T.z_zip (pa_cons (pv 0) (pa_cons (pv 7) pa_nil))) (blkOk_by (own := [("_law_row", 9), ("_law_beside", 10)]) (N := N_l_counts_right) (sc := defScope s_l_counts_right) (by decide +kernel)) (fun _ _ _ _ _ => (pg_tupK K (n := 2) rfl (pgs_cons (pg_name (i := 9) sc_l_counts_right.nd rfl (.inl rfl)) (pgs_cons (pg_name (i := 10) sc_l_counts_right.nd rfl (.inl rfl)) pgs_nil)))) (fun _ _ _ _ _ => pts_nil) (fun _ _ _ _ _ => (pe_lc (own := [("_law_one", 11), ("_law_other", 12)]) (by rfl) sc_l_counts_right.nd (pi_zipAK K (by rfl) T.z_zip (pa_cons (pv 9) (pa_cons (pv 10) pa_nil))) (blkOk_in (own := [("_law_one", 11), ("_law_other", 12)]) (N := N_l_counts_right) ["_law_used"] (by decide +kernel) (by decide +kernel) ⟨.inl rfl, trivial⟩) (fun _ _ _ _ _ => (pg_tupK K (n := 2) rfl (pgs_cons (pg_name (i := 11) sc_l_counts_right.nd rfl (.inl rfl)) (pgs_cons (pg_name (i := 12) sc_l_counts_right.nd rfl (.inl rfl)) pgs_nil)))) (fun _ _ _ _ _ => pts_nil) (fun _ _ _ _ _ => (pe_ifExp (pt_cmpR (op_inDK K (hu65 hr)) (pv 11) (pv 6) rfl) (pv 11) (pv 12))))))
      (pss_one (ps_ret (pe_and (pe_cmpR op_eq (pv 3) (pv 2) (nomark _)) (pe_one (pe_cmpR (op_eqDK K hr.units) (pv 8) (pv 7) (nomark _))))))))))), ?_⟩
    refine ⟨_, rfl, pa, pvs, ps, rfl, epa, hP, by omega, (fun p hp => by have := (okp p hp).1; omega), fun D ys rs H1 s1 hD eD hY lrs hr1 hr2 hφ => ?_⟩
    have ly := hY.len
    rw [List.length_map] at ly
    refine ⟨D, rfl, ⟨_, SqL.of eD⟩, for_list (xs := ys) (fun i σ H' => Same H1 H' ∧ ∃ y4 y5 y6 y7 y8 y9 y10 y11 y12, σ = [some (.ref pa), some (.ref ca), some (.int z), some (.int (wS (phi cs) (rs.take i))), y4, y5, y6, y7, y8, y9, y10, y11, y12])
      ⟨Same.refl _, _, _, _, _, _, _, _, _, _, rfl⟩ (fun i σ H' _ h => SqL.of (h.1 _ _ eD)) (fun i x σ H2 hx h => ?_) (fun σ H2 h => ?_)⟩
    · obtain ⟨s2, y4, y5, y6, y7, y8, y9, y10, y11, y12, rfl⟩ := h
      obtain ⟨d, fd, dx⟩ := (hY.s s2).getV hx
      have hi : i < ys.length := (List.getElem?_eq_some_iff.mp hx).1
      have hi2 : i < rs.length := by omega
      rw [List.getElem?_map, List.getElem?_eq_getElem hi2] at fd
      have ed : d = eRow rs[i] := (Option.some.inj fd).symm
      subst ed
      obtain ⟨⟨p0, mp0, mc0⟩, n0, n1⟩ := hr1 _ (List.getElem_mem hi2)
      have oc := (okp p0 mp0).2 _ mc0
      obtain ⟨a, qa, rfl, _, e1, _, e2⟩ := row47 dx
      have t2 := s1.trans s2
      refine ⟨a, _, rfl, SqT.of e1, rfl, _, _, rfl, _, _, rfl, rfl, ?_⟩
      have sumS : wS (phi cs) (rs.take (i + 1)) = wS (phi cs) (rs.take i) + rs[i].2 * phi cs rs[i].1 := by
        unfold wS
        exact take_map_sum (fun e => e.2 * phi cs e.1) hi2
      rw [sumS]
      generalize rs[i].2 = cn at *
      generalize rs[i].1 = c at *
      refine ⟨_, rfl, _, rfl, _, rfl, (by show 1 ≤ sizeLine; decide), fun p1 hp1 => ⟨(by show 1 ≤ sizeLine; decide), fun p2 hp2 => ?_⟩⟩
      have u1 := sm_new (o := .lst [.ref qa]) hp1
      have u2 := sm_new (o := .lst [.ref p1]) hp2
      have ep1 := u2 _ _ (show (upd H2 p1 (.lst [.ref qa])) p1 = some (.lst [.ref qa]) from upd_same)
      have ep2 : (upd (upd H2 p1 (.lst [.ref qa])) p2 (.lst [.ref p1])) p2 = some (.lst [.ref p1]) := upd_same
      have v2 := u1.trans u2
      generalize upd (upd H2 p1 (.lst [.ref qa])) p2 (.lst [.ref p1]) = H3 at *
      have hp12 : DtA [] H3 [.ref p1] ([[c]].map eP) := .one (.lst (fun h => nomatch h) ep1 (.one (Dt.ofCol (fun h => nomatch h) (v2 _ _ e2))))
      refine ⟨_, rfl, (by show 1 ≤ sizeLine; decide), fun p3 hp3 => ⟨(by show 1 ≤ sizeLine; decide), fun p4 hp4 => ?_⟩⟩
      have u3 := sm_new (o := .lst [.ref qa]) hp3
      have u4 := sm_new (o := .lst [.ref p3]) hp4
      have ep3 := u4 _ _ (show (upd H3 p3 (.lst [.ref qa])) p3 = some (.lst [.ref qa]) from upd_same)
      have ep4 : (upd (upd H3 p3 (.lst [.ref qa])) p4 (.lst [.ref p3])) p4 = some (.lst [.ref p3]) := upd_same
      have v4 := u3.trans u4
      generalize upd (upd H3 p3 (.lst [.ref qa])) p4 (.lst [.ref p3]) = H4 at *
      have w4 := v2.trans v4
      have t4 := t2.trans w4
      have hp34 : DtA [] H4 [.ref p3] ([[c]].map eP) := .one (.lst (fun h => nomatch h) ep3 (.one (Dt.ofCol (fun h => nomatch h) (w4 _ _ e2))))
      have po := c5_pok w5 oc okc (by omega)
      refine ⟨_, rfl, p4, ca, _, cvs, [[c]], cs, rfl, ep4, hp34, t4 _ _ eca, hC.s t4, c0, by simp, (fun p hp => by rw [List.mem_singleton.mp hp]; exact ⟨by simp, fun y hy => by rw [List.mem_singleton.mp hy]; exact po⟩), fun D5 r5 H5 s5 hD5 eD5 R5 => ?_⟩
      have t5 := t4.trans s5
      have hR5 := R5.dt (fun _ h => nomatch h) (Go.of s5)
      rw [nums_eI] at hR5
      have nlt := nr_lt c c0
      refine ⟨_, rfl, [], D5, ca, _, cvs, _, cs, rfl, eD5, hR5, t5 _ _ eca, hC.s t5, by simp, (fun r hr' => ?_), fun D6 r6 H6 s6 hD6 eD6 R6 => ?_⟩
      · have : r = [(nrI cs c : Int)] := by simpa using hr'
        rw [this]
        exact ⟨by simp, fun y hy => by rw [List.mem_singleton.mp hy]; omega⟩
      have hR6 := R6.dt (fun _ h => nomatch h) (Go.of s6)
      rw [pnt_eP] at hR6
      have v6 := (v4.trans s5).trans s6
      have g1 : gOk wd [[c]] := ⟨by omega, by simp, fun p hp => by
        rw [List.mem_singleton.mp hp]
        exact ⟨by simp, fun y hy => by rw [List.mem_singleton.mp hy]; exact c5_ok oc⟩⟩
      have g2 : gOk wd [[cs.getD (nrI cs c) []]] := ⟨by omega, by simp, fun p hp => by
        rw [List.mem_singleton.mp hp]
        exact ⟨by simp, fun y hy => by rw [List.mem_singleton.mp hy]; exact c5_ok (okc _ (gd_mem c c0))⟩⟩
      refine ⟨p2, D6, _, _, [[c]], [[cs.getD (nrI cs c) []]], wd, rfl, v6 _ _ ep2, hp12.s v6, eD6, hR6, g1, g2, rfl, fun j h1 h2 => ?_, fun H7 s7 => ?_⟩
      · have : j = 0 := by simp at h1; omega
        subst this
        rfl
      have el : lostL [[c]] [[cs.getD (nrI cs c) []]] = phi cs c := by
        unfold lostL rowL phi
        simp
      rw [el]
      refine ⟨_, _, rfl, rfl, .inl ⟨by omega, by omega⟩, _, _, rfl, rfl, ?_⟩
      exact ⟨((s2.trans v2).trans v6).trans s7, _, _, _, _, _, _, _, _, _, rfl⟩
    · obtain ⟨s2, y4, y5, y6, y7, y8, y9, y10, y11, y12, rfl⟩ := h
      rw [List.take_of_length_le (show rs.length ≤ ys.length by omega), hφ (phi cs), ← hz]
      have t2 := s1.trans s2
      refine ⟨_, rfl, pa, pvs, ps, rfl, t2 _ _ epa, hP.s t2, by omega, (fun p hp => by have := (okp p hp).1; omega), ne, fun U uvs us H3 s3 eU hU u0 u3 hus => ?_⟩
      have t3 := t2.trans s3
      have okU : ∀ u ∈ us, c5 wd u := fun u hu => by
        obtain ⟨p, hp, hc⟩ := hus u hu
        exact (okp p hp).2 u hc
      refine ⟨_, rfl, _, rfl, pa, U, pvs, uvs, ps, us, rfl, t3 _ _ epa, hP.s t3, eU, hU, u0, by omega, (fun p hp => ⟨by have := (okp p hp).1; omega, fun c hc => c5_pok w5 ((okp p hp).2 c hc) okU (by omega)⟩), fun D4 r4 H4 s4 hD4 eD4 R4 => ?_⟩
      have t4 := t3.trans s4
      have hR4 := R4.dt (fun _ h => nomatch h) (Go.of s4)
      rw [nums_eI] at hR4
      refine ⟨_, rfl, [], D4, U, _, uvs, _, us, rfl, eD4, hR4, s4 _ _ eU, hU.s s4, by rw [List.length_map]; omega, (fun r hr' => ?_), fun D5 r5 H5 s5 hD5 eD5 R5 => ?_⟩
      · obtain ⟨p, hp, rfl⟩ := List.mem_map.mp hr'
        refine ⟨by rw [List.length_map]; have := (okp p hp).1; omega, fun y hy => ?_⟩
        obtain ⟨c, hc, rfl⟩ := List.mem_map.mp hy
        have := nr_lt c u0
        omega
      have hR5 := R5.dt (fun _ h => nomatch h) (Go.of s5)
      rw [pnt_eP] at hR5
      have hR5' : DtA [] H5 (r5.map V.ref) ((toldP us ps).map eP) := hR5
      have t5 := t4.trans s5
      have eU5 := (s4.trans s5) _ _ eU
      have hU5 := hU.s (s4.trans s5)
      have lpv := hP.len
      rw [List.length_map] at lpv
      have l5 := hR5'.len
      have ltp : (toldP us ps).length = ps.length := by unfold toldP; rw [List.length_map]
      rw [List.length_map, List.length_map, ltp] at l5
      have hP5 := hP.s t5
      have shU : Sh (eP us) 2 := sh_eP (by omega) fun c hc => by have := (okU c hc).1; omega
      refine ⟨_, rfl, _, rfl, pa, D5, _, _, rfl, .inl ⟨SqL.of (t5 _ _ epa), SqL.of eD5, fun K1 hK1 => ?_⟩⟩
      refine lc_rows (walk_zip (n := ps.length) (xs := pvs) (ys := r5.map V.ref) (by rw [List.length_map]; omega)) [] hK1 (fun H' s' => ⟨SqL.of (s' _ _ (t5 _ _ epa)), SqL.of (s' _ _ eD5)⟩) (by omega) (fun i => ((toldP us ps).getD i []).map eC) (fun i x H6 H7 Ny Nn hi s6 y ky => ?_) (fun H6 kr s6 eK1 RK => ?_)
      · obtain ⟨t, x, y, rfl, ht, rfl, e1, e2⟩ := y
        obtain ⟨hi1, ra, xs, rfl, _, era, hX⟩ := palAt' hP5 e1
        obtain ⟨hi2, ta, tvs, rfl, _, eta, hT⟩ := palAt' hR5' e2
        have gd : (toldP us ps).getD i [] = (toldP us ps)[i] := by rw [List.getD_eq_getElem?_getD, List.getElem?_eq_getElem hi2]; rfl
        rw [gd] at ky
        have etr : (toldP us ps)[i] = ps[i].map fun c => us.getD (nrI us c) [] := by
          simp only [toldP, List.getElem_map]
        rw [etr] at hT ky
        have lx := hX.len
        have lt := hT.len
        rw [List.length_map] at lx lt
        rw [List.length_map] at lt
        have oki := okp _ (List.getElem_mem hi1)
        have v6 := s6.trans (sm_new (o := .tup [.ref ra, .ref ta]) ht)
        have n6 := sm_new (o := .tup [.ref ra, .ref ta]) ht
        refine ⟨t, _, rfl, SqT.of upd_same, rfl, _, _, rfl, _, _, rfl, rfl, rfl, lc_yes ?_⟩
        generalize upd H6 t (.tup [.ref ra, .ref ta]) = H7 at *
        refine ⟨_, rfl, _, rfl, ra, ta, _, _, rfl, .inl ⟨SqL.of (v6 _ _ era), SqL.of (v6 _ _ eta), fun E hE => ?_⟩⟩
        refine lc_vals (walk_zip (n := ps[i].length) (xs := xs) (ys := tvs) (by omega)) hE (fun H' s' => ⟨SqL.of (s' _ _ (v6 _ _ era)), SqL.of (s' _ _ (v6 _ _ eta))⟩) (by omega) (fun j => if ps[i].getD j [] ∈ us then xs.getD j .non else tvs.getD j .non) (fun j x H8 H9 Ny2 Nn2 hj s8 y ky2 => ?_) (fun H8 s8 eE => ?_)
        · obtain ⟨t8, x, y, rfl, ht8, rfl, f1, f2⟩ := y
          obtain ⟨hj1, dx⟩ := colAt' hX f1
          have gj : ps[i].getD j [] = ps[i][j] := by rw [List.getD_eq_getElem?_getD, List.getElem?_eq_getElem hj1]; rfl
          have gx : xs.getD j .non = x := by rw [List.getD_eq_getElem?_getD, show xs[j]? = some x from f1]; rfl
          have gt : tvs.getD j .non = y := by rw [List.getD_eq_getElem?_getD, show tvs[j]? = some y from f2]; rfl
          rw [gj, gx, gt] at ky2
          have n8 := sm_new (o := .tup [x, y]) ht8
          have w8 := (v6.trans s8).trans n8
          refine ⟨t8, _, rfl, SqT.of upd_same, rfl, _, _, rfl, _, _, rfl, rfl, rfl, lc_yes ?_⟩
          generalize upd H8 t8 (.tup [x, y]) = H9 at *
          have shc : Sh (eC ps[i][j]) 1 := sh_eC (by have := (oki.2 _ (List.getElem_mem hj1)).1; omega)
          refine ⟨_, rfl, _, rfl, eC ps[i][j], us.map eC, (dx.s w8).dP, (Dt.lst (B := []) (fun h => nomatch h) (w8 _ _ eU5) (hU5.s w8)).dP, shc.sh (by omega), shU.sh (by omega), _, rfl, ite2 (fun e => ?_) (fun e => ?_)⟩
          · rw [any_in] at e
            rw [if_pos (of_decide_eq_true e)] at ky2
            exact ⟨_, rfl, ky2 _ n8⟩
          · rw [any_in] at e
            rw [if_neg (fun z => e (decide_eq_true z))] at ky2
            exact ⟨_, rfl, ky2 _ n8⟩
        · refine ky E _ H8 (n6.trans s8) (n6.free hE) eE ?_
          refine DtA.mk (by simp) fun j v d h1 h2 => ?_
          have hj : j < ps[i].length := by
            have := (List.getElem?_eq_some_iff.mp h2).1
            simpa using this
          rw [List.getElem?_map, List.getElem?_range hj] at h1
          rw [List.getElem?_map, List.getElem?_map, List.getElem?_eq_getElem hj] at h2
          have h1' := Option.some.inj h1
          have h2' : eC (us.getD (nrI us ps[i][j]) []) = d := Option.some.inj h2
          dsimp only at h1'
          have gj : ps[i].getD j [] = ps[i][j] := by rw [List.getD_eq_getElem?_getD, List.getElem?_eq_getElem hj]; rfl
          rw [gj] at h1'
          rw [← h1', ← h2']
          by_cases hc : ps[i][j] ∈ us
          · rw [if_pos hc, near_self hc okU]
            refine hX.two (i := j) ?_ (by rw [List.getElem?_map, List.getElem?_eq_getElem hj]; rfl)
            rw [List.getD_eq_getElem?_getD, List.getElem?_eq_getElem (by omega)]
            rfl
          · rw [if_neg hc]
            refine hT.two (i := j) ?_ (by rw [List.getElem?_map, List.getElem?_map, List.getElem?_eq_getElem hj]; rfl)
            rw [List.getD_eq_getElem?_getD, List.getElem?_eq_getElem (by omega)]
            rfl
      · have eq1 : (List.range ps.length).map (fun i => ((toldP us ps).getD i []).map eC) = (toldP us ps).map fun p => p.map eC := by
          rw [← ltp]
          exact mp_range (fun p : List (List Int) => p.map eC) [] (toldP us ps)
        rw [eq1] at RK
        have hK := RK.dt (fun _ h => nomatch h) (Go.of s6)
        rw [List.map_map] at hK
        have hK' : DtA [] H6 (kr.map V.ref) ((toldP us ps).map eP) := hK
        have shT : Sh (eG (toldP us ps)) 3 := sh_eG (by omega) fun p hp => by
          unfold toldP at hp
          obtain ⟨p', hp', rfl⟩ := List.mem_map.mp hp
          refine ⟨by rw [List.length_map]; have := (okp p' hp').1; omega, fun c hc => ?_⟩
          obtain ⟨c', _, rfl⟩ := List.mem_map.mp hc
          have := (okU _ (gd_mem c' u0)).1
          omega
        refine ⟨_, rfl, _, rfl, rfl, _, rfl, iteD rfl ?_⟩
        refine ⟨_, rfl, _, rfl, _, _, (Dt.lst (B := []) (fun h => nomatch h) eK1 hK').dP, (Dt.lst (B := []) (fun h => nomatch h) (s6 _ _ eD5) (hR5'.s s6)).dP, shT.sh (by omega), shT.sh (by omega), ?_⟩
        show Q (.bl (PyData.eqv (eG (toldP us ps)) (eG (toldP us ps)))) H6
        rw [eqv_sh shT]
        exact q _ (t5.trans s6)
/-! ### what the law promises -/
def spLaw (K : PySem.W.Frag) : Sp := fun vs H Q _ => ∃ (a : Addr) (ns : List Int), vs = [.ref a] ∧ SqL K H a (ns.map V.int) ∧ ns.length ≤ 63 ∧ ∀ H', Q (.bl true) H'
/-! ### the law -/
theorem lost_told (cs : List (List Int)) (ps : List (List (List Int))) : lostL ps (toldP cs ps) = (ps.map fun p => (p.map (phi cs)).sum).sum := by
  unfold lostL toldP
  rw [List.zipWith_map_right, List.zipWith_self]
  congr 1
  refine List.map_congr_left fun p _ => ?_
  unfold rowL phi
  rw [List.zipWith_map_right, List.zipWith_self]
set_option maxHeartbeats 2000000 in
theorem ok_law (T : Tx K mg) {f : Addr} {fd : FuncData} (F : Fun K "law" "law" s_law f fd) {k : Nat} (hk : k ≤ 10) : FnOk P w K mg base CX0 (k + 5) f fd ["_law_script"] (spLaw K) := by
  refine F.ok sc_law (fun vs H Q E h => ?_) (fun cdv A outer s H vs Q E hr h => ?_)
  · obtain ⟨a, ns, rfl, _⟩ := h
    rfl
  · obtain ⟨a, ns0, rfl, hS, hlen, q⟩ := h
    refine ⟨_, (pss_cons (ps_for PassesOwn.never rfl (pi_range1 (by rfl) T.z_range (pa_cons (pe_op op_add (pe_callB (call_min2 rfl) (by rfl) T.z_min (by decide +kernel) (pa_cons pe_int (pa_cons (pe_callB (len_K K) (by rfl) T.z_len PySem.boot_len (pa_cons (pv 0) pa_nil)) pa_nil))) pe_int) pa_nil)) (pg_name (i := 1) sc_law.nd rfl (.inl rfl)) (pss_cons (ps_set (i := 2) sc_law.nd rfl (.inl rfl) (pe_call (ok_l_left T (k := k + 3)) hr (by rfl) T.g_l_left T.F_l_left.kp T.b_l_left .nil pass0 (pa_cons (pv 0) (pa_cons (pv 1) pa_nil))))
      (pss_cons (ps_asg (pe_op op_add (pe_ix (ix_listK K) (pv 2) pe_int (fun _ _ => rfl)) pe_int) (pg_sub (pv 2) pe_int set_list))
      (pss_cons (ps_set (i := 3) sc_law.nd rfl (.inl rfl) (pe_call (ok_l_kind T (k := k + 1)) hr (by rfl) T.g_l_kind T.F_l_kind.kp T.b_l_kind .nil pass0 (pa_cons (pv 2) pa_nil)))
      (pss_cons (ps_set (i := 4) sc_law.nd rfl (.inl rfl) (pe_call (ok_l_picture T (k := k)) hr (by rfl) T.g_l_picture T.F_l_picture.kp T.b_l_picture .nil pass0 (pa_cons (pv 2) (pa_cons (pv 3) pa_nil))))
      (pss_cons (ps_set (i := 5) sc_law.nd rfl (.inl rfl) (pe_call (ok_l_palette T (k := k)) hr (by rfl) T.g_l_palette T.F_l_palette.kp T.b_l_palette .nil pass0 (pa_cons (pv 2) (pa_cons (pv 3) pa_nil))))
      (pss_cons (ps_set (i := 6) sc_law.nd rfl (.inl rfl) (pe_slice (sl_listK K) (pe_ix (ix_listK K) (pv 4) (pe_call (ok_l_pick T (k := k + 2)) hr (by rfl) T.g_l_pick T.F_l_pick.kp T.b_l_pick .nil pass0 (pa_cons (pv 2) (pa_cons (pe_callB (len_K K) (by rfl) T.z_len PySem.boot_len (pa_cons (pv 4) pa_nil)) pa_nil))) (fun _ _ => rfl)) po_none (po_some (pe_op op_add pe_int (pe_call (ok_l_pick T (k := k + 2)) hr (by rfl) T.g_l_pick T.F_l_pick.kp T.b_l_pick .nil pass0 (pa_cons (pv 2) (pa_cons pe_int pa_nil)))))))
      (pss_cons (ps_if (pt_not (pt_val (pe_call (ok_l_piece_right T (k := k)) hr (by rfl) T.g_l_piece_right T.F_l_piece_right.kp T.b_l_piece_right .nil pass0 (pa_cons (pv 6) (pa_cons (pe_slice (sl_listK K) (pv 5) po_none (po_some (pe_op op_add pe_int (pe_call (ok_l_pick T (k := k + 2)) hr (by rfl) T.g_l_pick T.F_l_pick.kp T.b_l_pick .nil pass0 (pa_cons (pv 2) (pa_cons pe_int pa_nil)))))) pa_nil))))) (pss_one (ps_ret pe_bl)) pss_nil)
      (pss_cons (ps_set (i := 7) sc_law.nd rfl (.inl rfl) (pe_call (ok_numbers_by T (k := k + 1)) hr (by rfl) T.g_numbers_by T.F_numbers_by.kp T.b_numbers_by .nil pass0 (pa_cons (pv 4) (pa_cons (pv 5) pa_nil))))
      (pss_cons (ps_set (i := 8) sc_law.nd rfl (.inl rfl) (pe_call (ok_lost_in T (k := k + 2)) hr (by rfl) T.g_lost_in T.F_lost_in.kp T.b_lost_in .nil pass0 (pa_cons (pv 4) (pa_cons (pe_call (ok_painted T (k := k + 3)) hr (by rfl) T.g_painted T.F_painted.kp T.b_painted .nil pass0 (pa_cons (pv 7) (pa_cons (pv 5) pa_nil))) pa_nil))))
      (pss_one (ps_if (PW.pt (pw_or (pt_not (pt_val (pe_call (ok_l_no_other T (k := k + 2)) hr (by rfl) T.g_l_no_other T.F_l_no_other.kp T.b_l_no_other .nil pass0 (pa_cons (pv 4) (pa_cons (pv 5) (pa_cons (pv 7) pa_nil)))))) (pw_or1 (pt_not (pt_val (pe_call (ok_l_counts_right T (k := k)) hr (by rfl) T.g_l_counts_right T.F_l_counts_right.kp T.b_l_counts_right .nil pass0 (pa_cons (pv 4) (pa_cons (pv 5) (pa_cons (pv 8) pa_nil))))))))) (pss_one (ps_ret pe_bl)) pss_nil))))))))))))
      (pss_one (ps_ret pe_bl))), ?_⟩
    refine ⟨_, rfl, a, _, rfl, .inl hS, _, _, rfl, _, _, rfl, rfl, ?_⟩
    obtain ⟨m, hm⟩ : ∃ m : Int, m = (if ((ns0.map V.int).length : Int) < 3 then ((ns0.map V.int).length : Int) else (3 : Int)) + 1 := ⟨_, rfl⟩
    have m0 : 0 ≤ m ∧ m ≤ 7 := by
      rw [hm]
      split <;> omega
    refine ⟨m, by rw [hm], by omega, by omega, for_range (lo := 0) (n := m.toNat) (fun i σ H' => ∃ y1 y2 y3 y4 y5 y6 y7 y8, σ = [some (.ref a), y1, y2, y3, y4, y5, y6, y7, y8] ∧ Same H H')
      ⟨none, none, none, none, none, none, none, none, rfl, Same.refl H⟩ (fun i σ H1 hi h1 => ?_) (fun σ H1 h1 => ?_)⟩
    · obtain ⟨y1, y2, y3, y4, y5, y6, y7, y8, rfl, s1⟩ := h1
      refine ⟨_, rfl, _, rfl, a, ns0, _, rfl, s1.seq hS, by omega, fun L x0 y0 hL0 x0n => ?_⟩
      have hLH : H L = none := s1.free hL0
      have eL1 : (upd H1 L (.lst [.int x0, .int y0, .int 0])) L = some (.lst [.int x0, .int y0, .int 0]) := upd_same
      have s2 := sm_mut (o := .lst [.int x0, .int y0, .int 0]) s1 hLH
      generalize upd H1 L (.lst [.int x0, .int y0, .int 0]) = H2 at *
      refine ⟨_, rfl, L, _, 1, .int y0, rfl, rfl, SqL.of eL1, rfl, _, _, rfl, rfl, _, rfl, L, _, _, 1, rfl, rfl, eL1, rfl, ?_⟩
      generalize hH : upd H2 L (.lst (List.set [V.int x0, V.int y0, V.int 0] 1 (V.int (y0 + 900)))) = H3
      have lf3 : Lf L H3 0 := ⟨x0, y0 + 900, 0, by rw [← hH]; exact upd_same, x0n, by omega, by omega⟩
      have s3 : Same H H3 := by rw [← hH]; exact sm_mut s2 hLH
      clear hH eL1
      have nB : ∀ b ∈ [L], H b = none := fun b hb => by rw [List.mem_singleton.mp hb]; exact hLH
      refine ⟨_, rfl, L, 0, rfl, lf3, by omega, fun kv H4 wd0 sp g4 l4 w0 w1 p0 p1 d4 => ?_⟩
      obtain ⟨wd, rfl⟩ : ∃ wd : Nat, wd0 = (wd : Int) := ⟨wd0.toNat, by omega⟩
      refine ⟨_, rfl, _, rfl, L, _, kv, (wd : Int), sp, rfl, l4, by omega, d4, by omega, w1, by omega, p1, fun pa pvs H5 ps g5 l5 hpa epa hP picok => ?_⟩
      have npa : pa ∉ [L] := l4.bk.ne hpa
      have hP0 := hP.un
      obtain ⟨op1, op2, wz, wz0, wz1, op3⟩ := picok
      refine ⟨_, rfl, _, rfl, L, _, kv, (wd : Int), sp, rfl, l5, by omega, d4.g g5, by omega, w1, by omega, p1, fun cl H6 cs g6 l6 d6 c0 c1 cok => ?_⟩
      obtain ⟨ca, cvs, rfl, nca, eca, hC⟩ := d6.pal
      have c5p : ∀ p ∈ ps, p.length ≤ 16 ∧ ∀ c ∈ p, c5 wd c := fun p hp => ⟨by have := (op3 p hp).1; omega, fun c hc => by
        have := (op3 p hp).2 c hc
        exact ⟨by have := this.1; omega, this.2⟩⟩
      have c5c : ∀ c ∈ cs, c5 wd c := fun c hc => by
        have := cok c hc
        exact ⟨by have := this.1; omega, this.2⟩
      have lpv := hP.len
      have lcv := hC.len
      rw [List.length_map] at lpv lcv
      have w5 : wd ≤ 5 := by omega
      -- the spots
      have epa6 := g6.k pa _ npa epa
      refine ⟨_, rfl, _, rfl, _, rfl, pa, _, rfl, .inl (SqL.of epa6), L, _, _, rfl, l6, by omega, by omega, by omega, fun r7 H7 g7 l7 a7 b7 => ?_⟩
      have epa7 := g7.k pa _ npa epa6
      have hP7 := (hP0.g g6).g g7
      have hi7 : r7.toNat < ps.length := by omega
      obtain ⟨v7, f7, d7⟩ := hP7.get (i := r7.toNat) (d := eP ps[r7.toNat]) (by rw [List.getElem?_map, List.getElem?_eq_getElem hi7]; rfl)
      have orow := c5p _ (List.getElem_mem hi7)
      generalize ps[r7.toNat] = row at *
      obtain ⟨ra, rvs, rfl, nra, era, hR⟩ := d7.lst2
      refine ⟨pa, _, _, .ref ra, rfl, rfl, SqL.of epa7, at0 a7 f7, ?_⟩
      refine ⟨_, rfl, L, 4, _, rfl, l7, by omega, by decide, by decide, fun r8 H8 g8 l8 a8 b8 => ?_⟩
      have era8 := g8.k ra _ nra era
      refine ⟨_, _, rfl, rfl, 1 + r8, rfl, ra, _, rfl, SqL.of era8, fun sa hsa => ?_⟩
      have u9 := sm_new (o := .lst (cutV rvs none (some (1 + r8)))) hsa
      have esa : (upd H8 sa (.lst (cutV rvs none (some (1 + r8))))) sa = some (.lst (cutV rvs none (some (1 + r8)))) := upd_same
      have l9 := l8.same u9
      have nsa : sa ∉ [L] := l8.bk.ne hsa
      have kS := ((hR.g g8).s u9).cut none (some (1 + r8))
      rw [cut_toV _ (by omega), ← List.map_take] at kS
      generalize upd H8 sa (.lst (cutV rvs none (some (1 + r8)))) = H9 at *
      have eca9 := u9 _ _ (((g7.trans g8).k ca _ nca eca))
      have hC9 := (hC.g (g7.trans g8)).s u9
      have hP9 := (hP7.g g8).s u9
      have epa9 := u9 _ _ (g8.k pa _ npa epa7)
      -- the few
      refine ⟨_, rfl, _, rfl, _, rfl, L, 3, _, rfl, l9, by omega, by decide, by decide, fun r10 H10 g10 l10 a10 b10 => ?_⟩
      have eca10 := g10.k ca _ nca eca9
      have hC10 := hC9.g g10
      refine ⟨_, _, rfl, rfl, 1 + r10, rfl, ca, _, rfl, SqL.of eca10, fun fa hfa => ?_⟩
      have u11 := sm_new (o := .lst (cutV cvs none (some (1 + r10)))) hfa
      have efa : (upd H10 fa (.lst (cutV cvs none (some (1 + r10))))) fa = some (.lst (cutV cvs none (some (1 + r10)))) := upd_same
      have kF := (hC10.s u11).cut none (some (1 + r10))
      rw [cut_toV _ (by omega), ← List.map_take] at kF
      have kS11 := (kS.g g10).s u11
      have esa11 := u11 _ _ (g10.k sa _ nsa esa)
      have epa11 := u11 _ _ (g10.k pa _ npa epa9)
      have eca11 := u11 _ _ eca10
      have hP11 : DtA [] (upd H10 fa (.lst (cutV cvs none (some (1 + r10))))) pvs (ps.map eP) := ((hP9.g g10).s u11).sub (fun _ h => nomatch h)
      have hC11 : DtA [] (upd H10 fa (.lst (cutV cvs none (some (1 + r10))))) cvs (cs.map eC) := (hC10.s u11).sub (fun _ h => nomatch h)
      have s11 : Same H (upd H10 fa (.lst (cutV cvs none (some (1 + r10))))) := by
        have g := ((((g4.trans g5).trans g6).trans g7).trans g8)
        exact (((g.trans (Go.of u9)).trans g10).trans (Go.of u11)).sm s3 nB
      generalize upd H10 fa (.lst (cutV cvs none (some (1 + r10)))) = H11 at *
      refine ⟨sa, fa, _, _, row.take (1 + r8).toNat, cs.take (1 + r10).toNat, wd, rfl, esa11, kS11.sub (fun _ h => nomatch h), efa, kF.sub (fun _ h => nomatch h), w5, by rw [List.length_take]; omega, by rw [List.length_take]; omega, by rw [List.length_take]; omega, (fun c hc => orow.2 c (List.mem_of_mem_take hc)), (fun c hc => c5c c (List.mem_of_mem_take hc)), fun H12 s12 => ?_⟩
      refine ⟨_, rfl, iteF ?_⟩
      have po : ∀ p ∈ ps, p.length ≤ 1000 ∧ ∀ c ∈ p, pOk cs c := fun p hp => ⟨by have := (c5p p hp).1; omega, fun c hc => c5_pok w5 ((c5p p hp).2 c hc) c5c (by omega)⟩
      refine ⟨_, rfl, _, rfl, pa, ca, pvs, cvs, ps, cs, rfl, s12 _ _ epa11, hP11.s s12, s12 _ _ eca11, hC11.s s12, c0, by omega, po, fun D13 r13 H13 s13 hD13 eD13 R13 => ?_⟩
      have t13 := s12.trans s13
      have hR13 := R13.dt (fun _ h => nomatch h) (Go.of s13)
      have hR13e := hR13
      rw [nums_eI] at hR13e
      refine ⟨_, rfl, _, rfl, _, rfl, [], D13, ca, _, cvs, _, cs, rfl, eD13, hR13e, t13 _ _ eca11, hC11.s t13, by rw [List.length_map]; omega, (fun r hr' => ?_), fun D14 r14 H14 s14 hD14 eD14 R14 => ?_⟩
      · obtain ⟨p, hp, rfl⟩ := List.mem_map.mp hr'
        refine ⟨by rw [List.length_map]; have := (c5p p hp).1; omega, fun y hy => ?_⟩
        obtain ⟨c, hc, rfl⟩ := List.mem_map.mp hy
        have := nr_lt c c0
        omega
      have hR14 := R14.dt (fun _ h => nomatch h) (Go.of s14)
      rw [pnt_eP] at hR14
      have hR14' : DtA [] H14 (r14.map V.ref) ((toldP cs ps).map eP) := hR14
      have t14 := t13.trans s14
      have gp : gOk wd ps := ⟨by omega, by omega, fun p hp => ⟨by have := (c5p p hp).1; omega, fun c hc => c5_ok ((c5p p hp).2 c hc)⟩⟩
      have gt : gOk wd (toldP cs ps) := ⟨by omega, by unfold toldP; rw [List.length_map]; omega, fun p hp => by
        unfold toldP at hp
        obtain ⟨p', hp', rfl⟩ := List.mem_map.mp hp
        refine ⟨by rw [List.length_map]; have := (c5p p' hp').1; omega, fun c hc => ?_⟩
        obtain ⟨c', _, rfl⟩ := List.mem_map.mp hc
        exact c5_ok (c5c _ (gd_mem c' c0))⟩
      refine ⟨pa, D14, _, _, ps, toldP cs ps, wd, rfl, t14 _ _ epa11, hP11.s t14, eD14, hR14', gp, gt, by unfold toldP; rw [List.length_map], (fun i h1 h2 => by simp [toldP]), fun H15 s15 => ?_⟩
      have t15 := t14.trans s15
      have v15 := s14.trans s15
      refine ⟨_, rfl, _, rfl, _, rfl, pa, ca, D13, pvs, cvs, _, ps, cs, rfl, t15 _ _ epa11, hP11.s t15, t15 _ _ eca11, hC11.s t15, v15 _ _ eD13, hR13.s v15, c0, by omega, (fun p hp => ⟨by have := (c5p p hp).1; omega, (po p hp).2⟩), fun H16 s16 => ?_⟩
      refine ⟨_, rfl, iteF ?_⟩
      have t16 := t15.trans s16
      refine ⟨_, rfl, _, rfl, _, rfl, pa, ca, pvs, cvs, ps, cs, wd, _, rfl, t16 _ _ epa11, hP11.s t16, t16 _ _ eca11, hC11.s t16, w5, c0, by omega, by omega, c5p, ⟨_, List.getElem_mem op1, by have := (op3 _ (List.getElem_mem op1)).1; omega⟩, c5c, lost_told cs ps, fun H17 s17 => ?_⟩
      refine ⟨_, rfl, iteF ?_⟩
      exact ⟨_, _, _, _, _, _, _, _, rfl, s11.trans (t16.trans s17)⟩
    · obtain ⟨y1, y2, y3, y4, y5, y6, y7, y8, rfl, s1⟩ := h1
      exact q _

end
theorem all_mk {l : PySem.W.OpenLaw} {w : World} {K : PySem.W.Frag} {h : Heap} {mg : Str → Option Value} {fa : Addr} (X : K.In h) (G : h.Ns mainGlobals mg) (hfa : mg "law" = some (.ref fa))
    {f0 : Addr} {od0 an0 : Option Addr} {sl0 : Array (Option Value)} {oc0 kV0 dc0 pm0 cd0 ct0 : Value}
    (a0 : PySem.W.nsIn K mainGlobals "apart" = some (some (.ref f0))) (l0 : K.lookup f0 = some ⟨oc0, od0, .func (PySem.W.fnOf "apart" "apart" (defArgs s_apart) (defBody s_apart) (defScope s_apart) .none kV0 dc0 pm0 an0 cd0 ct0), sl0⟩) (c0 : PySem.W.codeIn K cd0 "apart" = true) (k0 : PySem.W.keepIn K (.ref f0) = true)
    {f1 : Addr} {od1 an1 : Option Addr} {sl1 : Array (Option Value)} {oc1 kV1 dc1 pm1 cd1 ct1 : Value}
    (a1 : PySem.W.nsIn K mainGlobals "nearest" = some (some (.ref f1))) (l1 : K.lookup f1 = some ⟨oc1, od1, .func (PySem.W.fnOf "nearest" "nearest" (defArgs s_nearest) (defBody s_nearest) (defScope s_nearest) .none kV1 dc1 pm1 an1 cd1 ct1), sl1⟩) (c1 : PySem.W.codeIn K cd1 "nearest" = true) (k1 : PySem.W.keepIn K (.ref f1) = true)
    {f2 : Addr} {od2 an2 : Option Addr} {sl2 : Array (Option Value)} {oc2 kV2 dc2 pm2 cd2 ct2 : Value}
    (a2 : PySem.W.nsIn K mainGlobals "counts_in" = some (some (.ref f2))) (l2 : K.lookup f2 = some ⟨oc2, od2, .func (PySem.W.fnOf "counts_in" "counts_in" (defArgs s_counts_in) (defBody s_counts_in) (defScope s_counts_in) .none kV2 dc2 pm2 an2 cd2 ct2), sl2⟩) (c2 : PySem.W.codeIn K cd2 "counts_in" = true) (k2 : PySem.W.keepIn K (.ref f2) = true)
    {f3 : Addr} {od3 an3 : Option Addr} {sl3 : Array (Option Value)} {oc3 kV3 dc3 pm3 cd3 ct3 : Value}
    (a3 : PySem.W.nsIn K mainGlobals "most_used" = some (some (.ref f3))) (l3 : K.lookup f3 = some ⟨oc3, od3, .func (PySem.W.fnOf "most_used" "most_used" (defArgs s_most_used) (defBody s_most_used) (defScope s_most_used) .none kV3 dc3 pm3 an3 cd3 ct3), sl3⟩) (c3 : PySem.W.codeIn K cd3 "most_used" = true) (k3 : PySem.W.keepIn K (.ref f3) = true)
    {f4 : Addr} {od4 an4 : Option Addr} {sl4 : Array (Option Value)} {oc4 kV4 dc4 pm4 cd4 ct4 : Value}
    (a4 : PySem.W.nsIn K mainGlobals "numbers_by" = some (some (.ref f4))) (l4 : K.lookup f4 = some ⟨oc4, od4, .func (PySem.W.fnOf "numbers_by" "numbers_by" (defArgs s_numbers_by) (defBody s_numbers_by) (defScope s_numbers_by) .none kV4 dc4 pm4 an4 cd4 ct4), sl4⟩) (c4 : PySem.W.codeIn K cd4 "numbers_by" = true) (k4 : PySem.W.keepIn K (.ref f4) = true)
    {f5 : Addr} {od5 an5 : Option Addr} {sl5 : Array (Option Value)} {oc5 kV5 dc5 pm5 cd5 ct5 : Value}
    (a5 : PySem.W.nsIn K mainGlobals "painted" = some (some (.ref f5))) (l5 : K.lookup f5 = some ⟨oc5, od5, .func (PySem.W.fnOf "painted" "painted" (defArgs s_painted) (defBody s_painted) (defScope s_painted) .none kV5 dc5 pm5 an5 cd5 ct5), sl5⟩) (c5 : PySem.W.codeIn K cd5 "painted" = true) (k5 : PySem.W.keepIn K (.ref f5) = true)
    {f6 : Addr} {od6 an6 : Option Addr} {sl6 : Array (Option Value)} {oc6 kV6 dc6 pm6 cd6 ct6 : Value}
    (a6 : PySem.W.nsIn K mainGlobals "lost_in" = some (some (.ref f6))) (l6 : K.lookup f6 = some ⟨oc6, od6, .func (PySem.W.fnOf "lost_in" "lost_in" (defArgs s_lost_in) (defBody s_lost_in) (defScope s_lost_in) .none kV6 dc6 pm6 an6 cd6 ct6), sl6⟩) (c6 : PySem.W.codeIn K cd6 "lost_in" = true) (k6 : PySem.W.keepIn K (.ref f6) = true)
    {f7 : Addr} {od7 an7 : Option Addr} {sl7 : Array (Option Value)} {oc7 kV7 dc7 pm7 cd7 ct7 : Value}
    (a7 : PySem.W.nsIn K mainGlobals "_law_mix" = some (some (.ref f7))) (l7 : K.lookup f7 = some ⟨oc7, od7, .func (PySem.W.fnOf "_law_mix" "_law_mix" (defArgs s_l_mix) (defBody s_l_mix) (defScope s_l_mix) .none kV7 dc7 pm7 an7 cd7 ct7), sl7⟩) (c7 : PySem.W.codeIn K cd7 "_law_mix" = true) (k7 : PySem.W.keepIn K (.ref f7) = true)
    {f8 : Addr} {od8 an8 : Option Addr} {sl8 : Array (Option Value)} {oc8 kV8 dc8 pm8 cd8 ct8 : Value}
    (a8 : PySem.W.nsIn K mainGlobals "_law_left" = some (some (.ref f8))) (l8 : K.lookup f8 = some ⟨oc8, od8, .func (PySem.W.fnOf "_law_left" "_law_left" (defArgs s_l_left) (defBody s_l_left) (defScope s_l_left) .none kV8 dc8 pm8 an8 cd8 ct8), sl8⟩) (c8 : PySem.W.codeIn K cd8 "_law_left" = true) (k8 : PySem.W.keepIn K (.ref f8) = true)
    {f9 : Addr} {od9 an9 : Option Addr} {sl9 : Array (Option Value)} {oc9 kV9 dc9 pm9 cd9 ct9 : Value}
    (a9 : PySem.W.nsIn K mainGlobals "_law_pick" = some (some (.ref f9))) (l9 : K.lookup f9 = some ⟨oc9, od9, .func (PySem.W.fnOf "_law_pick" "_law_pick" (defArgs s_l_pick) (defBody s_l_pick) (defScope s_l_pick) .none kV9 dc9 pm9 an9 cd9 ct9), sl9⟩) (c9 : PySem.W.codeIn K cd9 "_law_pick" = true) (k9 : PySem.W.keepIn K (.ref f9) = true)
    {f10 : Addr} {od10 an10 : Option Addr} {sl10 : Array (Option Value)} {oc10 kV10 dc10 pm10 cd10 ct10 : Value}
    (a10 : PySem.W.nsIn K mainGlobals "_law_kind" = some (some (.ref f10))) (l10 : K.lookup f10 = some ⟨oc10, od10, .func (PySem.W.fnOf "_law_kind" "_law_kind" (defArgs s_l_kind) (defBody s_l_kind) (defScope s_l_kind) .none kV10 dc10 pm10 an10 cd10 ct10), sl10⟩) (c10 : PySem.W.codeIn K cd10 "_law_kind" = true) (k10 : PySem.W.keepIn K (.ref f10) = true)
    {f11 : Addr} {od11 an11 : Option Addr} {sl11 : Array (Option Value)} {oc11 kV11 dc11 pm11 cd11 ct11 : Value}
    (a11 : PySem.W.nsIn K mainGlobals "_law_colour" = some (some (.ref f11))) (l11 : K.lookup f11 = some ⟨oc11, od11, .func (PySem.W.fnOf "_law_colour" "_law_colour" (defArgs s_l_colour) (defBody s_l_colour) (defScope s_l_colour) .none kV11 dc11 pm11 an11 cd11 ct11), sl11⟩) (c11 : PySem.W.codeIn K cd11 "_law_colour" = true) (k11 : PySem.W.keepIn K (.ref f11) = true)
    {f12 : Addr} {od12 an12 : Option Addr} {sl12 : Array (Option Value)} {oc12 kV12 dc12 pm12 cd12 ct12 : Value}
    (a12 : PySem.W.nsIn K mainGlobals "_law_palette" = some (some (.ref f12))) (l12 : K.lookup f12 = some ⟨oc12, od12, .func (PySem.W.fnOf "_law_palette" "_law_palette" (defArgs s_l_palette) (defBody s_l_palette) (defScope s_l_palette) .none kV12 dc12 pm12 an12 cd12 ct12), sl12⟩) (c12 : PySem.W.codeIn K cd12 "_law_palette" = true) (k12 : PySem.W.keepIn K (.ref f12) = true)
    {f13 : Addr} {od13 an13 : Option Addr} {sl13 : Array (Option Value)} {oc13 kV13 dc13 pm13 cd13 ct13 : Value}
    (a13 : PySem.W.nsIn K mainGlobals "_law_picture" = some (some (.ref f13))) (l13 : K.lookup f13 = some ⟨oc13, od13, .func (PySem.W.fnOf "_law_picture" "_law_picture" (defArgs s_l_picture) (defBody s_l_picture) (defScope s_l_picture) .none kV13 dc13 pm13 an13 cd13 ct13), sl13⟩) (c13 : PySem.W.codeIn K cd13 "_law_picture" = true) (k13 : PySem.W.keepIn K (.ref f13) = true)
    {f14 : Addr} {od14 an14 : Option Addr} {sl14 : Array (Option Value)} {oc14 kV14 dc14 pm14 cd14 ct14 : Value}
    (a14 : PySem.W.nsIn K mainGlobals "_law_apart" = some (some (.ref f14))) (l14 : K.lookup f14 = some ⟨oc14, od14, .func (PySem.W.fnOf "_law_apart" "_law_apart" (defArgs s_l_apart) (defBody s_l_apart) (defScope s_l_apart) .none kV14 dc14 pm14 an14 cd14 ct14), sl14⟩) (c14 : PySem.W.codeIn K cd14 "_law_apart" = true) (k14 : PySem.W.keepIn K (.ref f14) = true)
    {f15 : Addr} {od15 an15 : Option Addr} {sl15 : Array (Option Value)} {oc15 kV15 dc15 pm15 cd15 ct15 : Value}
    (a15 : PySem.W.nsIn K mainGlobals "_law_all_tellings" = some (some (.ref f15))) (l15 : K.lookup f15 = some ⟨oc15, od15, .func (PySem.W.fnOf "_law_all_tellings" "_law_all_tellings" (defArgs s_l_all_tellings) (defBody s_l_all_tellings) (defScope s_l_all_tellings) .none kV15 dc15 pm15 an15 cd15 ct15), sl15⟩) (c15 : PySem.W.codeIn K cd15 "_law_all_tellings" = true) (k15 : PySem.W.keepIn K (.ref f15) = true)
    {f16 : Addr} {od16 an16 : Option Addr} {sl16 : Array (Option Value)} {oc16 kV16 dc16 pm16 cd16 ct16 : Value}
    (a16 : PySem.W.nsIn K mainGlobals "_law_piece_right" = some (some (.ref f16))) (l16 : K.lookup f16 = some ⟨oc16, od16, .func (PySem.W.fnOf "_law_piece_right" "_law_piece_right" (defArgs s_l_piece_right) (defBody s_l_piece_right) (defScope s_l_piece_right) .none kV16 dc16 pm16 an16 cd16 ct16), sl16⟩) (c16 : PySem.W.codeIn K cd16 "_law_piece_right" = true) (k16 : PySem.W.keepIn K (.ref f16) = true)
    {f17 : Addr} {od17 an17 : Option Addr} {sl17 : Array (Option Value)} {oc17 kV17 dc17 pm17 cd17 ct17 : Value}
    (a17 : PySem.W.nsIn K mainGlobals "_law_no_other" = some (some (.ref f17))) (l17 : K.lookup f17 = some ⟨oc17, od17, .func (PySem.W.fnOf "_law_no_other" "_law_no_other" (defArgs s_l_no_other) (defBody s_l_no_other) (defScope s_l_no_other) .none kV17 dc17 pm17 an17 cd17 ct17), sl17⟩) (c17 : PySem.W.codeIn K cd17 "_law_no_other" = true) (k17 : PySem.W.keepIn K (.ref f17) = true)
    {f18 : Addr} {od18 an18 : Option Addr} {sl18 : Array (Option Value)} {oc18 kV18 dc18 pm18 cd18 ct18 : Value}
    (a18 : PySem.W.nsIn K mainGlobals "_law_counts_right" = some (some (.ref f18))) (l18 : K.lookup f18 = some ⟨oc18, od18, .func (PySem.W.fnOf "_law_counts_right" "_law_counts_right" (defArgs s_l_counts_right) (defBody s_l_counts_right) (defScope s_l_counts_right) .none kV18 dc18 pm18 an18 cd18 ct18), sl18⟩) (c18 : PySem.W.codeIn K cd18 "_law_counts_right" = true) (k18 : PySem.W.keepIn K (.ref f18) = true)
    {f19 : Addr} {od19 an19 : Option Addr} {sl19 : Array (Option Value)} {oc19 kV19 dc19 pm19 cd19 ct19 : Value}
    (a19 : PySem.W.nsIn K mainGlobals "law" = some (some (.ref f19))) (l19 : K.lookup f19 = some ⟨oc19, od19, .func (PySem.W.fnOf "law" "law" (defArgs s_law) (defBody s_law) (defScope s_law) .none kV19 dc19 pm19 an19 cd19 ct19), sl19⟩) (c19 : PySem.W.codeIn K cd19 "law" = true) (k19 : PySem.W.keepIn K (.ref f19) = true)
    (z_abs : PySem.W.nsIn K mainGlobals "abs" = some none)
    (z_enumerate : PySem.W.nsIn K mainGlobals "enumerate" = some none)
    (z_int : PySem.W.nsIn K mainGlobals "int" = some none)
    (z_len : PySem.W.nsIn K mainGlobals "len" = some none)
    (z_min : PySem.W.nsIn K mainGlobals "min" = some none)
    (z_range : PySem.W.nsIn K mainGlobals "range" = some none)
    (z_sorted : PySem.W.nsIn K mainGlobals "sorted" = some none)
    (z_sum : PySem.W.nsIn K mainGlobals "sum" = some none)
    (z_tuple : PySem.W.nsIn K mainGlobals "tuple" = some none)
    (z_zip : PySem.W.nsIn K mainGlobals "zip" = some none)
    : ∃ fd : FuncData, (∀ (s : Shared) (v : Value), BindsTo s fd ⟨[v], []⟩ [("_law_script", v)]) ∧ ∀ base : Heap, K.In base → base.Ns mainGlobals mg → FnOk l.prog w K mg base CX0 5 fa fd ["_law_script"] (spLaw K) := by
  have e := hfa.symm.trans (PySem.W.mg_of X G a19)
  cases e
  exact ⟨_, fun s v => .of_eq rfl, fun base _ _ => ok_law (k := 0) {
      f_apart := f0, d_apart := _, F_apart := fun_mk (st := s_apart) l0 c0 k0, b_apart := (fun_mk (st := s_apart) l0 c0 k0).binds (ps := ["one", "other"]) fun _ _ _ _ _ _ us hl => match us, hl with | [_, _], _ => rfl, g_apart := PySem.W.mg_of X G a0,
      f_nearest := f1, d_nearest := _, F_nearest := fun_mk (st := s_nearest) l1 c1 k1, b_nearest := (fun_mk (st := s_nearest) l1 c1 k1).binds (ps := ["palette", "colour"]) fun _ _ _ _ _ _ us hl => match us, hl with | [_, _], _ => rfl, g_nearest := PySem.W.mg_of X G a1,
      f_counts_in := f2, d_counts_in := _, F_counts_in := fun_mk (st := s_counts_in) l2 c2 k2, b_counts_in := (fun_mk (st := s_counts_in) l2 c2 k2).binds (ps := ["picture"]) fun _ _ _ _ _ _ us hl => match us, hl with | [_], _ => rfl, g_counts_in := PySem.W.mg_of X G a2,
      f_most_used := f3, d_most_used := _, F_most_used := fun_mk (st := s_most_used) l3 c3 k3, b_most_used := (fun_mk (st := s_most_used) l3 c3 k3).binds (ps := ["picture", "many"]) fun _ _ _ _ _ _ us hl => match us, hl with | [_, _], _ => rfl, g_most_used := PySem.W.mg_of X G a3,
      f_numbers_by := f4, d_numbers_by := _, F_numbers_by := fun_mk (st := s_numbers_by) l4 c4 k4, b_numbers_by := (fun_mk (st := s_numbers_by) l4 c4 k4).binds (ps := ["picture", "palette"]) fun _ _ _ _ _ _ us hl => match us, hl with | [_, _], _ => rfl, g_numbers_by := PySem.W.mg_of X G a4,
      f_painted := f5, d_painted := _, F_painted := fun_mk (st := s_painted) l5 c5 k5, b_painted := (fun_mk (st := s_painted) l5 c5 k5).binds (ps := ["numbers", "palette"]) fun _ _ _ _ _ _ us hl => match us, hl with | [_, _], _ => rfl, g_painted := PySem.W.mg_of X G a5,
      f_lost_in := f6, d_lost_in := _, F_lost_in := fun_mk (st := s_lost_in) l6 c6 k6, b_lost_in := (fun_mk (st := s_lost_in) l6 c6 k6).binds (ps := ["picture", "other"]) fun _ _ _ _ _ _ us hl => match us, hl with | [_, _], _ => rfl, g_lost_in := PySem.W.mg_of X G a6,
      f_l_mix := f7, d_l_mix := _, F_l_mix := fun_mk (st := s_l_mix) l7 c7 k7, b_l_mix := (fun_mk (st := s_l_mix) l7 c7 k7).binds (ps := ["_law_cell", "_law_k"]) fun _ _ _ _ _ _ us hl => match us, hl with | [_, _], _ => rfl, g_l_mix := PySem.W.mg_of X G a7,
      f_l_left := f8, d_l_left := _, F_l_left := fun_mk (st := s_l_left) l8 c8 k8, b_l_left := (fun_mk (st := s_l_left) l8 c8 k8).binds (ps := ["_law_script", "_law_k"]) fun _ _ _ _ _ _ us hl => match us, hl with | [_, _], _ => rfl, g_l_left := PySem.W.mg_of X G a8,
      f_l_pick := f9, d_l_pick := _, F_l_pick := fun_mk (st := s_l_pick) l9 c9 k9, b_l_pick := (fun_mk (st := s_l_pick) l9 c9 k9).binds (ps := ["_law_left_here", "_law_many"]) fun _ _ _ _ _ _ us hl => match us, hl with | [_, _], _ => rfl, g_l_pick := PySem.W.mg_of X G a9,
      f_l_kind := f10, d_l_kind := _, F_l_kind := fun_mk (st := s_l_kind) l10 c10 k10, b_l_kind := (fun_mk (st := s_l_kind) l10 c10 k10).binds (ps := ["_law_left_here"]) fun _ _ _ _ _ _ us hl => match us, hl with | [_], _ => rfl, g_l_kind := PySem.W.mg_of X G a10,
      f_l_colour := f11, d_l_colour := _, F_l_colour := fun_mk (st := s_l_colour) l11 c11 k11, b_l_colour := (fun_mk (st := s_l_colour) l11 c11 k11).binds (ps := ["_law_left_here", "_law_kind_here"]) fun _ _ _ _ _ _ us hl => match us, hl with | [_, _], _ => rfl, g_l_colour := PySem.W.mg_of X G a11,
      f_l_palette := f12, d_l_palette := _, F_l_palette := fun_mk (st := s_l_palette) l12 c12 k12, b_l_palette := (fun_mk (st := s_l_palette) l12 c12 k12).binds (ps := ["_law_left_here", "_law_kind_here"]) fun _ _ _ _ _ _ us hl => match us, hl with | [_, _], _ => rfl, g_l_palette := PySem.W.mg_of X G a12,
      f_l_picture := f13, d_l_picture := _, F_l_picture := fun_mk (st := s_l_picture) l13 c13 k13, b_l_picture := (fun_mk (st := s_l_picture) l13 c13 k13).binds (ps := ["_law_left_here", "_law_kind_here"]) fun _ _ _ _ _ _ us hl => match us, hl with | [_, _], _ => rfl, g_l_picture := PySem.W.mg_of X G a13,
      f_l_apart := f14, d_l_apart := _, F_l_apart := fun_mk (st := s_l_apart) l14 c14 k14, b_l_apart := (fun_mk (st := s_l_apart) l14 c14 k14).binds (ps := ["_law_one", "_law_other"]) fun _ _ _ _ _ _ us hl => match us, hl with | [_, _], _ => rfl, g_l_apart := PySem.W.mg_of X G a14,
      f_l_all_tellings := f15, d_l_all_tellings := _, F_l_all_tellings := fun_mk (st := s_l_all_tellings) l15 c15 k15, b_l_all_tellings := (fun_mk (st := s_l_all_tellings) l15 c15 k15).binds (ps := ["_law_many", "_law_wide"]) fun _ _ _ _ _ _ us hl => match us, hl with | [_, _], _ => rfl, g_l_all_tellings := PySem.W.mg_of X G a15,
      f_l_piece_right := f16, d_l_piece_right := _, F_l_piece_right := fun_mk (st := s_l_piece_right) l16 c16 k16, b_l_piece_right := (fun_mk (st := s_l_piece_right) l16 c16 k16).binds (ps := ["_law_spots", "_law_few"]) fun _ _ _ _ _ _ us hl => match us, hl with | [_, _], _ => rfl, g_l_piece_right := PySem.W.mg_of X G a16,
      f_l_no_other := f17, d_l_no_other := _, F_l_no_other := fun_mk (st := s_l_no_other) l17 c17 k17, b_l_no_other := (fun_mk (st := s_l_no_other) l17 c17 k17).binds (ps := ["_law_picture_here", "_law_palette_here", "_law_numbers"]) fun _ _ _ _ _ _ us hl => match us, hl with | [_, _, _], _ => rfl, g_l_no_other := PySem.W.mg_of X G a17,
      f_l_counts_right := f18, d_l_counts_right := _, F_l_counts_right := fun_mk (st := s_l_counts_right) l18 c18 k18, b_l_counts_right := (fun_mk (st := s_l_counts_right) l18 c18 k18).binds (ps := ["_law_picture_here", "_law_palette_here", "_law_lost"]) fun _ _ _ _ _ _ us hl => match us, hl with | [_, _, _], _ => rfl, g_l_counts_right := PySem.W.mg_of X G a18,
      z_abs := PySem.W.mg_none_of X G z_abs,
      z_enumerate := PySem.W.mg_none_of X G z_enumerate,
      z_int := PySem.W.mg_none_of X G z_int,
      z_len := PySem.W.mg_none_of X G z_len,
      z_min := PySem.W.mg_none_of X G z_min,
      z_range := PySem.W.mg_none_of X G z_range,
      z_sorted := PySem.W.mg_none_of X G z_sorted,
      z_sum := PySem.W.mg_none_of X G z_sum,
      z_tuple := PySem.W.mg_none_of X G z_tuple,
      z_zip := PySem.W.mg_none_of X G z_zip } (fun_mk (st := s_law) l19 c19 k19) (by decide)⟩
end Z
open PySem PySem.W PyProof.Rows
set_option maxHeartbeats 0 in
theorem PySem.Challenge.cw_fewcolours_k82_whole_told_with_the_least_holds : PySem.Challenge.rw_fewcolours_k82_whole_told_with_the_least.Holds := by
  w_on; o_law; k_head; (case hw => w_witness2)
  k_fill
  refine L2.walk_of (l := PySem.Challenge.rw_fewcolours_k82_whole_told_with_the_least) (n := 63) (k := 5) (x := "_law_script") (CX := fun _ => L2.CX0) (sp := fun w => Z.spLaw _) rfl (by decide) rfl ⟨rfl, by decide, by decide⟩ (fun w h Y => PySem.W.kIn_of Y) ?F (fun _ _ a ns hl _ hS => ⟨a, ns, rfl, hS, hl, fun _ => rfl⟩) (fun _ _ _ _ _ h => h)
  case F =>
    intro w mg fa h KX G hmg
    refine' Z.all_mk KX G hmg ?a0 ?l0 ?c0 ?k0 ?a1 ?l1 ?c1 ?k1 ?a2 ?l2 ?c2 ?k2 ?a3 ?l3 ?c3 ?k3 ?a4 ?l4 ?c4 ?k4 ?a5 ?l5 ?c5 ?k5 ?a6 ?l6 ?c6 ?k6 ?a7 ?l7 ?c7 ?k7 ?a8 ?l8 ?c8 ?k8 ?a9 ?l9 ?c9 ?k9 ?a10 ?l10 ?c10 ?k10 ?a11 ?l11 ?c11 ?k11 ?a12 ?l12 ?c12 ?k12 ?a13 ?l13 ?c13 ?k13 ?a14 ?l14 ?c14 ?k14 ?a15 ?l15 ?c15 ?k15 ?a16 ?l16 ?c16 ?k16 ?a17 ?l17 ?c17 ?k17 ?a18 ?l18 ?c18 ?k18 ?a19 ?l19 ?c19 ?k19 ?z_abs ?z_enumerate ?z_int ?z_len ?z_min ?z_range ?z_sorted ?z_sum ?z_tuple ?z_zip
    case a0 => k_is
    case l0 => k_is
    case c0 => k_is
    case k0 => k_is
    case a1 => k_is
    case l1 => k_is
    case c1 => k_is
    case k1 => k_is
    case a2 => k_is
    case l2 => k_is
    case c2 => k_is
    case k2 => k_is
    case a3 => k_is
    case l3 => k_is
    case c3 => k_is
    case k3 => k_is
    case a4 => k_is
    case l4 => k_is
    case c4 => k_is
    case k4 => k_is
    case a5 => k_is
    case l5 => k_is
    case c5 => k_is
    case k5 => k_is
    case a6 => k_is
    case l6 => k_is
    case c6 => k_is
    case k6 => k_is
    case a7 => k_is
    case l7 => k_is
    case c7 => k_is
    case k7 => k_is
    case a8 => k_is
    case l8 => k_is
    case c8 => k_is
    case k8 => k_is
    case a9 => k_is
    case l9 => k_is
    case c9 => k_is
    case k9 => k_is
    case a10 => k_is
    case l10 => k_is
    case c10 => k_is
    case k10 => k_is
    case a11 => k_is
    case l11 => k_is
    case c11 => k_is
    case k11 => k_is
    case a12 => k_is
    case l12 => k_is
    case c12 => k_is
    case k12 => k_is
    case a13 => k_is
    case l13 => k_is
    case c13 => k_is
    case k13 => k_is
    case a14 => k_is
    case l14 => k_is
    case c14 => k_is
    case k14 => k_is
    case a15 => k_is
    case l15 => k_is
    case c15 => k_is
    case k15 => k_is
    case a16 => k_is
    case l16 => k_is
    case c16 => k_is
    case k16 => k_is
    case a17 => k_is
    case l17 => k_is
    case c17 => k_is
    case k17 => k_is
    case a18 => k_is
    case l18 => k_is
    case c18 => k_is
    case k18 => k_is
    case a19 => k_is
    case l19 => k_is
    case c19 => k_is
    case k19 => k_is
    case z_abs => k_is
    case z_enumerate => k_is
    case z_int => k_is
    case z_len => k_is
    case z_min => k_is
    case z_range => k_is
    case z_sorted => k_is
    case z_sum => k_is
    case z_tuple => k_is
    case z_zip => k_is

