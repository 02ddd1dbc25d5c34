import PyProof.Rows.All
import Wide.All
import OpenK.AllK
import Wide.FinOn
import HandS.ForMost
import HandS.Zip
import HandS.IsInst
import HandS.TupAny
import HandS.SortRule
import HandS.Style
import HandS.Walk
import HandS.Evl
import KE.DataMinMax
import HandS.TryOnly
import HandS.Conv
import PySem.Challenge.RW_fewcolours_k68_what_a_change_costs
set_option Elab.async false
set_option linter.all false
set_option maxRecDepth 100000
namespace Z
open PySem PySem.Spec PyProof.Rows L2
/-! ### heaps but for some addresses -/
def Dom (H H' : Hp) : Prop := ∀ a, H a ≠ none → H' a ≠ none
structure Go (B : List Addr) (H H' : Hp) : Prop where
  k : ∀ a o, a ∉ B → H a = some o → H' a = some o
  d : Dom H H'
def Bk (B : List Addr) (H : Hp) : Prop := ∀ a ∈ B, H a ≠ none
section
variable {B C : List Addr} {H H' H1 H2 : Hp} {p L : Addr} {o : HO}
theorem dom_new : Dom H (upd H p o) := fun a h => by
  by_cases e : a = p
  · subst e
    rw [upd_same]
    exact fun z => nomatch z
  · rw [upd_ne e]
    exact h
theorem dom_mut (d : Dom H H') : Dom H (upd H' p o) := fun a h => dom_new a (d a h)
theorem Go.refl : Go B H H := ⟨fun _ _ _ h => h, fun _ h => h⟩
theorem Go.trans (a : Go B H H1) (b : Go B H1 H2) : Go B H H2 := ⟨fun c o n h => b.k c o n (a.k c o n h), fun c h => b.d c (a.d c h)⟩
theorem same_dom (s : Same H H') : Dom H H' := fun a h => by
  cases q : H a with
  | none => exact absurd q h
  | some o => rw [s a o q]; exact fun z => nomatch z
theorem Go.of (s : Same H H') : Go B H H' := ⟨fun a o _ h => s a o h, same_dom s⟩
theorem Go.new (h : H p = none) : Go B H (upd H p o) := ⟨fun a u _ e => by
  rw [upd_ne (ne_of_none e h)]
  exact e, dom_new⟩
theorem Go.mut (g : Go B H H') (h : H p = none) : Go B H (upd H' p o) := ⟨fun a u n e => by
  rw [upd_ne (ne_of_none e h)]
  exact g.k a u n e, dom_mut g.d⟩
theorem Go.at (g : Go B H H') (h : p ∈ B) : Go B H (upd H' p o) := ⟨fun a u n e => by
  rw [upd_ne (show a ≠ p from fun z => n (by rw [z]; exact h))]
  exact g.k a u n e, dom_mut g.d⟩
theorem Go.w (g : Go C H H') (s : ∀ a ∈ C, a ∈ B) : Go B H H' := ⟨fun a o n h => g.k a o (fun q => n (s a q)) h, g.d⟩
theorem Go.w1 (g : Go [L] H H') (s : L ∈ B) : Go B H H' := g.w fun a h => by rw [List.mem_singleton.mp h]; exact s
theorem Go.free (g : Go B H H') (h : H' p = none) : H p = none := by
  cases q : H p with
  | none => rfl
  | some o => exact absurd h (g.d p (by rw [q]; exact fun z => nomatch z))
theorem Bk.go (b : Bk B H) (g : Go C H H') : Bk B H' := fun a h => g.d a (b a h)
theorem Bk.ne (b : Bk B H) (h : H p = none) : p ∉ B := fun q => b p q h
theorem Bk.cons (b : Bk B H) (h : H p = some o) : Bk (p :: B) H := fun a q => by
  rcases List.mem_cons.mp q with e | e
  · subst e
    rw [h]
    exact fun z => nomatch z
  · exact b a e
theorem Bk.up (b : Bk B H) : Bk B (upd H p o) := fun a h => dom_new a (b a h)
theorem sm_new (h : H p = none) : Same H (upd H p o) := fun b x e => by
  rw [upd_ne (ne_of_none e h)]
  exact e
theorem sm_mut (s : Same H H') (h : H p = none) : Same H (upd H' p o) := fun b x e => by
  rw [upd_ne (ne_of_none e h)]
  exact s b x e
/-- what was new behind H, and is in B, may change -/
theorem Go.sm (g : Go B H1 H2) (s : Same H H1) (n : ∀ a ∈ B, H a = none) : Same H H2 := fun a o h => g.k a o (fun q => by rw [n a q] at h; cases h) (s a o h)
theorem Go.cons (g : Go (p :: B) H1 H2) (s : Go B H H1) (h : H p = none) : Go B H H2 := ⟨fun a o n e => g.k a o (fun q => by
  rcases List.mem_cons.mp q with z | z
  · rw [z, h] at e
    cases e
  · exact n z) (s.k a o n e), fun a e => g.d a (s.d a e)⟩
end
/-! ### the list that is drawn from -/
def Lf (L : Addr) (H : Hp) (n : Nat) : Prop := ∃ a b c : Int, H L = some (.lst [.int a, .int b, .int c]) ∧ 0 ≤ a ∧ 0 ≤ c ∧ c ≤ (n : Int)
section
variable {L p : Addr} {H H' : Hp} {n m : Nat} {o : HO} {B : List Addr}
theorem Lf.mono (h : Lf L H n) (l : n ≤ m) : Lf L H m := by
  obtain ⟨a, b, c, e, h1, h2, h3⟩ := h
  exact ⟨a, b, c, e, h1, h2, by omega⟩
theorem Lf.same (h : Lf L H n) (s : Same H H') : Lf L H' n := by
  obtain ⟨a, b, c, e, h1, h2, h3⟩ := h
  exact ⟨a, b, c, s _ _ e, h1, h2, h3⟩
theorem Lf.go (h : Lf L H n) (g : Go B H H') (i : L ∉ B) : Lf L H' n := by
  obtain ⟨a, b, c, e, h1, h2, h3⟩ := h
  exact ⟨a, b, c, g.k _ _ i e, h1, h2, h3⟩
theorem Lf.ne (h : Lf L H n) (e : H p = none) : p ≠ L := fun q => by
  obtain ⟨a, b, c, e', _⟩ := h
  rw [q, e'] at e
  cases e
theorem Lf.up (h : Lf L H n) (e : p ≠ L) : Lf L (upd H p o) n := by
  obtain ⟨a, b, c, e', h1, h2, h3⟩ := h
  refine ⟨a, b, c, ?_, h1, h2, h3⟩
  rw [upd_ne (Ne.symm e)]
  exact e'
theorem Lf.new (h : Lf L H n) (e : H p = none) : Lf L (upd H p o) n := h.up (h.ne e)
theorem Lf.bk (h : Lf L H n) : Bk [L] H := fun a q => by
  obtain ⟨_, _, _, e, _⟩ := h
  rw [List.mem_singleton.mp q, e]
  exact fun z => nomatch z
end
/-! ### data apart from some addresses -/
mutual
inductive Dt (B : List Addr) (H : Hp) : V → PyData → Prop
  | non : Dt B H .non .none
  | bl (b : Bool) : Dt B H (.bl b) (.bool b)
  | int (i : Int) : Dt B H (.int i) (.int i)
  | str (x : Str) : Dt B H (.str x) (.str x)
  | lst {a : Addr} {xs : List V} {ds : List PyData} : a ∉ B → H a = some (.lst xs) → DtA B H xs ds → Dt B H (.ref a) (.list ds)
  | tup {a : Addr} {xs : List V} {ds : List PyData} : a ∉ B → H a = some (.tup xs) → DtA B H xs ds → Dt B H (.ref a) (.tuple ds)
inductive DtA (B : List Addr) (H : Hp) : List V → List PyData → Prop
  | nil : DtA B H [] []
  | cons {v : V} {vs : List V} {d : PyData} {ds : List PyData} : Dt B H v d → DtA B H vs ds → DtA B H (v :: vs) (d :: ds)
end
section
variable {B C : List Addr} {H H' : Hp} {p L : Addr}
mutual
/-- the general way from one to another -/
theorem Dt.to (f : ∀ a o, a ∉ B → H a = some o → a ∉ C ∧ H' a = some o) : ∀ (d : PyData) (v : V), Dt B H v d → Dt C H' v d
  | .none, _, h => by cases h; exact .non
  | .bool b, _, h => by cases h; exact .bl b
  | .int i, _, h => by cases h; exact .int i
  | .str x, _, h => by cases h; exact .str x
  | .list ds, _, h => by
    cases h with
    | lst n hs ha => exact .lst (f _ _ n hs).1 (f _ _ n hs).2 (DtA.to f ds _ ha)
  | .tuple ds, _, h => by
    cases h with
    | tup n hs ha => exact .tup (f _ _ n hs).1 (f _ _ n hs).2 (DtA.to f ds _ ha)
  | .dict _, _, h => by cases h
theorem DtA.to (f : ∀ a o, a ∉ B → H a = some o → a ∉ C ∧ H' a = some o) : ∀ (ds : List PyData) (vs : List V), DtA B H vs ds → DtA C H' vs ds
  | [], _, h => by cases h; exact .nil
  | d :: ds, _, h => by
    cases h with
    | cons h1 h2 => exact .cons (Dt.to f d _ h1) (DtA.to f ds _ h2)
end
mutual
theorem Dt.dp {K : PySem.W.Frag} : ∀ (d : PyData) (v : V), Dt B H v d → Dp K H v d
  | .none, _, h => by cases h; exact .non
  | .bool b, _, h => by cases h; exact .bl b
  | .int i, _, h => by cases h; exact .int i
  | .str x, _, h => by cases h; exact .str x
  | .list ds, _, h => by
    cases h with
    | lst n hs ha => exact .lst (SqL.of hs) (DtA.dp ds _ ha)
  | .tuple ds, _, h => by
    cases h with
    | tup n hs ha => exact .tup (SqT.of hs) (DtA.dp ds _ ha)
  | .dict _, _, h => by cases h
theorem DtA.dp {K : PySem.W.Frag} : ∀ (ds : List PyData) (vs : List V), DtA B H vs ds → DpAll K H vs ds
  | [], _, h => by cases h; exact .nil
  | d :: ds, _, h => by
    cases h with
    | cons h1 h2 => exact .cons (Dt.dp d _ h1) (DtA.dp ds _ h2)
end
variable {d : PyData} {v : V} {ds : List PyData} {vs ws : List V}
theorem Dt.g (h : Dt B H v d) (g : Go B H H') : Dt B H' v d := Dt.to (fun a o n e => ⟨n, g.k a o n e⟩) d v h
theorem DtA.g (h : DtA B H vs ds) (g : Go B H H') : DtA B H' vs ds := DtA.to (fun a o n e => ⟨n, g.k a o n e⟩) ds vs h
theorem Dt.s (h : Dt B H v d) (s : Same H H') : Dt B H' v d := h.g (Go.of s)
theorem DtA.s (h : DtA B H vs ds) (s : Same H H') : DtA B H' vs ds := h.g (Go.of s)
/-- a new address may change, too -/
theorem Dt.fr (h : Dt B H v d) (e : H p = none) : Dt (p :: B) H v d := Dt.to (fun a o n q => ⟨fun z => by
  rcases List.mem_cons.mp z with y | y
  · rw [y, e] at q
    cases q
  · exact n y, q⟩) d v h
theorem DtA.fr (h : DtA B H vs ds) (e : H p = none) : DtA (p :: B) H vs ds := DtA.to (fun a o n q => ⟨fun z => by
  rcases List.mem_cons.mp z with y | y
  · rw [y, e] at q
    cases q
  · exact n y, q⟩) ds vs h
theorem Dt.un (h : Dt (p :: B) H v d) : Dt B H v d := Dt.to (fun a o n q => ⟨fun z => n (List.mem_cons_of_mem _ z), q⟩) d v h
theorem DtA.un (h : DtA (p :: B) H vs ds) : DtA B H vs ds := DtA.to (fun a o n q => ⟨fun z => n (List.mem_cons_of_mem _ z), q⟩) ds vs h
theorem Dt.sub (h : Dt B H v d) (s : ∀ a ∈ C, a ∈ B) : Dt C H v d := Dt.to (fun a o n q => ⟨fun z => n (s a z), q⟩) d v h
theorem DtA.sub (h : DtA B H vs ds) (s : ∀ a ∈ C, a ∈ B) : DtA C H vs ds := DtA.to (fun a o n q => ⟨fun z => n (s a z), q⟩) ds vs h
theorem Dt.dP {K : PySem.W.Frag} (h : Dt B H v d) : Dp K H v d := Dt.dp d v h
theorem DtA.len {vs : List V} : ∀ {ds : List PyData}, DtA B H vs ds → vs.length = ds.length := by
  induction vs with
  | nil => intro ds h; cases h; rfl
  | cons v vs ih => intro ds h; cases h with | cons h1 h2 => rw [List.length_cons, List.length_cons, ih h2]
theorem DtA.get {vs : List V} : ∀ {ds : List PyData} {i : Nat} {d : PyData}, DtA B H vs ds → ds[i]? = some d → ∃ v, vs[i]? = some v ∧ Dt B H v d := by
  induction vs with
  | nil => intro ds i d h e; cases h; simp at e
  | cons v vs ih =>
    intro ds i d h e
    cases h with
    | cons h1 h2 =>
      cases i with
      | zero => cases e; exact ⟨v, rfl, h1⟩
      | succ i => exact ih (i := i) h2 (by simpa using e)
theorem DtA.getV {vs : List V} : ∀ {ds : List PyData} {i : Nat} {v : V}, DtA B H vs ds → vs[i]? = some v → ∃ d, ds[i]? = some d ∧ Dt B H v d := by
  induction vs with
  | nil => intro ds i d h e; simp at e
  | cons v vs ih =>
    intro ds i d h e
    cases h with
    | cons h1 h2 =>
      cases i with
      | zero => cases e; exact ⟨_, rfl, h1⟩
      | succ i => exact ih (i := i) h2 (by simpa using e)
theorem DtA.app {vs ws : List V} : ∀ {ds es : List PyData}, DtA B H vs ds → DtA B H ws es → DtA B H (vs ++ ws) (ds ++ es) := by
  induction vs with
  | nil => intro ds es h h2; cases h; exact h2
  | cons v vs ih =>
    intro ds es h h2
    cases h with
    | cons h1 h3 => exact .cons h1 (ih h3 h2)
theorem DtA.one (h : Dt B H v d) : DtA B H [v] [d] := .cons h .nil
theorem DtA.ints : ∀ ns : List Int, DtA B H (ns.map V.int) (ns.map PyData.int)
  | [] => .nil
  | n :: ns => .cons (.int n) (DtA.ints ns)
theorem DtA.intsV : ∀ {ns : List Int} {vs : List V}, DtA B H vs (ns.map PyData.int) → vs = ns.map V.int
  | [], _, h => by cases h; rfl
  | n :: ns, _, h => by
    cases h with
    | cons h1 h2 =>
      cases h1
      rw [DtA.intsV h2]
      rfl
theorem DtA.blsV : ∀ {ns : List Bool} {vs : List V}, DtA B H vs (ns.map PyData.bool) → vs = ns.map V.bl
  | [], _, h => by cases h; rfl
  | n :: ns, _, h => by
    cases h with
    | cons h1 h2 =>
      cases h1
      rw [DtA.blsV h2]
      rfl
/-- a colour; a list of ints; a palette -/
def eC (ns : List Int) : PyData := .tuple (ns.map .int)
def eI (ns : List Int) : PyData := .list (ns.map .int)
def eP (cs : List (List Int)) : PyData := .list (cs.map eC)
theorem Dt.col {v : V} {ns : List Int} (h : Dt B H v (eC ns)) : ∃ a, v = .ref a ∧ a ∉ B ∧ H a = some (.tup (ns.map V.int)) := by
  cases h with
  | tup n hs ha =>
    have e := DtA.intsV ha
    subst e
    exact ⟨_, rfl, n, hs⟩
theorem Dt.ofCol {a : Addr} {ns : List Int} (n : a ∉ B) (h : H a = some (.tup (ns.map V.int))) : Dt B H (.ref a) (eC ns) := .tup n h (DtA.ints ns)
theorem Dt.ofInts {a : Addr} {ns : List Int} (n : a ∉ B) (h : H a = some (.lst (ns.map V.int))) : Dt B H (.ref a) (eI ns) := .lst n h (DtA.ints ns)
theorem Dt.ints {v : V} {ns : List Int} (h : Dt B H v (eI ns)) : ∃ a, v = .ref a ∧ a ∉ B ∧ H a = some (.lst (ns.map V.int)) := by
  cases h with
  | lst n hs ha =>
    have e := DtA.intsV ha
    subst e
    exact ⟨_, rfl, n, hs⟩
theorem Dt.tupI {v : V} {ds : List PyData} (h : Dt B H v (.tuple ds)) : ∃ a vs, v = .ref a ∧ a ∉ B ∧ H a = some (.tup vs) ∧ DtA B H vs ds := by
  cases h with
  | tup n hs ha => exact ⟨_, _, rfl, n, hs, ha⟩
theorem Dt.lstI {v : V} {ds : List PyData} (h : Dt B H v (.list ds)) : ∃ a vs, v = .ref a ∧ a ∉ B ∧ H a = some (.lst vs) ∧ DtA B H vs ds := by
  cases h with
  | lst n hs ha => exact ⟨_, _, rfl, n, hs, ha⟩
theorem Dt.pal {v : V} {cs : List (List Int)} (h : Dt B H v (eP cs)) : ∃ a vs, v = .ref a ∧ a ∉ B ∧ H a = some (.lst vs) ∧ DtA B H vs (cs.map eC) := Dt.lstI h
theorem Dt.intI {v : V} {i : Int} (h : Dt B H v (.int i)) : v = .int i := by
  cases h
  rfl
end
/-! ### the rules that speak of the written part, with it named -/
def rLenS (K : PySem.W.Frag) : List V → Hp → VK → Prop := fun xs H Q => ∃ p ys, xs = [.ref p] ∧ (SqL K H p ys ∨ SqT K H p ys) ∧ Q (.int ys.length) H
def rListOf (K : PySem.W.Frag) : List V → Hp → VK → Prop := fun xs H Q => ∃ p ys, xs = [.ref p] ∧ (SqL K H p ys ∨ SqT K H p ys) ∧ ∀ l, H l = none → Q (.ref l) (upd H l (.lst ys))
def rTupOf (K : PySem.W.Frag) : List V → Hp → VK → Prop := fun xs H Q => ∃ p ys, xs = [.ref p] ∧ ((SqL K H p ys ∧ ∀ l, H l = none → Q (.ref l) (upd H l (.tup ys))) ∨ (SqT K H p ys ∧ Q (.ref p) H))
section
variable (K : PySem.W.Frag) {X : Cx}
theorem ix_listK (h : X.K = K := by rfl) : IxR X (rIxL K) := h ▸ ix_list
theorem ix_tupK (h : X.K = K := by rfl) : IxR X (rIxT K) := h ▸ ix_tup
theorem sl_listK (h : X.K = K := by rfl) : SlR X (rSlL K) := h ▸ sl_list
theorem sl_tupAK (h : X.K = K := by rfl) : SlR X (rSlA K) := h ▸ sl_tupA
theorem op_catAK (h : X.K = K := by rfl) : OpR X (binaryOp .Add) (rCatA K) := h ▸ op_catA
theorem op_eqDK (hu : X.A.units + 64 < cLine) (h : X.K = K := by rfl) : OpR X (compareOp .Eq) (rEqD K) := h ▸ op_eqD hu
theorem op_neDK (hu : X.A.units + 64 < cLine) (h : X.K = K := by rfl) : OpR X (compareOp .NotEq) (rNeD K) := h ▸ op_neD hu
theorem len_K (h : X.K = K := by rfl) : CallR X (.builtin "len") (rLenS K) := h ▸ call_len_seq
theorem list_K (h : X.K = K := by rfl) : CallR X (.type "list") (rListOf K) := h ▸ call_list_of
theorem tuple_K (h : X.K = K := by rfl) : CallR X (.type "tuple") (rTupOf K) := h ▸ call_tuple_of
theorem cr_sumK (hc : X.calm = true) (h : X.K = K := by rfl) : CallR X (.builtin "sum") (rSum K) := h ▸ cr_sum hc
theorem cr_maxK (hc : X.calm = true) (h : X.K = K := by rfl) : CallR X (.builtin "max") (rMax K) := h ▸ cr_max hc
theorem cr_minK (hc : X.calm = true) (h : X.K = K := by rfl) : CallR X (.builtin "min") (rMin K) := h ▸ cr_min hc
theorem cr_anyK (hc : X.calm = true) (h : X.K = K := by rfl) : CallR X (.builtin "any") (rAny K) := h ▸ cr_any hc
theorem cr_allK (hc : X.calm = true) (h : X.K = K := by rfl) : CallR X (.builtin "all") (rAll K) := h ▸ cr_all hc
theorem call_isiK1 (h : X.K = K := by rfl) : CallR X (.builtin "isinstance") (rIsi K) := h ▸ call_isi
theorem call_isiTK (h : X.K = K := by rfl) : CallR X (.builtin "isinstance") (rIsiT K) := h ▸ call_isiT
theorem cr_sortedK (h : X.K = K := by rfl) : CallR X (.builtin "sorted") (rSortedPO K) := h ▸ cr_sortedPO
theorem mt_indexK (h : X.K = K := by rfl) : MtR X "list.index" (rIndex K) := h ▸ mt_index
theorem pi_listK {tg l : Expr} {tl : TE} (hl : PE X l tl) (h : X.K = K := by rfl) : PI X tg l (iList K tl) := h ▸ pi_list hl
theorem pg_tupK {pos : Pos} {es : List Expr} {kk : Nat} {t : TGs} {n : Nat} (hc : X.calm = true) (h : PGs X es t) (hn : (assignEach es X.env).length = n := by rfl) (hst : (assignEach es X.env).findIdx? (·.1) = none := by rfl) (h2 : X.K = K := by rfl) : PG X (.Tuple es kk pos) (gTup K n t) :=
  h2 ▸ pg_tup hc h hn hst
theorem pi_tupK {tg l : Expr} {tl : TE} (hl : PE X l tl) (h : X.K = K := by rfl) : PI X tg l (iTup K tl) := h ▸ pi_tup hl
end
/-! ### shapes -/
mutual
def wide : PyData → Bool
  | .none | .bool _ | .int _ | .str _ => true
  | .list xs | .tuple xs => decide (xs.length ≤ 100000) && wideAll xs
  | .dict _ => false
def wideAll : List PyData → Bool
  | [] => true
  | x :: xs => wide x && wideAll xs
end
def Sh (d : PyData) (k : Nat) : Prop := d.canLay0 = true ∧ d.depth ≤ k ∧ wide d = true
theorem sh_all : ∀ {ds : List PyData} {k : Nat}, (∀ d ∈ ds, Sh d k) → PyData.canLayAll0 ds = true ∧ PyData.depthAll ds ≤ k ∧ wideAll ds = true
  | [], _, _ => ⟨rfl, Nat.zero_le _, by rw [wideAll]⟩
  | d :: ds, k, h => by
    obtain ⟨h1, h2, h4⟩ := sh_all (ds := ds) (k := k) fun x hx => h x (List.mem_cons_of_mem _ hx)
    have h3 := h d (List.mem_cons_self ..)
    refine ⟨?_, ?_, ?_⟩
    · rw [PyData.canLayAll0, h1, h3.1]; rfl
    · rw [PyData.depthAll]
      exact Nat.max_le.mpr ⟨h3.2.1, h2⟩
    · rw [wideAll, h4, h3.2.2]; rfl
theorem sh_mem : ∀ {ds : List PyData} {k : Nat}, PyData.canLayAll0 ds = true → PyData.depthAll ds ≤ k → wideAll ds = true → ∀ d ∈ ds, Sh d k
  | [], _, _, _, _, _, h => nomatch h
  | d :: ds, k, h1, h2, h3, x, hx => by
    rw [PyData.canLayAll0] at h1
    rw [PyData.depthAll] at h2
    rw [wideAll] at h3
    have a := Bool.and_eq_true_iff.mp h1
    have b := Nat.max_le.mp h2
    have c := Bool.and_eq_true_iff.mp h3
    rcases List.mem_cons.mp hx with e | e
    · rw [e]; exact ⟨a.1, b.1, c.1⟩
    · exact sh_mem a.2 b.2 c.2 x e
theorem sh_tup {ds : List PyData} {k : Nat} (l : ds.length ≤ 100000) (h : ∀ d ∈ ds, Sh d k) : Sh (.tuple ds) (k + 1) := by
  obtain ⟨h1, h2, h3⟩ := sh_all h
  exact ⟨by rw [PyData.canLay0]; exact h1, by rw [PyData.depth]; omega, by rw [wide, h3, decide_eq_true l]; rfl⟩
theorem sh_lst {ds : List PyData} {k : Nat} (l : ds.length ≤ 100000) (h : ∀ d ∈ ds, Sh d k) : Sh (.list ds) (k + 1) := by
  obtain ⟨h1, h2, h3⟩ := sh_all h
  exact ⟨by rw [PyData.canLay0]; exact h1, by rw [PyData.depth]; omega, by rw [wide, h3, decide_eq_true l]; rfl⟩
theorem sh_int (i : Int) (k : Nat) : Sh (.int i) k := ⟨rfl, by rw [PyData.depth]; omega, by rw [wide]⟩
theorem sh_bool (i : Bool) (k : Nat) : Sh (.bool i) k := ⟨rfl, by rw [PyData.depth]; omega, by rw [wide]⟩
theorem sh_none (k : Nat) : Sh .none k := ⟨rfl, by rw [PyData.depth]; omega, by rw [wide]⟩
theorem sh_eC {ns : List Int} (l : ns.length ≤ 100000) : Sh (eC ns) 1 := sh_tup (by simpa using l) fun d hd => by
  obtain ⟨n, _, rfl⟩ := List.mem_map.mp hd
  exact sh_int n 0
theorem sh_eI {ns : List Int} (l : ns.length ≤ 100000) : Sh (eI ns) 1 := sh_lst (by simpa using l) fun d hd => by
  obtain ⟨n, _, rfl⟩ := List.mem_map.mp hd
  exact sh_int n 0
theorem sh_eP {cs : List (List Int)} (l : cs.length ≤ 100000) (h : ∀ c ∈ cs, c.length ≤ 100000) : Sh (eP cs) 2 := sh_lst (by simpa using l) fun d hd => by
  obtain ⟨n, m, rfl⟩ := List.mem_map.mp hd
  exact sh_eC (h n m)
theorem Sh.mono {d : PyData} {j k : Nat} (h : Sh d j) (l : j ≤ k) : Sh d k := ⟨h.1, Nat.le_trans h.2.1 l, h.2.2⟩
theorem Sh.sh {d : PyData} {k : Nat} (h : Sh d k) (l : k ≤ 64) : SeqAt.shaped d = true := by
  unfold SeqAt.shaped
  rw [h.1, decide_eq_true (Nat.le_trans h.2.1 l)]
  rfl
theorem Sh.tupI {ds : List PyData} {k : Nat} (h : Sh (.tuple ds) k) : ∃ j, k = j + 1 ∧ (∀ d ∈ ds, Sh d j) ∧ ds.length ≤ 100000 := by
  obtain ⟨h1, h2, h3⟩ := h
  rw [PyData.canLay0] at h1
  rw [PyData.depth] at h2
  rw [wide] at h3
  have c := Bool.and_eq_true_iff.mp h3
  exact ⟨k - 1, by omega, sh_mem h1 (by omega) c.2, of_decide_eq_true c.1⟩
theorem Sh.lstI {ds : List PyData} {k : Nat} (h : Sh (.list ds) k) : ∃ j, k = j + 1 ∧ (∀ d ∈ ds, Sh d j) ∧ ds.length ≤ 100000 := by
  obtain ⟨h1, h2, h3⟩ := h
  rw [PyData.canLay0] at h1
  rw [PyData.depth] at h2
  rw [wide] at h3
  have c := Bool.and_eq_true_iff.mp h3
  exact ⟨k - 1, by omega, sh_mem h1 (by omega) c.2, of_decide_eq_true c.1⟩
/-! ### isinstance -/
def tyn : PyData → String
  | .none => "NoneType" | .bool _ => "bool" | .int _ => "int" | .str _ => "str" | .list _ => "list" | .tuple _ => "tuple" | .dict _ => "dict"
theorem Dt.ty {K : PySem.W.Frag} {B : List Addr} {H : Hp} {v : V} {d : PyData} (h : Dt B H v d) : TyX K H v (.type (tyn d)) := by
  cases h with
  | non => exact .base .non
  | bl b => exact .base (.bl b)
  | int i => exact .base (.int i)
  | str x => exact .base (.str x)
  | lst n hs ha => exact .base (.lst hs)
  | tup n hs ha => exact .base (.tup hs)
theorem r_isi {K : PySem.W.Frag} {H : Hp} {Q : VK} {x : V} {t n : String} {b : Bool} (h : TyX K H x (.type t)) (e : kitB t n = some b) (q : Q (.bl b) H) : rIsi K [x, .ty n] H Q := ⟨x, .ty n, _, _, b, rfl, .ty n, h, kit_ty e, q⟩
theorem iteD {c A B : Prop} [Decidable c] (hc : c) (h : A) : if decide c = true then A else B := by
  rw [if_pos (decide_eq_true hc)]
  exact h
theorem iteE {A B : Prop} {c : Bool} (hc : c = true) (h : A) : if c = true then A else B := by
  rw [if_pos hc]
  exact h
theorem iteN {A B : Prop} {c : Bool} (hc : c = false) (h : B) : if c = true then A else B := by
  rw [hc, if_neg Bool.false_ne_true]
  exact h
/-! ### comprehensions -/
theorem lc_yes {te : TE} {σ : L2.St} {H : Hp} {Qy : VK} {N : Hp → Prop} (h : te σ H Qy) : tYes σ H (fun b H3 => if b = true then te σ H3 Qy else N H3) := by
  show if true = true then te σ H Qy else N H
  rw [if_pos rfl]
  exact h
theorem walk_zipT {K : PySem.W.Frag} {a b : Addr} {xs ys : List V} {n : Nat} (hn : n = min xs.length ys.length) : Walk (RZ.ItzT K a b) n (fun H => SqT K H a xs ∧ SqT K H b ys) (YPair (fun i => xs[i]?) (fun i => ys[i]?)) := by
  subst hn
  refine ⟨fun i _ hi q => ?_, fun _ q => ⟨xs, ys, q.1, q.2, by omega⟩, fun i H v H' _ q y => ?_⟩
  · have h1 : i < xs.length := by omega
    have h2 : i < ys.length := by omega
    exact ⟨xs, ys, xs[i], ys[i], q.1, q.2, by simp [h1], by simp [h2]⟩
  · obtain ⟨T, x, z, h1, h2, h3, h4, h5⟩ := y
    exact ⟨T, x, z, h1, h2, h3, h4 xs q.1, h5 ys q.2⟩
theorem sz {n : Nat} (h : n ≤ 100000) : n < sizeLine := Nat.lt_of_le_of_lt h (by decide)
/-- a comprehension that leaves all as it was: what it makes, item by item -/
theorem lc_pure {J : It} {n : Nat} {G : Hp → Prop} {Y : Nat → Hp → V → Hp → Prop} (w : Walk J n G Y) {g : TG} {tt : TT} {te : TE} {vs : List Nat} {σ : L2.St} {H1 : Hp} {D : Addr} {Qd : Hp → Prop} {B : List Addr}
    (hD : H1 D = none) (hB : Bk B H1) (hG : ∀ H', Same H1 H' → G H') (hn : n ≤ 100000) (e : Nat → Option PyData)
    (hs : ∀ (i : Nat) (x : V) (H' H'' : Hp) (Ny : V → Hp → Prop) (Nn : Hp → Prop), i < n → Same H1 H' → Bk (D :: B) H' → Y i H' x H'' → (∀ y H4 d, e i = some d → Same H' H4 → Dt (D :: B) H4 y d → Ny y H4) → (∀ H3, e i = none → Same H' H3 → Nn H3) →
      g x (wipe σ vs) H'' fun σ2 H2 => wipe σ2 vs = wipe σ vs ∧ tt σ2 H2 fun b H3 => if b = true then te σ2 H3 Ny else Nn H3)
    (hd : ∀ (H' : Hp) (ws : List V), Same H1 H' → H' D = some (.lst ws) → DtA (D :: B) H' ws ((List.range n).filterMap e) → Qd H') :
    ∃ W : Nat → Nat → Hp → Prop, (∃ m, W 0 m (upd H1 D (.lst []))) ∧ ∀ i m H, W i m H →
      (J.stop i H ∧ Qd H) ∨ (J.go i H ∧ ∃ Nx : Hp → Prop, (∀ H', Nx H' → ∃ m', m' < m ∧ W (i + 1) m' H') ∧ ∀ x H', J.yld i H x H' → g x (wipe σ vs) H' fun σ2 H2 => wipe σ2 vs = wipe σ vs ∧ tt σ2 H2 fun b H3 =>
        if b = true then te σ2 H3 fun y H4 => ∃ acc, H4 D = some (.lst acc) ∧ acc.length < sizeLine ∧ Nx (upd H4 D (.lst (acc ++ [y]))) else Nx H3) := by
  refine lc_it w (fun i H' => Same H1 H' ∧ ∃ ws, H' D = some (.lst ws) ∧ DtA (D :: B) H' ws ((List.range i).filterMap e) ∧ ws.length ≤ i) ⟨sm_new hD, [], upd_same, .nil, Nat.le_refl _⟩ (fun i H' _ h => hG H' h.1) (fun i x H' H'' hi h y => ?_) (fun H' h => ?_)
  · obtain ⟨s1, ws, eD, hA, hl⟩ := h
    have hb : Bk (D :: B) H' := (hB.go (Go.of (B := B) s1)).cons eD
    refine hs i x H' H'' _ _ hi s1 hb y (fun y H4 d ed s4 hy => ?_) (fun H3 ed s3 => ?_)
    · refine ⟨ws, s4 _ _ eD, sz (by omega), sm_mut (s1.trans s4) hD, ws ++ [y], upd_same, ?_, by simp; omega⟩
      rw [List.range_succ, List.filterMap_append]
      have g4 : Go (D :: B) H4 (upd H4 D (.lst (ws ++ [y]))) := Go.refl.at (List.mem_cons_self ..)
      refine DtA.app ((hA.s s4).g g4) ?_
      simp only [List.filterMap_cons, List.filterMap_nil, ed]
      exact .one (hy.g g4)
    · refine ⟨s1.trans s3, ws, s3 _ _ eD, ?_, by omega⟩
      rw [List.range_succ, List.filterMap_append]
      simp only [List.filterMap_cons, List.filterMap_nil, ed, List.append_nil]
      exact hA.s s3
  · obtain ⟨s1, ws, eD, hA, hl⟩ := h
    exact hd H' ws s1 eD hA
theorem fm_take {α : Type} (ys : List α) : ∀ n, (List.range n).filterMap (fun i => ys[i]?) = ys.take n
  | 0 => by simp
  | n + 1 => by
    rw [List.range_succ, List.filterMap_append, fm_take ys n, List.take_add_one]
    cases h : ys[n]? <;> simp [h]
theorem fm_all {α : Type} {ys : List α} {n : Nat} (h : ys.length = n) : (List.range n).filterMap (fun i => ys[i]?) = ys := by
  rw [fm_take, ← h, List.take_length]
theorem at0 {α : Type} {xs : List α} {i : Int} {v : α} (h : 0 ≤ i) (e : xs[i.toNat]? = some v) : atI xs i = some v := by
  have := atI_nat e
  rw [Int.toNat_of_nonneg h] at this
  exact this
theorem bit_ok (b : Bool) : (-(2 ^ 64) : Int) < (if b = true then 1 else 0) ∧ (if b = true then 1 else 0 : Int) < 2 ^ 64 := by cases b <;> decide
theorem md {j : Int} (h : 0 < j) : 0 < j := h
theorem at_in {xs : List V} {r : Int} (h0 : 0 ≤ r) (h1 : r < xs.length) : ∃ v, v ∈ xs ∧ atI xs r = some v := by
  have h : r.toNat < xs.length := by omega
  exact ⟨xs[r.toNat], List.getElem_mem h, at0 h0 (List.getElem?_eq_getElem h)⟩
theorem at_int {ns : List Int} {r : Int} (h0 : 0 ≤ r) (h1 : r < ns.length) : ∃ z, z ∈ ns ∧ atI (ns.map V.int) r = some (.int z) := by
  have h : r.toNat < ns.length := by omega
  exact ⟨ns[r.toNat], List.getElem_mem h, at0 h0 (by rw [List.getElem?_map, List.getElem?_eq_getElem h]; rfl)⟩
theorem at2 (x y : V) (b : Bool) : atI [x, y] (if b = true then 1 else 0) = some (if b = true then y else x) := by cases b <;> rfl
/-- numbers within bounds -/
def cIn (lo hi : Int) (ns : List Int) : Prop := ∀ x ∈ ns, lo ≤ x ∧ x ≤ hi
theorem cIn.app {lo hi x : Int} {ns : List Int} (h : cIn lo hi ns) (h1 : lo ≤ x) (h2 : x ≤ hi) : cIn lo hi (ns ++ [x]) := fun y hy => by
  rcases List.mem_append.mp hy with q | q
  · exact h y q
  · rw [List.mem_singleton.mp q]
    exact ⟨h1, h2⟩
theorem cIn.nil {lo hi : Int} : cIn lo hi [] := fun _ h => nomatch h
theorem cIn.mono {lo hi lo' hi' : Int} {ns : List Int} (h : cIn lo hi ns) (h1 : lo' ≤ lo) (h2 : hi ≤ hi') : cIn lo' hi' ns := fun x hx => by
  have := h x hx
  omega
/-- a comprehension of drawn numbers -/
theorem lc_ints {J : It} {n : Nat} {G : Hp → Prop} {Y : Nat → Hp → V → Hp → Prop} (w : Walk J n G Y) {g : TG} {tt : TT} {te : TE} {vs : List Nat} {σ : L2.St} {H1 : Hp} {D L : Addr} {Qd : Hp → Prop} (N u : Nat) (lo hi : Int)
    (hD : H1 D = none) (hL : Lf L H1 N) (hG : ∀ H', Go [L] H1 H' → G H') (hn : n ≤ 100000)
    (hs : ∀ (i : Nat) (x : V) (H' H'' : Hp) (Ny : V → Hp → Prop) (Nn : Hp → Prop), i < n → Go [L] H1 H' → Lf L H' (N + u * i) → Y i H' x H'' → (∀ (z : Int) H4, Go [L] H' H4 → Lf L H4 (N + u * i + u) → lo ≤ z → z ≤ hi → Ny (.int z) H4) →
      g x (wipe σ vs) H'' fun σ2 H2 => wipe σ2 vs = wipe σ vs ∧ tt σ2 H2 fun b H3 => if b = true then te σ2 H3 Ny else Nn H3)
    (hd : ∀ (H' : Hp) (ns : List Int), Go [L] H1 H' → Lf L H' (N + u * n) → H' D = some (.lst (ns.map V.int)) → ns.length = n → cIn lo hi ns → Qd H') :
    ∃ W : Nat → Nat → Hp → Prop, (∃ m, W 0 m (upd H1 D (.lst []))) ∧ ∀ i m H, W i m H →
      (J.stop i H ∧ Qd H) ∨ (J.go i H ∧ ∃ Nx : Hp → Prop, (∀ H', Nx H' → ∃ m', m' < m ∧ W (i + 1) m' H') ∧ ∀ x H', J.yld i H x H' → g x (wipe σ vs) H' fun σ2 H2 => wipe σ2 vs = wipe σ vs ∧ tt σ2 H2 fun b H3 =>
        if b = true then te σ2 H3 fun y H4 => ∃ acc, H4 D = some (.lst acc) ∧ acc.length < sizeLine ∧ Nx (upd H4 D (.lst (acc ++ [y]))) else Nx H3) := by
  have nD : D ∉ [L] := hL.bk.ne hD
  refine lc_it w (fun i H' => Go [L] H1 H' ∧ Lf L H' (N + u * i) ∧ ∃ ns : List Int, H' D = some (.lst (ns.map V.int)) ∧ ns.length = i ∧ cIn lo hi ns) ⟨Go.new hD, hL.new hD, [], upd_same, rfl, cIn.nil⟩ (fun i H' _ h => hG H' h.1) (fun i x H' H'' hi h y => ?_) (fun H' h => ?_)
  · obtain ⟨g1, l1, ns, eD, en, cn⟩ := h
    refine hs i x H' H'' _ _ hi g1 l1 y (fun z H4 g4 l4 z0 z1 => ?_)
    refine ⟨ns.map V.int, g4.k D _ nD eD, sz (by rw [List.length_map]; omega), (g1.trans g4).mut hD, (l4.up (hL.ne hD)).mono (by rw [Nat.mul_succ]; omega), ns ++ [z], ?_, by simp; omega, cn.app z0 z1⟩
    rw [upd_same, List.map_append]
    rfl
  · obtain ⟨g1, l1, ns, eD, en, cn⟩ := h
    exact hd H' ns g1 l1 eD en cn
theorem mat {a : List Int} {i : Nat} {x : V} (h : i < a.length) (e : (a.map V.int)[i]? = some x) : x = .int a[i] := by
  rw [List.getElem?_map, List.getElem?_eq_getElem h] at e
  exact (Option.some.inj e).symm
end Z

set_option Elab.async false
set_option linter.all false
set_option maxRecDepth 100000
namespace Z
open PySem PySem.Spec PyProof.Rows L2
open PySem.W (dataLt minD alike alikeAll dataLt_tuple dataLt_all_yes dataLt_all_no dataLt_int min_list_data readsAll_at reads_keeps AlikeAll)
/-! ### the least of pairs -/
def enc (p : Int × Int) : PyData := eC [p.1, p.2]
theorem enc_inj {p q : Int × Int} (h : enc p = enc q) : p = q := by
  have h1 : [PyData.int p.1, PyData.int p.2] = [PyData.int q.1, PyData.int q.2] := by
    unfold enc eC at h
    exact PyData.tuple.inj h
  have h2 := (List.cons.inj h1)
  have h3 := (List.cons.inj h2.2)
  exact Prod.ext (PyData.int.inj h2.1) (PyData.int.inj h3.1)
theorem lt_enc (p q : Int × Int) : dataLt (enc p) (enc q) = SrtO.lexB p q := by
  unfold enc eC
  rw [dataLt_tuple]
  simp only [List.map_cons, List.map_nil]
  unfold SrtO.lexB
  by_cases h : p.1 = q.1
  · rw [if_pos h, dataLt_all_yes (by rfl) (by simp [PyData.eqv, h])]
    by_cases h2 : p.2 = q.2
    · rw [dataLt_all_yes (by rfl) (by simp [PyData.eqv, h2]), decide_eq_false (by omega)]
      rfl
    · rw [dataLt_all_no (by rfl) (by simp [PyData.eqv, h2]), dataLt_int]
  · rw [if_neg h, dataLt_all_no (by rfl) (by simp [PyData.eqv, h]), dataLt_int]
def minP (p : Int × Int) (ps : List (Int × Int)) : Int × Int := ps.foldl (fun a y => if SrtO.lexB y a then y else a) p
theorem minD_enc (p : Int × Int) (ps : List (Int × Int)) : minD (enc p) (ps.map enc) = enc (minP p ps) := by
  unfold minD minP
  induction ps generalizing p with
  | nil => rfl
  | cons x r ih =>
    rw [List.map_cons, List.foldl_cons, List.foldl_cons, lt_enc]
    by_cases h : SrtO.lexB x p = true
    · rw [if_pos h, if_pos h]; exact ih x
    · rw [if_neg h, if_neg h]; exact ih p
theorem minP_le (p : Int × Int) (ps : List (Int × Int)) : ∀ q ∈ p :: ps, SrtO.lexB q (minP p ps) = false := by
  unfold minP
  induction ps generalizing p with
  | nil =>
    intro q hq
    rw [List.mem_singleton.mp hq]
    exact SrtO.lexB_no.mpr (by simp only [List.foldl_nil]; omega)
  | cons x r ih =>
    intro q hq
    rw [List.foldl_cons]
    by_cases h : SrtO.lexB x p = true
    · rw [if_pos h]
      rcases List.mem_cons.mp hq with e | e
      · have i1 := SrtO.lexB_no.mp (ih x x (List.mem_cons_self ..))
        have i2 := SrtO.lexB_iff.mp h
        rw [e]
        exact SrtO.lexB_no.mpr (by omega)
      · exact ih x q e
    · rw [if_neg h]
      rcases List.mem_cons.mp hq with e | e
      · exact ih p q (by rw [e]; exact List.mem_cons_self ..)
      · rcases List.mem_cons.mp e with e | e
        · have i1 := SrtO.lexB_no.mp (ih p p (List.mem_cons_self ..))
          have i2 := SrtO.lexB_no.mp (Bool.eq_false_iff.mpr h)
          rw [e]
          exact SrtO.lexB_no.mpr (by omega)
        · exact ih p q (List.mem_cons_of_mem _ e)
theorem alike_enc (p q : Int × Int) : alike (enc p) (enc q) = true := by
  unfold enc eC
  simp [alike, alikeAll]
theorem dep_enc : ∀ ps : List (Int × Int), PyData.depthAll (ps.map enc) ≤ 1
  | [] => Nat.zero_le _
  | p :: ps => by
    rw [List.map_cons, PyData.depthAll]
    exact Nat.max_le.mpr ⟨(sh_eC (ns := [p.1, p.2]) (by simp)).2.1, dep_enc ps⟩
/-- min(xs), xs a list of pairs of ints: one of the least -/
def rMinP (K : PySem.W.Frag) : List V → Hp → VK → Prop := fun vs H Q => ∃ (a : Addr) (xs : List V) (p : Int × Int) (ps : List (Int × Int)), vs = [V.ref a] ∧ SqL K H a xs ∧ DpAll K H xs ((p :: ps).map enc) ∧
  ∀ (i : Nat) (x : V), xs[i]? = some x → (p :: ps)[i]? = some (minP p ps) → Q x H
theorem cr_minP (K : PySem.W.Frag) {X : Cx} (hc : X.calm = true) (hu : X.A.units + 64 < cLine) (hK : X.K = K := by rfl) : CallR X (.builtin "min") (rMinP K) := by
  subst hK
  intro pins s σ H vs us Q I r h
  obtain ⟨a, xs, p, ps, rfl, hs, hd, q⟩ := h
  obtain ⟨its, rv, hl, hz⟩ := I.list hs
  obtain ⟨u, rfl, ru⟩ := vals1 r
  obtain rfl : u = Value.ref a := ru
  obtain ⟨as, hr⟩ := Dp.readsAll I _ xs its hd rv
  rw [List.map_cons] at hr
  have hdep := dep_enc (p :: ps)
  rw [List.map_cons] at hdep
  refine min_list_data (x := enc p) (xs := ps.map enc) (I.ok.hd hc) hl.isList (by simpa using hr) ⟨fun x hx y hy => ?_, fun x hx => ?_⟩ (by omega) fun i v h' tk bs hv rd hk => ?_
  · rw [← List.map_cons] at hx hy
    obtain ⟨x, _, rfl⟩ := List.mem_map.mp hx
    obtain ⟨y, _, rfl⟩ := List.mem_map.mp hy
    exact alike_enc x y
  · rw [← List.map_cons] at hx
    obtain ⟨x, _, rfl⟩ := List.mem_map.mp hx
    intro z
    unfold enc eC at z
    cases z
  · have hv2 : its[i]? = some v := by simpa using hv
    have hi : i < its.length := (List.getElem?_eq_some_iff.mp hv2).1
    have hi2 : i < xs.length := by rw [rv.length]; exact hi
    obtain ⟨w, hw, rw1⟩ := rv.get (List.getElem?_eq_getElem hi2)
    have ew : w = v := Option.some.inj (hw.symm.trans hv2)
    subst ew
    obtain ⟨cs, r1, l1, m1, _⟩ := readsAll_at hr i w hv2
    rw [← List.map_cons] at l1 m1 r1
    rw [List.length_map] at l1
    have eg : ((p :: ps).map enc).getD i .none = enc (p :: ps)[i] := by
      rw [List.getD_eq_getElem?_getD, List.getElem?_map, List.getElem?_eq_getElem l1]
      rfl
    rw [eg] at r1
    rw [minD_enc] at rd
    have ee := SeqAt.Reads.unique _ _ _ _ _ (sh_eC (ns := [((p :: ps)[i]).1, ((p :: ps)[i]).2]) (by simp)).1 (reads_keeps hk r1) rd
    have ep : (p :: ps)[i] = minP p ps := enc_inj ee
    exact ⟨xs[i], H, I.kept (t' := tk) hk, rw1, q i _ (List.getElem?_eq_getElem hi2) (by rw [List.getElem?_eq_getElem l1, ep])⟩
theorem DtA.rev {B : List Addr} {H : Hp} : ∀ {vs : List V} {ds : List PyData}, DtA B H vs ds → DtA B H vs.reverse ds.reverse
  | [], _, h => by
    cases h
    exact .nil
  | v :: vs, _, h => by
    cases h with
    | cons h1 h2 =>
      rw [List.reverse_cons, List.reverse_cons]
      exact (DtA.rev h2).app (.one h1)
theorem DtA.dP {K : PySem.W.Frag} {B : List Addr} {H : Hp} {vs : List V} {ds : List PyData} (h : DtA B H vs ds) : DpAll K H vs ds := DtA.dp ds vs h
/-- a comprehension of drawn data -/
theorem lc_dtsB {J : It} {n : Nat} {G : Hp → Prop} {Y : Nat → Hp → V → Hp → Prop} (w : Walk J n G Y) {g : TG} {tt : TT} {te : TE} {vs : List Nat} {σ : L2.St} {H1 : Hp} {D L : Addr} {B : List Addr} {Qd : Hp → Prop} (N u : Nat) (Pd : PyData → Prop)
    (hD : H1 D = none) (hL : Lf L H1 N) (LB : L ∈ B) (hB : Bk B H1) (hG : ∀ H', Go [L] H1 H' → G H') (hn : n ≤ 100000)
    (hs : ∀ (i : Nat) (x : V) (H' H'' : Hp) (Ny : V → Hp → Prop) (Nn : Hp → Prop), i < n → Go [L] H1 H' → Lf L H' (N + u * i) → Bk (D :: B) H' → Y i H' x H'' → (∀ (v : V) (d : PyData) H4, Go [L] H' H4 → Lf L H4 (N + u * i + u) → Dt (D :: B) H4 v d → Pd d → Ny v H4) →
      g x (wipe σ vs) H'' fun σ2 H2 => wipe σ2 vs = wipe σ vs ∧ tt σ2 H2 fun b H3 => if b = true then te σ2 H3 Ny else Nn H3)
    (hd : ∀ (H' : Hp) (ws : List V) (ds : List PyData), Go [L] H1 H' → Lf L H' (N + u * n) → H' D = some (.lst ws) → DtA (D :: B) H' ws ds → ds.length = n → (∀ d ∈ ds, Pd d) → Qd H') :
    ∃ W : Nat → Nat → Hp → Prop, (∃ m, W 0 m (upd H1 D (.lst []))) ∧ ∀ i m H, W i m H →
      (J.stop i H ∧ Qd H) ∨ (J.go i H ∧ ∃ Nx : Hp → Prop, (∀ H', Nx H' → ∃ m', m' < m ∧ W (i + 1) m' H') ∧ ∀ x H', J.yld i H x H' → g x (wipe σ vs) H' fun σ2 H2 => wipe σ2 vs = wipe σ vs ∧ tt σ2 H2 fun b H3 =>
        if b = true then te σ2 H3 fun y H4 => ∃ acc, H4 D = some (.lst acc) ∧ acc.length < sizeLine ∧ Nx (upd H4 D (.lst (acc ++ [y]))) else Nx H3) := by
  have nD : D ∉ [L] := hL.bk.ne hD
  refine lc_it w (fun i H' => Go [L] H1 H' ∧ Lf L H' (N + u * i) ∧ ∃ ws ds, H' D = some (.lst ws) ∧ DtA (D :: B) H' ws ds ∧ ds.length = i ∧ ∀ d ∈ ds, Pd d) ⟨Go.new hD, hL.new hD, [], [], upd_same, .nil, rfl, fun _ h => (nomatch h)⟩ (fun i H' _ h => hG H' h.1) (fun i x H' H'' hi h y => ?_) (fun H' h => ?_)
  · obtain ⟨g1, l1, ws, ds, eD, hA, en, hp⟩ := h
    refine hs i x H' H'' _ _ hi g1 l1 ((hB.go g1).cons eD) y (fun z d H4 g4 l4 dz pd => ?_)
    have gm : Go (D :: B) H4 (upd H4 D (.lst (ws ++ [z]))) := Go.refl.at (List.mem_cons_self ..)
    have lw := hA.len
    refine ⟨ws, g4.k D _ nD eD, sz (by omega), (g1.trans g4).mut hD, (l4.up (hL.ne hD)).mono (by rw [Nat.mul_succ]; omega), ws ++ [z], ds ++ [d], upd_same, ((hA.g (g4.w1 (List.mem_cons_of_mem _ LB))).g gm).app (.one (dz.g gm)), by simp; omega, fun e he => ?_⟩
    rcases List.mem_append.mp he with he | he
    · exact hp e he
    · rw [List.mem_singleton.mp he]
      exact pd
  · obtain ⟨g1, l1, ws, ds, eD, hA, en, hp⟩ := h
    exact hd H' ws ds g1 l1 eD hA en hp
/-- a part of a list -/
def cutL {α : Type} (xs : List α) (lo hi : Option Int) : List α := (xs.drop (HT.sIx xs.length 0 lo)).take (HT.sIx xs.length xs.length hi - HT.sIx xs.length 0 lo)
theorem cutL_sub {α : Type} {xs : List α} {lo hi : Option Int} {x : α} (h : x ∈ cutL xs lo hi) : x ∈ xs := List.mem_of_mem_drop (List.mem_of_mem_take h)
theorem cutL_len {α : Type} (xs : List α) (lo hi : Option Int) : (cutL xs lo hi).length ≤ xs.length := by
  unfold cutL
  rw [List.length_take, List.length_drop]
  omega
theorem DtA.drop {B : List Addr} {H : Hp} : ∀ (n : Nat) {vs : List V} {ds : List PyData}, DtA B H vs ds → DtA B H (vs.drop n) (ds.drop n)
  | 0, _, _, h => h
  | n + 1, [], _, h => by cases h; exact .nil
  | n + 1, v :: vs, _, h => by
    cases h with
    | cons h1 h2 => exact DtA.drop n h2
theorem DtA.take {B : List Addr} {H : Hp} : ∀ (n : Nat) {vs : List V} {ds : List PyData}, DtA B H vs ds → DtA B H (vs.take n) (ds.take n)
  | 0, _, _, h => .nil
  | n + 1, [], _, h => by cases h; exact .nil
  | n + 1, v :: vs, _, h => by
    cases h with
    | cons h1 h2 => exact .cons h1 (DtA.take n h2)
theorem DtA.cut {B : List Addr} {H : Hp} {vs : List V} {ds : List PyData} (h : DtA B H vs ds) (lo hi : Option Int) : DtA B H (cutV vs lo hi) (cutL ds lo hi) := by
  unfold cutV cutL
  rw [h.len]
  exact DtA.take _ (DtA.drop _ h)
theorem slice_dt {K : PySem.W.Frag} {B : List Addr} {H : Hp} {x : V} {ds : List PyData} {lo hi : Option Int} {Q : VK} (hx : Dt B H x (.tuple ds)) (hB : Bk B H) (q : ∀ v H', Same H H' → Dt B H' v (.tuple (cutL ds lo hi)) → Q v H') : rSlA K x lo hi H Q := by
  obtain ⟨a, vs, rfl, na, ha, hA⟩ := hx.tupI
  refine ⟨a, vs, rfl, SqT.of ha, fun h => q _ H (Same.refl _) ?_, fun _ p hp => q _ _ (sm_new hp) (.tup (hB.ne hp) upd_same ((hA.cut lo hi).s (sm_new hp)))⟩
  have e : cutL ds lo hi = ds := by
    unfold cutL
    rw [← hA.len, h.1, h.2, List.drop_zero, Nat.sub_zero, hA.len, List.take_length]
  rw [e]
  exact hx
theorem cat_dt {K : PySem.W.Frag} {B : List Addr} {H : Hp} {x y : V} {xs ys : List PyData} {Q : VK} (hx : Dt B H x (.tuple xs)) (hy : Dt B H y (.tuple ys)) (hB : Bk B H) (l : xs.length + ys.length ≤ 100000) (q : ∀ v H', Same H H' → Dt B H' v (.tuple (xs ++ ys)) → Q v H') : rCatA K x y H Q := by
  obtain ⟨a, vs, rfl, na, ha, hA⟩ := hx.tupI
  obtain ⟨b, ws, rfl, nb, hb, hC⟩ := hy.tupI
  have l1 := hA.len
  have l2 := hC.len
  refine ⟨a, b, vs, ws, rfl, rfl, SqT.of ha, SqT.of hb, Nat.le_of_lt (sz (by omega)), fun e => ?_, fun _ e => ?_, fun _ _ p hp => q _ _ (sm_new hp) (.tup (hB.ne hp) upd_same ((hA.app hC).s (sm_new hp)))⟩
  · subst e
    have : xs = [] := List.eq_nil_of_length_eq_zero (by rw [← l1]; rfl)
    subst this
    exact q _ H (Same.refl _) hy
  · subst e
    have : ys = [] := List.eq_nil_of_length_eq_zero (by rw [← l2]; rfl)
    subst this
    exact q _ H (Same.refl _) (by rw [List.append_nil]; exact hx)
theorem sh_cut {ds : List PyData} {k : Nat} {lo hi : Option Int} (h : Sh (.tuple ds) k) : Sh (.tuple (cutL ds lo hi)) k := by
  obtain ⟨j, rfl, h1, h2⟩ := h.tupI
  exact sh_tup (Nat.le_trans (cutL_len _ _ _) h2) fun d hd => h1 d (cutL_sub hd)
theorem sh_cat {xs ys : List PyData} {k : Nat} (h1 : Sh (.tuple xs) k) (h2 : Sh (.tuple ys) k) (l : xs.length + ys.length ≤ 100000) : Sh (.tuple (xs ++ ys)) k := by
  obtain ⟨j, rfl, a1, a2⟩ := h1.tupI
  obtain ⟨j', e, b1, b2⟩ := h2.tupI
  have : j = j' := by omega
  subst this
  exact sh_tup (by simpa using l) fun d hd => by
    rcases List.mem_append.mp hd with h | h
    · exact a1 d h
    · exact b1 d h
/-! ### a comprehension in another one -/
def FrAll (sc : Scope) : List Str → Prop
  | [] => True
  | x :: xs => (sc.names.lookup x = some .cell ∨ sc.names.lookup x = some .free) ∧ FrAll sc xs
theorem FrAll.mem {sc : Scope} : ∀ {xs : List Str}, FrAll sc xs → ∀ x ∈ xs, sc.names.lookup x = some .cell ∨ sc.names.lookup x = some .free
  | [], _, _, h => nomatch h
  | y :: ys, h, x, hx => by
    rcases List.mem_cons.mp hx with e | e
    · rw [e]; exact h.1
    · exact FrAll.mem h.2 x e
def frC (fr : List Str) (scope : Scope) : Bool := scope.names.all fun y => match y.2 with
  | .free => decide (y.1 ∈ fr)
  | _ => true
theorem blkOk_in {N : List Str} {sc scope : Scope} {own : List (Str × Nat)} (fr : List Str) (h : blkC N { kind := .function, names := fr.map fun x => (x, .free), isGenerator := false, isCoroutine := false } scope own = true) (h2 : frC fr scope = true) (hf : FrAll sc fr) : BlkOk N sc scope own := by
  have b := blkOk_by h
  refine ⟨b.kind, b.uniq, b.ix, fun y hy e => ?_, b.own⟩
  have := List.all_eq_true.mp h2 y hy
  rw [e] at this
  exact hf.mem _ (of_decide_eq_true this)
end Z

set_option Elab.async false
set_option linter.all false
set_option maxRecDepth 100000
set_option maxHeartbeats 400000
namespace Z
open PySem PySem.Spec PyProof.Rows L2
/-! ### lists of lists -/
def eN (ns : List (List Int)) : PyData := .list (ns.map eI)
def eG (ps : List (List (List Int))) : PyData := .list (ps.map eP)
theorem sh_eN {ns : List (List Int)} (l : ns.length ≤ 100000) (h : ∀ c ∈ ns, c.length ≤ 100000) : Sh (eN ns) 2 := sh_lst (by simpa using l) fun d hd => by
  obtain ⟨n, m, rfl⟩ := List.mem_map.mp hd
  exact sh_eI (h n m)
theorem sh_eG {ps : List (List (List Int))} (l : ps.length ≤ 100000) (h : ∀ p ∈ ps, p.length ≤ 100000 ∧ ∀ c ∈ p, c.length ≤ 100000) : Sh (eG ps) 3 := sh_lst (by simpa using l) fun d hd => by
  obtain ⟨n, m, rfl⟩ := List.mem_map.mp hd
  exact sh_eP (h n m).1 (h n m).2
theorem DtA.mk {B : List Addr} {H : Hp} : ∀ {vs : List V} {ds : List PyData}, vs.length = ds.length → (∀ (i : Nat) v d, vs[i]? = some v → ds[i]? = some d → Dt B H v d) → DtA B H vs ds
  | [], [], _, _ => .nil
  | [], _ :: _, h, _ => nomatch h
  | _ :: _, [], h, _ => nomatch h
  | v :: vs, d :: ds, h, f => .cons (f 0 v d rfl rfl) (DtA.mk (by simpa using h) fun i v d h1 h2 => f (i + 1) v d h1 h2)
theorem DtA.two {B : List Addr} {H : Hp} {vs : List V} {ds : List PyData} {i : Nat} {v : V} {d : PyData} (h : DtA B H vs ds) (h1 : vs[i]? = some v) (h2 : ds[i]? = some d) : Dt B H v d := by
  obtain ⟨d', e, h3⟩ := h.getV h1
  rw [h2] at e
  cases e
  exact h3
theorem at2i (x y : Int) (b : Bool) : ∃ z : Int, atI [V.int x, V.int y] (if b = true then 1 else 0) = some (.int z) ∧ (z = x ∨ z = y) := by
  cases b
  · exact ⟨x, rfl, .inl rfl⟩
  · exact ⟨y, rfl, .inr rfl⟩
theorem ixN_last {n : Nat} (h : 0 < n) : ixN n (-1) = some (n - 1) := by
  unfold ixN
  rw [if_neg (by omega), if_pos (by omega)]
  congr 1
  omega
theorem DtA.set {B : List Addr} {H : Hp} {v : V} {d : PyData} : ∀ {vs : List V} {ds : List PyData} (j : Nat), DtA B H vs ds → Dt B H v d → DtA B H (vs.set j v) (ds.set j d)
  | [], _, _, h, _ => by cases h; exact .nil
  | _ :: _, _, 0, h, hv => by cases h with | cons h1 h2 => exact .cons hv h2
  | _ :: _, _, j + 1, h, hv => by cases h with | cons h1 h2 => exact .cons h1 (DtA.set j h2 hv)
theorem Dt.lst2 {B : List Addr} {H : Hp} {v : V} {ds : List PyData} (h : Dt B H v (.list ds)) : ∃ a vs, v = .ref a ∧ a ∉ B ∧ H a = some (.lst vs) ∧ DtA B H vs ds := by
  cases h with
  | lst n hs ha => exact ⟨_, _, rfl, n, hs, ha⟩
theorem cut_fromV {α : Type} (xs : List α) {n : Int} (h0 : 0 ≤ n) : cutL xs (some n) none = xs.drop n.toNat := by
  unfold cutL
  have e : HT.sIx xs.length 0 (some n) = min n.toNat xs.length := by
    show (if n < 0 then (n + (xs.length : Int)).toNat else min n.toNat xs.length) = _
    rw [if_neg (by omega)]
  have e2 : HT.sIx xs.length xs.length none = xs.length := rfl
  rw [e, e2]
  rcases Nat.le_total n.toNat xs.length with h | h
  · rw [Nat.min_eq_left h, List.take_of_length_le (by rw [List.length_drop]; omega)]
  · rw [Nat.min_eq_right h, List.drop_of_length_le (Nat.le_refl _), List.drop_of_length_le h, List.take_nil]
theorem cut_toV {α : Type} (xs : List α) {n : Int} (h0 : 0 ≤ n) : cutL xs none (some n) = xs.take n.toNat := by
  unfold cutL
  have e : HT.sIx xs.length xs.length (some n) = min n.toNat xs.length := by
    show (if n < 0 then (n + (xs.length : Int)).toNat else min n.toNat xs.length) = _
    rw [if_neg (by omega)]
  have e2 : HT.sIx xs.length 0 none = 0 := rfl
  rw [e, e2, List.drop_zero, Nat.sub_zero]
  rcases Nat.le_total n.toNat xs.length with h | h
  · rw [Nat.min_eq_left h]
  · rw [Nat.min_eq_right h, List.take_length, List.take_of_length_le h]
theorem pg_lstK {X : Cx} (K : PySem.W.Frag) {pos : Pos} {es : List Expr} {kk : Nat} {t : TGs} {n : Nat} (hc : X.calm = true) (h : PGs X es t) (hn : (assignEach es X.env).length = n := by rfl) (hst : (assignEach es X.env).findIdx? (·.1) = none := by rfl) (h2 : X.K = K := by rfl) : PG X (.Tuple es kk pos) (gLst K n t) :=
  h2 ▸ pg_lst hc h hn hst
theorem pi_zipAK {X : Cx} (K : PySem.W.Frag) {e e2 : Expr} {ta : TA} {p pos tpos : Pos} {elts : List Expr} {kk : Nat} (hg : Gl X "zip") (hm : X.mg "zip" = none) (ha : PA X [e, e2] ta)
    (hs : starEach [e, e2] X.env = (false, eval e X.env) :: starEach [e2] X.env := by rfl) (hpl : (backTo pos (starEach [e2] X.env)).any (·.1) = false := by rfl) (hK : X.K = K := by rfl) :
    PI X (.Tuple elts kk tpos) (.Call (.Name "zip" p) [e, e2] [] pos) (RZ.iZipA K ta) := by
  subst hK
  exact RZ.pi_zipA hg hm ha hs hpl
theorem yesT {σ : L2.St} {H : Hp} {A N : Hp → Prop} (h : A H) : tYes σ H (fun b H3 => if b = true then A H3 else N H3) := by
  show if true = true then A H else N H
  rw [if_pos rfl]
  exact h
/-- any walk -/
theorem walk_W {J : It} {n : Nat} {G : Hp → Prop} {Y : Nat → Hp → V → Hp → Prop} (w : Walk J n G Y) {R : (Hp → Prop) → V → Hp → Prop} {Qd : Hp → Prop} {H0 : Hp} (Pv : Nat → Hp → Prop) (h0 : Pv 0 H0) (hG : ∀ i H, i ≤ n → Pv i H → G H) (hs : ∀ i x H H', i < n → Pv i H → Y i H x H' → R (Pv (i + 1)) x H') (hd : ∀ H, Pv n H → Qd H) :
    ∃ W : Nat → Nat → Hp → Prop, (∃ m, W 0 m H0) ∧ ∀ i m H, W i m H → (J.stop i H ∧ Qd H) ∨ (J.go i H ∧ ∃ Nx : Hp → Prop, (∀ H', Nx H' → ∃ m', m' < m ∧ W (i + 1) m' H') ∧ ∀ x H', J.yld i H x H' → R Nx x H') := by
  obtain ⟨w1, w2, w3⟩ := w
  refine ⟨fun i m H => i ≤ n ∧ m = n - i ∧ Pv i H, ⟨n, Nat.zero_le _, rfl, h0⟩, fun i m H h => ?_⟩
  obtain ⟨hi, hm, hp⟩ := h
  have g := hG i H hi hp
  by_cases e : i = n
  · subst e
    exact .inl ⟨w2 _ g, hd _ hp⟩
  · refine .inr ⟨w1 i H (by omega) g, Pv (i + 1), fun H' h' => ⟨n - (i + 1), by omega, by omega, rfl, h'⟩, fun x H' y => ?_⟩
    exact hs i x H H' (by omega) hp (w3 i H x H' (by omega) g y)
theorem colsOf {Pc : List Int → Prop} : ∀ {ds : List PyData}, (∀ d ∈ ds, ∃ c, d = eC c ∧ Pc c) → ∃ cs : List (List Int), ds = cs.map eC ∧ ∀ c ∈ cs, Pc c
  | [], _ => ⟨[], rfl, fun _ h => nomatch h⟩
  | d :: ds, h => by
    obtain ⟨m, e, hm⟩ := colsOf (ds := ds) fun x hx => h x (List.mem_cons_of_mem _ hx)
    obtain ⟨z, ez, hz⟩ := h d (List.mem_cons_self ..)
    refine ⟨z :: m, by rw [e, ez]; rfl, fun y hy => ?_⟩
    rcases List.mem_cons.mp hy with q | q
    · rw [q]; exact hz
    · exact hm y q
/-- a list whose items are new lists, each another one; what is in these was there ahead -/
structure Rws (B : List Addr) (H H' : Hp) (D : Addr) (rs : List Addr) (dss : List (List PyData)) : Prop where
  len : rs.length = dss.length
  nd : rs.Nodup
  nD : D ∉ rs
  fr : ∀ r ∈ rs, H r = none
  row : ∀ (i : Nat) r ds, rs[i]? = some r → dss[i]? = some ds → ∃ ws, H' r = some (.lst ws) ∧ DtA B H ws ds
section
variable {B C : List Addr} {H H' H2 : Hp} {D p : Addr} {rs : List Addr} {dss : List (List PyData)}
theorem Rws.s (h : Rws B H H' D rs dss) (s : Same H' H2) : Rws B H H2 D rs dss := ⟨h.len, h.nd, h.nD, h.fr, fun i r ds h1 h2 => by
  obtain ⟨ws, e, a⟩ := h.row i r ds h1 h2
  exact ⟨ws, s _ _ e, a⟩⟩
theorem Rws.up {o : HO} (h : Rws B H H' D rs dss) (n : p ∉ rs) : Rws B H (upd H' p o) D rs dss := ⟨h.len, h.nd, h.nD, h.fr, fun i r ds h1 h2 => by
  obtain ⟨ws, e, a⟩ := h.row i r ds h1 h2
  refine ⟨ws, ?_, a⟩
  rw [upd_ne (fun z => n (by rw [← z]; exact List.mem_of_getElem? h1))]
  exact e⟩
theorem Rws.go (h : Rws B H H' D rs dss) (g : Go C H' H2) (n : ∀ r ∈ rs, r ∉ C) : Rws B H H2 D rs dss := ⟨h.len, h.nd, h.nD, h.fr, fun i r ds h1 h2 => by
  obtain ⟨ws, e, a⟩ := h.row i r ds h1 h2
  exact ⟨ws, g.k _ _ (n r (List.mem_of_getElem? h1)) e, a⟩⟩
theorem Rws.tail {r : Addr} {ds : List PyData} (h : Rws B H H' D (r :: rs) (ds :: dss)) : Rws B H H' D rs dss := ⟨by simpa using h.len, (List.nodup_cons.mp h.nd).2, fun z => h.nD (List.mem_cons_of_mem _ z), fun x hx => h.fr x (List.mem_cons_of_mem _ hx), fun i x ds h1 h2 => h.row (i + 1) x ds h1 h2⟩
theorem Rws.dt (h : Rws B H H' D rs dss) (b : Bk B H) (s : Go B H H') : DtA B H' (rs.map V.ref) (dss.map PyData.list) := by
  refine DtA.mk (by rw [List.length_map, List.length_map]; exact h.len) fun i v d h1 h2 => ?_
  rw [List.getElem?_map] at h1 h2
  cases e1 : rs[i]? with
  | none => rw [e1] at h1; cases h1
  | some r =>
    cases e2 : dss[i]? with
    | none => rw [e2] at h2; cases h2
    | some ds =>
      rw [e1] at h1
      rw [e2] at h2
      cases h1
      cases h2
      obtain ⟨ws, e, a⟩ := h.row i r ds e1 e2
      exact .lst (b.ne (h.fr r (List.mem_of_getElem? e1))) e (a.g s)
end
/-- a comprehension of known values -/
theorem lc_vals {J : It} {n : Nat} {G : Hp → Prop} {Y : Nat → Hp → V → Hp → Prop} (w : Walk J n G Y) {g : TG} {tt : TT} {te : TE} {vs : List Nat} {σ : L2.St} {H1 : Hp} {D : Addr} {Qd : Hp → Prop}
    (hD : H1 D = none) (hG : ∀ H', Same H1 H' → G H') (hn : n ≤ 100000) (f : Nat → V)
    (hs : ∀ (i : Nat) (x : V) (H' H'' : Hp) (Ny : V → Hp → Prop) (Nn : Hp → Prop), i < n → Same H1 H' → Y i H' x H'' → (∀ H4, Same H' H4 → Ny (f i) H4) →
      g x (wipe σ vs) H'' fun σ2 H2 => wipe σ2 vs = wipe σ vs ∧ tt σ2 H2 fun b H3 => if b = true then te σ2 H3 Ny else Nn H3)
    (hd : ∀ (H' : Hp), Same H1 H' → H' D = some (.lst ((List.range n).map f)) → Qd H') :
    ∃ W : Nat → Nat → Hp → Prop, (∃ m, W 0 m (upd H1 D (.lst []))) ∧ ∀ i m H, W i m H →
      (J.stop i H ∧ Qd H) ∨ (J.go i H ∧ ∃ Nx : Hp → Prop, (∀ H', Nx H' → ∃ m', m' < m ∧ W (i + 1) m' H') ∧ ∀ x H', J.yld i H x H' → g x (wipe σ vs) H' fun σ2 H2 => wipe σ2 vs = wipe σ vs ∧ tt σ2 H2 fun b H3 =>
        if b = true then te σ2 H3 fun y H4 => ∃ acc, H4 D = some (.lst acc) ∧ acc.length < sizeLine ∧ Nx (upd H4 D (.lst (acc ++ [y]))) else Nx H3) := by
  refine lc_it w (fun i H' => Same H1 H' ∧ H' D = some (.lst ((List.range i).map f))) ⟨sm_new hD, upd_same⟩ (fun i H' _ h => hG H' h.1) (fun i x H' H'' hi h y => ?_) (fun H' h => hd H' h.1 h.2)
  obtain ⟨s1, eD⟩ := h
  refine hs i x H' H'' _ _ hi s1 y (fun H4 s4 => ?_)
  refine ⟨_, s4 _ _ eD, sz (by rw [List.length_map, List.length_range]; omega), sm_mut (s1.trans s4) hD, ?_⟩
  rw [upd_same, List.range_succ, List.map_append]
  rfl
/-- a comprehension of new lists -/
theorem lc_rows {J : It} {n : Nat} {G : Hp → Prop} {Y : Nat → Hp → V → Hp → Prop} (w : Walk J n G Y) {g : TG} {tt : TT} {te : TE} {vs : List Nat} {σ : L2.St} {H1 : Hp} {D : Addr} {Qd : Hp → Prop} (B : List Addr)
    (hD : H1 D = none) (hG : ∀ H', Same H1 H' → G H') (hn : n ≤ 100000) (e : Nat → List PyData)
    (hs : ∀ (i : Nat) (x : V) (H' H'' : Hp) (Ny : V → Hp → Prop) (Nn : Hp → Prop), i < n → Same H1 H' → Y i H' x H'' → (∀ r ws H4, Same H' H4 → H' r = none → H4 r = some (.lst ws) → DtA B H1 ws (e i) → Ny (.ref r) H4) →
      g x (wipe σ vs) H'' fun σ2 H2 => wipe σ2 vs = wipe σ vs ∧ tt σ2 H2 fun b H3 => if b = true then te σ2 H3 Ny else Nn H3)
    (hd : ∀ (H' : Hp) (rs : List Addr), Same H1 H' → H' D = some (.lst (rs.map V.ref)) → Rws B H1 H' D rs ((List.range n).map e) → Qd H') :
    ∃ W : Nat → Nat → Hp → Prop, (∃ m, W 0 m (upd H1 D (.lst []))) ∧ ∀ i m H, W i m H →
      (J.stop i H ∧ Qd H) ∨ (J.go i H ∧ ∃ Nx : Hp → Prop, (∀ H', Nx H' → ∃ m', m' < m ∧ W (i + 1) m' H') ∧ ∀ x H', J.yld i H x H' → g x (wipe σ vs) H' fun σ2 H2 => wipe σ2 vs = wipe σ vs ∧ tt σ2 H2 fun b H3 =>
        if b = true then te σ2 H3 fun y H4 => ∃ acc, H4 D = some (.lst acc) ∧ acc.length < sizeLine ∧ Nx (upd H4 D (.lst (acc ++ [y]))) else Nx H3) := by
  refine lc_it w (fun i H' => Same H1 H' ∧ ∃ rs, H' D = some (.lst (rs.map V.ref)) ∧ Rws B H1 H' D rs ((List.range i).map e)) ⟨sm_new hD, [], upd_same, ⟨rfl, List.nodup_nil, (fun h => nomatch h), (fun _ h => nomatch h), (fun i r ds h => by simp at h)⟩⟩ (fun i H' _ h => hG H' h.1) (fun i x H' H'' hi h y => ?_) (fun H' h => ?_)
  · obtain ⟨s1, rs, eD, R⟩ := h
    have hl : rs.length = i := by rw [R.len, List.length_map, List.length_range]
    refine hs i x H' H'' _ _ hi s1 y (fun r ws H4 s4 hr er ha => ?_)
    have nr : r ≠ D := fun z => by rw [z, eD] at hr; cases hr
    have nrs : r ∉ rs := fun z => by
      obtain ⟨j, hj, ej⟩ := List.getElem_of_mem z
      obtain ⟨ws', e', _⟩ := R.row j r (e j) (by rw [List.getElem?_eq_getElem hj, ej]) (by rw [List.getElem?_map, List.getElem?_range (by omega)]; rfl)
      rw [e'] at hr
      cases hr
    refine ⟨_, s4 _ _ eD, sz (by rw [List.length_map]; omega), sm_mut (s1.trans s4) hD, rs ++ [r], by rw [upd_same, List.map_append]; rfl, ?_⟩
    have R4 := (R.s s4).up (o := .lst (rs.map V.ref ++ [.ref r])) (R.nD)
    refine ⟨by simp [hl], ?_, ?_, fun z hz => ?_, fun j z ds h1 h2 => ?_⟩
    · rw [List.nodup_append]
      refine ⟨R.nd, by simp, fun a ha b hb => ?_⟩
      rw [List.mem_singleton.mp hb]
      exact fun q => nrs (by rw [← q]; exact ha)
    · intro q
      rcases List.mem_append.mp q with q | q
      · exact R.nD q
      · exact nr (List.mem_singleton.mp q).symm
    · rcases List.mem_append.mp hz with q | q
      · exact R.fr z q
      · rw [List.mem_singleton.mp q]
        exact s1.free hr
    · rw [List.getElem?_append] at h1
      rw [List.range_succ, List.map_append, List.getElem?_append, List.length_map, List.length_range] at h2
      by_cases c : j < rs.length
      · rw [if_pos c] at h1
        rw [if_pos (by omega)] at h2
        exact R4.row j z ds h1 h2
      · rw [if_neg c] at h1
        rw [if_neg (by omega)] at h2
        have j0 : j - rs.length = 0 := by
          cases q : j - rs.length with
          | zero => rfl
          | succ m => rw [q] at h1; simp at h1
        rw [j0] at h1
        rw [show j - i = 0 by omega] at h2
        cases h1
        cases h2
        refine ⟨ws, ?_, ha⟩
        rw [upd_ne nr]
        exact er
  · obtain ⟨s1, rs, eD, R⟩ := h
    exact hd H' rs s1 eD R
end Z

set_option Elab.async false
set_option linter.all false
set_option maxRecDepth 100000
namespace Z
open PySem PySem.Spec PyProof.Rows L2
def topS (i : Nat) : Stmt := PySem.Challenge.pw_fewcolours_k68_what_a_change_costs.main.body.getD i (.Pass ⟨0, 0, 0, 0⟩)
abbrev s_apart : Stmt := topS 1
abbrev N_apart : List Str := ["one", "other", "a", "b"]
theorem sc_apart : FnScope N_apart ["one", "other"] (defScope s_apart) := ⟨rfl, rfl, rfl, by decide +kernel, rfl, by decide +kernel, by decide +kernel⟩
abbrev s_cost_of : Stmt := topS 3
abbrev N_cost_of : List Str := ["one", "other", "price", "pairs", "turned", "i", "j"]
theorem sc_cost_of : FnScope N_cost_of ["one", "other", "price", "pairs"] (defScope s_cost_of) := ⟨rfl, rfl, rfl, by decide +kernel, rfl, by decide +kernel, by decide +kernel⟩
abbrev s_l_mix : Stmt := topS 5
abbrev N_l_mix : List Str := ["_law_cell", "_law_k", "_law_m"]
theorem sc_l_mix : FnScope N_l_mix ["_law_cell", "_law_k"] (defScope s_l_mix) := ⟨rfl, rfl, rfl, by decide +kernel, rfl, by decide +kernel, by decide +kernel⟩
abbrev s_l_left : Stmt := topS 6
abbrev N_l_left : List Str := ["_law_script", "_law_k", "_law_cell"]
theorem sc_l_left : FnScope N_l_left ["_law_script", "_law_k"] (defScope s_l_left) := ⟨rfl, rfl, rfl, by decide +kernel, rfl, by decide +kernel, by decide +kernel⟩
abbrev s_l_pick : Stmt := topS 7
abbrev N_l_pick : List Str := ["_law_left_here", "_law_many", "_law_digit"]
theorem sc_l_pick : FnScope N_l_pick ["_law_left_here", "_law_many"] (defScope s_l_pick) := ⟨rfl, rfl, rfl, by decide +kernel, rfl, by decide +kernel, by decide +kernel⟩
abbrev s_l_kind : Stmt := topS 8
abbrev N_l_kind : List Str := ["_law_left_here"]
theorem sc_l_kind : FnScope N_l_kind ["_law_left_here"] (defScope s_l_kind) := ⟨rfl, rfl, rfl, by decide +kernel, rfl, by decide +kernel, by decide +kernel⟩
abbrev s_l_colour : Stmt := topS 9
abbrev N_l_colour : List Str := ["_law_left_here", "_law_kind_here", "_law_wide", "_law_span", "_law_place"]
theorem sc_l_colour : FnScope N_l_colour ["_law_left_here", "_law_kind_here"] (defScope s_l_colour) := ⟨rfl, rfl, rfl, by decide +kernel, rfl, by decide +kernel, by decide +kernel⟩
abbrev s_l_apart : Stmt := topS 10
abbrev N_l_apart : List Str := ["_law_one", "_law_other", "_law_a", "_law_b"]
theorem sc_l_apart : FnScope N_l_apart ["_law_one", "_law_other"] (defScope s_l_apart) := ⟨rfl, rfl, rfl, by decide +kernel, rfl, by decide +kernel, by decide +kernel⟩
abbrev s_l_same : Stmt := topS 11
abbrev N_l_same : List Str := ["_law_found", "_law_due", "_law_one", "_law_other"]
theorem sc_l_same : FnScope N_l_same ["_law_found", "_law_due"] (defScope s_l_same) := ⟨rfl, rfl, rfl, by decide +kernel, rfl, by decide +kernel, by decide +kernel⟩
abbrev s_l_few : Stmt := topS 12
abbrev N_l_few : List Str := ["_law_left_here", "_law_kind_here", "_law_most", "_law_found", "_law_k", "_law_colour_here"]
theorem sc_l_few : FnScope N_l_few ["_law_left_here", "_law_kind_here", "_law_most"] (defScope s_l_few) := ⟨rfl, rfl, rfl, by decide +kernel, rfl, by decide +kernel, by decide +kernel⟩
abbrev s_l_two : Stmt := topS 13
abbrev N_l_two : List Str := ["_law_left_here", "_law_most", "_law_kind_here", "_law_one", "_law_other", "_law_k"]
theorem sc_l_two : FnScope N_l_two ["_law_left_here", "_law_most"] (defScope s_l_two) := ⟨rfl, rfl, rfl, by decide +kernel, rfl, by decide +kernel, by decide +kernel⟩
abbrev s_l_price : Stmt := topS 14
abbrev N_l_price : List Str := ["_law_left_here", "_law_one", "_law_other", "_law_i", "_law_j", "_law_near", "_law_some"]
theorem sc_l_price : FnScope N_l_price ["_law_left_here", "_law_one", "_law_other"] (defScope s_l_price) := ⟨rfl, rfl, rfl, by decide +kernel, rfl, by decide +kernel, by decide +kernel⟩
abbrev s_l_pairs : Stmt := topS 15
abbrev N_l_pairs : List Str := ["_law_left_here", "_law_one", "_law_other", "_law_free", "_law_found", "_law_i"]
theorem sc_l_pairs : FnScope N_l_pairs ["_law_left_here", "_law_one", "_law_other"] (defScope s_l_pairs) := ⟨rfl, rfl, rfl, by decide +kernel, rfl, by decide +kernel, by decide +kernel⟩
abbrev s_l_cost : Stmt := topS 16
abbrev N_l_cost : List Str := ["_law_one", "_law_other", "_law_price_here", "_law_pairs_here", "_law_turned", "_law_lonely", "_law_i", "_law_j"]
theorem sc_l_cost : FnScope N_l_cost ["_law_one", "_law_other", "_law_price_here", "_law_pairs_here"] (defScope s_l_cost) := ⟨rfl, rfl, rfl, by decide +kernel, rfl, by decide +kernel, by decide +kernel⟩
abbrev s_law : Stmt := topS 17
abbrev N_law : List Str := ["_law_script", "_law_k", "_law_left_here", "_law_one", "_law_other", "_law_kept", "_law_turn", "_law_price_here", "_law_pairs_here", "_law_handed", "_law_again", "_law_found"]
theorem sc_law : FnScope N_law ["_law_script"] (defScope s_law) := ⟨rfl, rfl, rfl, by decide +kernel, rfl, by decide +kernel, by decide +kernel⟩
structure Tx (K : PySem.W.Frag) (mg : Str → Option Value) where
  f_apart : Addr
  d_apart : FuncData
  F_apart : Fun K "apart" "apart" s_apart f_apart d_apart
  b_apart : Binds K d_apart ["one", "other"] []
  g_apart : mg "apart" = some (.ref f_apart)
  f_cost_of : Addr
  d_cost_of : FuncData
  F_cost_of : Fun K "cost_of" "cost_of" s_cost_of f_cost_of d_cost_of
  b_cost_of : Binds K d_cost_of ["one", "other", "price", "pairs"] []
  g_cost_of : mg "cost_of" = some (.ref f_cost_of)
  f_l_mix : Addr
  d_l_mix : FuncData
  F_l_mix : Fun K "_law_mix" "_law_mix" s_l_mix f_l_mix d_l_mix
  b_l_mix : Binds K d_l_mix ["_law_cell", "_law_k"] []
  g_l_mix : mg "_law_mix" = some (.ref f_l_mix)
  f_l_left : Addr
  d_l_left : FuncData
  F_l_left : Fun K "_law_left" "_law_left" s_l_left f_l_left d_l_left
  b_l_left : Binds K d_l_left ["_law_script", "_law_k"] []
  g_l_left : mg "_law_left" = some (.ref f_l_left)
  f_l_pick : Addr
  d_l_pick : FuncData
  F_l_pick : Fun K "_law_pick" "_law_pick" s_l_pick f_l_pick d_l_pick
  b_l_pick : Binds K d_l_pick ["_law_left_here", "_law_many"] []
  g_l_pick : mg "_law_pick" = some (.ref f_l_pick)
  f_l_kind : Addr
  d_l_kind : FuncData
  F_l_kind : Fun K "_law_kind" "_law_kind" s_l_kind f_l_kind d_l_kind
  b_l_kind : Binds K d_l_kind ["_law_left_here"] []
  g_l_kind : mg "_law_kind" = some (.ref f_l_kind)
  f_l_colour : Addr
  d_l_colour : FuncData
  F_l_colour : Fun K "_law_colour" "_law_colour" s_l_colour f_l_colour d_l_colour
  b_l_colour : Binds K d_l_colour ["_law_left_here", "_law_kind_here"] []
  g_l_colour : mg "_law_colour" = some (.ref f_l_colour)
  f_l_apart : Addr
  d_l_apart : FuncData
  F_l_apart : Fun K "_law_apart" "_law_apart" s_l_apart f_l_apart d_l_apart
  b_l_apart : Binds K d_l_apart ["_law_one", "_law_other"] []
  g_l_apart : mg "_law_apart" = some (.ref f_l_apart)
  f_l_same : Addr
  d_l_same : FuncData
  F_l_same : Fun K "_law_same" "_law_same" s_l_same f_l_same d_l_same
  b_l_same : Binds K d_l_same ["_law_found", "_law_due"] []
  g_l_same : mg "_law_same" = some (.ref f_l_same)
  f_l_few : Addr
  d_l_few : FuncData
  F_l_few : Fun K "_law_few" "_law_few" s_l_few f_l_few d_l_few
  b_l_few : Binds K d_l_few ["_law_left_here", "_law_kind_here", "_law_most"] []
  g_l_few : mg "_law_few" = some (.ref f_l_few)
  f_l_two : Addr
  d_l_two : FuncData
  F_l_two : Fun K "_law_two" "_law_two" s_l_two f_l_two d_l_two
  b_l_two : Binds K d_l_two ["_law_left_here", "_law_most"] []
  g_l_two : mg "_law_two" = some (.ref f_l_two)
  f_l_price : Addr
  d_l_price : FuncData
  F_l_price : Fun K "_law_price" "_law_price" s_l_price f_l_price d_l_price
  b_l_price : Binds K d_l_price ["_law_left_here", "_law_one", "_law_other"] []
  g_l_price : mg "_law_price" = some (.ref f_l_price)
  f_l_pairs : Addr
  d_l_pairs : FuncData
  F_l_pairs : Fun K "_law_pairs" "_law_pairs" s_l_pairs f_l_pairs d_l_pairs
  b_l_pairs : Binds K d_l_pairs ["_law_left_here", "_law_one", "_law_other"] []
  g_l_pairs : mg "_law_pairs" = some (.ref f_l_pairs)
  f_l_cost : Addr
  d_l_cost : FuncData
  F_l_cost : Fun K "_law_cost" "_law_cost" s_l_cost f_l_cost d_l_cost
  b_l_cost : Binds K d_l_cost ["_law_one", "_law_other", "_law_price_here", "_law_pairs_here"] []
  g_l_cost : mg "_law_cost" = some (.ref f_l_cost)
  z_abs : mg "abs" = none
  z_all : mg "all" = none
  z_bool : mg "bool" = none
  z_int : mg "int" = none
  z_isinstance : mg "isinstance" = none
  z_len : mg "len" = none
  z_list : mg "list" = none
  z_max : mg "max" = none
  z_min : mg "min" = none
  z_range : mg "range" = none
  z_str : mg "str" = none
  z_sum : mg "sum" = none
  z_tuple : mg "tuple" = none
  z_zip : mg "zip" = none
section
variable {P : Program} {w : World} {K : PySem.W.Frag} {mg : Str → Option Value} {base : Heap}
/-! ### mix -/
def spMix : Sp := fun vs H Q _ => ∃ c n : Int, vs = [.int c, .int n] ∧ 0 ≤ n ∧ n < 2000000000 ∧ ∀ r : Int, 0 ≤ r → r < 1999999973 → Q (.int r) H
theorem ok_l_mix (T : Tx K mg) {k : Nat} : FnOk P w K mg base CX0 (k + 1) T.f_l_mix T.d_l_mix ["_law_cell", "_law_k"] spMix := by
  refine T.F_l_mix.ok sc_l_mix (fun vs H Q E h => ?_) (fun cdv A outer s H vs Q E hr h => ?_)
  · obtain ⟨c, n, rfl, _⟩ := h
    rfl
  · obtain ⟨c, n, rfl, h1, h2, q⟩ := h
    refine ⟨_, (pss_cons (ps_set (i := 2) sc_l_mix.nd rfl (.inl rfl) (pe_op op_mod (pe_op op_mul (pe_op op_add (pe_op op_add (pe_op op_mod (pv 0) pe_int) (pe_op op_mul (pe_op op_mul (pv 1) (pv 1)) pe_int)) pe_int) pe_int) pe_int))
      (pss_one (ps_ret (pe_op op_mod (pe_op op_mul (pv 2) (pv 2)) pe_int)))), ?_⟩
    refine ⟨.int c, rfl, _, _, rfl, rfl, md (by decide), .int n, rfl, .int n, rfl, _, _, rfl, rfl, .inl ⟨by omega, by omega⟩, _, _, rfl, rfl, .inr ⟨by decide, by decide⟩, _, _, rfl, rfl, _, _, rfl, rfl, _, _, rfl, rfl, .inr ⟨by decide, by decide⟩, _, _, rfl, rfl, md (by decide), ?_⟩
    refine ⟨_, rfl, _, rfl, _, _, rfl, rfl, .inl ⟨?_, ?_⟩, _, _, rfl, rfl, md (by decide), ?_⟩
    · omega
    · omega
    · exact q _ (Int.emod_nonneg _ (by decide)) (Int.emod_lt_of_pos _ (by decide))
/-! ### left -/
def spLeft (K : PySem.W.Frag) : Sp := fun vs H Q _ => ∃ (a : Addr) (ns : List Int) (n : Int), vs = [.ref a, .int n] ∧ SqL K H a (ns.map V.int) ∧ 0 ≤ n ∧ ∀ (p : Addr) (x y : Int), H p = none → 0 ≤ x → Q (.ref p) (upd H p (.lst [.int x, .int y, .int 0]))
theorem left_end {c n : Int} {H : Hp} {Q : VK} (q : ∀ (p : Addr) (x y : Int), H p = none → 0 ≤ x → Q (.ref p) (upd H p (.lst [.int x, .int y, .int 0]))) (p : Addr) (hp : H p = none) (b : Bool) :
    Q (.ref p) (upd H p (.lst [.int ((if c < 0 then -c else c) * (if b = true then 1 else 0)), .int (c + 1000003 * n), .int 0])) := by
  refine q p _ _ hp ?_
  cases b <;> simp <;> split <;> omega
theorem ok_l_left (T : Tx K mg) {k : Nat} : FnOk P w K mg base CX0 (k + 1) T.f_l_left T.d_l_left ["_law_script", "_law_k"] (spLeft K) := by
  refine T.F_l_left.ok sc_l_left (fun vs H Q E h => ?_) (fun cdv A outer s H vs Q E hr h => ?_)
  · obtain ⟨a, ns, n, rfl, _⟩ := h
    rfl
  · obtain ⟨a, ns, n, rfl, hS, h1, q⟩ := h
    refine ⟨_, (pss_cons (ps_set (i := 2) sc_l_left.nd rfl (.inl rfl) (pe_ifExp (pt_cmpR op_lt (pv 1) (pe_callB (len_K K) (by rfl) T.z_len PySem.boot_len (pa_cons (pv 0) pa_nil)) (nomark _)) (pe_ix (ix_listK K) (pv 0) (pv 1) (fun _ _ => rfl)) pe_int))
      (pss_one (ps_ret (pe_lst (pa_cons (pe_op op_mul (pe_callB call_abs (by rfl) T.z_abs (by decide +kernel) (pa_cons (pv 2) pa_nil)) (pe_callTy call_int1 (by rfl) T.z_int (by decide +kernel) (pa_cons (pe_cmpR op_ge (pe_callB call_abs (by rfl) T.z_abs (by decide +kernel) (pa_cons (pv 2) pa_nil)) (pe_op op_pow pe_int pe_int) (nomark _)) pa_nil))) (pa_cons (pe_op op_add (pv 2) (pe_op op_mul pe_int (pv 1))) (pa_cons pe_int pa_nil))))))), ?_⟩
    refine ⟨_, rfl, _, rfl, a, _, rfl, .inl hS, _, _, rfl, rfl, _, rfl, ite2 (fun e => ?_) (fun e => ?_)⟩
    · have e1 : n < (ns.map V.int).length := of_decide_eq_true e
      rw [List.length_map] at e1
      have g : atI (ns.map V.int) n = some (.int (ns[n.toNat]'(by omega))) := at0 h1 (by rw [List.getElem?_map, List.getElem?_eq_getElem]; rfl)
      refine ⟨_, rfl, _, rfl, a, _, _, _, rfl, rfl, hS, g, ?_⟩
      exact ⟨_, rfl, _, rfl, _, rfl, _, rfl, _, _, rfl, rfl, ⟨by decide, by decide, by decide⟩, _, _, rfl, rfl, .inr ⟨_, rfl, _, _, rfl, rfl, .inr (bit_ok _), _, rfl, _, rfl, _, _, rfl, rfl, .inl ⟨by decide, by decide⟩, _, _, rfl, rfl, (by show 3 ≤ sizeLine; decide), fun p hp => left_end q p hp _⟩⟩
    · exact ⟨_, rfl, _, rfl, _, rfl, _, rfl, _, _, rfl, rfl, ⟨by decide, by decide, by decide⟩, _, _, rfl, rfl, .inr ⟨_, rfl, _, _, rfl, rfl, .inr (bit_ok _), _, rfl, _, rfl, _, _, rfl, rfl, .inl ⟨by decide, by decide⟩, _, _, rfl, rfl, (by show 3 ≤ sizeLine; decide), fun p hp => left_end q p hp _⟩⟩
/-! ### pick -/
def spPick : Sp := fun vs H Q _ => ∃ (L : Addr) (m : Int) (n : Nat), vs = [.ref L, .int m] ∧ Lf L H n ∧ n < 1000000000 ∧ 0 < m ∧ m < 1073741824 ∧ ∀ (r : Int) (H' : Hp), Go [L] H H' → Lf L H' (n + 1) → 0 ≤ r → r < m → Q (.int r) H'
theorem ok_l_pick (T : Tx K mg) {k : Nat} : FnOk P w K mg base CX0 (k + 2) T.f_l_pick T.d_l_pick ["_law_left_here", "_law_many"] spPick := by
  refine T.F_l_pick.ok sc_l_pick (fun vs H Q E h => ?_) (fun cdv A outer s H vs Q E hr h => ?_)
  · obtain ⟨L, m, n, rfl, _⟩ := h
    rfl
  · obtain ⟨L, m, n, rfl, ⟨a, b, c, hL, a0, c0, cn⟩, hn, m0, m1, q⟩ := h
    refine ⟨_, (pss_cons (ps_asg (pe_op op_add (pe_ix (ix_listK K) (pv 0) pe_int (fun _ _ => rfl)) pe_int) (pg_sub (pv 0) pe_int set_list))
      (pss_cons (ps_if (pt_cmpR op_gt (pe_ix (ix_listK K) (pv 0) pe_int (fun _ _ => rfl)) pe_int (nomark _)) (pss_cons (ps_set (i := 2) sc_l_pick.nd rfl (.inl rfl) (pe_op op_mod (pe_ix (ix_listK K) (pv 0) pe_int (fun _ _ => rfl)) (pv 1)))
      (pss_cons (ps_asg (pe_op op_fdiv (pe_ix (ix_listK K) (pv 0) pe_int (fun _ _ => rfl)) (pv 1)) (pg_sub (pv 0) pe_int set_list))
      (pss_one (ps_ret (pv 2))))) pss_nil)
      (pss_one (ps_ret (pe_op op_mod (pe_op op_fdiv (pe_call (ok_l_mix T (k := k)) hr (by rfl) T.g_l_mix T.F_l_mix.kp T.b_l_mix .nil pass0 (pa_cons (pe_call (ok_l_mix T (k := k)) hr (by rfl) T.g_l_mix T.F_l_mix.kp T.b_l_mix .nil pass0 (pa_cons (pe_ix (ix_listK K) (pv 0) pe_int (fun _ _ => rfl)) (pa_cons (pe_ix (ix_listK K) (pv 0) pe_int (fun _ _ => rfl)) pa_nil))) (pa_cons (pe_op op_add (pe_ix (ix_listK K) (pv 0) pe_int (fun _ _ => rfl)) pe_int) pa_nil))) pe_int) (pv 1)))))), ?_⟩
    refine ⟨_, rfl, L, _, 2, .int c, rfl, rfl, SqL.of hL, rfl, _, _, rfl, rfl, _, rfl, L, _, _, 2, rfl, rfl, hL, rfl, ?_⟩
    generalize hH : upd H L (.lst (List.set [V.int a, V.int b, V.int c] 2 (V.int (c + 1)))) = H1
    have hL1 : H1 L = some (.lst [.int a, .int b, .int (c + 1)]) := by rw [← hH]; exact upd_same
    have g1 : Go [L] H H1 := by rw [← hH]; exact Go.refl.at (List.mem_singleton.mpr rfl)
    refine ⟨_, rfl, L, _, 0, .int a, rfl, rfl, SqL.of hL1, rfl, _, _, rfl, rfl, _, rfl, ite2 (fun e => ?_) (fun e => ?_)⟩
    · have e1 : 0 < a := of_decide_eq_true e
      refine ⟨_, rfl, L, _, 0, .int a, rfl, rfl, SqL.of hL1, rfl, _, rfl, _, _, rfl, rfl, md m0, ?_⟩
      refine ⟨_, rfl, L, _, 0, .int a, rfl, rfl, SqL.of hL1, rfl, _, rfl, _, _, rfl, rfl, ⟨m0, m1⟩, _, rfl, L, _, _, 0, rfl, rfl, hL1, rfl, ?_⟩
      refine ⟨_, rfl, ?_⟩
      exact q _ _ (g1.at (List.mem_singleton.mpr rfl)) ⟨a / m, b, c + 1, upd_same, Int.ediv_nonneg a0 (by omega), by omega, by omega⟩ (Int.emod_nonneg _ (by omega)) (Int.emod_lt_of_pos _ m0)
    · refine ⟨_, rfl, L, _, 1, .int b, rfl, rfl, SqL.of hL1, rfl, _, rfl, L, _, 2, .int (c + 1), rfl, rfl, SqL.of hL1, rfl, _, _, rfl, by omega, by omega, fun r1 _ _ => ?_⟩
      refine ⟨_, rfl, L, _, 2, .int (c + 1), rfl, rfl, SqL.of hL1, rfl, _, _, rfl, rfl, _, _, rfl, by omega, by omega, fun r2 _ _ => ?_⟩
      refine ⟨_, _, rfl, rfl, ⟨by decide, by decide⟩, _, rfl, _, _, rfl, rfl, md m0, ?_⟩
      exact q _ _ g1 ⟨a, b, c + 1, hL1, a0, by omega, by omega⟩ (Int.emod_nonneg _ (by omega)) (Int.emod_lt_of_pos _ m0)
/-! ### kind -/
def spKind : Sp := fun vs H Q _ => ∃ (L : Addr) (n : Nat), vs = [.ref L] ∧ Lf L H n ∧ n < 100000000 ∧ ∀ (v : V) (H' : Hp) (wd sp : Int), Go [L] H H' → Lf L H' (n + 2) → 1 ≤ wd → wd ≤ 5 → 3 ≤ sp → sp ≤ 1000 → Dt [L] H' v (eC [wd, sp]) → Q v H'
theorem ok_l_kind (T : Tx K mg) {k : Nat} : FnOk P w K mg base CX0 (k + 3) T.f_l_kind T.d_l_kind ["_law_left_here"] spKind := by
  refine T.F_l_kind.ok sc_l_kind (fun vs H Q E h => ?_) (fun cdv A outer s H vs Q E hr h => ?_)
  · obtain ⟨L, n, rfl, _⟩ := h
    rfl
  · obtain ⟨L, n, rfl, hL, hn, q⟩ := h
    refine ⟨_, (pss_one (ps_ret (pe_tup (pa_cons (pe_ix (ix_listK K) (pe_lst (pa_cons pe_int (pa_cons pe_int (pa_cons pe_int (pa_cons pe_int (pa_cons pe_int (pa_cons pe_int (pa_cons pe_int (pa_cons pe_int pa_nil))))))))) (pe_call (ok_l_pick T (k := k)) hr (by rfl) T.g_l_pick T.F_l_pick.kp T.b_l_pick .nil pass0 (pa_cons (pv 0) (pa_cons pe_int pa_nil))) (fun _ _ => rfl)) (pa_cons (pe_ix (ix_listK K) (pe_lst (pa_cons pe_int (pa_cons pe_int (pa_cons pe_int (pa_cons pe_int (pa_cons pe_int (pa_cons pe_int pa_nil))))))) (pe_call (ok_l_pick T (k := k)) hr (by rfl) T.g_l_pick T.F_l_pick.kp T.b_l_pick .nil pass0 (pa_cons (pv 0) (pa_cons pe_int pa_nil))) (fun _ _ => rfl)) pa_nil))))), ?_⟩
    refine ⟨(by show 8 ≤ sizeLine; decide), fun p hp => ?_⟩
    refine ⟨_, rfl, L, 8, n, rfl, hL.new hp, by omega, by decide, by decide, fun r1 H1 g1 l1 a1 b1 => ?_⟩
    have e1 : H1 p = some (.lst ([1, 2, 3, 3, 3, 4, 5, 2].map V.int)) := g1.k p _ (hL.bk.ne hp) upd_same
    obtain ⟨wd, mw, ew⟩ := at_int (ns := [1, 2, 3, 3, 3, 4, 5, 2]) a1 b1
    refine ⟨p, _, r1, .int wd, rfl, rfl, SqL.of e1, ew, (by show 6 ≤ sizeLine; decide), fun p2 hp2 => ?_⟩
    refine ⟨_, rfl, L, 6, n + 1, rfl, l1.new hp2, by omega, by decide, by decide, fun r2 H2 g2 l2 a2 b2 => ?_⟩
    have e2 : H2 p2 = some (.lst ([3, 6, 20, 256, 1000, 10].map V.int)) := g2.k p2 _ (l1.bk.ne hp2) upd_same
    obtain ⟨sp, ms, es⟩ := at_int (ns := [3, 6, 20, 256, 1000, 10]) a2 b2
    refine ⟨p2, _, r2, .int sp, rfl, rfl, SqL.of e2, es, (by show 2 ≤ sizeLine; decide), fun p3 hp3 => ?_⟩
    simp at mw ms
    refine q _ _ wd sp (((((Go.new hp).trans g1).trans (Go.new hp2)).trans g2).trans (Go.new hp3)) (l2.new hp3) (by omega) (by omega) (by omega) (by omega) (Dt.ofCol (l2.bk.ne hp3) upd_same)
/-! ### colour -/
def spColour : Sp := fun vs H Q _ => ∃ (L : Addr) (B : List Addr) (n : Nat) (kv : V) (wd sp : Int), vs = [.ref L, kv] ∧ Lf L H n ∧ L ∈ B ∧ Bk B H ∧ n < 100000000 ∧ Dt [L] H kv (eC [wd, sp]) ∧ 0 ≤ wd ∧ wd ≤ 5 ∧ 1 ≤ sp ∧ sp ≤ 1000 ∧
  ∀ (v : V) (H' : Hp) (ns : List Int), Go [L] H H' → Lf L H' (n + 10) → Dt B H' v (eC ns) → (ns.length : Int) = wd → cIn 0 999 ns → Q v H'
theorem ok_l_colour (T : Tx K mg) {k : Nat} : FnOk P w K mg base CX0 (k + 3) T.f_l_colour T.d_l_colour ["_law_left_here", "_law_kind_here"] spColour := by
  refine T.F_l_colour.ok sc_l_colour (fun vs H Q E h => ?_) (fun cdv A outer s H vs Q E hr h => ?_)
  · obtain ⟨L, B, n, kv, wd, sp, rfl, _⟩ := h
    rfl
  · obtain ⟨L, B, n, kv, wd, sp, rfl, hL, LB, hB, hn, hk, w0, w1, s0, s1, q⟩ := h
    obtain ⟨ka, rfl, nk, hkT⟩ := hk.col
    refine ⟨_, (pss_cons (ps_asg (pv 1) (pg_tupK K (n := 2) rfl (pgs_cons (pg_name (i := 2) sc_l_colour.nd rfl (.inl rfl)) (pgs_cons (pg_name (i := 3) sc_l_colour.nd rfl (.inr rfl)) pgs_nil))))
      (pss_one (ps_ret (pe_callTy (tuple_K K) (by rfl) T.z_tuple (by decide +kernel) (pa_cons (pe_lc (own := [("_law_place", 4)]) (by rfl) sc_l_colour.nd (pi_range1 (by rfl) T.z_range (pa_cons (pv 2) pa_nil)) (blkOk_by (own := [("_law_place", 4)]) (N := N_l_colour) (sc := defScope s_l_colour) (by decide +kernel)) (fun _ _ _ _ _ => (pg_name (i := 4) sc_l_colour.nd rfl (.inl rfl))) (fun _ _ _ _ _ => pts_nil) (fun _ _ _ _ _ => (pe_ix (ix_listK K) (pe_lst (pa_cons (pe_call (ok_l_pick T (k := k)) hr (by rfl) T.g_l_pick T.F_l_pick.kp T.b_l_pick .nil pass0 (pa_cons (pv 0) (pa_cons (pv 3) pa_nil))) (pa_cons pe_int pa_nil))) (pe_callTy call_int1 (by rfl) T.z_int (by decide +kernel) (pa_cons (pe_cmpR op_eq (pe_call (ok_l_pick T (k := k)) hr (by rfl) T.g_l_pick T.F_l_pick.kp T.b_l_pick .nil pass0 (pa_cons (pv 0) (pa_cons pe_int pa_nil))) pe_int (nomark _)) pa_nil)) (fun _ _ => rfl)))) pa_nil))))), ?_⟩
    refine ⟨_, rfl, ka, [.int wd, .int sp], rfl, SqT.of hkT, rfl, .int wd, _, rfl, .int sp, _, rfl, rfl, ?_⟩
    refine ⟨_, rfl, wd, rfl, by omega, by omega, fun D hD => ?_⟩
    refine lc_range (lo := 0) (n := wd.toNat) (fun i H' => ∃ ns : List Int, ns.length = i ∧ cIn 0 999 ns ∧ Go [L] H H' ∧ Lf L H' (n + 2 * i) ∧ H' D = some (.lst (ns.map V.int)))
      ⟨[], rfl, cIn.nil, Go.new hD, hL.new hD, upd_same⟩ (fun i H1 hi h1 => ?_) (fun H1 h1 => ?_)
    · obtain ⟨ns, en, cn, g, l, eD⟩ := h1
      have nD : D ∉ [L] := hL.bk.ne hD
      refine ⟨rfl, lc_yes ?_⟩
      refine ⟨_, rfl, _, rfl, L, sp, n + 2 * i, rfl, l, by omega, by omega, by omega, fun r1 H2 g2 l2 a1 b1 => ?_⟩
      refine ⟨(by show 2 ≤ sizeLine; decide), fun p hp => ?_⟩
      refine ⟨_, rfl, L, 8, n + 2 * i + 1, rfl, l2.new hp, by omega, by decide, by decide, fun r2 H3 g3 l3 a2 b2 => ?_⟩
      have e3 : H3 p = some (.lst [.int r1, .int 999]) := g3.k p _ (l2.bk.ne hp) upd_same
      refine ⟨rfl, .inr ⟨_, rfl, p, _, _, _, rfl, rfl, SqL.of e3, at2 _ _ _, ns.map V.int, ?_⟩⟩
      have gg : Go [L] H1 H3 := (g2.trans (Go.new hp)).trans g3
      obtain ⟨x, ex, x0, x1⟩ : ∃ x : Int, (if decide (V.int r2 = V.int 0) = true then V.int 999 else V.int r1) = .int x ∧ 0 ≤ x ∧ x ≤ 999 := by
        by_cases hb : decide (V.int r2 = V.int 0) = true
        · rw [if_pos hb]
          exact ⟨999, rfl, by decide, by decide⟩
        · rw [if_neg hb]
          exact ⟨r1, rfl, by omega, by omega⟩
      refine ⟨gg.k D _ nD eD, sz (by rw [List.length_map]; omega), ns ++ [x], ?_, cn.app x0 x1, (g.trans gg).mut hD, (l3.up (hL.ne hD)).mono (by omega), ?_⟩
      · rw [List.length_append]
        simp
        omega
      · rw [upd_same, List.map_append, ex]
        rfl
    · obtain ⟨ns, en, cn, g, l, eD⟩ := h1
      refine ⟨D, _, rfl, .inl ⟨SqL.of eD, fun t ht => ?_⟩⟩
      exact q _ _ ns (g.trans (Go.new ht)) ((l.new ht).mono (by omega)) (Dt.ofCol ((hB.go g).ne ht) upd_same) (by omega) cn
/-! ### same -/
def spSame : Nat → Sp
  | 0 => fun _ _ _ _ => False
  | k + 1 => fun vs H Q _ => ∃ (B : List Addr) (x y : V) (d : PyData), vs = [x, y] ∧ Dt B H x d ∧ Dt B H y d ∧ Sh d k ∧ k ≤ 60 ∧ ∀ H', Same H H' → Q (.bl true) H'
theorem kT {K : PySem.W.Frag} : PySem.W.kitAny K (.type "tuple") [.type "list", .type "tuple"] = some true := kitAny_cons (b := false) (kit_ty (by decide +kernel)) (fun _ => kitAny_cons (b := true) (kit_ty (by decide +kernel)) (fun h => Bool.noConfusion h) (fun _ => rfl)) (fun h => Bool.noConfusion h)
theorem kL {K : PySem.W.Frag} : PySem.W.kitAny K (.type "list") [.type "list", .type "tuple"] = some true := kitAny_cons (b := true) (kit_ty (by decide +kernel)) (fun h => Bool.noConfusion h) (fun _ => rfl)
theorem kF {K : PySem.W.Frag} {t : String} (h1 : kitB t "list" = some false) (h2 : kitB t "tuple" = some false) : PySem.W.kitAny K (.type t) [.type "list", .type "tuple"] = some false :=
  kitAny_cons (kit_ty (b := "list") h1) (fun _ => kitAny_cons (kit_ty (b := "tuple") h2) (fun _ => kitAny_nil) (fun h => nomatch h)) (fun h => nomatch h)
theorem eqv_sh {d : PyData} {k : Nat} (h : Sh d k) : PyData.eqv d d = true := SeqAt.eqv_refl d h.1
theorem allT : ∀ n : Nat, (List.range n).filterMap (fun _ => some (PyData.bool true)) = (List.replicate n true).map PyData.bool
  | 0 => rfl
  | n + 1 => by
    rw [List.range_succ, List.filterMap_append, allT n, List.replicate_succ', List.map_append]
    rfl
theorem same_all (T : Tx K mg) (k : Nat) : FnOk P w K mg base CX0 k T.f_l_same T.d_l_same ["_law_found", "_law_due"] (spSame k) := by
  induction k with
  | zero => exact ⟨fun _ _ _ _ h => h.elim, fun _ _ _ _ _ _ _ _ _ _ _ _ _ h => h.elim⟩
  | succ k GS =>
    refine T.F_l_same.ok sc_l_same (fun vs H Q E h => ?_) (fun cdv A outer s H vs Q E hr h => ?_)
    · obtain ⟨B, x, y, d, rfl, _⟩ := h
      rfl
    · obtain ⟨B, x, y, d, rfl, hx, hy, hd, k60, q⟩ := h
      have hrS := hr
      refine ⟨_, (pss_cons (ps_if (pt_val (pe_callB (call_isiTK K) (by rfl) T.z_isinstance (by decide +kernel) (pa_cons (pv 1) (pa_cons (pe_tup (pa_cons (pe_bltn (v := .ty "list") (by rfl) T.z_list (by decide +kernel) rfl) (pa_cons (pe_bltn (v := .ty "tuple") (by rfl) T.z_tuple (by decide +kernel) rfl) pa_nil))) pa_nil)))) (pss_cons (ps_if (PW.pt (pw_or (pt_cmpR op_ne (pe_callB (call_isiK1 K) (by rfl) T.z_isinstance (by decide +kernel) (pa_cons (pv 0) (pa_cons (pe_bltn (v := .ty "list") (by rfl) T.z_list (by decide +kernel) rfl) pa_nil))) (pe_callB (call_isiK1 K) (by rfl) T.z_isinstance (by decide +kernel) (pa_cons (pv 1) (pa_cons (pe_bltn (v := .ty "list") (by rfl) T.z_list (by decide +kernel) rfl) pa_nil))) (nomark _)) (pw_or1 (pt_cmpR op_ne (pe_callB (call_isiK1 K) (by rfl) T.z_isinstance (by decide +kernel) (pa_cons (pv 0) (pa_cons (pe_bltn (v := .ty "tuple") (by rfl) T.z_tuple (by decide +kernel) rfl) pa_nil))) (pe_callB (call_isiK1 K) (by rfl) T.z_isinstance (by decide +kernel) (pa_cons (pv 1) (pa_cons (pe_bltn (v := .ty "tuple") (by rfl) T.z_tuple (by decide +kernel) rfl) pa_nil))) (nomark _))))) (pss_one (ps_ret pe_bl)) pss_nil)
      (pss_one (ps_ret (pe_and (pe_cmpR op_eq (pe_callB (len_K K) (by rfl) T.z_len PySem.boot_len (pa_cons (pv 0) pa_nil)) (pe_callB (len_K K) (by rfl) T.z_len PySem.boot_len (pa_cons (pv 1) pa_nil)) (nomark _)) (pe_one (pe_callB (cr_allK K rfl) (by rfl) T.z_all (by decide +kernel) (pa_cons (pe_lc (own := [("_law_one", 2), ("_law_other", 3)]) (by rfl) sc_l_same.nd (RZ.pi_zipA (by rfl) T.z_zip (pa_cons (pv 0) (pa_cons (pv 1) pa_nil))) (blkOk_by (own := [("_law_one", 2), ("_law_other", 3)]) (N := N_l_same) (sc := defScope s_l_same) (by decide +kernel)) (fun _ _ _ _ _ => (pg_tupK K (n := 2) rfl (pgs_cons (pg_name (i := 2) sc_l_same.nd rfl (.inl rfl)) (pgs_cons (pg_name (i := 3) sc_l_same.nd rfl (.inl rfl)) pgs_nil)))) (fun _ _ _ _ _ => pts_nil) (fun _ _ _ _ _ => (pe_call GS hrS (by rfl) T.g_l_same T.F_l_same.kp T.b_l_same .nil pass0 (pa_cons (pv 2) (pa_cons (pv 3) pa_nil))))) pa_nil))))))) pss_nil)
      (pss_cons (ps_if (PW.pt (pw_or (pt_cmpR op_isN (pv 1) pe_non (nomark _)) (pw_or1 (pt_val (pe_callB (call_isiK1 K) (by rfl) T.z_isinstance (by decide +kernel) (pa_cons (pv 1) (pa_cons (pe_bltn (v := .ty "str") (by rfl) T.z_str (by decide +kernel) rfl) pa_nil))))))) (pss_one (ps_ret (pe_and (pe_cmpR (op_eqDK K hr.units) (pv 0) (pv 1) (nomark _)) (pe_one (pe_cmpR op_eq (pe_callB (call_isiK1 K) (by rfl) T.z_isinstance (by decide +kernel) (pa_cons (pv 0) (pa_cons (pe_bltn (v := .ty "str") (by rfl) T.z_str (by decide +kernel) rfl) pa_nil))) (pe_callB (call_isiK1 K) (by rfl) T.z_isinstance (by decide +kernel) (pa_cons (pv 1) (pa_cons (pe_bltn (v := .ty "str") (by rfl) T.z_str (by decide +kernel) rfl) pa_nil))) (nomark _)))))) pss_nil)
      (pss_cons (ps_if (pt_val (pe_callB (call_isiK1 K) (by rfl) T.z_isinstance (by decide +kernel) (pa_cons (pv 1) (pa_cons (pe_bltn (v := .ty "bool") (by rfl) T.z_bool (by decide +kernel) rfl) pa_nil)))) (pss_one (ps_ret (pe_and (pe_callB (call_isiK1 K) (by rfl) T.z_isinstance (by decide +kernel) (pa_cons (pv 0) (pa_cons (pe_bltn (v := .ty "bool") (by rfl) T.z_bool (by decide +kernel) rfl) pa_nil))) (pe_one (pe_cmpR (op_eqDK K hr.units) (pv 0) (pv 1) (nomark _)))))) pss_nil)
      (pss_one (ps_ret (pe_and (pe_callB (call_isiK1 K) (by rfl) T.z_isinstance (by decide +kernel) (pa_cons (pv 0) (pa_cons (pe_bltn (v := .ty "int") (by rfl) T.z_int (by decide +kernel) rfl) pa_nil))) (pe_and (pe_not (pe_callB (call_isiK1 K) (by rfl) T.z_isinstance (by decide +kernel) (pa_cons (pv 0) (pa_cons (pe_bltn (v := .ty "bool") (by rfl) T.z_bool (by decide +kernel) rfl) pa_nil)))) (pe_one (pe_cmpR (op_eqDK K hr.units) (pv 0) (pv 1) (nomark _)))))))))), ?_⟩
      refine ⟨_, rfl, (by show 2 ≤ sizeLine; decide), fun tp htp => ?_⟩
      have s1 : Same H (upd H tp (.tup [.ty "list", .ty "tuple"])) := sm_new htp
      have hx1 := hx.s s1
      have hy1 := hy.s s1
      have hT : (upd H tp (.tup [.ty "list", .ty "tuple"])) tp = some (.tup [.ty "list", .ty "tuple"]) := upd_same
      generalize upd H tp (.tup [.ty "list", .ty "tuple"]) = H1 at *
      cases d with
      | list ds =>
        have tx : TyX K H1 x (.type "list") := hx1.ty
        have ty : TyX K H1 y (.type "list") := hy1.ty
        refine ⟨y, tp, _, _, [.type "list", .type "tuple"], true, rfl, hT, .cons (.ty _) (.cons (.ty _) .nil), ty, kL, true, rfl, iteT ?_⟩
        refine ⟨_, rfl, _, _, _, _, true, rfl, .ty _, tx, kit_ty (by decide +kernel), _, rfl, _, _, _, _, true, rfl, .ty _, ty, kit_ty (by decide +kernel), rfl, _, rfl, iteNS rfl ?_⟩
        refine ⟨_, rfl, _, _, _, _, false, rfl, .ty _, tx, kit_ty (by decide +kernel), _, rfl, _, _, _, _, false, rfl, .ty _, ty, kit_ty (by decide +kernel), rfl, _, rfl, iteNS rfl ?_⟩
        obtain ⟨a, xs, rfl, na, ha, hA⟩ := hx1.lstI
        obtain ⟨b, ys, rfl, nb, hb, hB⟩ := hy1.lstI
        have l1 := hA.len
        have l2 := hB.len
        refine ⟨_, rfl, a, _, rfl, .inl (SqL.of ha), _, rfl, b, _, rfl, .inl (SqL.of hb), rfl, _, rfl, iteD (by rw [l1, l2]) ?_⟩
        refine ⟨_, rfl, _, rfl, a, b, _, _, rfl, .inl ⟨SqL.of ha, SqL.of hb, fun D hD => ?_⟩⟩
        obtain ⟨j, rfl, hs, hl⟩ := hd.lstI
        refine lc_pure (B := []) (walk_zip (n := ds.length) (xs := xs) (ys := ys) (by rw [l1, l2, Nat.min_self])) hD (fun _ h => nomatch h) (fun H' s' => ⟨SqL.of (s' _ _ ha), SqL.of (s' _ _ hb)⟩) hl
          (fun i => some (.bool true)) (fun i x H' H'' Ny Nn hi s2 bk y ky kn => ?_) (fun H' ws s2 eD hW => ?_)
        · obtain ⟨t, x, y, rfl, ht, rfl, e1, e2⟩ := y
          obtain ⟨d1, f1, g1⟩ := hA.getV e1
          obtain ⟨d2, f2, g2⟩ := hB.getV e2
          have ed : d1 = d2 := Option.some.inj (f1.symm.trans f2)
          subst ed
          refine ⟨t, [x, y], rfl, SqT.of upd_same, rfl, x, _, rfl, y, _, rfl, rfl, rfl, lc_yes ?_⟩
          refine ⟨_, rfl, _, rfl, B, x, y, d1, rfl, (g1.s s2).s (sm_new ht), (g2.s s2).s (sm_new ht), hs _ (List.mem_of_getElem? f1), by omega, fun H3 s3 => ?_⟩
          exact ky _ _ _ rfl ((sm_new ht).trans s3) (.bl _)
        · rw [allT] at hW
          refine ⟨D, _, rfl, SqL.of (by rw [eD, hW.blsV]), ?_⟩
          rw [show (List.replicate ds.length true).all id = true by simp]
          exact q _ (s1.trans s2)
      | tuple ds =>
        have tx : TyX K H1 x (.type "tuple") := hx1.ty
        have ty : TyX K H1 y (.type "tuple") := hy1.ty
        refine ⟨y, tp, _, _, [.type "list", .type "tuple"], true, rfl, hT, .cons (.ty _) (.cons (.ty _) .nil), ty, kT, true, rfl, iteT ?_⟩
        refine ⟨_, rfl, _, _, _, _, false, rfl, .ty _, tx, kit_ty (by decide +kernel), _, rfl, _, _, _, _, false, rfl, .ty _, ty, kit_ty (by decide +kernel), rfl, _, rfl, iteNS rfl ?_⟩
        refine ⟨_, rfl, _, _, _, _, true, rfl, .ty _, tx, kit_ty (by decide +kernel), _, rfl, _, _, _, _, true, rfl, .ty _, ty, kit_ty (by decide +kernel), rfl, _, rfl, iteNS rfl ?_⟩
        obtain ⟨a, xs, rfl, na, ha, hA⟩ := hx1.tupI
        obtain ⟨b, ys, rfl, nb, hb, hB⟩ := hy1.tupI
        have l1 := hA.len
        have l2 := hB.len
        refine ⟨_, rfl, a, _, rfl, .inr (SqT.of ha), _, rfl, b, _, rfl, .inr (SqT.of hb), rfl, _, rfl, iteD (by rw [l1, l2]) ?_⟩
        refine ⟨_, rfl, _, rfl, a, b, _, _, rfl, .inr ⟨SqT.of ha, SqT.of hb, fun D hD => ?_⟩⟩
        obtain ⟨j, rfl, hs, hl⟩ := hd.tupI
        refine lc_pure (B := []) (walk_zipT (n := ds.length) (xs := xs) (ys := ys) (by rw [l1, l2, Nat.min_self])) hD (fun _ h => nomatch h) (fun H' s' => ⟨SqT.of (s' _ _ ha), SqT.of (s' _ _ hb)⟩) hl
          (fun i => some (.bool true)) (fun i x H' H'' Ny Nn hi s2 bk y ky kn => ?_) (fun H' ws s2 eD hW => ?_)
        · obtain ⟨t, x, y, rfl, ht, rfl, e1, e2⟩ := y
          obtain ⟨d1, f1, g1⟩ := hA.getV e1
          obtain ⟨d2, f2, g2⟩ := hB.getV e2
          have ed : d1 = d2 := Option.some.inj (f1.symm.trans f2)
          subst ed
          refine ⟨t, [x, y], rfl, SqT.of upd_same, rfl, x, _, rfl, y, _, rfl, rfl, rfl, lc_yes ?_⟩
          refine ⟨_, rfl, _, rfl, B, x, y, d1, rfl, (g1.s s2).s (sm_new ht), (g2.s s2).s (sm_new ht), hs _ (List.mem_of_getElem? f1), by omega, fun H3 s3 => ?_⟩
          exact ky _ _ _ rfl ((sm_new ht).trans s3) (.bl _)
        · rw [allT] at hW
          refine ⟨D, _, rfl, SqL.of (by rw [eD, hW.blsV]), ?_⟩
          rw [show (List.replicate ds.length true).all id = true by simp]
          exact q _ (s1.trans s2)
      | none =>
        have tx : TyX K H1 x (.type "NoneType") := hx1.ty
        have ty : TyX K H1 y (.type "NoneType") := hy1.ty
        refine ⟨y, tp, _, _, [.type "list", .type "tuple"], false, rfl, hT, .cons (.ty _) (.cons (.ty _) .nil), ty, kF (by decide +kernel) (by decide +kernel), false, rfl, iteF ?_⟩
        have ey : y = .non := by cases hy1; rfl
        subst ey
        refine ⟨_, rfl, rfl, _, rfl, iteD rfl ?_⟩
        refine iteT ?_
        refine ⟨_, rfl, _, rfl, _, _, hx1.dP, hy1.dP, hd.sh (by omega), hd.sh (by omega), _, rfl, iteE (eqv_sh hd) ?_⟩
        refine ⟨_, rfl, _, _, _, _, false, rfl, .ty _, tx, kit_ty (by decide +kernel), _, rfl, _, _, _, _, false, rfl, .ty _, ty, kit_ty (by decide +kernel), rfl, ?_⟩
        exact q _ s1
      | bool b =>
        have tx : TyX K H1 x (.type "bool") := hx1.ty
        have ty : TyX K H1 y (.type "bool") := hy1.ty
        refine ⟨y, tp, _, _, [.type "list", .type "tuple"], false, rfl, hT, .cons (.ty _) (.cons (.ty _) .nil), ty, kF (by decide +kernel) (by decide +kernel), false, rfl, iteF ?_⟩
        have ey : y = .bl b := by cases hy1; rfl
        subst ey
        refine ⟨_, rfl, rfl, _, rfl, iteN (decide_eq_false (fun h => nomatch h)) ?_⟩
        refine ⟨_, rfl, _, _, _, _, false, rfl, .ty _, ty, kit_ty (by decide +kernel), _, rfl, iteF ?_⟩
        refine ⟨_, rfl, _, _, _, _, true, rfl, .ty _, ty, kit_ty (by decide +kernel), _, rfl, iteT ?_⟩
        refine ⟨_, rfl, _, _, _, _, true, rfl, .ty _, tx, kit_ty (by decide +kernel), _, rfl, iteT ?_⟩
        refine ⟨_, rfl, _, rfl, _, _, hx1.dP, hy1.dP, hd.sh (by omega), hd.sh (by omega), ?_⟩
        rw [eqv_sh hd]
        exact q _ s1
      | int i =>
        have tx : TyX K H1 x (.type "int") := hx1.ty
        have ty : TyX K H1 y (.type "int") := hy1.ty
        refine ⟨y, tp, _, _, [.type "list", .type "tuple"], false, rfl, hT, .cons (.ty _) (.cons (.ty _) .nil), ty, kF (by decide +kernel) (by decide +kernel), false, rfl, iteF ?_⟩
        have ey := hy1.intI
        subst ey
        refine ⟨_, rfl, rfl, _, rfl, iteN (decide_eq_false (fun h => nomatch h)) ?_⟩
        refine ⟨_, rfl, _, _, _, _, false, rfl, .ty _, ty, kit_ty (by decide +kernel), _, rfl, iteF ?_⟩
        refine ⟨_, rfl, _, _, _, _, false, rfl, .ty _, ty, kit_ty (by decide +kernel), _, rfl, iteF ?_⟩
        refine ⟨_, rfl, _, _, _, _, true, rfl, .ty _, tx, kit_ty (by decide +kernel), _, rfl, iteT ?_⟩
        refine ⟨_, rfl, _, _, _, _, false, rfl, .ty _, tx, kit_ty (by decide +kernel), _, rfl, _, rfl, iteT ?_⟩
        refine ⟨_, rfl, _, rfl, _, _, hx1.dP, hy1.dP, hd.sh (by omega), hd.sh (by omega), ?_⟩
        rw [eqv_sh hd]
        exact q _ s1
      | str z =>
        have tx : TyX K H1 x (.type "str") := hx1.ty
        have ty : TyX K H1 y (.type "str") := hy1.ty
        refine ⟨y, tp, _, _, [.type "list", .type "tuple"], false, rfl, hT, .cons (.ty _) (.cons (.ty _) .nil), ty, kF (by decide +kernel) (by decide +kernel), false, rfl, iteF ?_⟩
        have ey : y = .str z := by cases hy1; rfl
        subst ey
        refine ⟨_, rfl, rfl, _, rfl, iteN (decide_eq_false (fun h => nomatch h)) ?_⟩
        refine ⟨_, rfl, _, _, _, _, true, rfl, .ty _, ty, kit_ty (by decide +kernel), _, rfl, iteT ?_⟩
        refine ⟨_, rfl, _, rfl, _, _, hx1.dP, hy1.dP, hd.sh (by omega), hd.sh (by omega), _, rfl, iteE (eqv_sh hd) ?_⟩
        refine ⟨_, rfl, _, _, _, _, true, rfl, .ty _, tx, kit_ty (by decide +kernel), _, rfl, _, _, _, _, true, rfl, .ty _, ty, kit_ty (by decide +kernel), rfl, ?_⟩
        exact q _ s1
      | dict kvs => cases hx
theorem ok_l_same (T : Tx K mg) {k : Nat} : FnOk P w K mg base CX0 (k + 1) T.f_l_same T.d_l_same ["_law_found", "_law_due"] (spSame (k + 1)) := same_all T (k + 1)
/-! ### apart, both ways -/
def ap (a b : List Int) : Int := ((a.zip b).map fun p => (p.1 - p.2) ^ 2).sum
theorem ap_len (a b : List Int) : ((a.zip b).map fun p => (p.1 - p.2) ^ 2).length = min a.length b.length := by simp
theorem sq_ok {x y : Int} (h1 : -100000000 ≤ x) (h2 : x ≤ 100000000) (h3 : -100000000 ≤ y) (h4 : y ≤ 100000000) : CPow (x - y) 2 := ⟨by decide, by decide, by omega⟩
theorem zat {a b : List Int} {i : Nat} {f : Int × Int → PyData} (h1 : i < a.length) (h2 : i < b.length) : ((a.zip b).map f)[i]? = some (f (a[i], b[i])) := by
  rw [List.getElem?_map, List.getElem?_eq_getElem (by simp; omega)]
  simp
def spApart : Sp := fun vs H Q _ => ∃ (B : List Addr) (x y : V) (a b : List Int), vs = [x, y] ∧ Dt B H x (eC a) ∧ Dt B H y (eC b) ∧ a.length = b.length ∧ b.length ≤ 100 ∧ cIn (-100000000) 100000000 a ∧ cIn (-100000000) 100000000 b ∧ ∀ H', Same H H' → Q (.int (ap a b)) H'
theorem ok_apart (T : Tx K mg) {k : Nat} : FnOk P w K mg base CX0 (k + 1) T.f_apart T.d_apart ["one", "other"] spApart := by
  refine T.F_apart.ok sc_apart (fun vs H Q E h => ?_) (fun cdv A outer s H vs Q E hr h => ?_)
  · obtain ⟨B, x, y, a, b, rfl, _⟩ := h
    rfl
  · obtain ⟨B, x, y, a, b, rfl, ha, hb, hl, hz, ca, cb, q⟩ := h
    obtain ⟨pa, rfl, na, ta⟩ := ha.col
    obtain ⟨pb, rfl, nb, tb⟩ := hb.col
    refine ⟨_, (pss_one (ps_ret (pe_callB (cr_sumK K rfl) (by rfl) T.z_sum (by decide +kernel) (pa_cons (pe_lc (own := [("a", 2), ("b", 3)]) (by rfl) sc_apart.nd (RZ.pi_zipA (by rfl) T.z_zip (pa_cons (pv 0) (pa_cons (pv 1) pa_nil))) (blkOk_by (own := [("a", 2), ("b", 3)]) (N := N_apart) (sc := defScope s_apart) (by decide +kernel)) (fun _ _ _ _ _ => (pg_tupK K (n := 2) rfl (pgs_cons (pg_name (i := 2) sc_apart.nd rfl (.inl rfl)) (pgs_cons (pg_name (i := 3) sc_apart.nd rfl (.inl rfl)) pgs_nil)))) (fun _ _ _ _ _ => pts_nil) (fun _ _ _ _ _ => (pe_op op_pow (pe_op op_sub (pv 2) (pv 3)) pe_int))) pa_nil)))), ?_⟩
    refine ⟨_, rfl, _, rfl, pa, pb, _, _, rfl, .inr ⟨SqT.of ta, SqT.of tb, fun D hD => ?_⟩⟩
    refine lc_pure (B := []) (walk_zipT (n := a.length) (xs := a.map V.int) (ys := b.map V.int) (by simp; omega)) hD (fun _ h => nomatch h) (fun H' s' => ⟨SqT.of (s' _ _ ta), SqT.of (s' _ _ tb)⟩) (by omega)
      (fun i => ((a.zip b).map fun p => PyData.int ((p.1 - p.2) ^ 2))[i]?) (fun i x H' H'' Ny Nn hi s1 bk y ky kn => ?_) (fun H' ws s1 eD hA => ?_)
    · obtain ⟨t, x, y, rfl, ht, rfl, e1, e2⟩ := y
      have i2 : i < b.length := by omega
      have x1 := mat hi e1
      have x2 := mat i2 e2
      have c1 := ca _ (List.getElem_mem hi)
      have c2 := cb _ (List.getElem_mem i2)
      refine ⟨t, [x, y], rfl, SqT.of upd_same, rfl, x, _, rfl, y, _, rfl, rfl, rfl, lc_yes ?_⟩
      refine ⟨_, rfl, _, rfl, _, _, x1, x2, _, _, rfl, rfl, sq_ok c1.1 c1.2 c2.1 c2.2, ?_⟩
      exact ky _ _ _ (zat hi i2) (sm_new ht) (.int _)
    · rw [fm_all (by simp; omega)] at hA
      have hA2 : DtA (D :: []) H' ws (((a.zip b).map fun p => (p.1 - p.2) ^ 2).map PyData.int) := by rw [List.map_map]; exact hA
      refine ⟨D, _, rfl, SqL.of (by rw [eD, hA2.intsV]), ?_⟩
      exact q _ s1
/-! ### the law's own apart -/
theorem ok_l_apart (T : Tx K mg) {k : Nat} : FnOk P w K mg base CX0 (k + 1) T.f_l_apart T.d_l_apart ["_law_one", "_law_other"] spApart := by
  refine T.F_l_apart.ok sc_l_apart (fun vs H Q E h => ?_) (fun cdv A outer s H vs Q E hr h => ?_)
  · obtain ⟨B, x, y, a, b, rfl, _⟩ := h
    rfl
  · obtain ⟨B, x, y, a, b, rfl, ha, hb, hl, hz, ca, cb, q⟩ := h
    obtain ⟨pa, rfl, na, ta⟩ := ha.col
    obtain ⟨pb, rfl, nb, tb⟩ := hb.col
    refine ⟨_, (pss_one (ps_ret (pe_callB (cr_sumK K rfl) (by rfl) T.z_sum (by decide +kernel) (pa_cons (pe_lc (own := [("_law_a", 2), ("_law_b", 3)]) (by rfl) sc_l_apart.nd (RZ.pi_zipA (by rfl) T.z_zip (pa_cons (pv 0) (pa_cons (pv 1) pa_nil))) (blkOk_by (own := [("_law_a", 2), ("_law_b", 3)]) (N := N_l_apart) (sc := defScope s_l_apart) (by decide +kernel)) (fun _ _ _ _ _ => (pg_tupK K (n := 2) rfl (pgs_cons (pg_name (i := 2) sc_l_apart.nd rfl (.inl rfl)) (pgs_cons (pg_name (i := 3) sc_l_apart.nd rfl (.inl rfl)) pgs_nil)))) (fun _ _ _ _ _ => pts_nil) (fun _ _ _ _ _ => (pe_op op_mul (pe_op op_sub (pv 2) (pv 3)) (pe_op op_sub (pv 2) (pv 3))))) pa_nil)))), ?_⟩
    refine ⟨_, rfl, _, rfl, pa, pb, _, _, rfl, .inr ⟨SqT.of ta, SqT.of tb, fun D hD => ?_⟩⟩
    refine lc_pure (B := []) (walk_zipT (n := a.length) (xs := a.map V.int) (ys := b.map V.int) (by simp; omega)) hD (fun _ h => nomatch h) (fun H' s' => ⟨SqT.of (s' _ _ ta), SqT.of (s' _ _ tb)⟩) (by omega)
      (fun i => ((a.zip b).map fun p => PyData.int ((p.1 - p.2) ^ 2))[i]?) (fun i x H' H'' Ny Nn hi s1 bk y ky kn => ?_) (fun H' ws s1 eD hA => ?_)
    · obtain ⟨t, x, y, rfl, ht, rfl, e1, e2⟩ := y
      have i2 : i < b.length := by omega
      have x1 := mat hi e1
      have x2 := mat i2 e2
      have c1 := ca _ (List.getElem_mem hi)
      have c2 := cb _ (List.getElem_mem i2)
      refine ⟨t, [x, y], rfl, SqT.of upd_same, rfl, x, _, rfl, y, _, rfl, rfl, rfl, lc_yes ?_⟩
      refine ⟨_, rfl, _, rfl, _, _, x1, x2, _, rfl, _, rfl, _, _, x1, x2, _, _, rfl, rfl, .inl ⟨by omega, by omega⟩, ?_⟩
      exact ky _ _ _ (zat hi i2) (sm_new ht) (by rw [Int.pow_succ, Int.pow_succ, Int.pow_zero, Int.one_mul]; exact .int _)
    · rw [fm_all (by simp; omega)] at hA
      have hA2 : DtA (D :: []) H' ws (((a.zip b).map fun p => (p.1 - p.2) ^ 2).map PyData.int) := by rw [List.map_map]; exact hA
      refine ⟨D, _, rfl, SqL.of (by rw [eD, hA2.intsV]), ?_⟩
      exact q _ s1
/-! ### a few colours, drawn -/
def cOk (wd : Int) (c : List Int) : Prop := (c.length : Int) = wd ∧ cIn 0 999 c
def spFewL : Sp := fun vs H Q _ => ∃ (L : Addr) (n : Nat) (kv : V) (wd sp mo : Int), vs = [.ref L, kv, .int mo] ∧ Lf L H n ∧ n < 10000000 ∧ Dt [L] H kv (eC [wd, sp]) ∧ 0 ≤ wd ∧ wd ≤ 5 ∧ 1 ≤ sp ∧ sp ≤ 1000 ∧ 1 ≤ mo ∧ mo ≤ 40 ∧
  ∀ (a : Addr) (vs : List V) (H' : Hp) (cs : List (List Int)), Go [L] H H' → Lf L H' (n + 1000) → H a = none → H' a = some (.lst vs) → DtA [a, L] H' vs (cs.map eC) → 0 < cs.length → (cs.length : Int) ≤ mo → (∀ c ∈ cs, cOk wd c) → Q (.ref a) H'
theorem ok_l_few (T : Tx K mg) {k : Nat} : FnOk P w K mg base CX0 (k + 4) T.f_l_few T.d_l_few ["_law_left_here", "_law_kind_here", "_law_most"] spFewL := by
  refine T.F_l_few.ok sc_l_few (fun vs H Q E h => ?_) (fun cdv A outer s H vs Q E hr h => ?_)
  · obtain ⟨L, n, kv, wd, sp, mo, rfl, _⟩ := h
    rfl
  · obtain ⟨L, n, kv, wd, sp, mo, rfl, hL, hn, hk, w0, w1, s0, s1, m0, m1, q⟩ := h
    refine ⟨_, (pss_cons (ps_set (i := 3) sc_l_few.nd rfl (.inl rfl) (pe_lst pa_nil))
      (pss_cons (ps_for PassesOwn.never rfl (pi_range1 (by rfl) T.z_range (pa_cons (pe_op op_add pe_int (pe_call (ok_l_pick T (k := k + 1)) hr (by rfl) T.g_l_pick T.F_l_pick.kp T.b_l_pick .nil pass0 (pa_cons (pv 0) (pa_cons (pv 2) pa_nil)))) pa_nil)) (pg_name (i := 4) sc_l_few.nd rfl (.inl rfl)) (pss_cons (ps_set (i := 5) sc_l_few.nd rfl (.inl rfl) (pe_call (ok_l_colour T (k := k)) hr (by rfl) T.g_l_colour T.F_l_colour.kp T.b_l_colour .nil pass0 (pa_cons (pv 0) (pa_cons (pv 1) pa_nil))))
      (Evl.pss_cut (ps_if (PW.pt (pw_and (pt_cmpR (op_neDK K hr.units) (pv 3) (pe_lst pa_nil) (nomark _)) (pw_and1 (pt_cmpR op_eq (pe_call (ok_l_pick T (k := k + 1)) hr (by rfl) T.g_l_pick T.F_l_pick.kp T.b_l_pick .nil pass0 (pa_cons (pv 0) (pa_cons pe_int pa_nil))) pe_int (nomark _))))) (pss_one (ps_set (i := 5) sc_l_few.nd rfl (.inl rfl) (pe_ix (ix_listK K) (pv 3) (pe_call (ok_l_pick T (k := k + 1)) hr (by rfl) T.g_l_pick T.F_l_pick.kp T.b_l_pick .nil pass0 (pa_cons (pv 0) (pa_cons (pe_callB (len_K K) (by rfl) T.z_len PySem.boot_len (pa_cons (pv 3) pa_nil)) pa_nil))) (fun _ _ => rfl)))) pss_nil)
      (pss_one (ps_expr (pe_bm PySem.F.plainAttrs_list PySem.F.slot_list_append PySem.F.type_list_append mt_append (pv 3) (pa_cons (pv 5) pa_nil)))))))
      (pss_one (ps_ret (pv 3))))), ?_⟩
    refine ⟨Nat.zero_le _, fun D hD0 => ?_⟩
    have nD : D ∉ [L] := hL.bk.ne hD0
    refine ⟨_, rfl, _, rfl, L, mo, n, rfl, hL.new hD0, by omega, by omega, by omega, fun r1 H1 g1 l1 a1 b1 => ?_⟩
    have eD1 : H1 D = some (.lst []) := g1.k D _ nD upd_same
    have gH : Go [L] H H1 := (Go.new hD0).trans g1
    refine ⟨_, _, rfl, rfl, 1 + r1, rfl, by omega, by omega, for_range (lo := 0) (n := (1 + r1).toNat) (fun i σ H' => ∃ y4 y5 vs cs, σ = [some (.ref L), some kv, some (.int mo), some (.ref D), y4, y5] ∧ Go [L] H H' ∧ Lf L H' (n + 2 + 12 * i) ∧ H' D = some (.lst vs) ∧ DtA [D, L] H' vs (cs.map eC) ∧ cs.length = i ∧ ∀ c ∈ cs, cOk wd c)
      ⟨none, none, [], [], rfl, gH, l1.mono (by omega), eD1, .nil, rfl, fun _ h => nomatch h⟩ (fun i σ H3 hi h3 => ?_) (fun σ H3 h3 => ?_)⟩
    · obtain ⟨y4, y5, vs, cs, rfl, g3, l3, eD, hA, hl, hc⟩ := h3
      have bk3 : Bk [D, L] H3 := l3.bk.cons eD
      refine ⟨_, rfl, _, rfl, L, [D, L], n + 2 + 12 * i, kv, wd, sp, rfl, l3, by simp, bk3, by omega, hk.g g3, w0, w1, s0, s1, fun v H4 ns g4 l4 d4 n4 c4 => ?_⟩
      have eD4 := g4.k D _ nD eD
      refine ⟨fun σ' H' => ∃ y4 v c, σ' = [some (.ref L), some kv, some (.int mo), some (.ref D), y4, some v] ∧ Go [L] H3 H' ∧ Lf L H' (n + 2 + 12 * i + 12) ∧ Dt [D, L] H' v (eC c) ∧ cOk wd c, ?_, fun σ' H' hM => ?_⟩
      · refine ⟨_, rfl, Nat.zero_le _, fun z hz => ⟨eP cs, .list [], ?_, .lst (SqL.of upd_same) .nil, ?_, rfl, _, rfl, ite2 (fun e => ?_) (fun e => ?_)⟩⟩
        · exact Dt.dP (B := [L]) (.lst nD ((Go.new (B := [L]) hz).k D _ nD eD4) (((hA.g (g4.w1 (by simp))).un).g (Go.new hz)))
        · exact (sh_eP (by omega) fun c h => by have := (hc c h).1; omega).sh (by omega)
        · have hcs : cs ≠ [] := fun z => by
            subst z
            exact absurd e (by decide)
          have hlen : 0 < cs.length := List.length_pos_iff.mpr hcs
          refine ⟨_, rfl, L, 5, n + 2 + 12 * i + 10, rfl, l4.new hz, by omega, by decide, by decide, fun r5 H5 g5 l5 a5 b5 => ?_⟩
          have g45 : Go [L] H4 H5 := (Go.new hz).trans g5
          refine ⟨rfl, _, rfl, ite2 (fun e => ?_) (fun e => ?_)⟩
          · have eD5 := g45.k D _ nD eD4
            have hA5 := hA.g ((g4.trans g45).w1 (B := [D, L]) (by simp))
            have lv := hA5.len
            rw [List.length_map] at lv
            refine ⟨_, rfl, _, rfl, _, rfl, D, _, rfl, .inl (SqL.of eD5), L, _, n + 2 + 12 * i + 11, rfl, l5, by omega, by omega, by omega, fun r6 H6 g6 l6 a6 b6 => ?_⟩
            have eD6 := g6.k D _ nD eD5
            have hr6 : r6.toNat < cs.length := by omega
            obtain ⟨v6, f6, d6⟩ := (hA5.g (g6.w1 (B := [D, L]) (by simp))).get (i := r6.toNat) (d := eC cs[r6.toNat]) (by rw [List.getElem?_map, List.getElem?_eq_getElem hr6]; rfl)
            refine ⟨D, _, _, _, rfl, rfl, SqL.of eD6, at0 a6 f6, ?_⟩
            exact ⟨_, v6, _, rfl, (g4.trans g45).trans g6, l6.mono (by omega), d6, hc _ (List.getElem_mem hr6)⟩
          · exact ⟨_, v, ns, rfl, g4.trans g45, l5.mono (by omega), d4.g (g45.w1 (by simp)), n4, c4⟩
        · exact iteF ⟨_, v, ns, rfl, g4.trans (Go.new hz), (l4.new hz).mono (by omega), d4.g (Go.new hz), n4, c4⟩
      · obtain ⟨z4, v7, c7, rfl, g7, l7, d7, o7⟩ := hM
        have eD7 := g7.k D _ nD eD
        have hA7 := hA.g (g7.w1 (B := [D, L]) (by simp))
        have lv := hA7.len
        rw [List.length_map] at lv
        have gm : Go [D, L] H' (upd H' D (.lst (vs ++ [v7]))) := Go.refl.at (by simp)
        refine ⟨_, rfl, .inl ⟨rfl, _, SqL.of eD7⟩, _, rfl, D, _, _, rfl, rfl, eD7, sz (by omega), ?_⟩
        refine ⟨z4, some v7, vs ++ [v7], cs ++ [c7], rfl, (g3.trans g7).mut hD0, (l7.up (hL.ne hD0)).mono (by omega), upd_same, ?_, by simp; omega, fun c h => ?_⟩
        · rw [List.map_append]
          exact (hA7.g gm).app (.one (d7.g gm))
        · rcases List.mem_append.mp h with h | h
          · exact hc c h
          · rw [List.mem_singleton.mp h]
            exact o7
    · obtain ⟨y4, y5, vs, cs, rfl, g3, l3, eD, hA, hl, hc⟩ := h3
      exact ⟨_, rfl, q _ _ _ cs g3 (l3.mono (by omega)) hD0 eD hA (by omega) (by omega) hc⟩
/-! ### two palettes, drawn -/
theorem ixN0 {n : Nat} {i : Int} (h0 : 0 ≤ i) (h1 : i < n) : ixN n i = some i.toNat := by
  unfold ixN
  rw [if_pos h0, if_pos h1]
theorem DtA.setI {B : List Addr} {H : Hp} {v : V} {d : PyData} (h : Dt B H v d) : ∀ {vs : List V} {ds : List PyData} (j : Nat), DtA B H vs ds → DtA B H (vs.set j v) (ds.set j d)
  | _, _, _, .nil => .nil
  | _, _, 0, .cons _ h2 => .cons h h2
  | _, _, j + 1, .cons h1 h2 => .cons h1 (DtA.setI h j h2)
def spTwoL : Sp := fun vs H Q _ => ∃ (L : Addr) (n : Nat) (mo : Int), vs = [.ref L, .int mo] ∧ Lf L H n ∧ n < 1000000 ∧ 1 ≤ mo ∧ mo ≤ 40 ∧
  ∀ (t : Addr) (x y : V) (H' : Hp) (wd : Int) (cs ds : List (List Int)), Go [L] H H' → Lf L H' (n + 3000) → t ∉ [L] → H' t = some (.tup [x, y]) → Dt [L] H' x (eP cs) → Dt [L] H' y (eP ds) → 1 ≤ wd → wd ≤ 5 → 0 < cs.length → (cs.length : Int) ≤ mo → 0 < ds.length → (ds.length : Int) ≤ mo → (∀ c ∈ cs, cOk wd c) → (∀ c ∈ ds, cOk wd c) → Q (.ref t) H'
theorem ok_l_two (T : Tx K mg) {k : Nat} : FnOk P w K mg base CX0 (k + 5) T.f_l_two T.d_l_two ["_law_left_here", "_law_most"] spTwoL := by
  refine T.F_l_two.ok sc_l_two (fun vs H Q E h => ?_) (fun cdv A outer s H vs Q E hr h => ?_)
  · obtain ⟨L, n, mo, rfl, _⟩ := h
    rfl
  · obtain ⟨L, n, mo, rfl, hL, hn, m0, m1, q⟩ := h
    refine ⟨_, (pss_cons (ps_set (i := 2) sc_l_two.nd rfl (.inl rfl) (pe_call (ok_l_kind T (k := k + 1)) hr (by rfl) T.g_l_kind T.F_l_kind.kp T.b_l_kind .nil pass0 (pa_cons (pv 0) pa_nil)))
      (pss_cons (ps_par (i := 3) (j := 4) (by rfl) sc_l_two.nd rfl rfl (by decide) rfl rfl (pa_cons (pe_call (ok_l_few T (k := k)) hr (by rfl) T.g_l_few T.F_l_few.kp T.b_l_few .nil pass0 (pa_cons (pv 0) (pa_cons (pv 2) (pa_cons (pv 1) pa_nil)))) (pa_cons (pe_call (ok_l_few T (k := k)) hr (by rfl) T.g_l_few T.F_l_few.kp T.b_l_few .nil pass0 (pa_cons (pv 0) (pa_cons (pv 2) (pa_cons (pv 1) pa_nil)))) pa_nil)) (by rfl))
      (pss_cons (ps_for PassesOwn.never rfl (pi_range1 (by rfl) T.z_range (pa_cons (pe_callB (len_K K) (by rfl) T.z_len PySem.boot_len (pa_cons (pv 4) pa_nil)) pa_nil)) (pg_name (i := 5) sc_l_two.nd rfl (.inl rfl)) (pss_one (ps_if (pt_cmpR op_eq (pe_call (ok_l_pick T (k := k + 2)) hr (by rfl) T.g_l_pick T.F_l_pick.kp T.b_l_pick .nil pass0 (pa_cons (pv 0) (pa_cons pe_int pa_nil))) pe_int (nomark _)) (pss_one (ps_asg (pe_ix (ix_listK K) (pv 3) (pe_call (ok_l_pick T (k := k + 2)) hr (by rfl) T.g_l_pick T.F_l_pick.kp T.b_l_pick .nil pass0 (pa_cons (pv 0) (pa_cons (pe_callB (len_K K) (by rfl) T.z_len PySem.boot_len (pa_cons (pv 3) pa_nil)) pa_nil))) (fun _ _ => rfl)) (pg_sub (pv 4) (pv 5) set_list))) pss_nil)))
      (pss_one (ps_ret (pe_tup (pa_cons (pv 3) (pa_cons (pv 4) pa_nil)))))))), ?_⟩
    refine ⟨_, rfl, L, n, rfl, hL, by omega, fun kv H1 wd sp g1 l1 w0 w1 p0 p1 d1 => ?_⟩
    refine ⟨_, rfl, _, rfl, _, rfl, L, _, kv, wd, sp, mo, rfl, l1, by omega, d1, by omega, w1, by omega, p1, m0, m1, fun a us H2 cs g2 l2 ha ea hA c0 c1 oc => ?_⟩
    refine ⟨_, rfl, _, rfl, _, rfl, L, _, kv, wd, sp, mo, rfl, l2, by omega, d1.g g2, by omega, w1, by omega, p1, m0, m1, fun b vs H3 ds g3 l3 hb eb hB b0 b1 ob => ?_⟩
    refine ⟨_, _, rfl, ?_⟩
    have hbH : H b = none := (g1.trans g2).free hb
    have nb : b ∉ [L] := l2.bk.ne hb
    have na : a ∉ [L] := l1.bk.ne ha
    have nab : a ∉ [b, L] := fun z => by
      rcases List.mem_cons.mp z with e | e
      · rw [← e, ea] at hb
        cases hb
      · exact na e
    have hA3 : DtA [b, L] H3 us (cs.map eC) := ((hA.un).fr hb).g (g3.w1 (by simp))
    have ea3 := g3.k a _ na ea
    have lu := hA3.len
    have lv := hB.len
    rw [List.length_map] at lu lv
    refine ⟨_, rfl, b, _, rfl, .inl (SqL.of eb), _, rfl, by omega, by omega, for_range (lo := 0) (n := ((vs.length : Nat) : Int).toNat) (fun i σ H' => ∃ y5 vs ds', σ = [some (.ref L), some (.int mo), some kv, some (.ref a), some (.ref b), y5] ∧ Go [L] H H' ∧ Lf L H' (n + 2010 + 2 * i) ∧ H' a = some (.lst us) ∧ DtA [b, L] H' us (cs.map eC) ∧ H' b = some (.lst vs) ∧ DtA [b, L] H' vs (ds'.map eC) ∧ ds'.length = ds.length ∧ ∀ c ∈ ds', cOk wd c)
      ⟨none, vs, ds, rfl, (g1.trans g2).trans g3, l3.mono (by omega), ea3, hA3, eb, hB, rfl, ob⟩ (fun i σ H4 hi h4 => ?_) (fun σ H4 h4 => ?_)⟩
    · obtain ⟨y5, ws, es, rfl, g4, l4, ea4, hA4, eb4, hB4, le, oe⟩ := h4
      have lw := hB4.len
      rw [List.length_map] at lw
      refine ⟨_, rfl, L, 4, _, rfl, l4, by omega, by decide, by decide, fun r5 H5 g5 l5 a5 b5 => ?_⟩
      have ea5 := g5.k a _ na ea4
      have eb5 := g5.k b _ nb eb4
      have hA5 := hA4.g (g5.w1 (by simp))
      have hB5 := hB4.g (g5.w1 (by simp))
      refine ⟨rfl, _, rfl, ite2 (fun e => ?_) (fun e => ?_)⟩
      · refine ⟨_, rfl, _, rfl, _, rfl, a, _, rfl, .inl (SqL.of ea5), L, _, _, rfl, l5, by omega, by omega, by omega, fun r6 H6 g6 l6 a6 b6 => ?_⟩
        have hr6 : r6.toNat < cs.length := by omega
        obtain ⟨v6, f6, d6⟩ := (hA5.g (g6.w1 (B := [b, L]) (by simp))).get (i := r6.toNat) (d := eC cs[r6.toNat]) (by rw [List.getElem?_map, List.getElem?_eq_getElem hr6]; rfl)
        have ea6 := g6.k a _ na ea5
        have eb6 := g6.k b _ nb eb5
        have hA6 := hA5.g (g6.w1 (by simp))
        have hB6 := hB5.g (g6.w1 (by simp))
        refine ⟨a, _, _, _, rfl, rfl, SqL.of ea6, at0 a6 f6, ?_⟩
        refine ⟨_, rfl, _, rfl, b, _, _, i, rfl, rfl, eb6, (by rw [ixN0 (by omega) (by omega)]; simp), ?_⟩
        have gm : Go [b, L] H6 (upd H6 b (.lst (ws.set i v6))) := Go.refl.at (by simp)
        refine ⟨_, _, es.set i cs[r6.toNat], rfl, ((g4.trans g5).trans g6).mut hbH, (l6.up (show b ≠ L by simpa using nb)).mono (by omega), gm.k a _ nab ea6, hA6.g gm, upd_same, ?_, by simp [le], fun c hc => ?_⟩
        · rw [List.map_set]
          exact (DtA.setI d6 i hB6).g gm
        · rcases List.mem_or_eq_of_mem_set hc with z | z
          · exact oe c z
          · rw [z]
            exact oc _ (List.getElem_mem hr6)
      · exact ⟨_, ws, es, rfl, g4.trans g5, l5.mono (by omega), ea5, hA5, eb5, hB5, le, oe⟩
    · obtain ⟨y5, ws, es, rfl, g4, l4, ea4, hA4, eb4, hB4, le, oe⟩ := h4
      refine ⟨_, rfl, _, rfl, (by show 2 ≤ sizeLine; decide), fun t ht => ?_⟩
      have st := sm_new (o := .tup [.ref a, .ref b]) ht
      exact q t _ _ _ wd cs es (g4.trans (Go.of st)) ((l4.same st).mono (by omega)) (l4.bk.ne ht) upd_same (.lst na (st _ _ ea4) (hA4.un.s st)) (.lst nb (st _ _ eb4) (hB4.un.s st)) w0 w1 c0 c1 (by omega) (by omega) oc oe
/-! ### a price, drawn -/
theorem sq_nn (x : Int) : 0 ≤ x ^ 2 := by
  rw [Int.pow_succ, Int.pow_succ, Int.pow_zero, Int.one_mul]
  rcases Int.le_total 0 x with h | h
  · exact Int.mul_nonneg h h
  · exact Int.mul_nonneg_of_nonpos_of_nonpos h h
theorem ap_nn (a b : List Int) : 0 ≤ ap a b := by
  unfold ap
  generalize a.zip b = z
  induction z with
  | nil => simp
  | cons p z ih =>
    rw [List.map_cons, List.sum_cons]
    have := sq_nn (p.1 - p.2)
    omega
theorem colAt {B : List Addr} {H : Hp} {vs : List V} {cs : List (List Int)} (h : DtA B H vs (cs.map eC)) {i : Nat} (hi : i < cs.length) : ∃ v, vs[i]? = some v ∧ Dt B H v (eC cs[i]) := h.get (by rw [List.getElem?_map, List.getElem?_eq_getElem hi]; rfl)
def spPriceL : Sp := fun vs H Q _ => ∃ (L : Addr) (n : Nat) (x y : V) (wd : Int) (cs ds : List (List Int)), vs = [.ref L, x, y] ∧ Lf L H n ∧ n < 10000000 ∧ Dt [L] H x (eP cs) ∧ Dt [L] H y (eP ds) ∧ wd ≤ 5 ∧ 0 < cs.length ∧ cs.length ≤ 1000 ∧ 0 < ds.length ∧ ds.length ≤ 1000 ∧ (∀ c ∈ cs, cOk wd c) ∧ (∀ c ∈ ds, cOk wd c) ∧
  ∀ (r : Int) (H' : Hp), Go [L] H H' → Lf L H' (n + 10) → 0 ≤ r → r ≤ 10000000 → Q (.int r) H'
theorem ok_l_price (T : Tx K mg) {k : Nat} : FnOk P w K mg base CX0 (k + 3) T.f_l_price T.d_l_price ["_law_left_here", "_law_one", "_law_other"] spPriceL := by
  refine T.F_l_price.ok sc_l_price (fun vs H Q E h => ?_) (fun cdv A outer s H vs Q E hr h => ?_)
  · obtain ⟨L, n, x, y, wd, cs, ds, rfl, _⟩ := h
    rfl
  · obtain ⟨L, n, x, y, wd, cs, ds, rfl, hL, hn, hx, hy, w1, c0, c1, d0, d1, oc, od, q⟩ := h
    obtain ⟨a, us, rfl, na, ea, hA⟩ := hx.pal
    obtain ⟨b, vs, rfl, nb, eb, hB⟩ := hy.pal
    have lu := hA.len
    have lv := hB.len
    rw [List.length_map] at lu lv
    refine ⟨_, (pss_cons (ps_par (i := 3) (j := 4) (by rfl) sc_l_price.nd rfl rfl (by decide) rfl rfl (pa_cons (pe_call (ok_l_pick T (k := k)) hr (by rfl) T.g_l_pick T.F_l_pick.kp T.b_l_pick .nil pass0 (pa_cons (pv 0) (pa_cons (pe_callB (len_K K) (by rfl) T.z_len PySem.boot_len (pa_cons (pv 1) pa_nil)) pa_nil))) (pa_cons (pe_call (ok_l_pick T (k := k)) hr (by rfl) T.g_l_pick T.F_l_pick.kp T.b_l_pick .nil pass0 (pa_cons (pv 0) (pa_cons (pe_callB (len_K K) (by rfl) T.z_len PySem.boot_len (pa_cons (pv 2) pa_nil)) pa_nil))) pa_nil)) (by rfl))
      (pss_cons (ps_set (i := 5) sc_l_price.nd rfl (.inl rfl) (pe_call (ok_l_apart T (k := k + 1)) hr (by rfl) T.g_l_apart T.F_l_apart.kp T.b_l_apart .nil pass0 (pa_cons (pe_ix (ix_listK K) (pv 1) (pv 3) (fun _ _ => rfl)) (pa_cons (pe_ix (ix_listK K) (pv 2) (pv 4) (fun _ _ => rfl)) pa_nil))))
      (pss_cons (ps_set (i := 6) sc_l_price.nd rfl (.inl rfl) (pe_lst (pa_cons pe_int (pa_cons (pe_op op_add pe_int (pe_call (ok_l_pick T (k := k)) hr (by rfl) T.g_l_pick T.F_l_pick.kp T.b_l_pick .nil pass0 (pa_cons (pv 0) (pa_cons pe_int pa_nil)))) (pa_cons (pe_op op_add (pe_op op_fdiv (pv 5) pe_int) (pe_call (ok_l_pick T (k := k)) hr (by rfl) T.g_l_pick T.F_l_pick.kp T.b_l_pick .nil pass0 (pa_cons (pv 0) (pa_cons pe_int pa_nil)))) pa_nil)))))
      (pss_cons (ps_set (i := 6) sc_l_price.nd rfl (.inl rfl) (pe_op op_cat (pv 6) (pe_lst (pa_cons (pv 5) (pa_cons (pe_call (ok_l_pick T (k := k)) hr (by rfl) T.g_l_pick T.F_l_pick.kp T.b_l_pick .nil pass0 (pa_cons (pv 0) (pa_cons (pe_op op_pow pe_int pe_int) pa_nil))) (pa_cons (pe_op op_pow pe_int pe_int) pa_nil))))))
      (pss_one (ps_ret (pe_callB (call_min2 rfl) (by rfl) T.z_min (by decide +kernel) (pa_cons (pe_op op_pow pe_int pe_int) (pa_cons (pe_ix (ix_listK K) (pv 6) (pe_call (ok_l_pick T (k := k)) hr (by rfl) T.g_l_pick T.F_l_pick.kp T.b_l_pick .nil pass0 (pa_cons (pv 0) (pa_cons pe_int pa_nil))) (fun _ _ => rfl)) pa_nil))))))))), ?_⟩
    refine ⟨_, rfl, _, rfl, a, _, rfl, .inl (SqL.of ea), L, _, n, rfl, hL, by omega, by omega, by omega, fun r1 H1 g1 l1 a1 b1 => ?_⟩
    refine ⟨_, rfl, _, rfl, b, _, rfl, .inl (SqL.of (g1.k b _ nb eb)), L, _, _, rfl, l1, by omega, by omega, by omega, fun r2 H2 g2 l2 a2 b2 => ?_⟩
    refine ⟨_, _, rfl, ?_⟩
    have g12 := g1.trans g2
    have i1 : r1.toNat < cs.length := by omega
    have i2 : r2.toNat < ds.length := by omega
    obtain ⟨u1, f1, e1⟩ := colAt (hA.g g12) i1
    obtain ⟨u2, f2, e2⟩ := colAt (hB.g g12) i2
    have o1 := oc _ (List.getElem_mem i1)
    have o2 := od _ (List.getElem_mem i2)
    refine ⟨_, rfl, _, rfl, a, _, _, _, rfl, rfl, SqL.of (g12.k a _ na ea), at0 a1 f1, _, rfl, _, rfl, b, _, _, _, rfl, rfl, SqL.of (g12.k b _ nb eb), at0 a2 f2, ?_⟩
    have z1 := o1.1
    have z2 := o2.1
    refine ⟨[L], u1, u2, _, _, rfl, e1, e2, by omega, by omega, o1.2.mono (by decide) (by decide), o2.2.mono (by decide) (by decide), fun H3 s3 => ?_⟩
    obtain ⟨z, hz⟩ : ∃ z, z = ap cs[r1.toNat] ds[r2.toNat] := ⟨_, rfl⟩
    have zn : 0 ≤ z := by rw [hz]; exact ap_nn _ _
    rw [← hz]
    have l3 := l2.same s3
    refine ⟨_, rfl, L, 20, _, rfl, l3, by omega, by decide, by decide, fun r4 H4 g4 l4 a4 b4 => ?_⟩
    refine ⟨_, _, rfl, rfl, _, rfl, _, _, rfl, rfl, ⟨by decide, by decide⟩, _, rfl, L, 3, _, rfl, l4, by omega, by decide, by decide, fun r5 H5 g5 l5 a5 b5 => ?_⟩
    refine ⟨_, _, rfl, rfl, (by show 3 ≤ sizeLine; decide), fun p6 h6 => ?_⟩
    have e6 : (upd H5 p6 (.lst [.int 0, .int (1 + r4), .int (z / 2 + r5)])) p6 = some (.lst [.int 0, .int (1 + r4), .int (z / 2 + r5)]) := upd_same
    have s6 := sm_new (o := .lst [.int 0, .int (1 + r4), .int (z / 2 + r5)]) h6
    have n6 : p6 ∉ [L] := l5.bk.ne h6
    have l6 := l5.same s6
    generalize upd H5 p6 (.lst [.int 0, .int (1 + r4), .int (z / 2 + r5)]) = H6 at *
    refine ⟨_, rfl, _, rfl, _, rfl, _, _, rfl, rfl, ⟨by decide, by decide, by decide⟩, L, 100000, _, rfl, l6, by omega, by decide, by decide, fun r7 H7 g7 l7 a7 b7 => ?_⟩
    refine ⟨_, _, rfl, rfl, ⟨by decide, by decide, by decide⟩, (by show 3 ≤ sizeLine; decide), fun p8 h8 => ?_⟩
    have e7 := g7.k p6 _ n6 e6
    have s8 := sm_new (o := .lst [.int z, .int r7, .int (10 ^ 7)]) h8
    have e8 : (upd H7 p8 (.lst [.int z, .int r7, .int (10 ^ 7)])) p8 = some (.lst [.int z, .int r7, .int (10 ^ 7)]) := upd_same
    have l8 := l7.same s8
    refine ⟨p6, p8, _, _, rfl, rfl, s8 _ _ e7, e8, (by show 3 + 3 ≤ sizeLine; decide), fun p9 h9 => ?_⟩
    have s9 := sm_new (o := .lst ([.int 0, .int (1 + r4), .int (z / 2 + r5)] ++ [.int z, .int r7, .int (10 ^ 7)])) h9
    have e9 : (upd (upd H7 p8 (.lst [.int z, .int r7, .int (10 ^ 7)])) p9 (.lst ([.int 0, .int (1 + r4), .int (z / 2 + r5)] ++ [.int z, .int r7, .int (10 ^ 7)]))) p9 = some (.lst ([0, 1 + r4, z / 2 + r5, z, r7, 10 ^ 7].map V.int)) := upd_same
    have l9 := l8.same s9
    have n9 : p9 ∉ [L] := l8.bk.ne h9
    refine ⟨_, _, rfl, rfl, ⟨by decide, by decide, by decide⟩, ?_⟩
    have g9 : Go [L] H (upd (upd H7 p8 (.lst [.int z, .int r7, .int (10 ^ 7)])) p9 (.lst ([.int 0, .int (1 + r4), .int (z / 2 + r5)] ++ [.int z, .int r7, .int (10 ^ 7)]))) := (((((((g12.trans (Go.of s3)).trans g4).trans g5).trans (Go.of s6)).trans g7).trans (Go.of s8)).trans (Go.of s9))
    refine ⟨_, rfl, _, rfl, L, 6, _, rfl, l9, by omega, by decide, by decide, fun r10 H10 g10 l10 a10 b10 => ?_⟩
    obtain ⟨m, mm, em⟩ := at_int (ns := [0, 1 + r4, z / 2 + r5, z, r7, 10 ^ 7]) a10 b10
    refine ⟨p9, _, _, _, rfl, rfl, SqL.of (g10.k p9 _ n9 e9), em, _, _, rfl, ?_⟩
    have hz2 : 0 ≤ z / 2 := Int.ediv_nonneg zn (by decide)
    have m0 : 0 ≤ m := by
      simp at mm
      omega
    rw [show (10 : Int) ^ Int.toNat 7 = 10000000 by decide]
    refine q _ _ (g9.trans g10) (l10.mono (by omega)) ?_ ?_
    · split <;> omega
    · split <;> omega
/-! ### pairs, drawn -/
def prOk (m n : Nat) (p : List Int) : Prop := ∃ i j : Int, p = [i, j] ∧ 0 ≤ i ∧ i < m ∧ 0 ≤ j ∧ j < n
theorem seqIx0 {n : Nat} {i : Int} (h0 : 0 ≤ i) (h1 : i < n) : seqIndex? i n = some i.toNat := by
  have h : ¬ i < 0 := by omega
  simp [seqIndex?, h, h0, h1]
theorem erase_map {α β : Type} (f : α → β) : ∀ (xs : List α) (j : Nat), (xs.map f).eraseIdx j = (xs.eraseIdx j).map f
  | [], _ => rfl
  | _ :: _, 0 => rfl
  | x :: xs, j + 1 => by
    rw [List.map_cons, List.eraseIdx_cons_succ, List.eraseIdx_cons_succ, List.map_cons, erase_map f xs j]
def spPairsL : Sp := fun vs H Q _ => ∃ (L : Addr) (n : Nat) (x y : V) (cs ds : List (List Int)), vs = [.ref L, x, y] ∧ Lf L H n ∧ n < 10000000 ∧ Dt [L] H x (eP cs) ∧ Dt [L] H y (eP ds) ∧ cs.length ≤ 100 ∧ ds.length ≤ 100 ∧
  ∀ (v : V) (H' : Hp) (ps : List (List Int)), Go [L] H H' → Lf L H' (n + 400) → Dt [L] H' v (eP ps) → ps.length ≤ cs.length → (∀ p ∈ ps, prOk cs.length ds.length p) → Q v H'
theorem ok_l_pairs (T : Tx K mg) {k : Nat} : FnOk P w K mg base CX0 (k + 3) T.f_l_pairs T.d_l_pairs ["_law_left_here", "_law_one", "_law_other"] spPairsL := by
  refine T.F_l_pairs.ok sc_l_pairs (fun vs H Q E h => ?_) (fun cdv A outer s H vs Q E hr h => ?_)
  · obtain ⟨L, n, x, y, cs, ds, rfl, _⟩ := h
    rfl
  · obtain ⟨L, n, x, y, cs, ds, rfl, hL, hn, hx, hy, c1, d1, q⟩ := h
    obtain ⟨a, us, rfl, na, ea, hA⟩ := hx.pal
    obtain ⟨b, vs, rfl, nb, eb, hB⟩ := hy.pal
    have lu := hA.len
    have lv := hB.len
    rw [List.length_map] at lu lv
    refine ⟨_, (pss_cons (ps_set (i := 3) sc_l_pairs.nd rfl (.inl rfl) (pe_listRg rfl (by rfl) T.z_list (prg_1 (by rfl) T.z_range (pe_callB (len_K K) (by rfl) T.z_len PySem.boot_len (pa_cons (pv 2) pa_nil)))))
      (pss_cons (ps_set (i := 4) sc_l_pairs.nd rfl (.inl rfl) (pe_lst pa_nil))
      (pss_cons (ps_for PassesOwn.never rfl (pi_range1 (by rfl) T.z_range (pa_cons (pe_callB (len_K K) (by rfl) T.z_len PySem.boot_len (pa_cons (pv 1) pa_nil)) pa_nil)) (pg_name (i := 5) sc_l_pairs.nd rfl (.inl rfl)) (pss_one (ps_if (PW.pt (pw_and (pt_cmpR (op_neDK K hr.units) (pv 3) (pe_lst pa_nil) (nomark _)) (pw_and1 (pt_cmpR op_gt (pe_call (ok_l_pick T (k := k)) hr (by rfl) T.g_l_pick T.F_l_pick.kp T.b_l_pick .nil pass0 (pa_cons (pv 0) (pa_cons pe_int pa_nil))) pe_int (nomark _))))) (pss_one (ps_expr (pe_bm PySem.F.plainAttrs_list PySem.F.slot_list_append PySem.F.type_list_append mt_append (pv 4) (pa_cons (pe_tup (pa_cons (pv 5) (pa_cons (pe_bm PySem.F.plainAttrs_list PySem.F.slot_list_pop PySem.F.type_list_pop mt_popAt (pv 3) (pa_cons (pe_call (ok_l_pick T (k := k)) hr (by rfl) T.g_l_pick T.F_l_pick.kp T.b_l_pick .nil pass0 (pa_cons (pv 0) (pa_cons (pe_callB (len_K K) (by rfl) T.z_len PySem.boot_len (pa_cons (pv 3) pa_nil)) pa_nil))) pa_nil)) pa_nil))) pa_nil)))) pss_nil)))
      (pss_one (ps_ret (pv 4)))))), ?_⟩
    refine ⟨_, rfl, b, _, rfl, .inl (SqL.of eb), _, rfl, RgOk.of_le (by omega) (by omega) (by omega) (by omega), fun F hF => ?_⟩
    have er : rgV 0 ((vs.length : Nat) : Int) = ((List.range vs.length).map fun (i : Nat) => (i : Int)).map V.int := by
      unfold rgV
      rw [List.map_map]
      simp
    rw [er]
    have nF : F ∉ [L] := hL.bk.ne hF
    have sF := sm_new (o := .lst (((List.range vs.length).map fun (i : Nat) => (i : Int)).map V.int)) hF
    have eF : (upd H F (.lst (((List.range vs.length).map fun (i : Nat) => (i : Int)).map V.int))) F = some (.lst (((List.range vs.length).map fun (i : Nat) => (i : Int)).map V.int)) := upd_same
    generalize upd H F (.lst (((List.range vs.length).map fun (i : Nat) => (i : Int)).map V.int)) = H1 at *
    refine ⟨Nat.zero_le _, fun D hD => ?_⟩
    have hDH : H D = none := sF.free hD
    have nD : D ∉ [L] := hL.bk.ne hDH
    have nFD : F ≠ D := fun z => by
      rw [← z, eF] at hD
      cases hD
    have sD := sm_new (o := .lst []) hD
    have eD : (upd H1 D (.lst [])) D = some (.lst []) := upd_same
    have eF2 := sD _ _ eF
    have s2 := sF.trans sD
    generalize upd H1 D (.lst []) = H2 at *
    refine ⟨_, rfl, a, _, rfl, .inl (SqL.of (s2 _ _ ea)), _, rfl, by omega, by omega, for_range (lo := 0) (n := ((us.length : Nat) : Int).toNat) (fun i σ H' => ∃ (y5 : Option V) (ws : List V) (fs : List Int) (ps : List (List Int)), σ = [some (.ref L), some (.ref a), some (.ref b), some (.ref F), some (.ref D), y5] ∧ Go [L] H H' ∧ Lf L H' (n + 2 * i) ∧ H' F = some (.lst (fs.map V.int)) ∧ (∀ z ∈ fs, 0 ≤ z ∧ z < (ds.length : Int)) ∧ fs.length ≤ 100 ∧ H' D = some (.lst ws) ∧ DtA [D, F, L] H' ws (ps.map eC) ∧ ps.length ≤ i ∧ ∀ p ∈ ps, prOk cs.length ds.length p)
      ⟨none, [], (List.range vs.length).map fun (i : Nat) => (i : Int), [], rfl, Go.of s2, (hL.same s2).mono (by omega), eF2, (fun z hz => by
        obtain ⟨j, hj, rfl⟩ := List.mem_map.mp hz
        have := List.mem_range.mp hj
        omega), by simp; omega, eD, .nil, by simp, fun _ h => nomatch h⟩ (fun i σ H3 hi h3 => ?_) (fun σ H3 h3 => ?_)⟩
    · obtain ⟨y5, ws, fs, ps, rfl, g3, l3, eF3, hf, lf, eD3, hW, lp, hp⟩ := h3
      have lw := hW.len
      rw [List.length_map] at lw
      refine ⟨_, rfl, Nat.zero_le _, fun z hz => ⟨eI fs, .list [], ?_, .lst (SqL.of upd_same) .nil, (sh_eI (by omega)).sh (by omega), rfl, _, rfl, ite2 (fun e => ?_) (fun e => ?_)⟩⟩
      · exact Dt.dP (B := [L]) (Dt.ofInts nF ((Go.new (B := [L]) hz).k F _ nF eF3))
      · have hfs : fs ≠ [] := fun z => by
          subst z
          exact absurd e (by decide)
        have hlen : 0 < fs.length := List.length_pos_iff.mpr hfs
        have sz4 := sm_new (o := .lst []) hz
        have eF4 := sz4 _ _ eF3
        have eD4 := sz4 _ _ eD3
        have hW4 := hW.s sz4
        have l4 := l3.same sz4
        generalize upd H3 z (.lst []) = H4 at *
        refine ⟨_, rfl, L, 3, _, rfl, l4, by omega, by decide, by decide, fun r5 H5 g5 l5 a5 b5 => ?_⟩
        have eF5 := g5.k F _ nF eF4
        have eD5 := g5.k D _ nD eD4
        have hW5 := hW4.g (g5.w1 (by simp))
        have g35 := (Go.of (B := [L]) sz4).trans g5
        refine ⟨_, _, rfl, rfl, _, rfl, ite2 (fun e => ?_) (fun e => ?_)⟩
        · refine ⟨_, rfl, .inl ⟨rfl, _, SqL.of eD5⟩, _, rfl, _, rfl, .inl ⟨rfl, _, SqL.of eF5⟩, _, rfl, _, rfl, F, _, rfl, .inl (SqL.of eF5), L, _, _, rfl, l5, by omega, by rw [List.length_map]; omega, by rw [List.length_map]; omega, fun r6 H6 g6 l6 a6 b6 => ?_⟩
          have eF6 := g6.k F _ nF eF5
          have eD6 := g6.k D _ nD eD5
          have hW6 := hW5.g (g6.w1 (B := [D, F, L]) (by simp))
          have hr6 : r6.toNat < fs.length := by simp at b6; omega
          have bk6 : Bk [D, F, L] H6 := (l6.bk.cons eF6).cons eD6
          refine ⟨F, _, _, r6.toNat, .int fs[r6.toNat], rfl, rfl, eF6, by omega, by simp at b6; omega, seqIx0 a6 b6, by rw [List.getElem?_map, List.getElem?_eq_getElem hr6]; rfl, ?_⟩
          have eg : (fs.map V.int).eraseIdx r6.toNat = (fs.eraseIdx r6.toNat).map V.int := erase_map _ _ _
          rw [eg]
          have gF : Go [D, F, L] H6 (upd H6 F (.lst ((fs.eraseIdx r6.toNat).map V.int))) := Go.refl.at (by simp)
          have eF7 : (upd H6 F (.lst ((fs.eraseIdx r6.toNat).map V.int))) F = some (.lst ((fs.eraseIdx r6.toNat).map V.int)) := upd_same
          have eD7 : (upd H6 F (.lst ((fs.eraseIdx r6.toNat).map V.int))) D = some (.lst ws) := by rw [upd_ne (Ne.symm nFD)]; exact eD6
          have l7 : Lf L (upd H6 F (.lst ((fs.eraseIdx r6.toNat).map V.int))) _ := l6.up (show F ≠ L by simpa using nF)
          have hW7 := hW6.g gF
          have bk7 := bk6.go gF
          have gH7 : Go [L] H (upd H6 F (.lst ((fs.eraseIdx r6.toNat).map V.int))) := ((g3.trans g35).trans g6).mut hF
          generalize upd H6 F (.lst ((fs.eraseIdx r6.toNat).map V.int)) = H7 at *
          refine ⟨(by show 2 ≤ sizeLine; decide), fun t ht => ?_⟩
          have st := sm_new (o := .tup [.int (0 + (i : Int)), .int fs[r6.toNat]]) ht
          have et : (upd H7 t (.tup [.int (0 + (i : Int)), .int fs[r6.toNat]])) t = some (.tup ([0 + (i : Int), fs[r6.toNat]].map V.int)) := upd_same
          have nt := bk7.ne ht
          have eF8 := st _ _ eF7
          have eD8 := st _ _ eD7
          have hW8 := hW7.s st
          have l8 := l7.same st
          have gH8 := gH7.trans (Go.of st)
          generalize upd H7 t (.tup [.int (0 + (i : Int)), .int fs[r6.toNat]]) = H8 at *
          have gm : Go [D, F, L] H8 (upd H8 D (.lst (ws ++ [.ref t]))) := Go.refl.at (by simp)
          have hfr := hf _ (List.getElem_mem hr6)
          refine ⟨D, _, _, rfl, rfl, eD8, sz (by omega), ?_⟩
          refine ⟨_, ws ++ [.ref t], fs.eraseIdx r6.toNat, ps ++ [[0 + (i : Int), fs[r6.toNat]]], rfl, gH8.mut hDH, (l8.up (show D ≠ L by simpa using nD)).mono (by omega), ?_, fun z hz => hf z (List.mem_of_mem_eraseIdx hz), ?_, upd_same, ?_, by simp; omega, fun p hp2 => ?_⟩
          · rw [upd_ne nFD]
            exact eF8
          · have := List.length_eraseIdx_le fs r6.toNat
            omega
          · rw [List.map_append]
            exact (hW8.g gm).app (.one (Dt.g (Dt.ofCol nt et) gm))
          · rcases List.mem_append.mp hp2 with z | z
            · exact hp p z
            · rw [List.mem_singleton.mp z]
              exact ⟨_, _, rfl, by omega, by omega, hfr.1, hfr.2⟩
        · exact ⟨_, ws, fs, ps, rfl, g3.trans g35, l5.mono (by omega), eF5, hf, lf, eD5, hW5, by omega, hp⟩
      · exact iteF ⟨_, ws, fs, ps, rfl, g3.trans (Go.new hz), (l3.new hz).mono (by omega), sm_new hz _ _ eF3, hf, lf, sm_new hz _ _ eD3, hW.s (sm_new hz), by omega, hp⟩
    · obtain ⟨y5, ws, fs, ps, rfl, g3, l3, eF3, hf, lf, eD3, hW, lp, hp⟩ := h3
      exact ⟨_, rfl, q _ _ ps g3 (l3.mono (by omega)) (.lst nD eD3 hW.un.un) (by omega) hp⟩
/-! ### what pairs cost -/
def turned (cs ds ps : List (List Int)) : List Int := ps.map fun p => ap (cs.getD (p.getD 0 0).toNat []) (ds.getD (p.getD 1 0).toNat [])
def costL (cs ds : List (List Int)) (pr : Int) (ps : List (List Int)) : Int := (turned cs ds ps).sum + pr * ((cs.length : Int) + (ds.length : Int) - 2 * (ps.length : Int))
def spCost : Sp := fun vs H Q _ => ∃ (B : List Addr) (x y z : V) (pr wd : Int) (cs ds ps : List (List Int)), vs = [x, y, .int pr, z] ∧ Dt B H x (eP cs) ∧ Dt B H y (eP ds) ∧ Dt B H z (eP ps) ∧ 0 ≤ pr ∧ pr ≤ 10000000 ∧ wd ≤ 5 ∧ cs.length ≤ 100 ∧ ds.length ≤ 100 ∧ ps.length ≤ 100 ∧ (∀ c ∈ cs, cOk wd c) ∧ (∀ c ∈ ds, cOk wd c) ∧ (∀ p ∈ ps, prOk cs.length ds.length p) ∧
  ∀ H', Same H H' → Q (.int (costL cs ds pr ps)) H'
theorem ok_cost_of (T : Tx K mg) {k : Nat} : FnOk P w K mg base CX0 (k + 2) T.f_cost_of T.d_cost_of ["one", "other", "price", "pairs"] spCost := by
  refine T.F_cost_of.ok sc_cost_of (fun vs H Q E h => ?_) (fun cdv A outer s H vs Q E hr h => ?_)
  · obtain ⟨B, x, y, z, pr, wd, cs, ds, ps, rfl, _⟩ := h
    rfl
  · obtain ⟨B, x, y, z, pr, wd, cs, ds, ps, rfl, hx, hy, hz, p0, p1, w1, c1, d1, q1, oc, od, op, q⟩ := h
    obtain ⟨a, us, rfl, na, ea, hA⟩ := hx.pal
    obtain ⟨b, vs, rfl, nb, eb, hB⟩ := hy.pal
    obtain ⟨c, ws, rfl, nc, ec, hC⟩ := hz.pal
    have lu := hA.len
    have lv := hB.len
    have lw := hC.len
    rw [List.length_map] at lu lv lw
    refine ⟨_, (pss_cons (ps_set (i := 4) sc_cost_of.nd rfl (.inl rfl) (pe_callB (cr_sumK K rfl) (by rfl) T.z_sum (by decide +kernel) (pa_cons (pe_lc (own := [("i", 5), ("j", 6)]) (by rfl) sc_cost_of.nd (pi_listK K (pv 3)) (blkOk_by (own := [("i", 5), ("j", 6)]) (N := N_cost_of) (sc := defScope s_cost_of) (by decide +kernel)) (fun _ _ _ _ _ => (pg_tupK K (n := 2) rfl (pgs_cons (pg_name (i := 5) sc_cost_of.nd rfl (.inl rfl)) (pgs_cons (pg_name (i := 6) sc_cost_of.nd rfl (.inl rfl)) pgs_nil)))) (fun _ _ _ _ _ => pts_nil) (fun _ _ _ _ _ => (pe_call (ok_apart T (k := k)) hr (by rfl) T.g_apart T.F_apart.kp T.b_apart .nil pass0 (pa_cons (pe_ix (ix_listK K) (pv 0) (pv 5) (fun _ _ => rfl)) (pa_cons (pe_ix (ix_listK K) (pv 1) (pv 6) (fun _ _ => rfl)) pa_nil))))) pa_nil)))
      (pss_one (ps_ret (pe_op op_add (pv 4) (pe_op op_mul (pv 2) (pe_op op_sub (pe_op op_add (pe_callB (len_K K) (by rfl) T.z_len PySem.boot_len (pa_cons (pv 0) pa_nil)) (pe_callB (len_K K) (by rfl) T.z_len PySem.boot_len (pa_cons (pv 1) pa_nil))) (pe_op op_mul pe_int (pe_callB (len_K K) (by rfl) T.z_len PySem.boot_len (pa_cons (pv 3) pa_nil))))))))), ?_⟩
    refine ⟨_, rfl, c, rfl, ⟨_, SqL.of ec⟩, fun D hD => ?_⟩
    refine lc_pure (B := []) (walk_list (xs := ws)) hD (fun _ h => nomatch h) (fun H' s' => SqL.of (s' _ _ ec)) (by omega)
      (fun i => ((turned cs ds ps).map PyData.int)[i]?) (fun i x H' H'' Ny Nn hi t1 bk y ky kn => ?_) (fun H1 xs s1 eS hW => ?_)
    · obtain ⟨rfl, y⟩ := y
      obtain ⟨d2, f2, g2⟩ := hC.getV y
      have hi2 : i < ps.length := by omega
      rw [List.getElem?_map, List.getElem?_eq_getElem hi2] at f2
      have ed : d2 = eC ps[i] := (Option.some.inj f2).symm
      subst ed
      obtain ⟨m, n, em, m0, m1, n0, n1⟩ := op _ (List.getElem_mem hi2)
      rw [em] at g2
      obtain ⟨t, rfl, _, et⟩ := (g2.s t1).col
      have i1 : m.toNat < cs.length := by omega
      have i2 : n.toNat < ds.length := by omega
      obtain ⟨u1, f1, e1⟩ := colAt hA i1
      obtain ⟨u2, f2, e2⟩ := colAt hB i2
      have o1 := oc _ (List.getElem_mem i1)
      have o2 := od _ (List.getElem_mem i2)
      have z1 := o1.1
      have z2 := o2.1
      refine ⟨t, _, rfl, SqT.of et, rfl, _, _, rfl, _, _, rfl, rfl, rfl, lc_yes ⟨_, rfl, _, rfl, a, _, _, _, rfl, rfl, SqL.of (t1 _ _ ea), at0 m0 f1, _, rfl, _, rfl, b, _, _, _, rfl, rfl, SqL.of (t1 _ _ eb), at0 n0 f2, ?_⟩⟩
      refine ⟨B, u1, u2, _, _, rfl, e1.s t1, e2.s t1, by omega, by omega, o1.2.mono (by decide) (by decide), o2.2.mono (by decide) (by decide), fun H3 s3 => ?_⟩
      refine ky _ _ _ ?_ s3 (.int _)
      unfold turned
      rw [List.getElem?_map, List.getElem?_map, List.getElem?_eq_getElem hi2, em]
      simp [List.getD_eq_getElem?_getD, List.getElem?_eq_getElem i1, List.getElem?_eq_getElem i2]
    · rw [fm_all (by unfold turned; simp; omega)] at hW
      refine ⟨D, _, rfl, SqL.of (by rw [eS, hW.intsV]), ?_⟩
      refine ⟨_, rfl, _, rfl, _, rfl, a, _, rfl, .inl (SqL.of (s1 _ _ ea)), _, rfl, b, _, rfl, .inl (SqL.of (s1 _ _ eb)), _, _, rfl, rfl, _, rfl, c, _, rfl, .inl (SqL.of (s1 _ _ ec)), _, _, rfl, rfl, .inr ⟨by omega, by omega⟩, _, _, rfl, rfl, _, _, rfl, rfl, .inl ⟨by omega, by omega⟩, _, _, rfl, rfl, ?_⟩
      have := q _ s1
      unfold costL at this
      rw [← lu, ← lv, ← lw] at this
      exact this
/-! ### the law's own cost -/
theorem ok_l_cost (T : Tx K mg) {k : Nat} : FnOk P w K mg base CX0 (k + 2) T.f_l_cost T.d_l_cost ["_law_one", "_law_other", "_law_price_here", "_law_pairs_here"] spCost := by
  refine T.F_l_cost.ok sc_l_cost (fun vs H Q E h => ?_) (fun cdv A outer s H vs Q E hr h => ?_)
  · obtain ⟨B, x, y, z, pr, wd, cs, ds, ps, rfl, _⟩ := h
    rfl
  · obtain ⟨B, x, y, z, pr, wd, cs, ds, ps, rfl, hx, hy, hz, p0, p1, w1, c1, d1, q1, oc, od, op, q⟩ := h
    obtain ⟨a, us, rfl, na, ea, hA⟩ := hx.pal
    obtain ⟨b, vs, rfl, nb, eb, hB⟩ := hy.pal
    obtain ⟨c, ws, rfl, nc, ec, hC⟩ := hz.pal
    have lu := hA.len
    have lv := hB.len
    have lw := hC.len
    rw [List.length_map] at lu lv lw
    refine ⟨_, (pss_cons (ps_set (i := 4) sc_l_cost.nd rfl (.inl rfl) (pe_callB (cr_sumK K rfl) (by rfl) T.z_sum (by decide +kernel) (pa_cons (pe_lc (own := [("_law_i", 6), ("_law_j", 7)]) (by rfl) sc_l_cost.nd (pi_listK K (pv 3)) (blkOk_by (own := [("_law_i", 6), ("_law_j", 7)]) (N := N_l_cost) (sc := defScope s_l_cost) (by decide +kernel)) (fun _ _ _ _ _ => (pg_tupK K (n := 2) rfl (pgs_cons (pg_name (i := 6) sc_l_cost.nd rfl (.inl rfl)) (pgs_cons (pg_name (i := 7) sc_l_cost.nd rfl (.inl rfl)) pgs_nil)))) (fun _ _ _ _ _ => pts_nil) (fun _ _ _ _ _ => (pe_call (ok_l_apart T (k := k)) hr (by rfl) T.g_l_apart T.F_l_apart.kp T.b_l_apart .nil pass0 (pa_cons (pe_ix (ix_listK K) (pv 0) (pv 6) (fun _ _ => rfl)) (pa_cons (pe_ix (ix_listK K) (pv 1) (pv 7) (fun _ _ => rfl)) pa_nil))))) pa_nil)))
      (pss_cons (ps_set (i := 5) sc_l_cost.nd rfl (.inl rfl) (pe_op op_sub (pe_op op_add (pe_op op_sub (pe_callB (len_K K) (by rfl) T.z_len PySem.boot_len (pa_cons (pv 0) pa_nil)) (pe_callB (len_K K) (by rfl) T.z_len PySem.boot_len (pa_cons (pv 3) pa_nil))) (pe_callB (len_K K) (by rfl) T.z_len PySem.boot_len (pa_cons (pv 1) pa_nil))) (pe_callB (len_K K) (by rfl) T.z_len PySem.boot_len (pa_cons (pv 3) pa_nil))))
      (pss_one (ps_ret (pe_op op_add (pv 4) (pe_op op_mul (pv 2) (pv 5))))))), ?_⟩
    refine ⟨_, rfl, c, rfl, ⟨_, SqL.of ec⟩, fun D hD => ?_⟩
    refine lc_pure (B := []) (walk_list (xs := ws)) hD (fun _ h => nomatch h) (fun H' s' => SqL.of (s' _ _ ec)) (by omega)
      (fun i => ((turned cs ds ps).map PyData.int)[i]?) (fun i x H' H'' Ny Nn hi t1 bk y ky kn => ?_) (fun H1 xs s1 eS hW => ?_)
    · obtain ⟨rfl, y⟩ := y
      obtain ⟨d2, f2, g2⟩ := hC.getV y
      have hi2 : i < ps.length := by omega
      rw [List.getElem?_map, List.getElem?_eq_getElem hi2] at f2
      have ed : d2 = eC ps[i] := (Option.some.inj f2).symm
      subst ed
      obtain ⟨m, n, em, m0, m1, n0, n1⟩ := op _ (List.getElem_mem hi2)
      rw [em] at g2
      obtain ⟨t, rfl, _, et⟩ := (g2.s t1).col
      have i1 : m.toNat < cs.length := by omega
      have i2 : n.toNat < ds.length := by omega
      obtain ⟨u1, f1, e1⟩ := colAt hA i1
      obtain ⟨u2, f2, e2⟩ := colAt hB i2
      have o1 := oc _ (List.getElem_mem i1)
      have o2 := od _ (List.getElem_mem i2)
      have z1 := o1.1
      have z2 := o2.1
      refine ⟨t, _, rfl, SqT.of et, rfl, _, _, rfl, _, _, rfl, rfl, rfl, lc_yes ⟨_, rfl, _, rfl, a, _, _, _, rfl, rfl, SqL.of (t1 _ _ ea), at0 m0 f1, _, rfl, _, rfl, b, _, _, _, rfl, rfl, SqL.of (t1 _ _ eb), at0 n0 f2, ?_⟩⟩
      refine ⟨B, u1, u2, _, _, rfl, e1.s t1, e2.s t1, by omega, by omega, o1.2.mono (by decide) (by decide), o2.2.mono (by decide) (by decide), fun H3 s3 => ?_⟩
      refine ky _ _ _ ?_ s3 (.int _)
      unfold turned
      rw [List.getElem?_map, List.getElem?_map, List.getElem?_eq_getElem hi2, em]
      simp [List.getD_eq_getElem?_getD, List.getElem?_eq_getElem i1, List.getElem?_eq_getElem i2]
    · rw [fm_all (by unfold turned; simp; omega)] at hW
      refine ⟨D, _, rfl, SqL.of (by rw [eS, hW.intsV]), ?_⟩
      refine ⟨_, rfl, a, _, rfl, .inl (SqL.of (s1 _ _ ea)), _, rfl, c, _, rfl, .inl (SqL.of (s1 _ _ ec)), _, _, rfl, rfl, _, rfl, b, _, rfl, .inl (SqL.of (s1 _ _ eb)), _, _, rfl, rfl, _, rfl, c, _, rfl, .inl (SqL.of (s1 _ _ ec)), _, _, rfl, rfl, ?_⟩
      refine ⟨_, rfl, _, rfl, _, rfl, _, _, rfl, rfl, .inl ⟨by omega, by omega⟩, _, _, rfl, rfl, ?_⟩
      have := q _ s1
      unfold costL at this
      rw [← lu, ← lv, ← lw] at this
      rw [show ((us.length : Int) - (ws.length : Int) + (vs.length : Int) - (ws.length : Int)) = (us.length : Int) + (vs.length : Int) - 2 * (ws.length : Int) by omega]
      exact this
/-! ### what the law promises -/
def spLaw (K : PySem.W.Frag) : Sp := fun vs H Q _ => ∃ (a : Addr) (ns : List Int), vs = [.ref a] ∧ SqL K H a (ns.map V.int) ∧ ns.length ≤ 63 ∧ ∀ H', Q (.bl true) H'
/-! ### the law -/
set_option maxHeartbeats 1000000 in
theorem ok_law (T : Tx K mg) {f : Addr} {fd : FuncData} (F : Fun K "law" "law" s_law f fd) {k : Nat} (hk : k ≤ 10) : FnOk P w K mg base CX0 (k + 6) f fd ["_law_script"] (spLaw K) := by
  refine F.ok sc_law (fun vs H Q E h => ?_) (fun cdv A outer s H vs Q E hr h => ?_)
  · obtain ⟨a, ns, rfl, _⟩ := h
    rfl
  · obtain ⟨a, ns, rfl, hS, hlen, q⟩ := h
    refine ⟨_, (pss_cons (ps_for PassesOwn.never rfl (pi_range1 (by rfl) T.z_range (pa_cons (pe_callB (call_max2 rfl) (by rfl) T.z_max (by decide +kernel) (pa_cons pe_int (pa_cons (pe_callB (call_min2 rfl) (by rfl) T.z_min (by decide +kernel) (pa_cons (pe_callB (len_K K) (by rfl) T.z_len PySem.boot_len (pa_cons (pv 0) pa_nil)) (pa_cons pe_int pa_nil))) pa_nil))) pa_nil)) (pg_name (i := 1) sc_law.nd rfl (.inl rfl)) (pss_cons (ps_set (i := 2) sc_law.nd rfl (.inl rfl) (pe_call (ok_l_left T (k := k + 4)) hr (by rfl) T.g_l_left T.F_l_left.kp T.b_l_left .nil pass0 (pa_cons (pv 0) (pa_cons (pv 1) pa_nil))))
      (pss_cons (ps_asg (pe_call (ok_l_two T (k := k)) hr (by rfl) T.g_l_two T.F_l_two.kp T.b_l_two .nil pass0 (pa_cons (pv 2) (pa_cons (pe_ix (ix_listK K) (pe_lst (pa_cons pe_int (pa_cons pe_int pa_nil))) (pe_callTy call_int1 (by rfl) T.z_int (by decide +kernel) (pa_cons (pe_cmpR op_eq (pe_call (ok_l_pick T (k := k + 3)) hr (by rfl) T.g_l_pick T.F_l_pick.kp T.b_l_pick .nil pass0 (pa_cons (pv 2) (pa_cons pe_int pa_nil))) pe_int (nomark _)) pa_nil)) (fun _ _ => rfl)) pa_nil))) (pg_tupK K (n := 2) rfl (pgs_cons (pg_name (i := 3) sc_law.nd rfl (.inl rfl)) (pgs_cons (pg_name (i := 4) sc_law.nd rfl (.inl rfl)) pgs_nil))))
      (pss_cons (ps_set (i := 5) sc_law.nd rfl (.inl rfl) (pe_tup (pa_cons (pe_callTy (list_K K) (by rfl) T.z_list (by decide +kernel) (pa_cons (pv 3) pa_nil)) (pa_cons (pe_callTy (list_K K) (by rfl) T.z_list (by decide +kernel) (pa_cons (pv 4) pa_nil)) pa_nil))))
      (pss_one (ps_for PassesOwn.never rfl (pi_range1 (by rfl) T.z_range (pa_cons pe_int pa_nil)) (pg_name (i := 6) sc_law.nd rfl (.inl rfl)) (pss_cons (ps_set (i := 7) sc_law.nd rfl (.inl rfl) (pe_call (ok_l_price T (k := k + 2)) hr (by rfl) T.g_l_price T.F_l_price.kp T.b_l_price .nil pass0 (pa_cons (pv 2) (pa_cons (pv 3) (pa_cons (pv 4) pa_nil)))))
      (pss_cons (ps_set (i := 8) sc_law.nd rfl (.inl rfl) (pe_ix (ix_listK K) (pe_lst (pa_cons (pe_call (ok_l_pairs T (k := k + 2)) hr (by rfl) T.g_l_pairs T.F_l_pairs.kp T.b_l_pairs .nil pass0 (pa_cons (pv 2) (pa_cons (pv 3) (pa_cons (pv 4) pa_nil)))) (pa_cons (pe_lst pa_nil) pa_nil))) (pe_callTy call_int1 (by rfl) T.z_int (by decide +kernel) (pa_cons (pe_cmpR op_eq (pe_call (ok_l_pick T (k := k + 3)) hr (by rfl) T.g_l_pick T.F_l_pick.kp T.b_l_pick .nil pass0 (pa_cons (pv 2) (pa_cons pe_int pa_nil))) pe_int (nomark _)) pa_nil)) (fun _ _ => rfl)))
      (pss_cons (ps_set (i := 9) sc_law.nd rfl (.inl rfl) (pe_callTy (list_K K) (by rfl) T.z_list (by decide +kernel) (pa_cons (pv 8) pa_nil)))
      (pss_cons (ps_for PassesOwn.never rfl (pi_range1 (by rfl) T.z_range (pa_cons pe_int pa_nil)) (pg_name (i := 10) sc_law.nd rfl (.inl rfl)) (pss_cons (ps_set (i := 11) sc_law.nd rfl (.inl rfl) (pe_call (ok_cost_of T (k := k + 3)) hr (by rfl) T.g_cost_of T.F_cost_of.kp T.b_cost_of .nil pass0 (pa_cons (pv 3) (pa_cons (pv 4) (pa_cons (pv 7) (pa_cons (pv 9) pa_nil))))))
      (pss_one (ps_if (pt_not (pt_val (pe_call (ok_l_same T (k := k + 4)) hr (by rfl) T.g_l_same T.F_l_same.kp T.b_l_same .nil pass0 (pa_cons (pv 11) (pa_cons (pe_call (ok_l_cost T (k := k + 3)) hr (by rfl) T.g_l_cost T.F_l_cost.kp T.b_l_cost .nil pass0 (pa_cons (pv 3) (pa_cons (pv 4) (pa_cons (pv 7) (pa_cons (pv 8) pa_nil))))) pa_nil))))) (pss_one (ps_ret pe_bl)) pss_nil))))
      (pss_one (ps_if (PW.pt (pw_or (pt_cmpR (op_neDK K hr.units) (pv 9) (pv 8) (nomark _)) (pw_or1 (pt_cmpR (op_neDK K hr.units) (pe_tup (pa_cons (pv 3) (pa_cons (pv 4) pa_nil))) (pv 5) (nomark _))))) (pss_one (ps_ret pe_bl)) pss_nil))))))))))))
      (pss_one (ps_ret pe_bl))), ?_⟩
    refine ⟨_, rfl, a, _, rfl, .inl hS, _, _, rfl, _, _, rfl, ?_⟩
    obtain ⟨m, hm⟩ : ∃ m : Int, m = (if (if (3 : Int) < ((ns.map V.int).length : Int) then (3 : Int) else ((ns.map V.int).length : Int)) > 1 then (if (3 : Int) < ((ns.map V.int).length : Int) then (3 : Int) else ((ns.map V.int).length : Int)) else 1) := ⟨_, rfl⟩
    have m0 : 0 ≤ m ∧ m ≤ 10 := by
      rw [hm]
      split <;> split <;> omega
    refine ⟨m, by rw [hm], by omega, by omega, for_range (lo := 0) (n := m.toNat) (fun i σ H' => ∃ y1 y2 y3 y4 y5 y6 y7 y8 y9 y10 y11, σ = [some (.ref a), y1, y2, y3, y4, y5, y6, y7, y8, y9, y10, y11] ∧ Same H H')
      ⟨none, none, none, none, none, none, none, none, none, none, none, rfl, Same.refl H⟩ (fun i σ H1 hi h1 => ?_) (fun σ H1 h1 => ?_)⟩
    · obtain ⟨y1, y2, y3, y4, y5, y6, y7, y8, y9, y10, y11, rfl, s1⟩ := h1
      refine ⟨_, rfl, _, rfl, a, ns, _, rfl, s1.seq hS, by omega, fun L x0 y0 hL0 x0n => ?_⟩
      have lf1 : Lf L (upd H1 L (.lst [.int x0, .int y0, .int 0])) 0 := ⟨x0, y0, 0, upd_same, x0n, by omega, by omega⟩
      have s2 := sm_mut (o := .lst [.int x0, .int y0, .int 0]) s1 (s1.free hL0)
      have hLH : H L = none := s1.free hL0
      generalize upd H1 L (.lst [.int x0, .int y0, .int 0]) = H2 at *
      have nB : ∀ b ∈ [L], H b = none := fun b hb => by rw [List.mem_singleton.mp hb]; exact hLH
      refine ⟨_, rfl, (by show 2 ≤ sizeLine; decide), fun p3 h3 => ?_⟩
      have e3 : (upd H2 p3 (.lst [.int 9, .int 12])) p3 = some (.lst [.int 9, .int 12]) := upd_same
      have l3 := lf1.new (o := .lst [.int 9, .int 12]) h3
      have n3 : p3 ∉ [L] := lf1.bk.ne h3
      have g3 : Go [L] H2 (upd H2 p3 (.lst [.int 9, .int 12])) := Go.new h3
      generalize upd H2 p3 (.lst [.int 9, .int 12]) = H3 at *
      refine ⟨_, rfl, L, 8, 0, rfl, l3, by omega, by decide, by decide, fun r4 H4 g4 l4 a4 b4 => ?_⟩
      obtain ⟨z4, f4, hz4⟩ := at2i 9 12 (decide (V.int r4 = V.int 0))
      refine ⟨rfl, .inr ⟨_, rfl, p3, _, _, _, rfl, rfl, SqL.of (g4.k p3 _ n3 e3), f4, ?_⟩⟩
      refine ⟨L, 1, z4, rfl, l4, by omega, by omega, by omega, fun t x y H5 wd cs ds g5 l5 nt et dx dy w0 w1 c0 c1 b0 b1 oc ob => ?_⟩
      refine ⟨t, _, rfl, SqT.of et, rfl, _, _, rfl, _, _, rfl, rfl, ?_⟩
      obtain ⟨xa, us, rfl, nxa, exa, hA⟩ := dx.pal
      obtain ⟨ya, vs, rfl, nya, eya, hB⟩ := dy.pal
      refine ⟨_, rfl, xa, _, rfl, .inl (SqL.of exa), fun q1 hq1 => ?_⟩
      have s6 := sm_new (o := .lst us) hq1
      have eq1 : (upd H5 q1 (.lst us)) q1 = some (.lst us) := upd_same
      have nq1 : q1 ∉ [L] := l5.bk.ne hq1
      have l6 := l5.same s6
      generalize upd H5 q1 (.lst us) = H6 at *
      refine ⟨_, rfl, ya, _, rfl, .inl (SqL.of (s6 _ _ eya)), fun q2 hq2 => ?_⟩
      have s7 := sm_new (o := .lst vs) hq2
      have eq2 : (upd H6 q2 (.lst vs)) q2 = some (.lst vs) := upd_same
      have nq2 : q2 ∉ [L] := l6.bk.ne hq2
      have l7 := l6.same s7
      generalize upd H6 q2 (.lst vs) = H7 at *
      refine ⟨(by show 2 ≤ sizeLine; decide), fun q3 hq3 => ?_⟩
      have s8 := sm_new (o := .tup [.ref q1, .ref q2]) hq3
      have eq3 : (upd H7 q3 (.tup [.ref q1, .ref q2])) q3 = some (.tup [.ref q1, .ref q2]) := upd_same
      have nq3 : q3 ∉ [L] := l7.bk.ne hq3
      have l8 := l7.same s8
      generalize upd H7 q3 (.tup [.ref q1, .ref q2]) = H8 at *
      have t8 := (s6.trans s7).trans s8
      have dx8 : Dt [L] H8 (.ref xa) (eP cs) := .lst nxa (t8 _ _ exa) (hA.s t8)
      have dy8 : Dt [L] H8 (.ref ya) (eP ds) := .lst nya (t8 _ _ eya) (hB.s t8)
      have dk8 : Dt [L] H8 (.ref q3) (.tuple [eP cs, eP ds]) := .tup nq3 eq3 (.cons (.lst nq1 (s8 _ _ (s7 _ _ eq1)) (hA.s t8)) (.cons (.lst nq2 (s8 _ _ eq2) (hB.s t8)) .nil))
      have g58 : Go [L] H2 H8 := ((g3.trans g4).trans g5).trans (Go.of t8)
      have shc : Sh (eP cs) 2 := sh_eP (by omega) fun c hc => by have := (oc c hc).1; omega
      have shd : Sh (eP ds) 2 := sh_eP (by omega) fun c hc => by have := (ob c hc).1; omega
      have shk : Sh (.tuple [eP cs, eP ds]) 3 := sh_tup (by simp) fun d hd => by
        rcases List.mem_cons.mp hd with e | e
        · rw [e]; exact shc
        · rw [List.mem_singleton.mp e]; exact shd
      refine ⟨4, rfl, by decide, by decide, for_range (lo := 0) (n := 4) (fun j σ H' => ∃ y1 y6 y7 y8 y9 y10 y11, σ = [some (.ref a), y1, some (.ref L), some (.ref xa), some (.ref ya), some (.ref q3), y6, y7, y8, y9, y10, y11] ∧ Go [L] H8 H' ∧ Lf L H' (4000 + 1000 * j))
        ⟨_, _, _, _, _, _, _, rfl, Go.refl, l8.mono (by omega)⟩ (fun j σ H9 hj h9 => ?_) (fun σ H9 h9 => ?_)⟩
      · obtain ⟨y1, y6, y7, y8, y9, y10, y11, rfl, g9, l9⟩ := h9
        refine ⟨_, rfl, _, rfl, _, rfl, L, _, _, _, wd, cs, ds, rfl, l9, by omega, dx8.g g9, dy8.g g9, w1, c0, by omega, b0, by omega, oc, ob, fun pr H10 g10 l10 r0 r1 => ?_⟩
        have g810 := g9.trans g10
        refine ⟨_, rfl, _, rfl, _, rfl, L, _, _, _, cs, ds, rfl, l10, by omega, dx8.g g810, dy8.g g810, by omega, by omega, fun pv H11 ps g11 l11 dp lp op => ?_⟩
        refine ⟨Nat.zero_le _, fun z hz => ?_⟩
        have s12 := sm_new (o := .lst []) hz
        have ez : (upd H11 z (.lst [])) z = some (.lst []) := upd_same
        have nz : z ∉ [L] := l11.bk.ne hz
        have l12 := l11.same s12
        have dp12 := dp.s s12
        generalize upd H11 z (.lst []) = H12 at *
        have dz12 : Dt [L] H12 (.ref z) (eP []) := .lst nz ez .nil
        refine ⟨(by show 2 ≤ sizeLine; decide), fun o ho => ?_⟩
        have s13 := sm_new (o := .lst [pv, .ref z]) ho
        have eo : (upd H12 o (.lst [pv, .ref z])) o = some (.lst [pv, .ref z]) := upd_same
        have no : o ∉ [L] := l12.bk.ne ho
        have l13 := l12.same s13
        have dp13 := dp12.s s13
        have dz13 := dz12.s s13
        generalize upd H12 o (.lst [pv, .ref z]) = H13 at *
        refine ⟨_, rfl, L, 6, _, rfl, l13, by omega, by decide, by decide, fun r14 H14 g14 l14 a14 b14 => ?_⟩
        refine ⟨rfl, .inr ⟨_, rfl, o, _, _, _, rfl, rfl, SqL.of (g14.k o _ no eo), at2 _ _ _, ?_⟩⟩
        obtain ⟨v, es, ev, dv, lv, ov⟩ : ∃ (v : V) (es : List (List Int)), (if decide (V.int r14 = V.int 0) = true then V.ref z else pv) = v ∧ Dt [L] H14 v (eP es) ∧ es.length ≤ 100 ∧ ∀ p ∈ es, prOk cs.length ds.length p := by
          by_cases hb : decide (V.int r14 = V.int 0) = true
          · exact ⟨_, [], if_pos hb, dz13.g g14, by simp, fun _ h => nomatch h⟩
          · exact ⟨_, ps, if_neg hb, dp13.g g14, by omega, op⟩
        rw [ev]
        obtain ⟨va, xs, rfl, nva, eva, hE⟩ := dv.pal
        refine ⟨_, rfl, va, _, rfl, .inl (SqL.of eva), fun h hh => ?_⟩
        have s15 := sm_new (o := .lst xs) hh
        have eh : (upd H14 h (.lst xs)) h = some (.lst xs) := upd_same
        have nh : h ∉ [L] := l14.bk.ne hh
        have l15 := l14.same s15
        have dv15 := dv.s s15
        have hE15 := hE.s s15
        generalize upd H14 h (.lst xs) = H15 at *
        have dh15 : Dt [L] H15 (.ref h) (eP es) := .lst nh eh hE15
        have g15 : Go [L] H8 H15 := ((((g810.trans g11).trans (Go.of s12)).trans (Go.of s13)).trans g14).trans (Go.of s15)
        have dx15 := dx8.g g15
        have dy15 := dy8.g g15
        have dk15 := dk8.g g15
        have she : Sh (eP es) 2 := sh_eP (by omega) fun c hc => by
          obtain ⟨_, _, e, _⟩ := ov c hc
          rw [e]; simp
        refine ⟨2, rfl, by decide, by decide, for_range (lo := 0) (n := 2) (fun j σ H' => ∃ y1 y6 y10 y11, σ = [some (.ref a), y1, some (.ref L), some (.ref xa), some (.ref ya), some (.ref q3), y6, some (.int pr), some (.ref va), some (.ref h), y10, y11] ∧ Same H15 H')
          ⟨_, _, _, _, rfl, Same.refl _⟩ (fun j2 σ H16 hj2 h16 => ?_) (fun σ H16 h16 => ?_)⟩
        · obtain ⟨y1, y6, y10, y11, rfl, s16⟩ := h16
          refine ⟨_, rfl, _, rfl, _, rfl, _, rfl, [L], _, _, _, pr, wd, cs, ds, es, rfl, dx15.s s16, dy15.s s16, dh15.s s16, r0, r1, w1, by omega, by omega, lv, oc, ob, ov, fun H17 s17 => ?_⟩
          have t17 := s16.trans s17
          refine ⟨_, rfl, _, rfl, _, rfl, _, rfl, _, rfl, [L], _, _, _, pr, wd, cs, ds, es, rfl, dx15.s t17, dy15.s t17, dv15.s t17, r0, r1, w1, by omega, by omega, lv, oc, ob, ov, fun H18 s18 => ?_⟩
          refine ⟨[], _, _, .int (costL cs ds pr es), rfl, .int _, .int _, (sh_int _ 0).mono (by omega), by omega, fun H19 s19 => ?_⟩
          exact ⟨_, rfl, iteF ⟨_, _, _, _, rfl, (t17.trans s18).trans s19⟩⟩
        · obtain ⟨y1, y6, y10, y11, rfl, s16⟩ := h16
          refine ⟨_, rfl, _, rfl, _, _, (dh15.s s16).dP, (dv15.s s16).dP, she.sh (by omega), she.sh (by omega), _, rfl, iteN (by rw [eqv_sh she]; rfl) ?_⟩
          refine ⟨_, rfl, _, rfl, (by show 2 ≤ sizeLine; decide), fun t2 ht2 => ?_⟩
          have s17 := sm_new (o := .tup [.ref xa, .ref ya]) ht2
          have et2 : (upd H16 t2 (.tup [.ref xa, .ref ya])) t2 = some (.tup [.ref xa, .ref ya]) := upd_same
          generalize upd H16 t2 (.tup [.ref xa, .ref ya]) = H17 at *
          have t17 := s16.trans s17
          have dt2 : Dt [] H17 (.ref t2) (.tuple [eP cs, eP ds]) := .tup (fun h => nomatch h) et2 (.cons ((dx15.s t17).sub fun _ h => nomatch h) (.cons ((dy15.s t17).sub fun _ h => nomatch h) .nil))
          refine ⟨_, rfl, _, _, dt2.dP, (dk15.s t17).dP, shk.sh (by omega), shk.sh (by omega), _, rfl, iteN (by rw [eqv_sh shk]; rfl) ?_⟩
          exact ⟨_, _, _, _, _, _, _, rfl, g15.trans (Go.of t17), (l15.same t17).mono (by omega)⟩
      · obtain ⟨y1, y6, y7, y8, y9, y10, y11, rfl, g9, l9⟩ := h9
        exact ⟨_, _, _, _, _, _, _, _, _, _, _, rfl, (g58.trans g9).sm s2 nB⟩
    · obtain ⟨y1, y2, y3, y4, y5, y6, y7, y8, y9, y10, y11, rfl, s1⟩ := h1
      exact q H1

end
theorem all_mk {l : PySem.W.OpenLaw} {w : World} {K : PySem.W.Frag} {h : Heap} {mg : Str → Option Value} {fa : Addr} (X : K.In h) (G : h.Ns mainGlobals mg) (hfa : mg "law" = some (.ref fa))
    {f0 : Addr} {od0 an0 : Option Addr} {sl0 : Array (Option Value)} {oc0 kV0 dc0 pm0 cd0 ct0 : Value}
    (a0 : PySem.W.nsIn K mainGlobals "apart" = some (some (.ref f0))) (l0 : K.lookup f0 = some ⟨oc0, od0, .func (PySem.W.fnOf "apart" "apart" (defArgs s_apart) (defBody s_apart) (defScope s_apart) .none kV0 dc0 pm0 an0 cd0 ct0), sl0⟩) (c0 : PySem.W.codeIn K cd0 "apart" = true) (k0 : PySem.W.keepIn K (.ref f0) = true)
    {f1 : Addr} {od1 an1 : Option Addr} {sl1 : Array (Option Value)} {oc1 kV1 dc1 pm1 cd1 ct1 : Value}
    (a1 : PySem.W.nsIn K mainGlobals "cost_of" = some (some (.ref f1))) (l1 : K.lookup f1 = some ⟨oc1, od1, .func (PySem.W.fnOf "cost_of" "cost_of" (defArgs s_cost_of) (defBody s_cost_of) (defScope s_cost_of) .none kV1 dc1 pm1 an1 cd1 ct1), sl1⟩) (c1 : PySem.W.codeIn K cd1 "cost_of" = true) (k1 : PySem.W.keepIn K (.ref f1) = true)
    {f2 : Addr} {od2 an2 : Option Addr} {sl2 : Array (Option Value)} {oc2 kV2 dc2 pm2 cd2 ct2 : Value}
    (a2 : PySem.W.nsIn K mainGlobals "_law_mix" = some (some (.ref f2))) (l2 : K.lookup f2 = some ⟨oc2, od2, .func (PySem.W.fnOf "_law_mix" "_law_mix" (defArgs s_l_mix) (defBody s_l_mix) (defScope s_l_mix) .none kV2 dc2 pm2 an2 cd2 ct2), sl2⟩) (c2 : PySem.W.codeIn K cd2 "_law_mix" = true) (k2 : PySem.W.keepIn K (.ref f2) = true)
    {f3 : Addr} {od3 an3 : Option Addr} {sl3 : Array (Option Value)} {oc3 kV3 dc3 pm3 cd3 ct3 : Value}
    (a3 : PySem.W.nsIn K mainGlobals "_law_left" = some (some (.ref f3))) (l3 : K.lookup f3 = some ⟨oc3, od3, .func (PySem.W.fnOf "_law_left" "_law_left" (defArgs s_l_left) (defBody s_l_left) (defScope s_l_left) .none kV3 dc3 pm3 an3 cd3 ct3), sl3⟩) (c3 : PySem.W.codeIn K cd3 "_law_left" = true) (k3 : PySem.W.keepIn K (.ref f3) = true)
    {f4 : Addr} {od4 an4 : Option Addr} {sl4 : Array (Option Value)} {oc4 kV4 dc4 pm4 cd4 ct4 : Value}
    (a4 : PySem.W.nsIn K mainGlobals "_law_pick" = some (some (.ref f4))) (l4 : K.lookup f4 = some ⟨oc4, od4, .func (PySem.W.fnOf "_law_pick" "_law_pick" (defArgs s_l_pick) (defBody s_l_pick) (defScope s_l_pick) .none kV4 dc4 pm4 an4 cd4 ct4), sl4⟩) (c4 : PySem.W.codeIn K cd4 "_law_pick" = true) (k4 : PySem.W.keepIn K (.ref f4) = true)
    {f5 : Addr} {od5 an5 : Option Addr} {sl5 : Array (Option Value)} {oc5 kV5 dc5 pm5 cd5 ct5 : Value}
    (a5 : PySem.W.nsIn K mainGlobals "_law_kind" = some (some (.ref f5))) (l5 : K.lookup f5 = some ⟨oc5, od5, .func (PySem.W.fnOf "_law_kind" "_law_kind" (defArgs s_l_kind) (defBody s_l_kind) (defScope s_l_kind) .none kV5 dc5 pm5 an5 cd5 ct5), sl5⟩) (c5 : PySem.W.codeIn K cd5 "_law_kind" = true) (k5 : PySem.W.keepIn K (.ref f5) = true)
    {f6 : Addr} {od6 an6 : Option Addr} {sl6 : Array (Option Value)} {oc6 kV6 dc6 pm6 cd6 ct6 : Value}
    (a6 : PySem.W.nsIn K mainGlobals "_law_colour" = some (some (.ref f6))) (l6 : K.lookup f6 = some ⟨oc6, od6, .func (PySem.W.fnOf "_law_colour" "_law_colour" (defArgs s_l_colour) (defBody s_l_colour) (defScope s_l_colour) .none kV6 dc6 pm6 an6 cd6 ct6), sl6⟩) (c6 : PySem.W.codeIn K cd6 "_law_colour" = true) (k6 : PySem.W.keepIn K (.ref f6) = true)
    {f7 : Addr} {od7 an7 : Option Addr} {sl7 : Array (Option Value)} {oc7 kV7 dc7 pm7 cd7 ct7 : Value}
    (a7 : PySem.W.nsIn K mainGlobals "_law_apart" = some (some (.ref f7))) (l7 : K.lookup f7 = some ⟨oc7, od7, .func (PySem.W.fnOf "_law_apart" "_law_apart" (defArgs s_l_apart) (defBody s_l_apart) (defScope s_l_apart) .none kV7 dc7 pm7 an7 cd7 ct7), sl7⟩) (c7 : PySem.W.codeIn K cd7 "_law_apart" = true) (k7 : PySem.W.keepIn K (.ref f7) = true)
    {f8 : Addr} {od8 an8 : Option Addr} {sl8 : Array (Option Value)} {oc8 kV8 dc8 pm8 cd8 ct8 : Value}
    (a8 : PySem.W.nsIn K mainGlobals "_law_same" = some (some (.ref f8))) (l8 : K.lookup f8 = some ⟨oc8, od8, .func (PySem.W.fnOf "_law_same" "_law_same" (defArgs s_l_same) (defBody s_l_same) (defScope s_l_same) .none kV8 dc8 pm8 an8 cd8 ct8), sl8⟩) (c8 : PySem.W.codeIn K cd8 "_law_same" = true) (k8 : PySem.W.keepIn K (.ref f8) = true)
    {f9 : Addr} {od9 an9 : Option Addr} {sl9 : Array (Option Value)} {oc9 kV9 dc9 pm9 cd9 ct9 : Value}
    (a9 : PySem.W.nsIn K mainGlobals "_law_few" = some (some (.ref f9))) (l9 : K.lookup f9 = some ⟨oc9, od9, .func (PySem.W.fnOf "_law_few" "_law_few" (defArgs s_l_few) (defBody s_l_few) (defScope s_l_few) .none kV9 dc9 pm9 an9 cd9 ct9), sl9⟩) (c9 : PySem.W.codeIn K cd9 "_law_few" = true) (k9 : PySem.W.keepIn K (.ref f9) = true)
    {f10 : Addr} {od10 an10 : Option Addr} {sl10 : Array (Option Value)} {oc10 kV10 dc10 pm10 cd10 ct10 : Value}
    (a10 : PySem.W.nsIn K mainGlobals "_law_two" = some (some (.ref f10))) (l10 : K.lookup f10 = some ⟨oc10, od10, .func (PySem.W.fnOf "_law_two" "_law_two" (defArgs s_l_two) (defBody s_l_two) (defScope s_l_two) .none kV10 dc10 pm10 an10 cd10 ct10), sl10⟩) (c10 : PySem.W.codeIn K cd10 "_law_two" = true) (k10 : PySem.W.keepIn K (.ref f10) = true)
    {f11 : Addr} {od11 an11 : Option Addr} {sl11 : Array (Option Value)} {oc11 kV11 dc11 pm11 cd11 ct11 : Value}
    (a11 : PySem.W.nsIn K mainGlobals "_law_price" = some (some (.ref f11))) (l11 : K.lookup f11 = some ⟨oc11, od11, .func (PySem.W.fnOf "_law_price" "_law_price" (defArgs s_l_price) (defBody s_l_price) (defScope s_l_price) .none kV11 dc11 pm11 an11 cd11 ct11), sl11⟩) (c11 : PySem.W.codeIn K cd11 "_law_price" = true) (k11 : PySem.W.keepIn K (.ref f11) = true)
    {f12 : Addr} {od12 an12 : Option Addr} {sl12 : Array (Option Value)} {oc12 kV12 dc12 pm12 cd12 ct12 : Value}
    (a12 : PySem.W.nsIn K mainGlobals "_law_pairs" = some (some (.ref f12))) (l12 : K.lookup f12 = some ⟨oc12, od12, .func (PySem.W.fnOf "_law_pairs" "_law_pairs" (defArgs s_l_pairs) (defBody s_l_pairs) (defScope s_l_pairs) .none kV12 dc12 pm12 an12 cd12 ct12), sl12⟩) (c12 : PySem.W.codeIn K cd12 "_law_pairs" = true) (k12 : PySem.W.keepIn K (.ref f12) = true)
    {f13 : Addr} {od13 an13 : Option Addr} {sl13 : Array (Option Value)} {oc13 kV13 dc13 pm13 cd13 ct13 : Value}
    (a13 : PySem.W.nsIn K mainGlobals "_law_cost" = some (some (.ref f13))) (l13 : K.lookup f13 = some ⟨oc13, od13, .func (PySem.W.fnOf "_law_cost" "_law_cost" (defArgs s_l_cost) (defBody s_l_cost) (defScope s_l_cost) .none kV13 dc13 pm13 an13 cd13 ct13), sl13⟩) (c13 : PySem.W.codeIn K cd13 "_law_cost" = true) (k13 : PySem.W.keepIn K (.ref f13) = true)
    {f14 : Addr} {od14 an14 : Option Addr} {sl14 : Array (Option Value)} {oc14 kV14 dc14 pm14 cd14 ct14 : Value}
    (a14 : PySem.W.nsIn K mainGlobals "law" = some (some (.ref f14))) (l14 : K.lookup f14 = some ⟨oc14, od14, .func (PySem.W.fnOf "law" "law" (defArgs s_law) (defBody s_law) (defScope s_law) .none kV14 dc14 pm14 an14 cd14 ct14), sl14⟩) (c14 : PySem.W.codeIn K cd14 "law" = true) (k14 : PySem.W.keepIn K (.ref f14) = true)
    (z_abs : PySem.W.nsIn K mainGlobals "abs" = some none)
    (z_all : PySem.W.nsIn K mainGlobals "all" = some none)
    (z_bool : PySem.W.nsIn K mainGlobals "bool" = some none)
    (z_int : PySem.W.nsIn K mainGlobals "int" = some none)
    (z_isinstance : PySem.W.nsIn K mainGlobals "isinstance" = some none)
    (z_len : PySem.W.nsIn K mainGlobals "len" = some none)
    (z_list : PySem.W.nsIn K mainGlobals "list" = some none)
    (z_max : PySem.W.nsIn K mainGlobals "max" = some none)
    (z_min : PySem.W.nsIn K mainGlobals "min" = some none)
    (z_range : PySem.W.nsIn K mainGlobals "range" = some none)
    (z_str : PySem.W.nsIn K mainGlobals "str" = some none)
    (z_sum : PySem.W.nsIn K mainGlobals "sum" = some none)
    (z_tuple : PySem.W.nsIn K mainGlobals "tuple" = some none)
    (z_zip : PySem.W.nsIn K mainGlobals "zip" = some none)
    : ∃ fd : FuncData, (∀ (s : Shared) (v : Value), BindsTo s fd ⟨[v], []⟩ [("_law_script", v)]) ∧ ∀ base : Heap, K.In base → base.Ns mainGlobals mg → FnOk l.prog w K mg base CX0 6 fa fd ["_law_script"] (spLaw K) := by
  have e := hfa.symm.trans (PySem.W.mg_of X G a14)
  cases e
  exact ⟨_, fun s v => .of_eq rfl, fun base _ _ => ok_law (k := 0) {
      f_apart := f0, d_apart := _, F_apart := fun_mk (st := s_apart) l0 c0 k0, b_apart := (fun_mk (st := s_apart) l0 c0 k0).binds (ps := ["one", "other"]) fun _ _ _ _ _ _ us hl => match us, hl with | [_, _], _ => rfl, g_apart := PySem.W.mg_of X G a0,
      f_cost_of := f1, d_cost_of := _, F_cost_of := fun_mk (st := s_cost_of) l1 c1 k1, b_cost_of := (fun_mk (st := s_cost_of) l1 c1 k1).binds (ps := ["one", "other", "price", "pairs"]) fun _ _ _ _ _ _ us hl => match us, hl with | [_, _, _, _], _ => rfl, g_cost_of := PySem.W.mg_of X G a1,
      f_l_mix := f2, d_l_mix := _, F_l_mix := fun_mk (st := s_l_mix) l2 c2 k2, b_l_mix := (fun_mk (st := s_l_mix) l2 c2 k2).binds (ps := ["_law_cell", "_law_k"]) fun _ _ _ _ _ _ us hl => match us, hl with | [_, _], _ => rfl, g_l_mix := PySem.W.mg_of X G a2,
      f_l_left := f3, d_l_left := _, F_l_left := fun_mk (st := s_l_left) l3 c3 k3, b_l_left := (fun_mk (st := s_l_left) l3 c3 k3).binds (ps := ["_law_script", "_law_k"]) fun _ _ _ _ _ _ us hl => match us, hl with | [_, _], _ => rfl, g_l_left := PySem.W.mg_of X G a3,
      f_l_pick := f4, d_l_pick := _, F_l_pick := fun_mk (st := s_l_pick) l4 c4 k4, b_l_pick := (fun_mk (st := s_l_pick) l4 c4 k4).binds (ps := ["_law_left_here", "_law_many"]) fun _ _ _ _ _ _ us hl => match us, hl with | [_, _], _ => rfl, g_l_pick := PySem.W.mg_of X G a4,
      f_l_kind := f5, d_l_kind := _, F_l_kind := fun_mk (st := s_l_kind) l5 c5 k5, b_l_kind := (fun_mk (st := s_l_kind) l5 c5 k5).binds (ps := ["_law_left_here"]) fun _ _ _ _ _ _ us hl => match us, hl with | [_], _ => rfl, g_l_kind := PySem.W.mg_of X G a5,
      f_l_colour := f6, d_l_colour := _, F_l_colour := fun_mk (st := s_l_colour) l6 c6 k6, b_l_colour := (fun_mk (st := s_l_colour) l6 c6 k6).binds (ps := ["_law_left_here", "_law_kind_here"]) fun _ _ _ _ _ _ us hl => match us, hl with | [_, _], _ => rfl, g_l_colour := PySem.W.mg_of X G a6,
      f_l_apart := f7, d_l_apart := _, F_l_apart := fun_mk (st := s_l_apart) l7 c7 k7, b_l_apart := (fun_mk (st := s_l_apart) l7 c7 k7).binds (ps := ["_law_one", "_law_other"]) fun _ _ _ _ _ _ us hl => match us, hl with | [_, _], _ => rfl, g_l_apart := PySem.W.mg_of X G a7,
      f_l_same := f8, d_l_same := _, F_l_same := fun_mk (st := s_l_same) l8 c8 k8, b_l_same := (fun_mk (st := s_l_same) l8 c8 k8).binds (ps := ["_law_found", "_law_due"]) fun _ _ _ _ _ _ us hl => match us, hl with | [_, _], _ => rfl, g_l_same := PySem.W.mg_of X G a8,
      f_l_few := f9, d_l_few := _, F_l_few := fun_mk (st := s_l_few) l9 c9 k9, b_l_few := (fun_mk (st := s_l_few) l9 c9 k9).binds (ps := ["_law_left_here", "_law_kind_here", "_law_most"]) fun _ _ _ _ _ _ us hl => match us, hl with | [_, _, _], _ => rfl, g_l_few := PySem.W.mg_of X G a9,
      f_l_two := f10, d_l_two := _, F_l_two := fun_mk (st := s_l_two) l10 c10 k10, b_l_two := (fun_mk (st := s_l_two) l10 c10 k10).binds (ps := ["_law_left_here", "_law_most"]) fun _ _ _ _ _ _ us hl => match us, hl with | [_, _], _ => rfl, g_l_two := PySem.W.mg_of X G a10,
      f_l_price := f11, d_l_price := _, F_l_price := fun_mk (st := s_l_price) l11 c11 k11, b_l_price := (fun_mk (st := s_l_price) l11 c11 k11).binds (ps := ["_law_left_here", "_law_one", "_law_other"]) fun _ _ _ _ _ _ us hl => match us, hl with | [_, _, _], _ => rfl, g_l_price := PySem.W.mg_of X G a11,
      f_l_pairs := f12, d_l_pairs := _, F_l_pairs := fun_mk (st := s_l_pairs) l12 c12 k12, b_l_pairs := (fun_mk (st := s_l_pairs) l12 c12 k12).binds (ps := ["_law_left_here", "_law_one", "_law_other"]) fun _ _ _ _ _ _ us hl => match us, hl with | [_, _, _], _ => rfl, g_l_pairs := PySem.W.mg_of X G a12,
      f_l_cost := f13, d_l_cost := _, F_l_cost := fun_mk (st := s_l_cost) l13 c13 k13, b_l_cost := (fun_mk (st := s_l_cost) l13 c13 k13).binds (ps := ["_law_one", "_law_other", "_law_price_here", "_law_pairs_here"]) fun _ _ _ _ _ _ us hl => match us, hl with | [_, _, _, _], _ => rfl, g_l_cost := PySem.W.mg_of X G a13,
      z_abs := PySem.W.mg_none_of X G z_abs,
      z_all := PySem.W.mg_none_of X G z_all,
      z_bool := PySem.W.mg_none_of X G z_bool,
      z_int := PySem.W.mg_none_of X G z_int,
      z_isinstance := PySem.W.mg_none_of X G z_isinstance,
      z_len := PySem.W.mg_none_of X G z_len,
      z_list := PySem.W.mg_none_of X G z_list,
      z_max := PySem.W.mg_none_of X G z_max,
      z_min := PySem.W.mg_none_of X G z_min,
      z_range := PySem.W.mg_none_of X G z_range,
      z_str := PySem.W.mg_none_of X G z_str,
      z_sum := PySem.W.mg_none_of X G z_sum,
      z_tuple := PySem.W.mg_none_of X G z_tuple,
      z_zip := PySem.W.mg_none_of X G z_zip } (fun_mk (st := s_law) l14 c14 k14) (by decide)⟩
end Z
open PySem PySem.W PyProof.Rows
set_option maxHeartbeats 0 in
theorem PySem.Challenge.cw_fewcolours_k68_what_a_change_costs_holds : PySem.Challenge.rw_fewcolours_k68_what_a_change_costs.Holds := by
  w_on; o_law; k_head; (case hw => w_witness2)
  k_fill
  refine L2.walk_of (l := PySem.Challenge.rw_fewcolours_k68_what_a_change_costs) (n := 63) (k := 6) (x := "_law_script") (CX := fun _ => L2.CX0) (sp := fun w => Z.spLaw _) rfl (by decide) rfl ⟨rfl, by decide, by decide⟩ (fun w h Y => PySem.W.kIn_of Y) ?F (fun _ _ a ns hl _ hS => ⟨a, ns, rfl, hS, hl, fun _ => rfl⟩) (fun _ _ _ _ _ h => h)
  case F =>
    intro w mg fa h KX G hmg
    refine' Z.all_mk KX G hmg ?a0 ?l0 ?c0 ?k0 ?a1 ?l1 ?c1 ?k1 ?a2 ?l2 ?c2 ?k2 ?a3 ?l3 ?c3 ?k3 ?a4 ?l4 ?c4 ?k4 ?a5 ?l5 ?c5 ?k5 ?a6 ?l6 ?c6 ?k6 ?a7 ?l7 ?c7 ?k7 ?a8 ?l8 ?c8 ?k8 ?a9 ?l9 ?c9 ?k9 ?a10 ?l10 ?c10 ?k10 ?a11 ?l11 ?c11 ?k11 ?a12 ?l12 ?c12 ?k12 ?a13 ?l13 ?c13 ?k13 ?a14 ?l14 ?c14 ?k14 ?z_abs ?z_all ?z_bool ?z_int ?z_isinstance ?z_len ?z_list ?z_max ?z_min ?z_range ?z_str ?z_sum ?z_tuple ?z_zip
    case a0 => k_is
    case l0 => k_is
    case c0 => k_is
    case k0 => k_is
    case a1 => k_is
    case l1 => k_is
    case c1 => k_is
    case k1 => k_is
    case a2 => k_is
    case l2 => k_is
    case c2 => k_is
    case k2 => k_is
    case a3 => k_is
    case l3 => k_is
    case c3 => k_is
    case k3 => k_is
    case a4 => k_is
    case l4 => k_is
    case c4 => k_is
    case k4 => k_is
    case a5 => k_is
    case l5 => k_is
    case c5 => k_is
    case k5 => k_is
    case a6 => k_is
    case l6 => k_is
    case c6 => k_is
    case k6 => k_is
    case a7 => k_is
    case l7 => k_is
    case c7 => k_is
    case k7 => k_is
    case a8 => k_is
    case l8 => k_is
    case c8 => k_is
    case k8 => k_is
    case a9 => k_is
    case l9 => k_is
    case c9 => k_is
    case k9 => k_is
    case a10 => k_is
    case l10 => k_is
    case c10 => k_is
    case k10 => k_is
    case a11 => k_is
    case l11 => k_is
    case c11 => k_is
    case k11 => k_is
    case a12 => k_is
    case l12 => k_is
    case c12 => k_is
    case k12 => k_is
    case a13 => k_is
    case l13 => k_is
    case c13 => k_is
    case k13 => k_is
    case a14 => k_is
    case l14 => k_is
    case c14 => k_is
    case k14 => k_is
    case z_abs => k_is
    case z_all => k_is
    case z_bool => k_is
    case z_int => k_is
    case z_isinstance => k_is
    case z_len => k_is
    case z_list => k_is
    case z_max => k_is
    case z_min => k_is
    case z_range => k_is
    case z_str => k_is
    case z_sum => k_is
    case z_tuple => k_is
    case z_zip => k_is

