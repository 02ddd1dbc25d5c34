import PyProof.Rows.All
import Wide.All
import OpenK.AllK
import Wide.FinOn
import HandS.ForMost
import HandS.Zip
import HandS.IsInst
import HandS.TupAny
import HandS.SortRule
import HandS.Style
import HandS.Walk
import HandS.Evl
import KE.DataMinMax
import HandS.Wide
import HandS.DictTup
import HandS.Small
import KE.SortData
import HandS.TryOnly
import HandS.Conv
import PySem.Challenge.RW_fewcolours_k42_lost_by_middles
set_option Elab.async false
set_option linter.all false
set_option maxRecDepth 100000
namespace Z
open PySem PySem.Spec PyProof.Rows L2
/-! ### heaps but for some addresses -/
def Dom (H H' : Hp) : Prop := ∀ a, H a ≠ none → H' a ≠ none
structure Go (B : List Addr) (H H' : Hp) : Prop where
  k : ∀ a o, a ∉ B → H a = some o → H' a = some o
  d : Dom H H'
def Bk (B : List Addr) (H : Hp) : Prop := ∀ a ∈ B, H a ≠ none
section
variable {B C : List Addr} {H H' H1 H2 : Hp} {p L : Addr} {o : HO}
theorem dom_new : Dom H (upd H p o) := fun a h => by
  by_cases e : a = p
  · subst e
    rw [upd_same]
    exact fun z => nomatch z
  · rw [upd_ne e]
    exact h
theorem dom_mut (d : Dom H H') : Dom H (upd H' p o) := fun a h => dom_new a (d a h)
theorem Go.refl : Go B H H := ⟨fun _ _ _ h => h, fun _ h => h⟩
theorem Go.trans (a : Go B H H1) (b : Go B H1 H2) : Go B H H2 := ⟨fun c o n h => b.k c o n (a.k c o n h), fun c h => b.d c (a.d c h)⟩
theorem same_dom (s : Same H H') : Dom H H' := fun a h => by
  cases q : H a with
  | none => exact absurd q h
  | some o => rw [s a o q]; exact fun z => nomatch z
theorem Go.of (s : Same H H') : Go B H H' := ⟨fun a o _ h => s a o h, same_dom s⟩
theorem Go.new (h : H p = none) : Go B H (upd H p o) := ⟨fun a u _ e => by
  rw [upd_ne (ne_of_none e h)]
  exact e, dom_new⟩
theorem Go.mut (g : Go B H H') (h : H p = none) : Go B H (upd H' p o) := ⟨fun a u n e => by
  rw [upd_ne (ne_of_none e h)]
  exact g.k a u n e, dom_mut g.d⟩
theorem Go.at (g : Go B H H') (h : p ∈ B) : Go B H (upd H' p o) := ⟨fun a u n e => by
  rw [upd_ne (show a ≠ p from fun z => n (by rw [z]; exact h))]
  exact g.k a u n e, dom_mut g.d⟩
theorem Go.w (g : Go C H H') (s : ∀ a ∈ C, a ∈ B) : Go B H H' := ⟨fun a o n h => g.k a o (fun q => n (s a q)) h, g.d⟩
theorem Go.w1 (g : Go [L] H H') (s : L ∈ B) : Go B H H' := g.w fun a h => by rw [List.mem_singleton.mp h]; exact s
theorem Go.free (g : Go B H H') (h : H' p = none) : H p = none := by
  cases q : H p with
  | none => rfl
  | some o => exact absurd h (g.d p (by rw [q]; exact fun z => nomatch z))
theorem Bk.go (b : Bk B H) (g : Go C H H') : Bk B H' := fun a h => g.d a (b a h)
theorem Bk.ne (b : Bk B H) (h : H p = none) : p ∉ B := fun q => b p q h
theorem Bk.cons (b : Bk B H) (h : H p = some o) : Bk (p :: B) H := fun a q => by
  rcases List.mem_cons.mp q with e | e
  · subst e
    rw [h]
    exact fun z => nomatch z
  · exact b a e
theorem Bk.up (b : Bk B H) : Bk B (upd H p o) := fun a h => dom_new a (b a h)
theorem sm_new (h : H p = none) : Same H (upd H p o) := fun b x e => by
  rw [upd_ne (ne_of_none e h)]
  exact e
theorem sm_mut (s : Same H H') (h : H p = none) : Same H (upd H' p o) := fun b x e => by
  rw [upd_ne (ne_of_none e h)]
  exact s b x e
/-- what was new behind H, and is in B, may change -/
theorem Go.sm (g : Go B H1 H2) (s : Same H H1) (n : ∀ a ∈ B, H a = none) : Same H H2 := fun a o h => g.k a o (fun q => by rw [n a q] at h; cases h) (s a o h)
theorem Go.cons (g : Go (p :: B) H1 H2) (s : Go B H H1) (h : H p = none) : Go B H H2 := ⟨fun a o n e => g.k a o (fun q => by
  rcases List.mem_cons.mp q with z | z
  · rw [z, h] at e
    cases e
  · exact n z) (s.k a o n e), fun a e => g.d a (s.d a e)⟩
end
/-! ### the list that is drawn from -/
def Lf (L : Addr) (H : Hp) (n : Nat) : Prop := ∃ a b c : Int, H L = some (.lst [.int a, .int b, .int c]) ∧ 0 ≤ a ∧ 0 ≤ c ∧ c ≤ (n : Int)
section
variable {L p : Addr} {H H' : Hp} {n m : Nat} {o : HO} {B : List Addr}
theorem Lf.mono (h : Lf L H n) (l : n ≤ m) : Lf L H m := by
  obtain ⟨a, b, c, e, h1, h2, h3⟩ := h
  exact ⟨a, b, c, e, h1, h2, by omega⟩
theorem Lf.same (h : Lf L H n) (s : Same H H') : Lf L H' n := by
  obtain ⟨a, b, c, e, h1, h2, h3⟩ := h
  exact ⟨a, b, c, s _ _ e, h1, h2, h3⟩
theorem Lf.go (h : Lf L H n) (g : Go B H H') (i : L ∉ B) : Lf L H' n := by
  obtain ⟨a, b, c, e, h1, h2, h3⟩ := h
  exact ⟨a, b, c, g.k _ _ i e, h1, h2, h3⟩
theorem Lf.ne (h : Lf L H n) (e : H p = none) : p ≠ L := fun q => by
  obtain ⟨a, b, c, e', _⟩ := h
  rw [q, e'] at e
  cases e
theorem Lf.up (h : Lf L H n) (e : p ≠ L) : Lf L (upd H p o) n := by
  obtain ⟨a, b, c, e', h1, h2, h3⟩ := h
  refine ⟨a, b, c, ?_, h1, h2, h3⟩
  rw [upd_ne (Ne.symm e)]
  exact e'
theorem Lf.new (h : Lf L H n) (e : H p = none) : Lf L (upd H p o) n := h.up (h.ne e)
theorem Lf.bk (h : Lf L H n) : Bk [L] H := fun a q => by
  obtain ⟨_, _, _, e, _⟩ := h
  rw [List.mem_singleton.mp q, e]
  exact fun z => nomatch z
end
/-! ### data apart from some addresses -/
mutual
inductive Dt (B : List Addr) (H : Hp) : V → PyData → Prop
  | non : Dt B H .non .none
  | bl (b : Bool) : Dt B H (.bl b) (.bool b)
  | int (i : Int) : Dt B H (.int i) (.int i)
  | str (x : Str) : Dt B H (.str x) (.str x)
  | lst {a : Addr} {xs : List V} {ds : List PyData} : a ∉ B → H a = some (.lst xs) → DtA B H xs ds → Dt B H (.ref a) (.list ds)
  | tup {a : Addr} {xs : List V} {ds : List PyData} : a ∉ B → H a = some (.tup xs) → DtA B H xs ds → Dt B H (.ref a) (.tuple ds)
inductive DtA (B : List Addr) (H : Hp) : List V → List PyData → Prop
  | nil : DtA B H [] []
  | cons {v : V} {vs : List V} {d : PyData} {ds : List PyData} : Dt B H v d → DtA B H vs ds → DtA B H (v :: vs) (d :: ds)
end
section
variable {B C : List Addr} {H H' : Hp} {p L : Addr}
mutual
/-- the general way from one to another -/
theorem Dt.to (f : ∀ a o, a ∉ B → H a = some o → a ∉ C ∧ H' a = some o) : ∀ (d : PyData) (v : V), Dt B H v d → Dt C H' v d
  | .none, _, h => by cases h; exact .non
  | .bool b, _, h => by cases h; exact .bl b
  | .int i, _, h => by cases h; exact .int i
  | .str x, _, h => by cases h; exact .str x
  | .list ds, _, h => by
    cases h with
    | lst n hs ha => exact .lst (f _ _ n hs).1 (f _ _ n hs).2 (DtA.to f ds _ ha)
  | .tuple ds, _, h => by
    cases h with
    | tup n hs ha => exact .tup (f _ _ n hs).1 (f _ _ n hs).2 (DtA.to f ds _ ha)
  | .dict _, _, h => by cases h
theorem DtA.to (f : ∀ a o, a ∉ B → H a = some o → a ∉ C ∧ H' a = some o) : ∀ (ds : List PyData) (vs : List V), DtA B H vs ds → DtA C H' vs ds
  | [], _, h => by cases h; exact .nil
  | d :: ds, _, h => by
    cases h with
    | cons h1 h2 => exact .cons (Dt.to f d _ h1) (DtA.to f ds _ h2)
end
mutual
theorem Dt.dp {K : PySem.W.Frag} : ∀ (d : PyData) (v : V), Dt B H v d → Dp K H v d
  | .none, _, h => by cases h; exact .non
  | .bool b, _, h => by cases h; exact .bl b
  | .int i, _, h => by cases h; exact .int i
  | .str x, _, h => by cases h; exact .str x
  | .list ds, _, h => by
    cases h with
    | lst n hs ha => exact .lst (SqL.of hs) (DtA.dp ds _ ha)
  | .tuple ds, _, h => by
    cases h with
    | tup n hs ha => exact .tup (SqT.of hs) (DtA.dp ds _ ha)
  | .dict _, _, h => by cases h
theorem DtA.dp {K : PySem.W.Frag} : ∀ (ds : List PyData) (vs : List V), DtA B H vs ds → DpAll K H vs ds
  | [], _, h => by cases h; exact .nil
  | d :: ds, _, h => by
    cases h with
    | cons h1 h2 => exact .cons (Dt.dp d _ h1) (DtA.dp ds _ h2)
end
variable {d : PyData} {v : V} {ds : List PyData} {vs ws : List V}
theorem Dt.g (h : Dt B H v d) (g : Go B H H') : Dt B H' v d := Dt.to (fun a o n e => ⟨n, g.k a o n e⟩) d v h
theorem DtA.g (h : DtA B H vs ds) (g : Go B H H') : DtA B H' vs ds := DtA.to (fun a o n e => ⟨n, g.k a o n e⟩) ds vs h
theorem Dt.s (h : Dt B H v d) (s : Same H H') : Dt B H' v d := h.g (Go.of s)
theorem DtA.s (h : DtA B H vs ds) (s : Same H H') : DtA B H' vs ds := h.g (Go.of s)
/-- a new address may change, too -/
theorem Dt.fr (h : Dt B H v d) (e : H p = none) : Dt (p :: B) H v d := Dt.to (fun a o n q => ⟨fun z => by
  rcases List.mem_cons.mp z with y | y
  · rw [y, e] at q
    cases q
  · exact n y, q⟩) d v h
theorem DtA.fr (h : DtA B H vs ds) (e : H p = none) : DtA (p :: B) H vs ds := DtA.to (fun a o n q => ⟨fun z => by
  rcases List.mem_cons.mp z with y | y
  · rw [y, e] at q
    cases q
  · exact n y, q⟩) ds vs h
theorem Dt.un (h : Dt (p :: B) H v d) : Dt B H v d := Dt.to (fun a o n q => ⟨fun z => n (List.mem_cons_of_mem _ z), q⟩) d v h
theorem DtA.un (h : DtA (p :: B) H vs ds) : DtA B H vs ds := DtA.to (fun a o n q => ⟨fun z => n (List.mem_cons_of_mem _ z), q⟩) ds vs h
theorem Dt.sub (h : Dt B H v d) (s : ∀ a ∈ C, a ∈ B) : Dt C H v d := Dt.to (fun a o n q => ⟨fun z => n (s a z), q⟩) d v h
theorem DtA.sub (h : DtA B H vs ds) (s : ∀ a ∈ C, a ∈ B) : DtA C H vs ds := DtA.to (fun a o n q => ⟨fun z => n (s a z), q⟩) ds vs h
theorem Dt.dP {K : PySem.W.Frag} (h : Dt B H v d) : Dp K H v d := Dt.dp d v h
theorem DtA.len {vs : List V} : ∀ {ds : List PyData}, DtA B H vs ds → vs.length = ds.length := by
  induction vs with
  | nil => intro ds h; cases h; rfl
  | cons v vs ih => intro ds h; cases h with | cons h1 h2 => rw [List.length_cons, List.length_cons, ih h2]
theorem DtA.get {vs : List V} : ∀ {ds : List PyData} {i : Nat} {d : PyData}, DtA B H vs ds → ds[i]? = some d → ∃ v, vs[i]? = some v ∧ Dt B H v d := by
  induction vs with
  | nil => intro ds i d h e; cases h; simp at e
  | cons v vs ih =>
    intro ds i d h e
    cases h with
    | cons h1 h2 =>
      cases i with
      | zero => cases e; exact ⟨v, rfl, h1⟩
      | succ i => exact ih (i := i) h2 (by simpa using e)
theorem DtA.getV {vs : List V} : ∀ {ds : List PyData} {i : Nat} {v : V}, DtA B H vs ds → vs[i]? = some v → ∃ d, ds[i]? = some d ∧ Dt B H v d := by
  induction vs with
  | nil => intro ds i d h e; simp at e
  | cons v vs ih =>
    intro ds i d h e
    cases h with
    | cons h1 h2 =>
      cases i with
      | zero => cases e; exact ⟨_, rfl, h1⟩
      | succ i => exact ih (i := i) h2 (by simpa using e)
theorem DtA.app {vs ws : List V} : ∀ {ds es : List PyData}, DtA B H vs ds → DtA B H ws es → DtA B H (vs ++ ws) (ds ++ es) := by
  induction vs with
  | nil => intro ds es h h2; cases h; exact h2
  | cons v vs ih =>
    intro ds es h h2
    cases h with
    | cons h1 h3 => exact .cons h1 (ih h3 h2)
theorem DtA.one (h : Dt B H v d) : DtA B H [v] [d] := .cons h .nil
theorem DtA.ints : ∀ ns : List Int, DtA B H (ns.map V.int) (ns.map PyData.int)
  | [] => .nil
  | n :: ns => .cons (.int n) (DtA.ints ns)
theorem DtA.intsV : ∀ {ns : List Int} {vs : List V}, DtA B H vs (ns.map PyData.int) → vs = ns.map V.int
  | [], _, h => by cases h; rfl
  | n :: ns, _, h => by
    cases h with
    | cons h1 h2 =>
      cases h1
      rw [DtA.intsV h2]
      rfl
theorem DtA.blsV : ∀ {ns : List Bool} {vs : List V}, DtA B H vs (ns.map PyData.bool) → vs = ns.map V.bl
  | [], _, h => by cases h; rfl
  | n :: ns, _, h => by
    cases h with
    | cons h1 h2 =>
      cases h1
      rw [DtA.blsV h2]
      rfl
/-- a colour; a list of ints; a palette -/
def eC (ns : List Int) : PyData := .tuple (ns.map .int)
def eI (ns : List Int) : PyData := .list (ns.map .int)
def eP (cs : List (List Int)) : PyData := .list (cs.map eC)
theorem Dt.col {v : V} {ns : List Int} (h : Dt B H v (eC ns)) : ∃ a, v = .ref a ∧ a ∉ B ∧ H a = some (.tup (ns.map V.int)) := by
  cases h with
  | tup n hs ha =>
    have e := DtA.intsV ha
    subst e
    exact ⟨_, rfl, n, hs⟩
theorem Dt.ofCol {a : Addr} {ns : List Int} (n : a ∉ B) (h : H a = some (.tup (ns.map V.int))) : Dt B H (.ref a) (eC ns) := .tup n h (DtA.ints ns)
theorem Dt.ofInts {a : Addr} {ns : List Int} (n : a ∉ B) (h : H a = some (.lst (ns.map V.int))) : Dt B H (.ref a) (eI ns) := .lst n h (DtA.ints ns)
theorem Dt.ints {v : V} {ns : List Int} (h : Dt B H v (eI ns)) : ∃ a, v = .ref a ∧ a ∉ B ∧ H a = some (.lst (ns.map V.int)) := by
  cases h with
  | lst n hs ha =>
    have e := DtA.intsV ha
    subst e
    exact ⟨_, rfl, n, hs⟩
theorem Dt.tupI {v : V} {ds : List PyData} (h : Dt B H v (.tuple ds)) : ∃ a vs, v = .ref a ∧ a ∉ B ∧ H a = some (.tup vs) ∧ DtA B H vs ds := by
  cases h with
  | tup n hs ha => exact ⟨_, _, rfl, n, hs, ha⟩
theorem Dt.lstI {v : V} {ds : List PyData} (h : Dt B H v (.list ds)) : ∃ a vs, v = .ref a ∧ a ∉ B ∧ H a = some (.lst vs) ∧ DtA B H vs ds := by
  cases h with
  | lst n hs ha => exact ⟨_, _, rfl, n, hs, ha⟩
theorem Dt.pal {v : V} {cs : List (List Int)} (h : Dt B H v (eP cs)) : ∃ a vs, v = .ref a ∧ a ∉ B ∧ H a = some (.lst vs) ∧ DtA B H vs (cs.map eC) := Dt.lstI h
theorem Dt.intI {v : V} {i : Int} (h : Dt B H v (.int i)) : v = .int i := by
  cases h
  rfl
end
/-! ### the rules that speak of the written part, with it named -/
def rLenS (K : PySem.W.Frag) : List V → Hp → VK → Prop := fun xs H Q => ∃ p ys, xs = [.ref p] ∧ (SqL K H p ys ∨ SqT K H p ys) ∧ Q (.int ys.length) H
def rListOf (K : PySem.W.Frag) : List V → Hp → VK → Prop := fun xs H Q => ∃ p ys, xs = [.ref p] ∧ (SqL K H p ys ∨ SqT K H p ys) ∧ ∀ l, H l = none → Q (.ref l) (upd H l (.lst ys))
def rTupOf (K : PySem.W.Frag) : List V → Hp → VK → Prop := fun xs H Q => ∃ p ys, xs = [.ref p] ∧ ((SqL K H p ys ∧ ∀ l, H l = none → Q (.ref l) (upd H l (.tup ys))) ∨ (SqT K H p ys ∧ Q (.ref p) H))
section
variable (K : PySem.W.Frag) {X : Cx}
theorem ix_listK (h : X.K = K := by rfl) : IxR X (rIxL K) := h ▸ ix_list
theorem ix_tupK (h : X.K = K := by rfl) : IxR X (rIxT K) := h ▸ ix_tup
theorem sl_listK (h : X.K = K := by rfl) : SlR X (rSlL K) := h ▸ sl_list
theorem sl_tupAK (h : X.K = K := by rfl) : SlR X (rSlA K) := h ▸ sl_tupA
theorem op_catAK (h : X.K = K := by rfl) : OpR X (binaryOp .Add) (rCatA K) := h ▸ op_catA
theorem op_eqDK (hu : X.A.units + 64 < cLine) (h : X.K = K := by rfl) : OpR X (compareOp .Eq) (rEqD K) := h ▸ op_eqD hu
theorem op_neDK (hu : X.A.units + 64 < cLine) (h : X.K = K := by rfl) : OpR X (compareOp .NotEq) (rNeD K) := h ▸ op_neD hu
theorem len_K (h : X.K = K := by rfl) : CallR X (.builtin "len") (rLenS K) := h ▸ call_len_seq
theorem list_K (h : X.K = K := by rfl) : CallR X (.type "list") (rListOf K) := h ▸ call_list_of
theorem tuple_K (h : X.K = K := by rfl) : CallR X (.type "tuple") (rTupOf K) := h ▸ call_tuple_of
theorem cr_sumK (hc : X.calm = true) (h : X.K = K := by rfl) : CallR X (.builtin "sum") (rSum K) := h ▸ cr_sum hc
theorem cr_maxK (hc : X.calm = true) (h : X.K = K := by rfl) : CallR X (.builtin "max") (rMax K) := h ▸ cr_max hc
theorem cr_minK (hc : X.calm = true) (h : X.K = K := by rfl) : CallR X (.builtin "min") (rMin K) := h ▸ cr_min hc
theorem cr_anyK (hc : X.calm = true) (h : X.K = K := by rfl) : CallR X (.builtin "any") (rAny K) := h ▸ cr_any hc
theorem cr_allK (hc : X.calm = true) (h : X.K = K := by rfl) : CallR X (.builtin "all") (rAll K) := h ▸ cr_all hc
theorem call_isiK1 (h : X.K = K := by rfl) : CallR X (.builtin "isinstance") (rIsi K) := h ▸ call_isi
theorem call_isiTK (h : X.K = K := by rfl) : CallR X (.builtin "isinstance") (rIsiT K) := h ▸ call_isiT
theorem cr_sortedK (h : X.K = K := by rfl) : CallR X (.builtin "sorted") (rSortedPO K) := h ▸ cr_sortedPO
theorem mt_indexK (h : X.K = K := by rfl) : MtR X "list.index" (rIndex K) := h ▸ mt_index
theorem pi_listK {tg l : Expr} {tl : TE} (hl : PE X l tl) (h : X.K = K := by rfl) : PI X tg l (iList K tl) := h ▸ pi_list hl
theorem pg_tupK {pos : Pos} {es : List Expr} {kk : Nat} {t : TGs} {n : Nat} (hc : X.calm = true) (h : PGs X es t) (hn : (assignEach es X.env).length = n := by rfl) (hst : (assignEach es X.env).findIdx? (·.1) = none := by rfl) (h2 : X.K = K := by rfl) : PG X (.Tuple es kk pos) (gTup K n t) :=
  h2 ▸ pg_tup hc h hn hst
theorem pi_tupK {tg l : Expr} {tl : TE} (hl : PE X l tl) (h : X.K = K := by rfl) : PI X tg l (iTup K tl) := h ▸ pi_tup hl
end
/-! ### shapes -/
mutual
def wide : PyData → Bool
  | .none | .bool _ | .int _ | .str _ => true
  | .list xs | .tuple xs => decide (xs.length ≤ 100000) && wideAll xs
  | .dict _ => false
def wideAll : List PyData → Bool
  | [] => true
  | x :: xs => wide x && wideAll xs
end
def Sh (d : PyData) (k : Nat) : Prop := d.canLay0 = true ∧ d.depth ≤ k ∧ wide d = true
theorem sh_all : ∀ {ds : List PyData} {k : Nat}, (∀ d ∈ ds, Sh d k) → PyData.canLayAll0 ds = true ∧ PyData.depthAll ds ≤ k ∧ wideAll ds = true
  | [], _, _ => ⟨rfl, Nat.zero_le _, by rw [wideAll]⟩
  | d :: ds, k, h => by
    obtain ⟨h1, h2, h4⟩ := sh_all (ds := ds) (k := k) fun x hx => h x (List.mem_cons_of_mem _ hx)
    have h3 := h d (List.mem_cons_self ..)
    refine ⟨?_, ?_, ?_⟩
    · rw [PyData.canLayAll0, h1, h3.1]; rfl
    · rw [PyData.depthAll]
      exact Nat.max_le.mpr ⟨h3.2.1, h2⟩
    · rw [wideAll, h4, h3.2.2]; rfl
theorem sh_mem : ∀ {ds : List PyData} {k : Nat}, PyData.canLayAll0 ds = true → PyData.depthAll ds ≤ k → wideAll ds = true → ∀ d ∈ ds, Sh d k
  | [], _, _, _, _, _, h => nomatch h
  | d :: ds, k, h1, h2, h3, x, hx => by
    rw [PyData.canLayAll0] at h1
    rw [PyData.depthAll] at h2
    rw [wideAll] at h3
    have a := Bool.and_eq_true_iff.mp h1
    have b := Nat.max_le.mp h2
    have c := Bool.and_eq_true_iff.mp h3
    rcases List.mem_cons.mp hx with e | e
    · rw [e]; exact ⟨a.1, b.1, c.1⟩
    · exact sh_mem a.2 b.2 c.2 x e
theorem sh_tup {ds : List PyData} {k : Nat} (l : ds.length ≤ 100000) (h : ∀ d ∈ ds, Sh d k) : Sh (.tuple ds) (k + 1) := by
  obtain ⟨h1, h2, h3⟩ := sh_all h
  exact ⟨by rw [PyData.canLay0]; exact h1, by rw [PyData.depth]; omega, by rw [wide, h3, decide_eq_true l]; rfl⟩
theorem sh_lst {ds : List PyData} {k : Nat} (l : ds.length ≤ 100000) (h : ∀ d ∈ ds, Sh d k) : Sh (.list ds) (k + 1) := by
  obtain ⟨h1, h2, h3⟩ := sh_all h
  exact ⟨by rw [PyData.canLay0]; exact h1, by rw [PyData.depth]; omega, by rw [wide, h3, decide_eq_true l]; rfl⟩
theorem sh_int (i : Int) (k : Nat) : Sh (.int i) k := ⟨rfl, by rw [PyData.depth]; omega, by rw [wide]⟩
theorem sh_bool (i : Bool) (k : Nat) : Sh (.bool i) k := ⟨rfl, by rw [PyData.depth]; omega, by rw [wide]⟩
theorem sh_none (k : Nat) : Sh .none k := ⟨rfl, by rw [PyData.depth]; omega, by rw [wide]⟩
theorem sh_eC {ns : List Int} (l : ns.length ≤ 100000) : Sh (eC ns) 1 := sh_tup (by simpa using l) fun d hd => by
  obtain ⟨n, _, rfl⟩ := List.mem_map.mp hd
  exact sh_int n 0
theorem sh_eI {ns : List Int} (l : ns.length ≤ 100000) : Sh (eI ns) 1 := sh_lst (by simpa using l) fun d hd => by
  obtain ⟨n, _, rfl⟩ := List.mem_map.mp hd
  exact sh_int n 0
theorem sh_eP {cs : List (List Int)} (l : cs.length ≤ 100000) (h : ∀ c ∈ cs, c.length ≤ 100000) : Sh (eP cs) 2 := sh_lst (by simpa using l) fun d hd => by
  obtain ⟨n, m, rfl⟩ := List.mem_map.mp hd
  exact sh_eC (h n m)
theorem Sh.mono {d : PyData} {j k : Nat} (h : Sh d j) (l : j ≤ k) : Sh d k := ⟨h.1, Nat.le_trans h.2.1 l, h.2.2⟩
theorem Sh.sh {d : PyData} {k : Nat} (h : Sh d k) (l : k ≤ 64) : SeqAt.shaped d = true := by
  unfold SeqAt.shaped
  rw [h.1, decide_eq_true (Nat.le_trans h.2.1 l)]
  rfl
theorem Sh.tupI {ds : List PyData} {k : Nat} (h : Sh (.tuple ds) k) : ∃ j, k = j + 1 ∧ (∀ d ∈ ds, Sh d j) ∧ ds.length ≤ 100000 := by
  obtain ⟨h1, h2, h3⟩ := h
  rw [PyData.canLay0] at h1
  rw [PyData.depth] at h2
  rw [wide] at h3
  have c := Bool.and_eq_true_iff.mp h3
  exact ⟨k - 1, by omega, sh_mem h1 (by omega) c.2, of_decide_eq_true c.1⟩
theorem Sh.lstI {ds : List PyData} {k : Nat} (h : Sh (.list ds) k) : ∃ j, k = j + 1 ∧ (∀ d ∈ ds, Sh d j) ∧ ds.length ≤ 100000 := by
  obtain ⟨h1, h2, h3⟩ := h
  rw [PyData.canLay0] at h1
  rw [PyData.depth] at h2
  rw [wide] at h3
  have c := Bool.and_eq_true_iff.mp h3
  exact ⟨k - 1, by omega, sh_mem h1 (by omega) c.2, of_decide_eq_true c.1⟩
/-! ### isinstance -/
def tyn : PyData → String
  | .none => "NoneType" | .bool _ => "bool" | .int _ => "int" | .str _ => "str" | .list _ => "list" | .tuple _ => "tuple" | .dict _ => "dict"
theorem Dt.ty {K : PySem.W.Frag} {B : List Addr} {H : Hp} {v : V} {d : PyData} (h : Dt B H v d) : TyX K H v (.type (tyn d)) := by
  cases h with
  | non => exact .base .non
  | bl b => exact .base (.bl b)
  | int i => exact .base (.int i)
  | str x => exact .base (.str x)
  | lst n hs ha => exact .base (.lst hs)
  | tup n hs ha => exact .base (.tup hs)
theorem r_isi {K : PySem.W.Frag} {H : Hp} {Q : VK} {x : V} {t n : String} {b : Bool} (h : TyX K H x (.type t)) (e : kitB t n = some b) (q : Q (.bl b) H) : rIsi K [x, .ty n] H Q := ⟨x, .ty n, _, _, b, rfl, .ty n, h, kit_ty e, q⟩
theorem iteD {c A B : Prop} [Decidable c] (hc : c) (h : A) : if decide c = true then A else B := by
  rw [if_pos (decide_eq_true hc)]
  exact h
theorem iteE {A B : Prop} {c : Bool} (hc : c = true) (h : A) : if c = true then A else B := by
  rw [if_pos hc]
  exact h
theorem iteN {A B : Prop} {c : Bool} (hc : c = false) (h : B) : if c = true then A else B := by
  rw [hc, if_neg Bool.false_ne_true]
  exact h
/-! ### comprehensions -/
theorem lc_yes {te : TE} {σ : L2.St} {H : Hp} {Qy : VK} {N : Hp → Prop} (h : te σ H Qy) : tYes σ H (fun b H3 => if b = true then te σ H3 Qy else N H3) := by
  show if true = true then te σ H Qy else N H
  rw [if_pos rfl]
  exact h
theorem walk_zipT {K : PySem.W.Frag} {a b : Addr} {xs ys : List V} {n : Nat} (hn : n = min xs.length ys.length) : Walk (RZ.ItzT K a b) n (fun H => SqT K H a xs ∧ SqT K H b ys) (YPair (fun i => xs[i]?) (fun i => ys[i]?)) := by
  subst hn
  refine ⟨fun i _ hi q => ?_, fun _ q => ⟨xs, ys, q.1, q.2, by omega⟩, fun i H v H' _ q y => ?_⟩
  · have h1 : i < xs.length := by omega
    have h2 : i < ys.length := by omega
    exact ⟨xs, ys, xs[i], ys[i], q.1, q.2, by simp [h1], by simp [h2]⟩
  · obtain ⟨T, x, z, h1, h2, h3, h4, h5⟩ := y
    exact ⟨T, x, z, h1, h2, h3, h4 xs q.1, h5 ys q.2⟩
theorem sz {n : Nat} (h : n ≤ 100000) : n < sizeLine := Nat.lt_of_le_of_lt h (by decide)
/-- a comprehension that leaves all as it was: what it makes, item by item -/
theorem lc_pure {J : It} {n : Nat} {G : Hp → Prop} {Y : Nat → Hp → V → Hp → Prop} (w : Walk J n G Y) {g : TG} {tt : TT} {te : TE} {vs : List Nat} {σ : L2.St} {H1 : Hp} {D : Addr} {Qd : Hp → Prop} {B : List Addr}
    (hD : H1 D = none) (hB : Bk B H1) (hG : ∀ H', Same H1 H' → G H') (hn : n ≤ 100000) (e : Nat → Option PyData)
    (hs : ∀ (i : Nat) (x : V) (H' H'' : Hp) (Ny : V → Hp → Prop) (Nn : Hp → Prop), i < n → Same H1 H' → Bk (D :: B) H' → Y i H' x H'' → (∀ y H4 d, e i = some d → Same H' H4 → Dt (D :: B) H4 y d → Ny y H4) → (∀ H3, e i = none → Same H' H3 → Nn H3) →
      g x (wipe σ vs) H'' fun σ2 H2 => wipe σ2 vs = wipe σ vs ∧ tt σ2 H2 fun b H3 => if b = true then te σ2 H3 Ny else Nn H3)
    (hd : ∀ (H' : Hp) (ws : List V), Same H1 H' → H' D = some (.lst ws) → DtA (D :: B) H' ws ((List.range n).filterMap e) → Qd H') :
    ∃ W : Nat → Nat → Hp → Prop, (∃ m, W 0 m (upd H1 D (.lst []))) ∧ ∀ i m H, W i m H →
      (J.stop i H ∧ Qd H) ∨ (J.go i H ∧ ∃ Nx : Hp → Prop, (∀ H', Nx H' → ∃ m', m' < m ∧ W (i + 1) m' H') ∧ ∀ x H', J.yld i H x H' → g x (wipe σ vs) H' fun σ2 H2 => wipe σ2 vs = wipe σ vs ∧ tt σ2 H2 fun b H3 =>
        if b = true then te σ2 H3 fun y H4 => ∃ acc, H4 D = some (.lst acc) ∧ acc.length < sizeLine ∧ Nx (upd H4 D (.lst (acc ++ [y]))) else Nx H3) := by
  refine lc_it w (fun i H' => Same H1 H' ∧ ∃ ws, H' D = some (.lst ws) ∧ DtA (D :: B) H' ws ((List.range i).filterMap e) ∧ ws.length ≤ i) ⟨sm_new hD, [], upd_same, .nil, Nat.le_refl _⟩ (fun i H' _ h => hG H' h.1) (fun i x H' H'' hi h y => ?_) (fun H' h => ?_)
  · obtain ⟨s1, ws, eD, hA, hl⟩ := h
    have hb : Bk (D :: B) H' := (hB.go (Go.of (B := B) s1)).cons eD
    refine hs i x H' H'' _ _ hi s1 hb y (fun y H4 d ed s4 hy => ?_) (fun H3 ed s3 => ?_)
    · refine ⟨ws, s4 _ _ eD, sz (by omega), sm_mut (s1.trans s4) hD, ws ++ [y], upd_same, ?_, by simp; omega⟩
      rw [List.range_succ, List.filterMap_append]
      have g4 : Go (D :: B) H4 (upd H4 D (.lst (ws ++ [y]))) := Go.refl.at (List.mem_cons_self ..)
      refine DtA.app ((hA.s s4).g g4) ?_
      simp only [List.filterMap_cons, List.filterMap_nil, ed]
      exact .one (hy.g g4)
    · refine ⟨s1.trans s3, ws, s3 _ _ eD, ?_, by omega⟩
      rw [List.range_succ, List.filterMap_append]
      simp only [List.filterMap_cons, List.filterMap_nil, ed, List.append_nil]
      exact hA.s s3
  · obtain ⟨s1, ws, eD, hA, hl⟩ := h
    exact hd H' ws s1 eD hA
theorem fm_take {α : Type} (ys : List α) : ∀ n, (List.range n).filterMap (fun i => ys[i]?) = ys.take n
  | 0 => by simp
  | n + 1 => by
    rw [List.range_succ, List.filterMap_append, fm_take ys n, List.take_add_one]
    cases h : ys[n]? <;> simp [h]
theorem fm_all {α : Type} {ys : List α} {n : Nat} (h : ys.length = n) : (List.range n).filterMap (fun i => ys[i]?) = ys := by
  rw [fm_take, ← h, List.take_length]
theorem at0 {α : Type} {xs : List α} {i : Int} {v : α} (h : 0 ≤ i) (e : xs[i.toNat]? = some v) : atI xs i = some v := by
  have := atI_nat e
  rw [Int.toNat_of_nonneg h] at this
  exact this
theorem bit_ok (b : Bool) : (-(2 ^ 64) : Int) < (if b = true then 1 else 0) ∧ (if b = true then 1 else 0 : Int) < 2 ^ 64 := by cases b <;> decide
theorem md {j : Int} (h : 0 < j) : 0 < j := h
theorem at_in {xs : List V} {r : Int} (h0 : 0 ≤ r) (h1 : r < xs.length) : ∃ v, v ∈ xs ∧ atI xs r = some v := by
  have h : r.toNat < xs.length := by omega
  exact ⟨xs[r.toNat], List.getElem_mem h, at0 h0 (List.getElem?_eq_getElem h)⟩
theorem at_int {ns : List Int} {r : Int} (h0 : 0 ≤ r) (h1 : r < ns.length) : ∃ z, z ∈ ns ∧ atI (ns.map V.int) r = some (.int z) := by
  have h : r.toNat < ns.length := by omega
  exact ⟨ns[r.toNat], List.getElem_mem h, at0 h0 (by rw [List.getElem?_map, List.getElem?_eq_getElem h]; rfl)⟩
theorem at2 (x y : V) (b : Bool) : atI [x, y] (if b = true then 1 else 0) = some (if b = true then y else x) := by cases b <;> rfl
/-- numbers within bounds -/
def cIn (lo hi : Int) (ns : List Int) : Prop := ∀ x ∈ ns, lo ≤ x ∧ x ≤ hi
theorem cIn.app {lo hi x : Int} {ns : List Int} (h : cIn lo hi ns) (h1 : lo ≤ x) (h2 : x ≤ hi) : cIn lo hi (ns ++ [x]) := fun y hy => by
  rcases List.mem_append.mp hy with q | q
  · exact h y q
  · rw [List.mem_singleton.mp q]
    exact ⟨h1, h2⟩
theorem cIn.nil {lo hi : Int} : cIn lo hi [] := fun _ h => nomatch h
theorem cIn.mono {lo hi lo' hi' : Int} {ns : List Int} (h : cIn lo hi ns) (h1 : lo' ≤ lo) (h2 : hi ≤ hi') : cIn lo' hi' ns := fun x hx => by
  have := h x hx
  omega
/-- a comprehension of drawn numbers -/
theorem lc_ints {J : It} {n : Nat} {G : Hp → Prop} {Y : Nat → Hp → V → Hp → Prop} (w : Walk J n G Y) {g : TG} {tt : TT} {te : TE} {vs : List Nat} {σ : L2.St} {H1 : Hp} {D L : Addr} {Qd : Hp → Prop} (N u : Nat) (lo hi : Int)
    (hD : H1 D = none) (hL : Lf L H1 N) (hG : ∀ H', Go [L] H1 H' → G H') (hn : n ≤ 100000)
    (hs : ∀ (i : Nat) (x : V) (H' H'' : Hp) (Ny : V → Hp → Prop) (Nn : Hp → Prop), i < n → Go [L] H1 H' → Lf L H' (N + u * i) → Y i H' x H'' → (∀ (z : Int) H4, Go [L] H' H4 → Lf L H4 (N + u * i + u) → lo ≤ z → z ≤ hi → Ny (.int z) H4) →
      g x (wipe σ vs) H'' fun σ2 H2 => wipe σ2 vs = wipe σ vs ∧ tt σ2 H2 fun b H3 => if b = true then te σ2 H3 Ny else Nn H3)
    (hd : ∀ (H' : Hp) (ns : List Int), Go [L] H1 H' → Lf L H' (N + u * n) → H' D = some (.lst (ns.map V.int)) → ns.length = n → cIn lo hi ns → Qd H') :
    ∃ W : Nat → Nat → Hp → Prop, (∃ m, W 0 m (upd H1 D (.lst []))) ∧ ∀ i m H, W i m H →
      (J.stop i H ∧ Qd H) ∨ (J.go i H ∧ ∃ Nx : Hp → Prop, (∀ H', Nx H' → ∃ m', m' < m ∧ W (i + 1) m' H') ∧ ∀ x H', J.yld i H x H' → g x (wipe σ vs) H' fun σ2 H2 => wipe σ2 vs = wipe σ vs ∧ tt σ2 H2 fun b H3 =>
        if b = true then te σ2 H3 fun y H4 => ∃ acc, H4 D = some (.lst acc) ∧ acc.length < sizeLine ∧ Nx (upd H4 D (.lst (acc ++ [y]))) else Nx H3) := by
  have nD : D ∉ [L] := hL.bk.ne hD
  refine lc_it w (fun i H' => Go [L] H1 H' ∧ Lf L H' (N + u * i) ∧ ∃ ns : List Int, H' D = some (.lst (ns.map V.int)) ∧ ns.length = i ∧ cIn lo hi ns) ⟨Go.new hD, hL.new hD, [], upd_same, rfl, cIn.nil⟩ (fun i H' _ h => hG H' h.1) (fun i x H' H'' hi h y => ?_) (fun H' h => ?_)
  · obtain ⟨g1, l1, ns, eD, en, cn⟩ := h
    refine hs i x H' H'' _ _ hi g1 l1 y (fun z H4 g4 l4 z0 z1 => ?_)
    refine ⟨ns.map V.int, g4.k D _ nD eD, sz (by rw [List.length_map]; omega), (g1.trans g4).mut hD, (l4.up (hL.ne hD)).mono (by rw [Nat.mul_succ]; omega), ns ++ [z], ?_, by simp; omega, cn.app z0 z1⟩
    rw [upd_same, List.map_append]
    rfl
  · obtain ⟨g1, l1, ns, eD, en, cn⟩ := h
    exact hd H' ns g1 l1 eD en cn
theorem mat {a : List Int} {i : Nat} {x : V} (h : i < a.length) (e : (a.map V.int)[i]? = some x) : x = .int a[i] := by
  rw [List.getElem?_map, List.getElem?_eq_getElem h] at e
  exact (Option.some.inj e).symm
end Z

set_option Elab.async false
set_option linter.all false
set_option maxRecDepth 100000
namespace Z
open PySem PySem.Spec PyProof.Rows L2
open PySem.W (dataLt minD alike alikeAll dataLt_tuple dataLt_all_yes dataLt_all_no dataLt_int min_list_data readsAll_at reads_keeps AlikeAll)
/-! ### the least of pairs -/
def enc (p : Int × Int) : PyData := eC [p.1, p.2]
theorem enc_inj {p q : Int × Int} (h : enc p = enc q) : p = q := by
  have h1 : [PyData.int p.1, PyData.int p.2] = [PyData.int q.1, PyData.int q.2] := by
    unfold enc eC at h
    exact PyData.tuple.inj h
  have h2 := (List.cons.inj h1)
  have h3 := (List.cons.inj h2.2)
  exact Prod.ext (PyData.int.inj h2.1) (PyData.int.inj h3.1)
theorem lt_enc (p q : Int × Int) : dataLt (enc p) (enc q) = SrtO.lexB p q := by
  unfold enc eC
  rw [dataLt_tuple]
  simp only [List.map_cons, List.map_nil]
  unfold SrtO.lexB
  by_cases h : p.1 = q.1
  · rw [if_pos h, dataLt_all_yes (by rfl) (by simp [PyData.eqv, h])]
    by_cases h2 : p.2 = q.2
    · rw [dataLt_all_yes (by rfl) (by simp [PyData.eqv, h2]), decide_eq_false (by omega)]
      rfl
    · rw [dataLt_all_no (by rfl) (by simp [PyData.eqv, h2]), dataLt_int]
  · rw [if_neg h, dataLt_all_no (by rfl) (by simp [PyData.eqv, h]), dataLt_int]
def minP (p : Int × Int) (ps : List (Int × Int)) : Int × Int := ps.foldl (fun a y => if SrtO.lexB y a then y else a) p
theorem minD_enc (p : Int × Int) (ps : List (Int × Int)) : minD (enc p) (ps.map enc) = enc (minP p ps) := by
  unfold minD minP
  induction ps generalizing p with
  | nil => rfl
  | cons x r ih =>
    rw [List.map_cons, List.foldl_cons, List.foldl_cons, lt_enc]
    by_cases h : SrtO.lexB x p = true
    · rw [if_pos h, if_pos h]; exact ih x
    · rw [if_neg h, if_neg h]; exact ih p
theorem minP_le (p : Int × Int) (ps : List (Int × Int)) : ∀ q ∈ p :: ps, SrtO.lexB q (minP p ps) = false := by
  unfold minP
  induction ps generalizing p with
  | nil =>
    intro q hq
    rw [List.mem_singleton.mp hq]
    exact SrtO.lexB_no.mpr (by simp only [List.foldl_nil]; omega)
  | cons x r ih =>
    intro q hq
    rw [List.foldl_cons]
    by_cases h : SrtO.lexB x p = true
    · rw [if_pos h]
      rcases List.mem_cons.mp hq with e | e
      · have i1 := SrtO.lexB_no.mp (ih x x (List.mem_cons_self ..))
        have i2 := SrtO.lexB_iff.mp h
        rw [e]
        exact SrtO.lexB_no.mpr (by omega)
      · exact ih x q e
    · rw [if_neg h]
      rcases List.mem_cons.mp hq with e | e
      · exact ih p q (by rw [e]; exact List.mem_cons_self ..)
      · rcases List.mem_cons.mp e with e | e
        · have i1 := SrtO.lexB_no.mp (ih p p (List.mem_cons_self ..))
          have i2 := SrtO.lexB_no.mp (Bool.eq_false_iff.mpr h)
          rw [e]
          exact SrtO.lexB_no.mpr (by omega)
        · exact ih p q (List.mem_cons_of_mem _ e)
theorem alike_enc (p q : Int × Int) : alike (enc p) (enc q) = true := by
  unfold enc eC
  simp [alike, alikeAll]
theorem dep_enc : ∀ ps : List (Int × Int), PyData.depthAll (ps.map enc) ≤ 1
  | [] => Nat.zero_le _
  | p :: ps => by
    rw [List.map_cons, PyData.depthAll]
    exact Nat.max_le.mpr ⟨(sh_eC (ns := [p.1, p.2]) (by simp)).2.1, dep_enc ps⟩
/-- min(xs), xs a list of pairs of ints: one of the least -/
def rMinP (K : PySem.W.Frag) : List V → Hp → VK → Prop := fun vs H Q => ∃ (a : Addr) (xs : List V) (p : Int × Int) (ps : List (Int × Int)), vs = [V.ref a] ∧ SqL K H a xs ∧ DpAll K H xs ((p :: ps).map enc) ∧
  ∀ (i : Nat) (x : V), xs[i]? = some x → (p :: ps)[i]? = some (minP p ps) → Q x H
theorem cr_minP (K : PySem.W.Frag) {X : Cx} (hc : X.calm = true) (hu : X.A.units + 64 < cLine) (hK : X.K = K := by rfl) : CallR X (.builtin "min") (rMinP K) := by
  subst hK
  intro pins s σ H vs us Q I r h
  obtain ⟨a, xs, p, ps, rfl, hs, hd, q⟩ := h
  obtain ⟨its, rv, hl, hz⟩ := I.list hs
  obtain ⟨u, rfl, ru⟩ := vals1 r
  obtain rfl : u = Value.ref a := ru
  obtain ⟨as, hr⟩ := Dp.readsAll I _ xs its hd rv
  rw [List.map_cons] at hr
  have hdep := dep_enc (p :: ps)
  rw [List.map_cons] at hdep
  refine min_list_data (x := enc p) (xs := ps.map enc) (I.ok.hd hc) hl.isList (by simpa using hr) ⟨fun x hx y hy => ?_, fun x hx => ?_⟩ (by omega) fun i v h' tk bs hv rd hk => ?_
  · rw [← List.map_cons] at hx hy
    obtain ⟨x, _, rfl⟩ := List.mem_map.mp hx
    obtain ⟨y, _, rfl⟩ := List.mem_map.mp hy
    exact alike_enc x y
  · rw [← List.map_cons] at hx
    obtain ⟨x, _, rfl⟩ := List.mem_map.mp hx
    intro z
    unfold enc eC at z
    cases z
  · have hv2 : its[i]? = some v := by simpa using hv
    have hi : i < its.length := (List.getElem?_eq_some_iff.mp hv2).1
    have hi2 : i < xs.length := by rw [rv.length]; exact hi
    obtain ⟨w, hw, rw1⟩ := rv.get (List.getElem?_eq_getElem hi2)
    have ew : w = v := Option.some.inj (hw.symm.trans hv2)
    subst ew
    obtain ⟨cs, r1, l1, m1, _⟩ := readsAll_at hr i w hv2
    rw [← List.map_cons] at l1 m1 r1
    rw [List.length_map] at l1
    have eg : ((p :: ps).map enc).getD i .none = enc (p :: ps)[i] := by
      rw [List.getD_eq_getElem?_getD, List.getElem?_map, List.getElem?_eq_getElem l1]
      rfl
    rw [eg] at r1
    rw [minD_enc] at rd
    have ee := SeqAt.Reads.unique _ _ _ _ _ (sh_eC (ns := [((p :: ps)[i]).1, ((p :: ps)[i]).2]) (by simp)).1 (reads_keeps hk r1) rd
    have ep : (p :: ps)[i] = minP p ps := enc_inj ee
    exact ⟨xs[i], H, I.kept (t' := tk) hk, rw1, q i _ (List.getElem?_eq_getElem hi2) (by rw [List.getElem?_eq_getElem l1, ep])⟩
theorem DtA.rev {B : List Addr} {H : Hp} : ∀ {vs : List V} {ds : List PyData}, DtA B H vs ds → DtA B H vs.reverse ds.reverse
  | [], _, h => by
    cases h
    exact .nil
  | v :: vs, _, h => by
    cases h with
    | cons h1 h2 =>
      rw [List.reverse_cons, List.reverse_cons]
      exact (DtA.rev h2).app (.one h1)
theorem DtA.dP {K : PySem.W.Frag} {B : List Addr} {H : Hp} {vs : List V} {ds : List PyData} (h : DtA B H vs ds) : DpAll K H vs ds := DtA.dp ds vs h
/-- a comprehension of drawn data -/
theorem lc_dtsB {J : It} {n : Nat} {G : Hp → Prop} {Y : Nat → Hp → V → Hp → Prop} (w : Walk J n G Y) {g : TG} {tt : TT} {te : TE} {vs : List Nat} {σ : L2.St} {H1 : Hp} {D L : Addr} {B : List Addr} {Qd : Hp → Prop} (N u : Nat) (Pd : PyData → Prop)
    (hD : H1 D = none) (hL : Lf L H1 N) (LB : L ∈ B) (hB : Bk B H1) (hG : ∀ H', Go [L] H1 H' → G H') (hn : n ≤ 100000)
    (hs : ∀ (i : Nat) (x : V) (H' H'' : Hp) (Ny : V → Hp → Prop) (Nn : Hp → Prop), i < n → Go [L] H1 H' → Lf L H' (N + u * i) → Bk (D :: B) H' → Y i H' x H'' → (∀ (v : V) (d : PyData) H4, Go [L] H' H4 → Lf L H4 (N + u * i + u) → Dt (D :: B) H4 v d → Pd d → Ny v H4) →
      g x (wipe σ vs) H'' fun σ2 H2 => wipe σ2 vs = wipe σ vs ∧ tt σ2 H2 fun b H3 => if b = true then te σ2 H3 Ny else Nn H3)
    (hd : ∀ (H' : Hp) (ws : List V) (ds : List PyData), Go [L] H1 H' → Lf L H' (N + u * n) → H' D = some (.lst ws) → DtA (D :: B) H' ws ds → ds.length = n → (∀ d ∈ ds, Pd d) → Qd H') :
    ∃ W : Nat → Nat → Hp → Prop, (∃ m, W 0 m (upd H1 D (.lst []))) ∧ ∀ i m H, W i m H →
      (J.stop i H ∧ Qd H) ∨ (J.go i H ∧ ∃ Nx : Hp → Prop, (∀ H', Nx H' → ∃ m', m' < m ∧ W (i + 1) m' H') ∧ ∀ x H', J.yld i H x H' → g x (wipe σ vs) H' fun σ2 H2 => wipe σ2 vs = wipe σ vs ∧ tt σ2 H2 fun b H3 =>
        if b = true then te σ2 H3 fun y H4 => ∃ acc, H4 D = some (.lst acc) ∧ acc.length < sizeLine ∧ Nx (upd H4 D (.lst (acc ++ [y]))) else Nx H3) := by
  have nD : D ∉ [L] := hL.bk.ne hD
  refine lc_it w (fun i H' => Go [L] H1 H' ∧ Lf L H' (N + u * i) ∧ ∃ ws ds, H' D = some (.lst ws) ∧ DtA (D :: B) H' ws ds ∧ ds.length = i ∧ ∀ d ∈ ds, Pd d) ⟨Go.new hD, hL.new hD, [], [], upd_same, .nil, rfl, fun _ h => (nomatch h)⟩ (fun i H' _ h => hG H' h.1) (fun i x H' H'' hi h y => ?_) (fun H' h => ?_)
  · obtain ⟨g1, l1, ws, ds, eD, hA, en, hp⟩ := h
    refine hs i x H' H'' _ _ hi g1 l1 ((hB.go g1).cons eD) y (fun z d H4 g4 l4 dz pd => ?_)
    have gm : Go (D :: B) H4 (upd H4 D (.lst (ws ++ [z]))) := Go.refl.at (List.mem_cons_self ..)
    have lw := hA.len
    refine ⟨ws, g4.k D _ nD eD, sz (by omega), (g1.trans g4).mut hD, (l4.up (hL.ne hD)).mono (by rw [Nat.mul_succ]; omega), ws ++ [z], ds ++ [d], upd_same, ((hA.g (g4.w1 (List.mem_cons_of_mem _ LB))).g gm).app (.one (dz.g gm)), by simp; omega, fun e he => ?_⟩
    rcases List.mem_append.mp he with he | he
    · exact hp e he
    · rw [List.mem_singleton.mp he]
      exact pd
  · obtain ⟨g1, l1, ws, ds, eD, hA, en, hp⟩ := h
    exact hd H' ws ds g1 l1 eD hA en hp
/-- a part of a list -/
def cutL {α : Type} (xs : List α) (lo hi : Option Int) : List α := (xs.drop (HT.sIx xs.length 0 lo)).take (HT.sIx xs.length xs.length hi - HT.sIx xs.length 0 lo)
theorem cutL_sub {α : Type} {xs : List α} {lo hi : Option Int} {x : α} (h : x ∈ cutL xs lo hi) : x ∈ xs := List.mem_of_mem_drop (List.mem_of_mem_take h)
theorem cutL_len {α : Type} (xs : List α) (lo hi : Option Int) : (cutL xs lo hi).length ≤ xs.length := by
  unfold cutL
  rw [List.length_take, List.length_drop]
  omega
theorem DtA.drop {B : List Addr} {H : Hp} : ∀ (n : Nat) {vs : List V} {ds : List PyData}, DtA B H vs ds → DtA B H (vs.drop n) (ds.drop n)
  | 0, _, _, h => h
  | n + 1, [], _, h => by cases h; exact .nil
  | n + 1, v :: vs, _, h => by
    cases h with
    | cons h1 h2 => exact DtA.drop n h2
theorem DtA.take {B : List Addr} {H : Hp} : ∀ (n : Nat) {vs : List V} {ds : List PyData}, DtA B H vs ds → DtA B H (vs.take n) (ds.take n)
  | 0, _, _, h => .nil
  | n + 1, [], _, h => by cases h; exact .nil
  | n + 1, v :: vs, _, h => by
    cases h with
    | cons h1 h2 => exact .cons h1 (DtA.take n h2)
theorem DtA.cut {B : List Addr} {H : Hp} {vs : List V} {ds : List PyData} (h : DtA B H vs ds) (lo hi : Option Int) : DtA B H (cutV vs lo hi) (cutL ds lo hi) := by
  unfold cutV cutL
  rw [h.len]
  exact DtA.take _ (DtA.drop _ h)
theorem slice_dt {K : PySem.W.Frag} {B : List Addr} {H : Hp} {x : V} {ds : List PyData} {lo hi : Option Int} {Q : VK} (hx : Dt B H x (.tuple ds)) (hB : Bk B H) (q : ∀ v H', Same H H' → Dt B H' v (.tuple (cutL ds lo hi)) → Q v H') : rSlA K x lo hi H Q := by
  obtain ⟨a, vs, rfl, na, ha, hA⟩ := hx.tupI
  refine ⟨a, vs, rfl, SqT.of ha, fun h => q _ H (Same.refl _) ?_, fun _ p hp => q _ _ (sm_new hp) (.tup (hB.ne hp) upd_same ((hA.cut lo hi).s (sm_new hp)))⟩
  have e : cutL ds lo hi = ds := by
    unfold cutL
    rw [← hA.len, h.1, h.2, List.drop_zero, Nat.sub_zero, hA.len, List.take_length]
  rw [e]
  exact hx
theorem cat_dt {K : PySem.W.Frag} {B : List Addr} {H : Hp} {x y : V} {xs ys : List PyData} {Q : VK} (hx : Dt B H x (.tuple xs)) (hy : Dt B H y (.tuple ys)) (hB : Bk B H) (l : xs.length + ys.length ≤ 100000) (q : ∀ v H', Same H H' → Dt B H' v (.tuple (xs ++ ys)) → Q v H') : rCatA K x y H Q := by
  obtain ⟨a, vs, rfl, na, ha, hA⟩ := hx.tupI
  obtain ⟨b, ws, rfl, nb, hb, hC⟩ := hy.tupI
  have l1 := hA.len
  have l2 := hC.len
  refine ⟨a, b, vs, ws, rfl, rfl, SqT.of ha, SqT.of hb, Nat.le_of_lt (sz (by omega)), fun e => ?_, fun _ e => ?_, fun _ _ p hp => q _ _ (sm_new hp) (.tup (hB.ne hp) upd_same ((hA.app hC).s (sm_new hp)))⟩
  · subst e
    have : xs = [] := List.eq_nil_of_length_eq_zero (by rw [← l1]; rfl)
    subst this
    exact q _ H (Same.refl _) hy
  · subst e
    have : ys = [] := List.eq_nil_of_length_eq_zero (by rw [← l2]; rfl)
    subst this
    exact q _ H (Same.refl _) (by rw [List.append_nil]; exact hx)
theorem sh_cut {ds : List PyData} {k : Nat} {lo hi : Option Int} (h : Sh (.tuple ds) k) : Sh (.tuple (cutL ds lo hi)) k := by
  obtain ⟨j, rfl, h1, h2⟩ := h.tupI
  exact sh_tup (Nat.le_trans (cutL_len _ _ _) h2) fun d hd => h1 d (cutL_sub hd)
theorem sh_cat {xs ys : List PyData} {k : Nat} (h1 : Sh (.tuple xs) k) (h2 : Sh (.tuple ys) k) (l : xs.length + ys.length ≤ 100000) : Sh (.tuple (xs ++ ys)) k := by
  obtain ⟨j, rfl, a1, a2⟩ := h1.tupI
  obtain ⟨j', e, b1, b2⟩ := h2.tupI
  have : j = j' := by omega
  subst this
  exact sh_tup (by simpa using l) fun d hd => by
    rcases List.mem_append.mp hd with h | h
    · exact a1 d h
    · exact b1 d h
/-! ### a comprehension in another one -/
def FrAll (sc : Scope) : List Str → Prop
  | [] => True
  | x :: xs => (sc.names.lookup x = some .cell ∨ sc.names.lookup x = some .free) ∧ FrAll sc xs
theorem FrAll.mem {sc : Scope} : ∀ {xs : List Str}, FrAll sc xs → ∀ x ∈ xs, sc.names.lookup x = some .cell ∨ sc.names.lookup x = some .free
  | [], _, _, h => nomatch h
  | y :: ys, h, x, hx => by
    rcases List.mem_cons.mp hx with e | e
    · rw [e]; exact h.1
    · exact FrAll.mem h.2 x e
def frC (fr : List Str) (scope : Scope) : Bool := scope.names.all fun y => match y.2 with
  | .free => decide (y.1 ∈ fr)
  | _ => true
theorem blkOk_in {N : List Str} {sc scope : Scope} {own : List (Str × Nat)} (fr : List Str) (h : blkC N { kind := .function, names := fr.map fun x => (x, .free), isGenerator := false, isCoroutine := false } scope own = true) (h2 : frC fr scope = true) (hf : FrAll sc fr) : BlkOk N sc scope own := by
  have b := blkOk_by h
  refine ⟨b.kind, b.uniq, b.ix, fun y hy e => ?_, b.own⟩
  have := List.all_eq_true.mp h2 y hy
  rw [e] at this
  exact hf.mem _ (of_decide_eq_true this)
end Z

set_option Elab.async false
set_option linter.all false
set_option maxRecDepth 100000
set_option maxHeartbeats 400000
namespace Z
open PySem PySem.Spec PyProof.Rows L2
/-! ### '9' * n, and its number -/
def nines (n : Nat) : Str := ⟨(List.replicate n (Str.ofString "9").cps).foldl (· ++ ·) #[]⟩
theorem nines_int : ∀ i : Fin 41, 1 ≤ i.val → PySem.intText? (nines i.val) = some ((10 : Int) ^ i.val - 1) ∧ (nines i.val).length ≤ 640 := by decide +kernel
def rRep9 : R2 := fun x y H Q => ∃ n : Int, x = .str "9" ∧ y = .int n ∧ 1 ≤ n ∧ n ≤ 40 ∧ Q (.str (nines n.toNat)) H
theorem op_rep9 {X : Cx} : OpR X (binaryOp .Mult) rRep9 := by
  intro pins s σ H x y v u Q I rx ry h
  obtain ⟨n, rfl, rfl, n1, n2, q⟩ := h
  obtain ⟨t, rfl⟩ := rx
  obtain ⟨t', rfl⟩ := ry
  have l9 : (Str.ofString "9").length = 1 := by decide
  refine P.mul_str ?_ (fun _ _ => ?_) (fun _ _ => ?_) ?_
  · rw [decide_eq_false (by omega), decide_eq_false (by omega)]; rfl
  · rw [l9]
    have : (1 : Int) ≤ (2 ^ 63 - 1) / n := Int.le_ediv_of_mul_le (by omega) (by omega)
    omega
  · rw [l9, Nat.one_mul]
    have : n.toNat ≤ 40 := by omega
    show decide (n.toNat > sizeLine) = false
    exact decide_eq_false (fun h => absurd (Nat.lt_of_lt_of_le h this) (by decide))
  · rw [if_neg (by omega)]
    by_cases e : n = 1
    · subst e
      exact ⟨.str (nines 1), H, I, ⟨t, rfl⟩, q⟩
    · have e2 : ((n == 1) || (Str.ofString "9").length == 0) = false := by
        rw [l9]
        simp [e]
      rw [e2, if_neg Bool.false_ne_true]
      refine ⟨?_, .str (nines n.toNat), H, I.tok _, ⟨_, rfl⟩, q⟩
      exact Nat.le_trans (nines_int ⟨n.toNat, by omega⟩ (by show 1 ≤ n.toNat; omega)).2 (by decide)
/-! ### fractions: the greatest measure -/
def ab (t : Int) : Nat := t.natAbs
def gm (t b : Int) : Nat := Nat.gcd t.natAbs b.natAbs
def pn (t b : Int) : Int := (if b < 0 then -t else t) / (gm t b : Int)
def pd (t b : Int) : Int := (if b < 0 then -b else b) / (gm t b : Int)
theorem gm_pos {t b : Int} (h : b ≠ 0) : 0 < gm t b := Nat.gcd_pos_of_pos_right _ (by omega)
theorem gm_le {t b : Int} (h : b ≠ 0) : gm t b ≤ b.natAbs := Nat.gcd_le_right _ (by omega)
theorem pd_pos {t b : Int} (h : b ≠ 0) : 0 < pd t b := by
  have h1 := gm_pos (t := t) h
  have h2 := gm_le (t := t) h
  unfold pd
  have : (1 : Int) ≤ (if b < 0 then -b else b) / (gm t b : Int) := Int.le_ediv_of_mul_le (by omega) (by split <;> omega)
  omega
theorem pd_le {t b : Int} (h : b ≠ 0) : pd t b ≤ (b.natAbs : Int) := by
  have h1 := gm_pos (t := t) h
  unfold pd
  have h2 : (if b < 0 then -b else b) = (b.natAbs : Int) := by split <;> omega
  rw [h2]
  exact Int.ediv_le_self _ (by omega)
theorem ediv_natAbs {x g : Int} (h : 0 < g) : (x / g).natAbs ≤ x.natAbs := by
  rcases Int.le_total 0 x with h1 | h1
  · have a := Int.ediv_nonneg h1 (Int.le_of_lt h)
    have b := Int.ediv_le_self g h1
    omega
  · have a : x ≤ x / g := Int.le_ediv_of_mul_le h (by
      have : x * g ≤ x * 1 := Int.mul_le_mul_of_nonpos_left h1 (by omega)
      omega)
    have b : x / g < 1 := Int.ediv_lt_of_lt_mul h (by omega)
    omega
theorem pn_le {t b : Int} (h : b ≠ 0) : (pn t b).natAbs ≤ t.natAbs := by
  have h1 := gm_pos (t := t) h
  unfold pn
  refine Nat.le_trans (ediv_natAbs (by omega)) ?_
  split <;> omega
/-! ### // by a great number of either sign -/
def CDivN2 (_ j : Int) : Prop := j ≠ 0 ∧ j.natAbs.log2 < 9000
theorem op_fdivM {X : Cx} : OpR X (binaryOp .FloorDiv) (rI CDivN2 fun i j => .int (i.fdiv j)) := opI fun _ _ _ _ _ _ _ hc q => floordiv_int hc.1 q (.inl (PyProof.noPylong_of_log2 hc.2))
theorem fdiv_neg' {t g : Int} (h : 0 < g) : t.fdiv (-g) = (-t) / g := by
  have e : t.fdiv (-g) = (-t).fdiv g := by
    rw [← Int.neg_fdiv_neg (-t) g, Int.neg_neg]
  rw [e, Int.fdiv_eq_ediv_of_nonneg _ (by omega)]
theorem gm_dvd_l (t b : Int) : (gm t b : Int) ∣ t := Int.ofNat_dvd_left.mpr (Nat.gcd_dvd_left _ _)
theorem gm_dvd_r (t b : Int) : (gm t b : Int) ∣ b := Int.ofNat_dvd_left.mpr (Nat.gcd_dvd_right _ _)
theorem pn_mul {t b : Int} (h : b ≠ 0) : pn t b * (gm t b : Int) = if b < 0 then -t else t := by
  unfold pn
  refine Int.ediv_mul_cancel ?_
  split
  · exact Int.dvd_neg.mpr (gm_dvd_l t b)
  · exact gm_dvd_l t b
theorem pd_mul {t b : Int} (h : b ≠ 0) : pd t b * (gm t b : Int) = if b < 0 then -b else b := by
  unfold pd
  refine Int.ediv_mul_cancel ?_
  split
  · exact Int.dvd_neg.mpr (gm_dvd_r t b)
  · exact gm_dvd_r t b
theorem cross {t b : Int} (h : b ≠ 0) : pn t b * b = t * pd t b := by
  have g0 : (gm t b : Int) ≠ 0 := by have := gm_pos (t := t) h; omega
  have e1 := pn_mul (t := t) h
  have e2 := pd_mul (t := t) h
  refine Int.eq_of_mul_eq_mul_right g0 ?_
  have a1 : pn t b * b * (gm t b : Int) = (pn t b * (gm t b : Int)) * b := by rw [Int.mul_assoc, Int.mul_comm b, ← Int.mul_assoc]
  have a2 : t * pd t b * (gm t b : Int) = t * (pd t b * (gm t b : Int)) := Int.mul_assoc ..
  rw [a1, a2, e1, e2]
  split
  · rw [Int.neg_mul, Int.mul_neg]
  · rfl
theorem gm_low {t b : Int} (h : b ≠ 0) : gm (pn t b) (pd t b) = 1 := by
  have gp := gm_pos (t := t) h
  have e1 := pn_mul (t := t) h
  have e2 := pd_mul (t := t) h
  have n1 : (pn t b).natAbs * gm t b = t.natAbs := by
    have := congrArg Int.natAbs e1
    rw [Int.natAbs_mul, Int.natAbs_natCast] at this
    rw [this]
    split <;> omega
  have n2 : (pd t b).natAbs * gm t b = b.natAbs := by
    have := congrArg Int.natAbs e2
    rw [Int.natAbs_mul, Int.natAbs_natCast] at this
    rw [this]
    split <;> omega
  have h3 : gm (pn t b) (pd t b) * gm t b = gm t b := by
    show Nat.gcd (pn t b).natAbs (pd t b).natAbs * gm t b = gm t b
    rw [← Nat.gcd_mul_right, n1, n2]
    rfl
  exact Nat.eq_of_mul_eq_mul_right gp (by rw [h3, Nat.one_mul])
theorem pn_low {t b : Int} (h : b ≠ 0) : pn (pn t b) (pd t b) = pn t b := by
  have hp := pd_pos (t := t) h
  show (if pd t b < 0 then -(pn t b) else pn t b) / (gm (pn t b) (pd t b) : Int) = pn t b
  rw [gm_low h, if_neg (by omega)]
  exact Int.ediv_one _
theorem pd_low {t b : Int} (h : b ≠ 0) : pd (pn t b) (pd t b) = pd t b := by
  have hp := pd_pos (t := t) h
  show (if pd t b < 0 then -(pd t b) else pd t b) / (gm (pn t b) (pd t b) : Int) = pd t b
  rw [gm_low h, if_neg (by omega)]
  exact Int.ediv_one _
end Z

set_option Elab.async false
set_option linter.all false
set_option maxRecDepth 100000
namespace Z
open PySem PySem.Spec PyProof.Rows L2 L2.DX
/-! ### sorted(d.items()), keys tuples of ints, values ints -/
def entI (e : List Int × Int) : List L2.Key × V := (e.1.map Sum.inl, V.int e.2)
def eRow (e : List Int × Int) : PyData := .tuple [eC e.1, .int e.2]
theorem kV_ints (ns : List Int) : (ns.map Sum.inl).map kV = ns.map V.int := by
  rw [List.map_map]
  rfl
theorem reads_ints {h : Heap} : ∀ {ns : List Int} {us : List Value}, Vals (ns.map V.int) us → ReadsAll h us (ns.map .int) []
  | [], _, r => by
    cases r
    exact .nil
  | n :: ns, _, r => by
    cases r with
    | cons r1 r2 =>
      obtain ⟨t, rfl⟩ := r1
      exact ReadsAll.cons (as := []) (bs := []) (.int n t) (reads_ints r2)
theorem zipped {α β : Type} {R : α → β → Prop} : ∀ {as : List α} {bs : List β}, PySem.W.EachIs R as bs → ∃ zs : List (α × β), zs.map Prod.fst = as ∧ zs.map Prod.snd = bs ∧ ∀ z ∈ zs, R z.1 z.2
  | _, _, .nil => ⟨[], rfl, rfl, fun _ h => nomatch h⟩
  | a :: as, b :: bs, .cons h t => by
    obtain ⟨zs, e1, e2, h3⟩ := zipped t
    refine ⟨(a, b) :: zs, by rw [List.map_cons, e1], by rw [List.map_cons, e2], fun z hz => ?_⟩
    rcases List.mem_cons.mp hz with e | e
    · rw [e]; exact h
    · exact h3 z e
theorem fm_some {α : Type} (f : Nat → α) : ∀ n : Nat, (List.range n).filterMap (fun i => some (f i)) = (List.range n).map f := fun n => by
  rw [← List.filterMap_eq_map]
  rfl
def rSortII : List V → Hp → VK → Prop := fun vs H Q => ∃ (p a : Addr) (ks : List (List Int × Int)), vs = [.ref p] ∧ H p = some (itemsO p a) ∧ H a = some (.dT (ks.map entI)) ∧ ks.length ≤ 1000 ∧
  ∀ (H' : Hp) (l : Addr) (ps : List (Addr × List Int × Int)), Same H H' → H l = none → (ps.map (·.2)).Perm ks → H' l = some (.lst (ps.map fun z => V.ref z.1)) →
    (∀ z ∈ ps, ∃ q, H z.1 = none ∧ H' z.1 = some (.tup [.ref q, .int z.2.2]) ∧ H q = some (.tup (z.2.1.map V.int))) → Q (.ref l) H'
section
variable {X : Cx}
theorem set_dictU (hu : X.A.units + 64 < cLine) : PSet X rSetD := set_dict (by omega)
theorem cr_sortedII (hc : X.calm = true) (hu : X.A.units + 64 < cLine) : CallR X (.builtin "sorted") rSortII := by
  intro pins s σ H xs us Q I r h
  obtain ⟨p, a, ks, rfl, hp, ha, h64, q⟩ := h
  obtain rfl := Vals.ref1 r
  have view : s.heap.IsItemsView p a := (show ObjOk X.prog X.w H s.heap p (itemsO p a) from I.hok p _ hp).1
  obtain ⟨z, hd, xs', rel, o, es, ep, ho, hx, hdat, hes, his, hn⟩ := dt_of I.hok ha
  have l1 : (ks.map entI).length = xs'.length := Paired.length rel
  rw [List.length_map] at l1
  have l2 : es.size = xs'.length := size_of_entries hes
  have hh : X.A.handled = none := I.ok.hd hc
  refine DT.sortedI (es := es) (ep := ep) hh view ⟨o, ho, hx, hdat⟩ (by rw [sizeLine_eq]; omega) fun h' tk as hk hlt hl hG => ?_
  have lak : as.length = ks.length := by omega
  have nd : as.Nodup := List.Pairwise.imp (fun h => Nat.ne_of_lt h) hG.rise
  have pr : ∀ (j : Nat) (b : Addr), as[j]? = some b → ∃ (e : List Int × Int) (kq : Addr) (t : Tok), ks[j]? = some e ∧ H kq = some (.tup (e.1.map V.int)) ∧ h'.get? b = some { cls := .type "tuple", data := .seq #[Value.ref kq, Value.int e.2 t] } := by
    intro j b hj
    obtain ⟨en, he, hg⟩ := hG.pairs j b hj
    rw [entry_at hes j] at he
    cases hxj : xs'[j]? with
    | none =>
      rw [hxj] at he
      exact nomatch (show (none : Option DictEntry) = some en from he)
    | some x =>
      rw [hxj] at he
      have een : entryOfKey (tupleKind (mixKind X.prog X.w)) x = en := Option.some.inj he
      obtain ⟨e0, he0, r1, r2, r3⟩ := pget rel hxj
      rw [List.getElem?_map] at he0
      cases hkj : ks[j]? with
      | none =>
        rw [hkj] at he0
        exact nomatch (show (none : Option (List L2.Key × V)) = some e0 from he0)
      | some e =>
        rw [hkj] at he0
        have ee : entI e = e0 := Option.some.inj he0
        rw [← ee] at r2 r3
        obtain ⟨t, r3'⟩ : ∃ t, x.2.2 = Value.int e.2 t := r3
        refine ⟨e, x.2.1, t, rfl, ?_, ?_⟩
        · have r2' : H x.2.1 = some (.tup ((e.1.map Sum.inl).map kV)) := r2
          rw [kV_ints] at r2'
          exact r2'
        · rw [hg, ← een, ← r3']
          all_goals rfl
  have hob : (h'.push { cls := .type "list", data := .seq (as.map Value.ref).toArray }).get? h'.objs.size = some (seqObj "list" (as.map Value.ref).toArray 0) := Heap.get?_push_size _ rfl
  have kb : ∀ b o, s.heap.get? b = some o → (h'.push { cls := .type "list", data := .seq (as.map Value.ref).toArray }).get? b = some o := fun b o e => Heap.get?_push_of_some _ (hk b o e)
  have ne0 : ∀ b o, h'.get? b = some o → b ≠ h'.objs.size := fun b o e => Nat.ne_of_lt (Heap.lt_size e)
  generalize hh2 : h'.push { cls := .type "list", data := .seq (as.map Value.ref).toArray } = h2 at hob kb ⊢
  have ka : ∀ b o, h'.get? b = some o → h2.get? b = some o := fun b o e => by rw [← hh2]; exact Heap.get?_push_of_some _ e
  have rd : ∀ (j : Nat) (b : Addr) (e : List Int × Int), as[j]? = some b → ks[j]? = some e → Reads h2 (.ref b) (eRow e) [] := by
    intro j b e hj he
    obtain ⟨e', kq, t, he', hkq, hg⟩ := pr j b hj
    have ee : e' = e := Option.some.inj (he'.symm.trans he)
    subst ee
    obtain ⟨_, its, rv, ot, hot, hct, nt, hdt⟩ := (show ObjOk X.prog X.w H s.heap kq (.tup (e'.1.map V.int)) from I.hok kq _ hkq)
    refine .tuple (ka _ _ hg) rfl rfl ?_
    refine ReadsAll.cons (as := []) (bs := []) (Reads.tuple (kb _ _ hot) hct hdt ?_) (ReadsAll.cons (as := []) (bs := []) (.int _ t) .nil)
    have := reads_ints (h := h2) rv
    simpa using this
  have lens : (as.map Value.ref).length = ks.length := by rw [List.length_map, lak]
  have zidx : ∀ pz ∈ (as.map Value.ref).zip ks, ∃ (j : Nat) (b : Addr), pz.1 = .ref b ∧ as[j]? = some b ∧ ks[j]? = some pz.2 := by
    intro pz hpz
    obtain ⟨j, hj⟩ := List.mem_iff_getElem?.mp hpz
    obtain ⟨h1, h2'⟩ := List.getElem?_zip_eq_some.mp hj
    rw [List.getElem?_map] at h1
    cases e : as[j]? with
    | none => rw [e] at h1; cases h1
    | some b =>
      rw [e] at h1
      exact ⟨j, b, (Option.some.inj h1).symm, e, h2'⟩
  refine PySem.W.list_sort_data (s := { s with heap := h2, toks := tk }) (A := X.A.in1) (n := 0) (vs := as.map Value.ref) (bs := ks) (enc := eRow) (R := fun v e => ∃ (j : Nat) (b : Addr), v = .ref b ∧ as[j]? = some b ∧ ks[j]? = some e) hob
    (PySem.W.EachIs.of_zip lens zidx) (PySem.W.EachIs.of_zip lens fun pz hpz => ?_) (PySem.W.AllAlike.of fun b b' => ?_) (PySem.W.Sortable.tuples fun b => ⟨_, _, rfl⟩) (by rw [sizeLine_eq]; omega) (fun b _ => ?_) fun out lo eo => ?_
  · obtain ⟨j, b, e1, e2, e3⟩ := zidx pz hpz
    rw [e1]
    exact ⟨[], rd j b _ e2 e3, fun h => nomatch h⟩
  · unfold eRow eC
    simp [PySem.W.alike, PySem.W.alikeAll, PySem.W.alike_ints]
  · have : (eRow b).depth = 2 := by
      unfold eRow eC
      simp [PyData.depth, PyData.depthAll, PySem.W.depth_ints]
    show X.A.units + 1 + 1 + (eRow b).depth < cLine
    omega
  · show EP X pins σ Q (.ref h'.objs.size) { s with heap := sortedHeap h2 h'.objs.size (as.map Value.ref) out.toArray, toks := tk }
    obtain ⟨zs0, z1, z2, z3⟩ := zipped eo
    -- the addresses
    obtain ⟨zs, w1, w2, w3⟩ : ∃ zs : List (Addr × List Int × Int), zs.map (fun z => Value.ref z.1) = out ∧ zs.map (·.2) = ks.mergeSort (PySem.W.dataLe false eRow) ∧ ∀ z ∈ zs, ∃ j : Nat, as[j]? = some z.1 ∧ ks[j]? = some z.2 := by
      rw [← z1, ← z2]
      clear z1 z2 eo lo
      induction zs0 with
      | nil => exact ⟨[], rfl, rfl, fun _ h => nomatch h⟩
      | cons y ys ih =>
        obtain ⟨zs, w1, w2, w3⟩ := ih fun z hz => z3 z (List.mem_cons_of_mem _ hz)
        obtain ⟨j, b, e1, e2, e3⟩ := z3 y (List.mem_cons_self ..)
        refine ⟨(b, y.2) :: zs, by rw [List.map_cons, List.map_cons, w1, e1], by rw [List.map_cons, List.map_cons, w2], fun z hz => ?_⟩
        rcases List.mem_cons.mp hz with e | e
        · rw [e]; exact ⟨j, e2, e3⟩
        · exact w3 z e
    have hperm : (zs.map (·.2)).Perm ks := by
      rw [w2]
      exact List.mergeSort_perm _ _
    have kF : ∀ b o, b ≠ h'.objs.size → h2.get? b = some o → (sortedHeap h2 h'.objs.size (as.map Value.ref) out.toArray).get? b = some o := fun b o hb e => (PyProof.Rows.sortedHeap_old hb (Heap.lt_size e)).trans e
    have kS : ∀ b o, s.heap.get? b = some o → (sortedHeap h2 h'.objs.size (as.map Value.ref) out.toArray).get? b = some o := fun b o e => kF b o (ne0 _ _ (hk b o e)) (kb b o e)
    obtain ⟨eF, heF⟩ := PyProof.Rows.sortedHeap_at (vs := as.map Value.ref) (out := out.toArray) hob
    have I1 : Inv X pins σ H { s with heap := sortedHeap h2 h'.objs.size (as.map Value.ref) out.toArray, toks := tk } := I.kept (t' := tk) kS
    have hn0 : H h'.objs.size = none := I.hok.fresh (Nat.le_of_lt hlt)
    have hlen : (zs.map fun z => V.ref z.1).length ≤ sizeLine := by
      have e := hperm.length_eq
      rw [List.length_map] at e
      rw [List.length_map, sizeLine_eq]
      omega
    have rv : Vals (zs.map fun z => V.ref z.1) out.toArray.toList := by
      show Vals _ out
      rw [← w1]
      exact vals_maps (fun z : Addr × List Int × Int => V.ref z.1) (fun z => Value.ref z.1) zs fun _ _ => rfl
    have I2 : Inv X pins σ (upd H h'.objs.size (.lst (zs.map fun z => V.ref z.1))) { s with heap := sortedHeap h2 h'.objs.size (as.map Value.ref) out.toArray, toks := tk } :=
      I1.take (h' := sortedHeap h2 h'.objs.size (as.map Value.ref) out.toArray) (t' := tk) (fun b ob _ e => e) (I.fpOk (Nat.le_of_lt hlt) hn0) ⟨hlen, out.toArray.toList, eF, rv, heF⟩
    obtain ⟨H2, I3, g, qt⟩ := takeT (P := fun b vs => ∃ (j : Nat) (e : List Int × Int) (kq : Addr), as[j]? = some b ∧ ks[j]? = some e ∧ vs = [.ref kq, .int e.2] ∧ H kq = some (.tup (e.1.map V.int))) I as _ I2 nd fun b hb => by
      obtain ⟨j, hj⟩ := List.mem_iff_getElem?.mp hb
      obtain ⟨e, kq, t, he, hkq, hg⟩ := pr j b hj
      have hbl : s.heap.objs.size ≤ b := Nat.le_of_lt (hG.above b hb)
      refine ⟨hbl, ?_, [.ref kq, .int e.2], ⟨j, e, kq, hj, he, rfl, hkq⟩, fun H3 => ⟨(by rw [sizeLine_eq]; show 2 ≤ 16777216; omega), [Value.ref kq, Value.int e.2 t], .cons rfl (.cons ⟨t, rfl⟩ .nil), ⟨_, kF _ _ (ne0 _ _ hg) (ka _ _ hg), rfl, 0, rfl⟩⟩⟩
      rw [upd_ne (ne0 _ _ hg)]
      exact I.hok.fresh hbl
    have gr : ∀ b o, H b = some o → H2 b = some o := fun b o e => g b o (by rw [upd_ne (ne_of_none e hn0)]; exact e)
    refine ⟨.ref h'.objs.size, H2, I3, rfl, q H2 h'.objs.size zs gr hn0 hperm (g _ _ upd_same) fun z' hz' => ?_⟩
    obtain ⟨i, i1, i2⟩ := w3 z' hz'
    obtain ⟨vs, ⟨j, e, kq, j1, j2, ev, hkq⟩, hH⟩ := qt z'.1 (List.mem_of_getElem? i1)
    have eij : i = j := (List.getElem?_inj (List.getElem?_eq_some_iff.mp i1).1 nd).mp (i1.trans j1.symm)
    subst eij
    have ee : e = z'.2 := Option.some.inj (j2.symm.trans i2)
    rw [ev, ee] at hH
    rw [ee] at hkq
    exact ⟨kq, I.hok.fresh (Nat.le_of_lt (hG.above _ (List.mem_of_getElem? i1))), hH, hkq⟩
end
end Z

set_option Elab.async false
set_option linter.all false
set_option maxRecDepth 100000
set_option maxHeartbeats 400000
namespace Z
open PySem PySem.Spec PyProof.Rows L2
/-! ### fractions as numbers -/
theorem pn_q {t b : Int} (h : b ≠ 0) : pn t b = (Rat.divInt t b).num := by
  rw [Rat.num_divInt]
  unfold pn gm
  rw [show Int.gcd b t = Nat.gcd t.natAbs b.natAbs from Nat.gcd_comm _ _]
  congr 1
  by_cases h0 : b < 0
  · rw [if_pos h0, Int.sign_eq_neg_one_of_neg h0]; omega
  · rw [if_neg h0, Int.sign_eq_one_of_pos (by omega)]; omega
theorem pd_q {t b : Int} (h : b ≠ 0) : pd t b = ((Rat.divInt t b).den : Int) := by
  rw [Rat.den_divInt, if_neg h]
  unfold pd gm
  rw [show Int.gcd b t = Nat.gcd t.natAbs b.natAbs from Nat.gcd_comm _ _, Int.natCast_ediv]
  congr 1
  split <;> omega
/-- x over M, its top at most A -/
def Fr (M A : Nat) (x : Rat) : Prop := ∃ a : Int, x = Rat.divInt a M ∧ a.natAbs ≤ A
theorem Fr.den {M A : Nat} {x : Rat} (h : Fr M A x) (hM : 0 < M) : x.den ≤ M := by
  obtain ⟨a, rfl, _⟩ := h
  rw [Rat.den_divInt, if_neg (by omega)]
  exact Nat.le_trans (Nat.div_le_self _ _) (by omega)
theorem ediv_nat {x : Int} (g : Nat) : (x / (g : Int)).natAbs ≤ x.natAbs := by
  rcases Nat.eq_zero_or_pos g with h | h
  · subst h; simp
  rcases Int.le_total 0 x with h1 | h1
  · have a := Int.ediv_nonneg h1 (Int.natCast_nonneg g)
    have b := Int.ediv_le_self (g : Int) h1
    omega
  · have a : x ≤ x / (g : Int) := Int.le_ediv_of_mul_le (by omega) (by
      have : x * (g : Int) ≤ x * 1 := Int.mul_le_mul_of_nonpos_left h1 (by omega)
      omega)
    have b : x / (g : Int) < 1 := Int.ediv_lt_of_lt_mul (by omega) (by omega)
    omega
theorem Fr.num {M A : Nat} {x : Rat} (h : Fr M A x) (hM : 0 < M) : x.num.natAbs ≤ A := by
  obtain ⟨a, rfl, ha⟩ := h
  rw [Rat.num_divInt, Int.sign_eq_one_of_pos (by omega), Int.one_mul]
  exact Nat.le_trans (ediv_nat _) ha
theorem Fr.add {M A B : Nat} {x y : Rat} (hM : 0 < M) (h : Fr M A x) (h2 : Fr M B y) : Fr M (A + B) (x + y) := by
  obtain ⟨a, rfl, ha⟩ := h
  obtain ⟨b, rfl, hb⟩ := h2
  refine ⟨a + b, ?_, by omega⟩
  have hm : (M : Int) ≠ 0 := by omega
  rw [Rat.divInt_add_divInt _ _ hm hm, ← Int.add_mul, Rat.divInt_mul_right hm]
theorem Fr.mul {M N A B : Nat} {x y : Rat} (h : Fr M A x) (h2 : Fr N B y) : Fr (M * N) (A * B) (x * y) := by
  obtain ⟨a, rfl, ha⟩ := h
  obtain ⟨b, rfl, hb⟩ := h2
  refine ⟨a * b, by rw [Rat.divInt_mul_divInt, Int.natCast_mul], ?_⟩
  rw [Int.natAbs_mul]
  exact Nat.mul_le_mul ha hb
theorem Fr.neg {M A : Nat} {x : Rat} (h : Fr M A x) : Fr M A (-x) := by
  obtain ⟨a, rfl, ha⟩ := h
  exact ⟨-a, by rw [Rat.neg_divInt], by omega⟩
theorem Fr.mono {M A B : Nat} {x : Rat} (h : Fr M A x) (l : A ≤ B) : Fr M B x := by
  obtain ⟨a, e, ha⟩ := h
  exact ⟨a, e, by omega⟩
theorem Fr.int {M A : Nat} {n : Int} (hM : 0 < M) (h : n.natAbs ≤ A) : Fr M (A * M) (n : Rat) := by
  refine ⟨n * M, ?_, ?_⟩
  · have hm : (M : Int) ≠ 0 := by omega
    have : Rat.divInt (n * M) (1 * M) = Rat.divInt n 1 := Rat.divInt_mul_right hm
    rw [Int.one_mul] at this
    rw [this, ← Rat.num_divInt_den (n : Rat)]
    rfl
  · rw [Int.natAbs_mul, Int.natAbs_natCast]
    exact Nat.mul_le_mul_right _ h
theorem Fr.of {t b : Int} {M A : Nat} (hb : 0 < b) (hd : b ∣ (M : Int)) (hM : 0 < M) (hA : t.natAbs * M ≤ A) : Fr M A (Rat.divInt t b) := by
  obtain ⟨k, hk⟩ := hd
  have k0 : 0 < k := by
    have h0 : 0 < b * k := by omega
    rcases Int.lt_or_le 0 k with z | z
    · exact z
    · have := Int.mul_nonpos_of_nonneg_of_nonpos (Int.le_of_lt hb) z
      omega
  refine ⟨t * k, ?_, ?_⟩
  · rw [hk, Rat.divInt_mul_right (by omega)]
  · refine Nat.le_trans ?_ hA
    rw [Int.natAbs_mul]
    refine Nat.mul_le_mul_left _ ?_
    have : k ≤ b * k := by
      have : 1 * k ≤ b * k := Int.mul_le_mul_of_nonneg_right (by omega) (by omega)
      omega
    omega
/-- how far a colour is from a middle, by places -/
def sq (x : Rat) : Rat := x * x
def farN (c : List Int) (m : List Rat) : Nat → Rat
  | 0 => 0
  | i + 1 => farN c m i + sq ((c.getD i 0 : Rat) - m.getD i 0)
theorem Fr.sub {M A B : Nat} {x y : Rat} (hM : 0 < M) (h : Fr M A x) (h2 : Fr M B y) : Fr M (A + B) (x - y) := by
  rw [Rat.sub_eq_add_neg]
  exact h.add hM h2.neg
theorem Fr.zero {M A : Nat} (hM : 0 < M) : Fr M A 0 := by
  refine ⟨0, ?_, by simp⟩
  rw [Rat.zero_divInt]
theorem farN_fr {c : List Int} {m : List Rat} {M A C : Nat} (hM : 0 < M) (hc : ∀ i, (c.getD i 0).natAbs ≤ C) (hm : ∀ z ∈ m, Fr M A z) : ∀ i, Fr (M * M) (i * ((C * M + A) * (C * M + A))) (farN c m i)
  | 0 => Fr.zero (Nat.mul_pos hM hM)
  | i + 1 => by
    rw [Nat.succ_mul]
    have hz : Fr M A (m.getD i 0) := by
      rw [List.getD_eq_getElem?_getD]
      cases e : m[i]? with
      | none => exact Fr.zero hM
      | some z => exact hm z (List.mem_of_getElem? e)
    have g := (Fr.int hM (hc i)).sub hM hz
    exact (farN_fr hM hc hm i).add (Nat.mul_pos hM hM) (g.mul g)
theorem farN_nonneg (c : List Int) (m : List Rat) : ∀ i, 0 ≤ farN c m i
  | 0 => Rat.le_refl
  | i + 1 => Rat.add_nonneg (farN_nonneg c m i) (by
    unfold sq
    rcases Rat.nonneg_total ((c.getD i 0 : Rat) - m.getD i 0) with h | h
    · exact Rat.mul_nonneg h h
    · have := Rat.mul_nonneg h h
      rw [Rat.neg_mul, Rat.mul_neg, Rat.neg_neg] at this
      exact this)
/-- the first of the least -/
def argF (f : Nat → Rat) : Nat → Nat
  | 0 => 0
  | i + 1 => if f i < f (argF f i) then i else argF f i
theorem argF_lt (f : Nat → Rat) : ∀ n, 0 < n → argF f n < n
  | 0, h => absurd h (by omega)
  | n + 1, _ => by
    rw [argF]
    split
    · omega
    · rcases Nat.eq_zero_or_pos n with e | e
      · subst e; exact Nat.zero_lt_one
      · have := argF_lt f n e; omega
/-- small enough to reckon with -/
def lim : Nat := 2 ^ 2000
def lim2 : Nat := 2 ^ 4000
def Qb (x : Rat) : Prop := x.den < lim ∧ x.num.natAbs < lim
theorem Fr.qb {M A : Nat} {x : Rat} (h : Fr M A x) (hM : 0 < M) (h1 : M < lim) (h2 : A < lim) : Qb x := ⟨Nat.lt_of_le_of_lt (h.den hM) h1, Nat.lt_of_le_of_lt (h.num hM) h2⟩
theorem qq (x : Rat) : Rat.divInt x.num (x.den : Int) = x := Rat.num_divInt_den x
theorem add_q (p r : Rat) : Rat.divInt (p.num * r.den + r.num * p.den) (p.den * r.den) = p + r := by
  have h1 : (p.den : Int) ≠ 0 := by have := p.den_nz; omega
  have h2 : (r.den : Int) ≠ 0 := by have := r.den_nz; omega
  rw [← Rat.divInt_add_divInt _ _ h1 h2, qq, qq]
theorem mul_q (p r : Rat) : Rat.divInt (p.num * r.num) (p.den * r.den) = p * r := by
  rw [← Rat.divInt_mul_divInt, qq, qq]
theorem lt_q (p r : Rat) : decide (p.num * r.den < r.num * p.den) = decide (p < r) := decide_eq_decide.mpr (Rat.lt_iff p r).symm
def qp (x : Rat) : Int × Int := (x.num, (x.den : Int))
theorem lim_lim : lim * lim ≤ lim2 := by unfold lim lim2; rw [← Nat.pow_add]; exact Nat.le_refl _
theorem mul_lim {a b : Nat} (h1 : a < lim) (h2 : b < lim) : a * b < lim2 := Nat.lt_of_lt_of_le (Nat.mul_lt_mul'' h1 h2) lim_lim
theorem lim_mul {i j : Int} (h1 : i.natAbs < lim2) (h2 : j.natAbs < lim2) : CMulW i j := wide_mul (a := 4000) (b := 4000) h1 h2 (by decide) (by decide) (by decide)
theorem lim_le : lim ≤ lim2 := Nat.pow_le_pow_right (by decide) (by decide)
theorem to_lim {a b : Nat} (h : a ≤ b) (hb : b < lim := by decide +kernel) : a < lim := Nat.lt_of_le_of_lt h hb
theorem to_lim2 {a b : Nat} (h : a ≤ b) (hb : b < lim2 := by decide +kernel) : a < lim2 := Nat.lt_of_le_of_lt h hb
theorem lim_div {i j : Int} (h : 0 < j) (hb : j.natAbs < lim2) : CDivW i j := wide_div (b := 4000) h hb (by decide) (by decide)
theorem lim_divN {i j : Int} (h : j ≠ 0) (hb : j.natAbs < lim2) : CDivN2 i j := ⟨h, Nat.lt_of_lt_of_le (PySem.Flt.log2_lt_of (k := 4000) (by decide) hb) (by decide)⟩
end Z

set_option Elab.async false
set_option linter.all false
set_option maxRecDepth 100000
set_option maxHeartbeats 400000
namespace Z
open PySem PySem.Spec PyProof.Rows L2
/-! ### lists of lists -/
def eN (ns : List (List Int)) : PyData := .list (ns.map eI)
def eG (ps : List (List (List Int))) : PyData := .list (ps.map eP)
theorem sh_eN {ns : List (List Int)} (l : ns.length ≤ 100000) (h : ∀ c ∈ ns, c.length ≤ 100000) : Sh (eN ns) 2 := sh_lst (by simpa using l) fun d hd => by
  obtain ⟨n, m, rfl⟩ := List.mem_map.mp hd
  exact sh_eI (h n m)
theorem sh_eG {ps : List (List (List Int))} (l : ps.length ≤ 100000) (h : ∀ p ∈ ps, p.length ≤ 100000 ∧ ∀ c ∈ p, c.length ≤ 100000) : Sh (eG ps) 3 := sh_lst (by simpa using l) fun d hd => by
  obtain ⟨n, m, rfl⟩ := List.mem_map.mp hd
  exact sh_eP (h n m).1 (h n m).2
theorem DtA.mk {B : List Addr} {H : Hp} : ∀ {vs : List V} {ds : List PyData}, vs.length = ds.length → (∀ (i : Nat) v d, vs[i]? = some v → ds[i]? = some d → Dt B H v d) → DtA B H vs ds
  | [], [], _, _ => .nil
  | [], _ :: _, h, _ => nomatch h
  | _ :: _, [], h, _ => nomatch h
  | v :: vs, d :: ds, h, f => .cons (f 0 v d rfl rfl) (DtA.mk (by simpa using h) fun i v d h1 h2 => f (i + 1) v d h1 h2)
theorem DtA.two {B : List Addr} {H : Hp} {vs : List V} {ds : List PyData} {i : Nat} {v : V} {d : PyData} (h : DtA B H vs ds) (h1 : vs[i]? = some v) (h2 : ds[i]? = some d) : Dt B H v d := by
  obtain ⟨d', e, h3⟩ := h.getV h1
  rw [h2] at e
  cases e
  exact h3
theorem at2i (x y : Int) (b : Bool) : ∃ z : Int, atI [V.int x, V.int y] (if b = true then 1 else 0) = some (.int z) ∧ (z = x ∨ z = y) := by
  cases b
  · exact ⟨x, rfl, .inl rfl⟩
  · exact ⟨y, rfl, .inr rfl⟩
theorem ixN_last {n : Nat} (h : 0 < n) : ixN n (-1) = some (n - 1) := by
  unfold ixN
  rw [if_neg (by omega), if_pos (by omega)]
  congr 1
  omega
theorem DtA.set {B : List Addr} {H : Hp} {v : V} {d : PyData} : ∀ {vs : List V} {ds : List PyData} (j : Nat), DtA B H vs ds → Dt B H v d → DtA B H (vs.set j v) (ds.set j d)
  | [], _, _, h, _ => by cases h; exact .nil
  | _ :: _, _, 0, h, hv => by cases h with | cons h1 h2 => exact .cons hv h2
  | _ :: _, _, j + 1, h, hv => by cases h with | cons h1 h2 => exact .cons h1 (DtA.set j h2 hv)
theorem Dt.lst2 {B : List Addr} {H : Hp} {v : V} {ds : List PyData} (h : Dt B H v (.list ds)) : ∃ a vs, v = .ref a ∧ a ∉ B ∧ H a = some (.lst vs) ∧ DtA B H vs ds := by
  cases h with
  | lst n hs ha => exact ⟨_, _, rfl, n, hs, ha⟩
theorem cut_fromV {α : Type} (xs : List α) {n : Int} (h0 : 0 ≤ n) : cutL xs (some n) none = xs.drop n.toNat := by
  unfold cutL
  have e : HT.sIx xs.length 0 (some n) = min n.toNat xs.length := by
    show (if n < 0 then (n + (xs.length : Int)).toNat else min n.toNat xs.length) = _
    rw [if_neg (by omega)]
  have e2 : HT.sIx xs.length xs.length none = xs.length := rfl
  rw [e, e2]
  rcases Nat.le_total n.toNat xs.length with h | h
  · rw [Nat.min_eq_left h, List.take_of_length_le (by rw [List.length_drop]; omega)]
  · rw [Nat.min_eq_right h, List.drop_of_length_le (Nat.le_refl _), List.drop_of_length_le h, List.take_nil]
theorem cut_toV {α : Type} (xs : List α) {n : Int} (h0 : 0 ≤ n) : cutL xs none (some n) = xs.take n.toNat := by
  unfold cutL
  have e : HT.sIx xs.length xs.length (some n) = min n.toNat xs.length := by
    show (if n < 0 then (n + (xs.length : Int)).toNat else min n.toNat xs.length) = _
    rw [if_neg (by omega)]
  have e2 : HT.sIx xs.length 0 none = 0 := rfl
  rw [e, e2, List.drop_zero, Nat.sub_zero]
  rcases Nat.le_total n.toNat xs.length with h | h
  · rw [Nat.min_eq_left h]
  · rw [Nat.min_eq_right h, List.take_length, List.take_of_length_le h]
theorem pg_lstK {X : Cx} (K : PySem.W.Frag) {pos : Pos} {es : List Expr} {kk : Nat} {t : TGs} {n : Nat} (hc : X.calm = true) (h : PGs X es t) (hn : (assignEach es X.env).length = n := by rfl) (hst : (assignEach es X.env).findIdx? (·.1) = none := by rfl) (h2 : X.K = K := by rfl) : PG X (.Tuple es kk pos) (gLst K n t) :=
  h2 ▸ pg_lst hc h hn hst
theorem pi_zipAK {X : Cx} (K : PySem.W.Frag) {e e2 : Expr} {ta : TA} {p pos tpos : Pos} {elts : List Expr} {kk : Nat} (hg : Gl X "zip") (hm : X.mg "zip" = none) (ha : PA X [e, e2] ta)
    (hs : starEach [e, e2] X.env = (false, eval e X.env) :: starEach [e2] X.env := by rfl) (hpl : (backTo pos (starEach [e2] X.env)).any (·.1) = false := by rfl) (hK : X.K = K := by rfl) :
    PI X (.Tuple elts kk tpos) (.Call (.Name "zip" p) [e, e2] [] pos) (RZ.iZipA K ta) := by
  subst hK
  exact RZ.pi_zipA hg hm ha hs hpl
theorem yesT {σ : L2.St} {H : Hp} {A N : Hp → Prop} (h : A H) : tYes σ H (fun b H3 => if b = true then A H3 else N H3) := by
  show if true = true then A H else N H
  rw [if_pos rfl]
  exact h
/-- any walk -/
theorem walk_W {J : It} {n : Nat} {G : Hp → Prop} {Y : Nat → Hp → V → Hp → Prop} (w : Walk J n G Y) {R : (Hp → Prop) → V → Hp → Prop} {Qd : Hp → Prop} {H0 : Hp} (Pv : Nat → Hp → Prop) (h0 : Pv 0 H0) (hG : ∀ i H, i ≤ n → Pv i H → G H) (hs : ∀ i x H H', i < n → Pv i H → Y i H x H' → R (Pv (i + 1)) x H') (hd : ∀ H, Pv n H → Qd H) :
    ∃ W : Nat → Nat → Hp → Prop, (∃ m, W 0 m H0) ∧ ∀ i m H, W i m H → (J.stop i H ∧ Qd H) ∨ (J.go i H ∧ ∃ Nx : Hp → Prop, (∀ H', Nx H' → ∃ m', m' < m ∧ W (i + 1) m' H') ∧ ∀ x H', J.yld i H x H' → R Nx x H') := by
  obtain ⟨w1, w2, w3⟩ := w
  refine ⟨fun i m H => i ≤ n ∧ m = n - i ∧ Pv i H, ⟨n, Nat.zero_le _, rfl, h0⟩, fun i m H h => ?_⟩
  obtain ⟨hi, hm, hp⟩ := h
  have g := hG i H hi hp
  by_cases e : i = n
  · subst e
    exact .inl ⟨w2 _ g, hd _ hp⟩
  · refine .inr ⟨w1 i H (by omega) g, Pv (i + 1), fun H' h' => ⟨n - (i + 1), by omega, by omega, rfl, h'⟩, fun x H' y => ?_⟩
    exact hs i x H H' (by omega) hp (w3 i H x H' (by omega) g y)
theorem colsOf {Pc : List Int → Prop} : ∀ {ds : List PyData}, (∀ d ∈ ds, ∃ c, d = eC c ∧ Pc c) → ∃ cs : List (List Int), ds = cs.map eC ∧ ∀ c ∈ cs, Pc c
  | [], _ => ⟨[], rfl, fun _ h => nomatch h⟩
  | d :: ds, h => by
    obtain ⟨m, e, hm⟩ := colsOf (ds := ds) fun x hx => h x (List.mem_cons_of_mem _ hx)
    obtain ⟨z, ez, hz⟩ := h d (List.mem_cons_self ..)
    refine ⟨z :: m, by rw [e, ez]; rfl, fun y hy => ?_⟩
    rcases List.mem_cons.mp hy with q | q
    · rw [q]; exact hz
    · exact hm y q
/-- a list whose items are new lists, each another one; what is in these was there ahead -/
structure Rws (B : List Addr) (H H' : Hp) (D : Addr) (rs : List Addr) (dss : List (List PyData)) : Prop where
  len : rs.length = dss.length
  nd : rs.Nodup
  nD : D ∉ rs
  fr : ∀ r ∈ rs, H r = none
  row : ∀ (i : Nat) r ds, rs[i]? = some r → dss[i]? = some ds → ∃ ws, H' r = some (.lst ws) ∧ DtA B H ws ds
section
variable {B C : List Addr} {H H' H2 : Hp} {D p : Addr} {rs : List Addr} {dss : List (List PyData)}
theorem Rws.s (h : Rws B H H' D rs dss) (s : Same H' H2) : Rws B H H2 D rs dss := ⟨h.len, h.nd, h.nD, h.fr, fun i r ds h1 h2 => by
  obtain ⟨ws, e, a⟩ := h.row i r ds h1 h2
  exact ⟨ws, s _ _ e, a⟩⟩
theorem Rws.up {o : HO} (h : Rws B H H' D rs dss) (n : p ∉ rs) : Rws B H (upd H' p o) D rs dss := ⟨h.len, h.nd, h.nD, h.fr, fun i r ds h1 h2 => by
  obtain ⟨ws, e, a⟩ := h.row i r ds h1 h2
  refine ⟨ws, ?_, a⟩
  rw [upd_ne (fun z => n (by rw [← z]; exact List.mem_of_getElem? h1))]
  exact e⟩
theorem Rws.go (h : Rws B H H' D rs dss) (g : Go C H' H2) (n : ∀ r ∈ rs, r ∉ C) : Rws B H H2 D rs dss := ⟨h.len, h.nd, h.nD, h.fr, fun i r ds h1 h2 => by
  obtain ⟨ws, e, a⟩ := h.row i r ds h1 h2
  exact ⟨ws, g.k _ _ (n r (List.mem_of_getElem? h1)) e, a⟩⟩
theorem Rws.tail {r : Addr} {ds : List PyData} (h : Rws B H H' D (r :: rs) (ds :: dss)) : Rws B H H' D rs dss := ⟨by simpa using h.len, (List.nodup_cons.mp h.nd).2, fun z => h.nD (List.mem_cons_of_mem _ z), fun x hx => h.fr x (List.mem_cons_of_mem _ hx), fun i x ds h1 h2 => h.row (i + 1) x ds h1 h2⟩
theorem Rws.dt (h : Rws B H H' D rs dss) (b : Bk B H) (s : Go B H H') : DtA B H' (rs.map V.ref) (dss.map PyData.list) := by
  refine DtA.mk (by rw [List.length_map, List.length_map]; exact h.len) fun i v d h1 h2 => ?_
  rw [List.getElem?_map] at h1 h2
  cases e1 : rs[i]? with
  | none => rw [e1] at h1; cases h1
  | some r =>
    cases e2 : dss[i]? with
    | none => rw [e2] at h2; cases h2
    | some ds =>
      rw [e1] at h1
      rw [e2] at h2
      cases h1
      cases h2
      obtain ⟨ws, e, a⟩ := h.row i r ds e1 e2
      exact .lst (b.ne (h.fr r (List.mem_of_getElem? e1))) e (a.g s)
end
/-- a comprehension of known values -/
theorem lc_vals {J : It} {n : Nat} {G : Hp → Prop} {Y : Nat → Hp → V → Hp → Prop} (w : Walk J n G Y) {g : TG} {tt : TT} {te : TE} {vs : List Nat} {σ : L2.St} {H1 : Hp} {D : Addr} {Qd : Hp → Prop}
    (hD : H1 D = none) (hG : ∀ H', Same H1 H' → G H') (hn : n ≤ 100000) (f : Nat → V)
    (hs : ∀ (i : Nat) (x : V) (H' H'' : Hp) (Ny : V → Hp → Prop) (Nn : Hp → Prop), i < n → Same H1 H' → Y i H' x H'' → (∀ H4, Same H' H4 → Ny (f i) H4) →
      g x (wipe σ vs) H'' fun σ2 H2 => wipe σ2 vs = wipe σ vs ∧ tt σ2 H2 fun b H3 => if b = true then te σ2 H3 Ny else Nn H3)
    (hd : ∀ (H' : Hp), Same H1 H' → H' D = some (.lst ((List.range n).map f)) → Qd H') :
    ∃ W : Nat → Nat → Hp → Prop, (∃ m, W 0 m (upd H1 D (.lst []))) ∧ ∀ i m H, W i m H →
      (J.stop i H ∧ Qd H) ∨ (J.go i H ∧ ∃ Nx : Hp → Prop, (∀ H', Nx H' → ∃ m', m' < m ∧ W (i + 1) m' H') ∧ ∀ x H', J.yld i H x H' → g x (wipe σ vs) H' fun σ2 H2 => wipe σ2 vs = wipe σ vs ∧ tt σ2 H2 fun b H3 =>
        if b = true then te σ2 H3 fun y H4 => ∃ acc, H4 D = some (.lst acc) ∧ acc.length < sizeLine ∧ Nx (upd H4 D (.lst (acc ++ [y]))) else Nx H3) := by
  refine lc_it w (fun i H' => Same H1 H' ∧ H' D = some (.lst ((List.range i).map f))) ⟨sm_new hD, upd_same⟩ (fun i H' _ h => hG H' h.1) (fun i x H' H'' hi h y => ?_) (fun H' h => hd H' h.1 h.2)
  obtain ⟨s1, eD⟩ := h
  refine hs i x H' H'' _ _ hi s1 y (fun H4 s4 => ?_)
  refine ⟨_, s4 _ _ eD, sz (by rw [List.length_map, List.length_range]; omega), sm_mut (s1.trans s4) hD, ?_⟩
  rw [upd_same, List.range_succ, List.map_append]
  rfl
/-- a comprehension of new lists -/
theorem lc_rows {J : It} {n : Nat} {G : Hp → Prop} {Y : Nat → Hp → V → Hp → Prop} (w : Walk J n G Y) {g : TG} {tt : TT} {te : TE} {vs : List Nat} {σ : L2.St} {H1 : Hp} {D : Addr} {Qd : Hp → Prop} (B : List Addr)
    (hD : H1 D = none) (hG : ∀ H', Same H1 H' → G H') (hn : n ≤ 100000) (e : Nat → List PyData)
    (hs : ∀ (i : Nat) (x : V) (H' H'' : Hp) (Ny : V → Hp → Prop) (Nn : Hp → Prop), i < n → Same H1 H' → Y i H' x H'' → (∀ r ws H4, Same H' H4 → H' r = none → H4 r = some (.lst ws) → DtA B H1 ws (e i) → Ny (.ref r) H4) →
      g x (wipe σ vs) H'' fun σ2 H2 => wipe σ2 vs = wipe σ vs ∧ tt σ2 H2 fun b H3 => if b = true then te σ2 H3 Ny else Nn H3)
    (hd : ∀ (H' : Hp) (rs : List Addr), Same H1 H' → H' D = some (.lst (rs.map V.ref)) → Rws B H1 H' D rs ((List.range n).map e) → Qd H') :
    ∃ W : Nat → Nat → Hp → Prop, (∃ m, W 0 m (upd H1 D (.lst []))) ∧ ∀ i m H, W i m H →
      (J.stop i H ∧ Qd H) ∨ (J.go i H ∧ ∃ Nx : Hp → Prop, (∀ H', Nx H' → ∃ m', m' < m ∧ W (i + 1) m' H') ∧ ∀ x H', J.yld i H x H' → g x (wipe σ vs) H' fun σ2 H2 => wipe σ2 vs = wipe σ vs ∧ tt σ2 H2 fun b H3 =>
        if b = true then te σ2 H3 fun y H4 => ∃ acc, H4 D = some (.lst acc) ∧ acc.length < sizeLine ∧ Nx (upd H4 D (.lst (acc ++ [y]))) else Nx H3) := by
  refine lc_it w (fun i H' => Same H1 H' ∧ ∃ rs, H' D = some (.lst (rs.map V.ref)) ∧ Rws B H1 H' D rs ((List.range i).map e)) ⟨sm_new hD, [], upd_same, ⟨rfl, List.nodup_nil, (fun h => nomatch h), (fun _ h => nomatch h), (fun i r ds h => by simp at h)⟩⟩ (fun i H' _ h => hG H' h.1) (fun i x H' H'' hi h y => ?_) (fun H' h => ?_)
  · obtain ⟨s1, rs, eD, R⟩ := h
    have hl : rs.length = i := by rw [R.len, List.length_map, List.length_range]
    refine hs i x H' H'' _ _ hi s1 y (fun r ws H4 s4 hr er ha => ?_)
    have nr : r ≠ D := fun z => by rw [z, eD] at hr; cases hr
    have nrs : r ∉ rs := fun z => by
      obtain ⟨j, hj, ej⟩ := List.getElem_of_mem z
      obtain ⟨ws', e', _⟩ := R.row j r (e j) (by rw [List.getElem?_eq_getElem hj, ej]) (by rw [List.getElem?_map, List.getElem?_range (by omega)]; rfl)
      rw [e'] at hr
      cases hr
    refine ⟨_, s4 _ _ eD, sz (by rw [List.length_map]; omega), sm_mut (s1.trans s4) hD, rs ++ [r], by rw [upd_same, List.map_append]; rfl, ?_⟩
    have R4 := (R.s s4).up (o := .lst (rs.map V.ref ++ [.ref r])) (R.nD)
    refine ⟨by simp [hl], ?_, ?_, fun z hz => ?_, fun j z ds h1 h2 => ?_⟩
    · rw [List.nodup_append]
      refine ⟨R.nd, by simp, fun a ha b hb => ?_⟩
      rw [List.mem_singleton.mp hb]
      exact fun q => nrs (by rw [← q]; exact ha)
    · intro q
      rcases List.mem_append.mp q with q | q
      · exact R.nD q
      · exact nr (List.mem_singleton.mp q).symm
    · rcases List.mem_append.mp hz with q | q
      · exact R.fr z q
      · rw [List.mem_singleton.mp q]
        exact s1.free hr
    · rw [List.getElem?_append] at h1
      rw [List.range_succ, List.map_append, List.getElem?_append, List.length_map, List.length_range] at h2
      by_cases c : j < rs.length
      · rw [if_pos c] at h1
        rw [if_pos (by omega)] at h2
        exact R4.row j z ds h1 h2
      · rw [if_neg c] at h1
        rw [if_neg (by omega)] at h2
        have j0 : j - rs.length = 0 := by
          cases q : j - rs.length with
          | zero => rfl
          | succ m => rw [q] at h1; simp at h1
        rw [j0] at h1
        rw [show j - i = 0 by omega] at h2
        cases h1
        cases h2
        refine ⟨ws, ?_, ha⟩
        rw [upd_ne nr]
        exact er
  · obtain ⟨s1, rs, eD, R⟩ := h
    exact hd H' rs s1 eD R
end Z

set_option Elab.async false
set_option linter.all false
set_option maxRecDepth 100000
set_option maxHeartbeats 400000
namespace Z
open PySem PySem.Spec PyProof.Rows L2
/-! ### sorted(xs), xs a list of data -/
theorem each_lift {α β γ : Type} {R : α → β → Prop} {R' : γ → β → Prop} {S : γ → α → Prop} (f : ∀ a b, R a b → ∃ c, S c a ∧ R' c b) : ∀ {as : List α} {bs : List β}, PySem.W.EachIs R as bs → ∃ cs : List γ, Paired S cs as ∧ PySem.W.EachIs R' cs bs
  | _, _, .nil => ⟨[], .nil, .nil⟩
  | a :: as, b :: bs, .cons h t => by
    obtain ⟨cs, h1, h2⟩ := each_lift f t
    obtain ⟨c, h3, h4⟩ := f a b h
    exact ⟨c :: cs, .cons h3 h1, .cons h4 h2⟩
theorem rdAll {h : Heap} : ∀ {vs : List Value} {ds : List PyData} {as : List Addr}, ReadsAll h vs ds as → vs.length = ds.length ∧ ∀ (j : Nat) v d, vs[j]? = some v → ds[j]? = some d → ∃ as, Reads h v d as
  | [], _, _, hh => by
    cases hh
    exact ⟨rfl, fun j v d h => by simp at h⟩
  | v :: vs, _, _, hh => by
    cases hh with
    | cons h1 h2 =>
      have ih := rdAll h2
      refine ⟨by rw [List.length_cons, List.length_cons, ih.1], fun j v d e1 e2 => ?_⟩
      cases j with
      | zero =>
        cases e1
        cases e2
        exact ⟨_, h1⟩
      | succ j => exact ih.2 j v d (by simpa using e1) (by simpa using e2)
def rSortedD (K : PySem.W.Frag) : List V → Hp → VK → Prop := fun vs H Q => ∃ (a : Addr) (xs : List V) (β : Type) (enc : β → PyData) (bs : List β), vs = [.ref a] ∧ SqL K H a xs ∧ DpAll K H xs (bs.map enc) ∧ PySem.W.AllAlike (bs.map enc) ∧ PySem.W.Sortable (bs.map enc) ∧ bs.length ≤ 10000 ∧ (∀ b ∈ bs, (enc b).depth ≤ 50) ∧
  ∀ (ys : List V) (p : Addr), PySem.W.EachIs (fun y b => ∃ j : Nat, xs[j]? = some y ∧ bs[j]? = some b) ys (bs.mergeSort (PySem.W.dataLe false enc)) → H p = none → Q (.ref p) (upd H p (.lst ys))
theorem cr_sortedD (K : PySem.W.Frag) {X : Cx} (hu : X.A.units + 64 < cLine) (hK : X.K = K := by rfl) : CallR X (.builtin "sorted") (rSortedD K) := by
  subst hK
  intro pins s σ H vs us Q I r h
  obtain ⟨a, xs, β, enc, bs, rfl, hs, hd, hal, hso, hl, hdep, q⟩ := h
  obtain ⟨its, rv, hp, hz⟩ := I.list hs
  obtain ⟨u, rfl, ru⟩ := vals1 r
  obtain rfl : u = Value.ref a := ru
  obtain ⟨as, hr⟩ := Dp.readsAll I _ xs its hd rv
  have le1 : its.length = xs.length := rv.length.symm
  have ra := @rdAll s.heap
  have le2 : its.length = bs.length := by
    have := (ra hr).1
    rwa [List.length_map] at this
  have zx : ∀ pz ∈ its.zip bs, ∃ j : Nat, its[j]? = some pz.1 ∧ bs[j]? = some pz.2 := by
    intro pz hpz
    obtain ⟨j, hj⟩ := List.mem_iff_getElem?.mp hpz
    obtain ⟨h1, h2⟩ := List.getElem?_zip_eq_some.mp hj
    exact ⟨j, h1, h2⟩
  refine PySem.W.sorted_data (enc := enc) (bs := bs) (R := fun v b => ∃ j : Nat, its[j]? = some v ∧ bs[j]? = some b) hp.isList (PySem.W.EachIs.of_zip le2 zx) (PySem.W.EachIs.of_zip le2 fun pz hpz => ?_) hal hso (by have : sizeLine = 16777216 := rfl; omega) (fun b hb => by have := hdep b hb; omega) fun out lo eo => ?_
  · obtain ⟨j, e1, e2⟩ := zx pz hpz
    exact (ra hr).2 j _ _ e1 (by rw [List.getElem?_map, e2]; rfl)
  · obtain ⟨ys, v1, v2⟩ := each_lift (S := L2.RelV) (R' := fun y b => ∃ j : Nat, xs[j]? = some y ∧ bs[j]? = some b) (fun v b h => by
      obtain ⟨j, e1, e2⟩ := h
      have hj : j < its.length := (List.getElem?_eq_some_iff.mp e1).1
      obtain ⟨u, hu, ru⟩ := rv.get (List.getElem?_eq_getElem (show j < xs.length by omega))
      rw [e1] at hu
      cases hu
      exact ⟨_, ru, j, List.getElem?_eq_getElem (by omega), e2⟩) eo
    obtain ⟨e, he⟩ := sortedAll_at s.heap its out.toArray
    have ly : ys.length = out.length := Paired.length v1
    refine ⟨.ref (s.heap.objs.size + 1), upd H (s.heap.objs.size + 1) (.lst ys), I.laid (fun b o e => sortedAll_old e) (by omega) ⟨by have : sizeLine = 16777216 := rfl; omega, out, e, v1, he⟩, rfl, q ys _ v2 (I.hok.fresh (by omega))⟩
/-- what is sorted is what was there -/
theorem each_mem {xs : List V} {β : Type} {bs cs : List β} {ys : List V} (h : PySem.W.EachIs (fun y b => ∃ j : Nat, xs[j]? = some y ∧ bs[j]? = some b) ys cs) {B : List Addr} {H : Hp} {enc : β → PyData} (hA : DtA B H xs (bs.map enc)) : DtA B H ys (cs.map enc) := by
  induction h with
  | nil => exact .nil
  | cons h t ih =>
    obtain ⟨j, e1, e2⟩ := h
    exact .cons (hA.two e1 (by rw [List.getElem?_map, e2]; rfl)) ih
end Z

set_option Elab.async false
set_option linter.all false
set_option maxRecDepth 100000
namespace Z
open PySem PySem.Spec PyProof.Rows L2
theorem Fr.scale {M A N : Nat} {x : Rat} (h : Fr M A x) (hN : 0 < N) : Fr (M * N) (A * N) x := by
  obtain ⟨a, rfl, ha⟩ := h
  refine ⟨a * N, ?_, ?_⟩
  · rw [Int.natCast_mul, Rat.divInt_mul_right (by omega)]
  · rw [Int.natAbs_mul, Int.natAbs_natCast]
    exact Nat.mul_le_mul_right _ ha
end Z

set_option Elab.async false
set_option linter.all false
set_option maxRecDepth 100000
set_option maxHeartbeats 400000
namespace Z
open PySem PySem.Spec PyProof.Rows L2
/-! ### a def that is called where nothing is being shown -/
structure FnG (P : Program) (w : World) (K : PySem.W.Frag) (mg : Str → Option Value) (base : Heap) (k : Nat) (f : Addr) (fd : FuncData) (ps : List Str) (sp : Sp) : Prop where
  run : ∀ (A : Around) (outer : List Env) (s : Shared) (H : Hp) (args : Args) (us : List Value) (vs : List V) (Q : VK) (E : XK), A.guards = some [] → Room k A → Env0 P w K mg base A outer s H → BindsTo s fd args (ps.zip us) → Vals vs us → sp vs H Q E → codeAny (model P w) A (Code.call (Value.ref f) args) (CR CX0 outer P w H s Q E) s
theorem fn_g {P : Program} {w : World} {K : PySem.W.Frag} {mg : Str → Option Value} {base : Heap} {x qual : Str} {st : Stmt} {f : Addr} {fd : FuncData} {N ps : List Str} {k : Nat} {sp : Sp} (F : Fun K x qual st f fd) (S : FnScope N ps (defScope st))
    (len : ∀ (vs : List V) (H : Hp) (Q : VK) (E : XK), sp vs H Q E → vs.length = ps.length)
    (hbody : ∀ (cdv : Value) (A : Around) (outer : List Env) (s : Shared) (H : Hp) (vs : List V) (Q : VK) (E : XK), A.guards = some [] → Room k (A.deeper (envOfC qual (defScope st) s.heap.objs.size f cdv)) → sp vs H Q E →
      ∃ t, PSs (cxOf CX0 P w K mg base N qual (defScope st) f cdv A outer s H E).nox (defBody st) t ∧ t { nx := fun _ H' => Q V.non H', rt := Q } (L2.start N vs) H) : FnG P w K mg base (k + 1) f fd ps sp := by
  obtain ⟨oc, od, kV, doc, pm, an, cdv, ct, osl, rfl, lk, hcd⟩ := F.ex
  refine ⟨fun A outer s H args us vs Q E hA hr e0 hb r hsp => ?_⟩
  have hl := len vs H Q E hsp
  have KX := PySem.W.Frag.In.keeps e0.mod.kin fun b o e => (e0.bs b o e).left
  have lim := Heap.NoLimit.keeps e0.mod.nolimit fun b o e => (e0.bs b o e).left
  refine codeAny_call_function (Room.depth hr) (KX f _ lk) rfl S.co S.gen rfl (PySem.W.codeRec_of KX hcd) (hb (model P w) A.in1 (fun e s' => CR CX0 outer P w H s Q E (Except.error e) s') _ (wpAny_newFunctionEnv_cells S.kind ?hk fun env he s1 x => ?_))
  case hk =>
    rintro ⟨n, v⟩ hy
    rcases S.par n (List.of_mem_zip hy).left with q | q
    · exact Or.inl q
    · exact Or.inr ⟨q, PySem.W.cellsFrom_some (defScope st).names (s.heap.objs.size + 1) [] (Or.inl q)⟩
  subst he
  refine ⟨Heap.NoLimit.keeps lim x.toInCall.keep, codeAny_func ?_⟩
  obtain ⟨t, ht, hq⟩ := hbody cdv A outer s H vs Q E hA (Room.deeper hr (envOfC qual (defScope st) s.heap.objs.size f cdv)) hsp
  have I := inv_start (CX := CX0) (E := E) S hr.hd e0 hl r x
  refine wpAny_mono ((PSs.nox ht).run [] s1 (L2.start N vs) H { nx := fun _ H' => Q V.non H', rt := Q } I hq) (fun fl s' hs => ?_) (fun e s' hs => hs)
  cases fl with
  | next =>
    obtain ⟨σ', H', J, q⟩ := hs
    exact ⟨V.non, H', J.os, J.bare, J.base, J.hok, rfl, q⟩
  | brk =>
    obtain ⟨_, _, _, q⟩ := hs
    exact q.elim
  | cont =>
    obtain ⟨_, _, _, q⟩ := hs
    exact q.elim
  | ret u =>
    obtain ⟨v, σ', H', J, rv, q⟩ := hs
    exact ⟨v, H', J.os, J.bare, J.base, J.hok, rv, q⟩
theorem law_call2 {P : Program} {w : World} {K : PySem.W.Frag} {mg mb : Str → Option Value} {k : Nat} {fa a : Addr} {fd : FuncData} {x : Str} {sp : Sp} {s₁ : Shared} {vs : List Value} {ns : List Int} (KX : K.In s₁.heap) (hns : s₁.heap.Ns mainGlobals mg) (hb : s₁.heap.Ns builtinsNs mb)
    (hbb : ∀ x : Str, x ≠ Str.ofString "__name__" → mb x = bootBuiltins x) (hlim : s₁.heap.NoLimit) (hg : s₁.gens = #[]) (ha : s₁.heap.get? a = some { cls := Value.type "list", data := Data.seq vs.toArray }) (hi : IntsAre vs ns) (hl : ns.length ≤ sizeLine) (hr : Room k callerA)
    (F : ∀ base : Heap, K.In base → base.Ns mainGlobals mg → FnG P w K mg base k fa fd [x] sp) (hbind : ∀ (s : Shared) (u : Value), BindsTo s fd { pos := [u] } [(x, u)])
    (hsp : ∀ H : Hp, Only H → SqL K H a (ns.map V.int) → sp [V.ref a] H (fun v _ => v = V.bl true) fun _ _ _ => False) :
    codeAny (model P w) callerA (Code.call (Value.ref fa) { pos := [Value.ref a] }) (fun r s' => r = Except.ok (Flow.ret (Value.bool true)) ∧ OldK s₁.heap s'.heap ∧ s'.os = s₁.os ∧ AllBare s'.gens) s₁ := by
  have rv := vals_ints hi
  have lenV := hi.length
  have core : ∀ H : Hp, Only H → SqL K H a (ns.map V.int) → HOk P w H s₁.heap → (∀ b, H b ≠ none → b = a) → (H a ≠ none → List.lookup a K = none) →
      codeAny (model P w) callerA (Code.call (Value.ref fa) { pos := [Value.ref a] }) (fun r s' => r = Except.ok (Flow.ret (Value.bool true)) ∧ OldK s₁.heap s'.heap ∧ s'.os = s₁.os ∧ AllBare s'.gens) s₁ := by
    intro H hO hS hok hA hK
    have noA : ∀ {b : Addr} {o : Obj} {es ep}, s₁.heap.get? b = some o → o.data = Data.dict es ep → H b = none := by
      intro b o es ep e d
      cases q : H b with
      | none => rfl
      | some u =>
        have e' := hA b (by rw [q]; exact fun z => nomatch z)
        subst e'
        rw [ha] at e
        cases e
        cases d
    have nsK : ∀ {b : Addr} {m : Str → Option Value}, s₁.heap.Ns b m → (hidT s₁.heap H).Ns b m := by
      rintro b m ⟨o, es, ep, e, d, r⟩
      exact ⟨o, es, ep, hidT_get e (noA e d), d, r⟩
    have hKb : K.In (hidT s₁.heap H) := by
      intro b o e
      refine hidT_get (KX b o e) ?_
      cases q : H b with
      | none => rfl
      | some u =>
        have e' := hA b (by rw [q]; exact fun z => nomatch z)
        subst e'
        rw [hK (by rw [q]; exact fun z => nomatch z)] at e
        cases e
    have hM : L2.Mod K mg (hidT s₁.heap H) := ⟨hKb, nsK hns, ⟨mb, nsK hb, hbb⟩, by
      obtain ⟨mc, h1, h2⟩ := hlim
      exact ⟨mc, nsK h1, h2⟩⟩
    have e0 : Env0 P w K mg (hidT s₁.heap H) callerA [] s₁ H := ⟨rfl, hM, fun b o e => of_hidT e, Nat.le_of_eq (hidT_size s₁.heap H), trivial, fun b hb => absurd (show b ∈ ([] : List Addr) from hb) (by simp), hok, AllBare.of_eq hg⟩
    refine codeAny_mono ((F _ hKb (nsK hns)).run callerA [] s₁ H { pos := [Value.ref a] } [Value.ref a] [V.ref a] (fun v _ => v = V.bl true) (fun _ _ _ => False) rfl hr e0 (hbind s₁ (Value.ref a)) (Paired.cons rfl Paired.nil) (hsp H hO hS)) fun r s' h => ?_
    cases r with
    | error e => exact False.elim h
    | ok fl =>
      cases fl with
      | next => exact False.elim h
      | brk => exact False.elim h
      | cont => exact False.elim h
      | ret u =>
        obtain ⟨v, H', os, bare, un, hok', r', q⟩ := h
        subst q
        have eu : u = Value.bool true := r'
        subst eu
        refine ⟨rfl, OldK.of_keep fun b o e => ?_, os, bare⟩
        cases q : H b with
        | none => exact un.keep b o e q (fun z => absurd (show b ∈ ([] : List Addr) from z) (by simp)) (by simp)
        | some u =>
          rcases hO b with z | ⟨ob, xs, z⟩
          · rw [q] at z
            cases z
          · have z2 := un.frzs b ob (HO.lst xs) z
            obtain ⟨e1, _⟩ := hok b (HO.frz ob (HO.lst xs)) z
            obtain ⟨e2, _⟩ := hok' b (HO.frz ob (HO.lst xs)) z2
            rw [e] at e1
            cases e1
            exact e2
  cases hk : List.lookup a K with
  | none =>
    refine core (fun b => if b = a then some (HO.frz { cls := Value.type "list", data := Data.seq vs.toArray } (HO.lst (ns.map V.int))) else none) (fun b => ?_) (Or.inl (Or.inr ⟨_, if_pos rfl⟩)) (fun b u z => ?_) (fun b z => ?_) (fun _ => hk)
    · by_cases hb : b = a
      · exact .inr ⟨_, _, if_pos hb⟩
      · exact .inl (if_neg hb)
    · by_cases hb : b = a
      · have z' := (if_pos hb).symm.trans z
        cases z'
        subst hb
        exact ⟨ha, by rw [List.length_map]; exact hl, vs, 0, rv, ha⟩
      · have z' := (if_neg hb).symm.trans z
        cases z'
    · by_cases hb : b = a
      · exact hb
      · exact absurd (if_neg hb) z
  | some o =>
    have e := KX a o hk
    rw [ha] at e
    cases e
    refine core (fun _ => none) (fun _ => .inl rfl) (Or.inr ⟨_, vs.toArray, 0, hk, rfl, rfl, rfl, by rw [List.size_toArray, lenV]; exact hl, rv⟩) (fun b u z => ?_) (fun b z => absurd rfl z) (fun z => absurd rfl z)
    cases z
theorem walk_of2 {l : PySem.W.OpenLaw} {n k : Nat} {q : Program} {loose : List Str} {XP : (Str → Option Value) → Heap → Prop} {YP : World → Heap → Prop} {d : DefRec} {K : Params → PySem.W.Frag} {sp : World → Sp} {x : Str} (hn : l.most = some n) (hn2 : n ≤ sizeLine) (hdf : d.params.defaults = []) (hr : Room k callerA)
    (hY : ∀ (w : World) (h : Heap), YP w h → (K w.params).In h)
    (F : ∀ (w : World) (mg : Str → Option Value) (fa : Addr) (h : Heap), (K w.params).In h → h.Ns mainGlobals mg → mg d.name = some (Value.ref fa) → ∃ fd, (∀ (s : Shared) (u : Value), BindsTo s fd { pos := [u] } [(x, u)]) ∧ ∀ base : Heap, (K w.params).In base → base.Ns mainGlobals mg → FnG l.prog w (K w.params) mg base k fa fd [x] (sp w))
    (hsp : ∀ (w : World) (H : Hp) (a : Addr) (ns : List Int), ns.length ≤ n → Only H → SqL (K w.params) H a (ns.map V.int) → sp w [V.ref a] H (fun v _ => v = V.bl true) fun _ _ _ => False) :
    PySem.W.WalkO q loose XP YP l.row.toRowW d [] fun f vs => call f vs :=
  Att.attach_call hn hdf fun w s₀ s₁ mg mb fa o pm cd doc a vs ns G Y ho hd hcd hmg hobj hints hlen hg => by
    have KX := hY w s₁.heap Y
    obtain ⟨fd, hb, hF⟩ := F w mg fa s₁.heap KX G.T.g hmg
    exact law_call2 KX G.T.g G.T.b G.T.builtins G.T.nolimit hg hobj hints (Nat.le_trans hlen hn2) hr hF hb (fun H hO hS => hsp w H a ns hlen hO hS)
/-! ### str of data -/
def rStrD (K : PySem.W.Frag) : List V → Hp → VK → Prop := fun xs H Q => ∃ (a : Addr) (d : PyData), xs = [.ref a] ∧ Dp K H (.ref a) d ∧ d.showable = true ∧ d.hasDict = false ∧ d.depth ≤ 40 ∧ d.shown.length ≤ sizeLine ∧ Q (.str d.shown) H
theorem cr_strD (K : PySem.W.Frag) {X : Cx} (hg : X.A.guards = some []) (hu : X.A.units + 64 < cLine) (hK : X.K = K := by rfl) : CallR X (.type "str") (rStrD K) := by
  subst hK
  intro pins s σ H xs us Q I r h
  obtain ⟨a, d, rfl, hd, h1, h2, h3, h4, q⟩ := h
  obtain ⟨u, rfl, ru⟩ := vals1 r
  have ru2 := ru
  obtain rfl : u = Value.ref a := ru
  obtain ⟨as, hr⟩ := Dp.reads I d _ _ hd ru2
  exact str_of_reads hr h1 (fun z => by rw [h2] at z; cases z) hg (by omega) (fun _ _ e => e) (fun h' u tk hk => ⟨.str d.shown, H, I.kept hk, ⟨u, rfl⟩, q⟩) h4
/-! ### how long a text is -/
structure Shw (d : PyData) (n : Nat) : Prop where
  a : d.showable = true
  b : d.hasDict = false
  c : d.shown.length ≤ n
theorem Shw.mono {d : PyData} {n m : Nat} (h : Shw d n) (l : n ≤ m) : Shw d m := ⟨h.a, h.b, Nat.le_trans h.c l⟩
theorem shw_all {n : Nat} : ∀ {ds : List PyData}, (∀ d ∈ ds, Shw d n) → PyData.showableAll ds = true ∧ PyData.hasDictAll ds = false ∧ ((PyData.shownAll ds).map (fun x => x.length)).sum ≤ n * ds.length ∧ (PyData.shownAll ds).length = ds.length
  | [], _ => ⟨by rw [PyData.showableAll], by rw [PyData.hasDictAll], by rw [PyData.shownAll]; simp, by rw [PyData.shownAll]; rfl⟩
  | d :: ds, h => by
    obtain ⟨h1, h2, h3, h4⟩ := shw_all (ds := ds) (n := n) fun x hx => h x (List.mem_cons_of_mem _ hx)
    have h0 := h d (List.mem_cons_self ..)
    refine ⟨?_, ?_, ?_, ?_⟩
    · rw [PyData.showableAll, h1, h0.a]; rfl
    · rw [PyData.hasDictAll, h2, h0.b]; rfl
    · rw [PyData.shownAll, List.map_cons, List.sum_cons, List.length_cons, Nat.mul_succ]
      have := h0.c
      omega
    · rw [PyData.shownAll, List.length_cons, List.length_cons, h4]
theorem shw_lst {ds : List PyData} {n : Nat} (h : ∀ d ∈ ds, Shw d n) : Shw (.list ds) (n * ds.length + 2 * ds.length + 3) := by
  obtain ⟨h1, h2, h3, h4⟩ := shw_all h
  refine ⟨by rw [PyData.showable]; exact h1, by rw [PyData.hasDict]; exact h2, ?_⟩
  rw [PyData.shown]
  have := listText_len_le (PyData.shownAll ds)
  rw [h4] at this
  omega
theorem shw_tup {ds : List PyData} {n : Nat} (h : ∀ d ∈ ds, Shw d n) : Shw (.tuple ds) (n * ds.length + 2 * ds.length + 3) := by
  obtain ⟨h1, h2, h3, h4⟩ := shw_all h
  refine ⟨by rw [PyData.showable]; exact h1, by rw [PyData.hasDict]; exact h2, ?_⟩
  rw [PyData.shown]
  have := tupleText_len_le (PyData.shownAll ds)
  rw [h4] at this
  omega
theorem shw_int {i : Int} (h : i.natAbs < 2 ^ 40) : Shw (.int i) 60 := by
  refine ⟨?_, by rw [PyData.hasDict], ?_⟩
  · rw [PyData.showable]
    refine decide_eq_true ?_
    rcases Nat.eq_zero_or_pos i.natAbs with z | z
    · rw [z]; decide
    · have := (Nat.log2_lt (by omega)).mpr h
      omega
  · rw [PyData.shown]
    have h2 := nat_repr_length_le (n := i.natAbs) (k := 40) (by decide) h
    rw [PySem.ofString_length]
    cases i with
    | ofNat m =>
      have e : toString (Int.ofNat m) = m.repr := rfl
      rw [e]
      have e : (Int.ofNat m).natAbs = m := rfl
      rw [e] at h2
      omega
    | negSucc m =>
      have e : toString (Int.negSucc m) = "-" ++ (m + 1).repr := rfl
      rw [e, String.length_append]
      have e : (Int.negSucc m).natAbs = m + 1 := rfl
      rw [e] at h2
      have : "-".length = 1 := rfl
      omega
theorem shw_eC {ns : List Int} (h : cIn (-1000000000) 1000000000 ns) (l : ns.length ≤ 10) : Shw (eC ns) 700 := by
  refine (shw_tup (n := 60) fun d hd => ?_).mono (by rw [List.length_map]; omega)
  obtain ⟨x, hx, rfl⟩ := List.mem_map.mp hd
  have := h x hx
  exact shw_int (by omega)
theorem shw_eI {ns : List Int} (h : cIn (-1000000000) 1000000000 ns) (l : ns.length ≤ 100) : Shw (eI ns) 7000 := by
  refine (shw_lst (n := 60) fun d hd => ?_).mono (by rw [List.length_map]; omega)
  obtain ⟨x, hx, rfl⟩ := List.mem_map.mp hd
  have := h x hx
  exact shw_int (by omega)
theorem shw_eP {cs : List (List Int)} (h : ∀ c ∈ cs, c.length ≤ 10 ∧ cIn (-1000000000) 1000000000 c) (l : cs.length ≤ 100) : Shw (eP cs) 71000 := by
  refine (shw_lst (n := 700) fun d hd => ?_).mono (by rw [List.length_map]; omega)
  obtain ⟨x, hx, rfl⟩ := List.mem_map.mp hd
  exact shw_eC (h x hx).2 (h x hx).1
theorem shw_eG {ps : List (List (List Int))} (h : ∀ p ∈ ps, p.length ≤ 100 ∧ ∀ c ∈ p, c.length ≤ 10 ∧ cIn (-1000000000) 1000000000 c) (l : ps.length ≤ 50) : Shw (eG ps) 4000000 := by
  refine (shw_lst (n := 71000) fun d hd => ?_).mono (by rw [List.length_map]; omega)
  obtain ⟨x, hx, rfl⟩ := List.mem_map.mp hd
  exact shw_eP (h x hx).2 (h x hx).1
end Z

set_option Elab.async false
set_option linter.all false
set_option maxRecDepth 100000
namespace Z
open PySem PySem.Spec PyProof.Rows L2
/-! ### a walk over a list or a tuple -/
def iSeq (K : PySem.W.Frag) (tl : TE) : TI := fun σ H R => iList K tl σ H R ∨ iTup K tl σ H R
theorem pi_seqK (K : PySem.W.Frag) {X : Cx} {tg l : Expr} {tl : TE} (hl : PE X l tl) (h : X.K = K := by rfl) : PI X tg l (iSeq K tl) := by
  subst h
  refine ⟨fun pins s σ H R I h => ?_⟩
  rcases h with h | h
  · exact (pi_list hl).run pins s σ H R I h
  · exact (pi_tup hl).run pins s σ H R I h
/-! ### texts of great numbers -/
theorem shw_intW {i : Int} (h : i.natAbs < 2 ^ 200) : Shw (.int i) 300 := by
  refine ⟨?_, by rw [PyData.hasDict], ?_⟩
  · rw [PyData.showable]
    refine decide_eq_true ?_
    rcases Nat.eq_zero_or_pos i.natAbs with z | z
    · rw [z]; decide
    · have := (Nat.log2_lt (by omega)).mpr h
      omega
  · rw [PyData.shown]
    have h2 := nat_repr_length_le (n := i.natAbs) (k := 200) (by decide) h
    rw [PySem.ofString_length]
    cases i with
    | ofNat m =>
      have e : toString (Int.ofNat m) = m.repr := rfl
      rw [e]
      have e : (Int.ofNat m).natAbs = m := rfl
      rw [e] at h2
      omega
    | negSucc m =>
      have e : toString (Int.negSucc m) = "-" ++ (m + 1).repr := rfl
      rw [e, String.length_append]
      have e : (Int.negSucc m).natAbs = m + 1 := rfl
      rw [e] at h2
      have : "-".length = 1 := rfl
      omega
theorem qp_int (n : Int) : qp (n : Rat) = (n, 1) := rfl
end Z

set_option Elab.async false
set_option linter.all false
set_option maxRecDepth 100000
namespace Z
open PySem PySem.Spec PyProof.Rows L2
def topS (i : Nat) : Stmt := PySem.Challenge.pw_fewcolours_k42_lost_by_middles.main.body.getD i (.Pass ⟨0, 0, 0, 0⟩)
abbrev s_common_measure : Stmt := topS 1
abbrev N_common_measure : List Str := ["one", "other"]
theorem sc_common_measure : FnScope N_common_measure ["one", "other"] (defScope s_common_measure) := ⟨rfl, rfl, rfl, by decide +kernel, rfl, by decide +kernel, by decide +kernel⟩
abbrev s_part : Stmt := topS 2
abbrev N_part : List Str := ["top", "bottom", "measure"]
theorem sc_part : FnScope N_part ["top", "bottom"] (defScope s_part) := ⟨rfl, rfl, rfl, by decide +kernel, rfl, by decide +kernel, by decide +kernel⟩
abbrev s_plus : Stmt := topS 3
abbrev N_plus : List Str := ["one", "other"]
theorem sc_plus : FnScope N_plus ["one", "other"] (defScope s_plus) := ⟨rfl, rfl, rfl, by decide +kernel, rfl, by decide +kernel, by decide +kernel⟩
abbrev s_sum_of : Stmt := topS 4
abbrev N_sum_of : List Str := ["fractions", "total", "fraction"]
theorem sc_sum_of : FnScope N_sum_of ["fractions"] (defScope s_sum_of) := ⟨rfl, rfl, rfl, by decide +kernel, rfl, by decide +kernel, by decide +kernel⟩
abbrev s_times : Stmt := topS 5
abbrev N_times : List Str := ["one", "other"]
theorem sc_times : FnScope N_times ["one", "other"] (defScope s_times) := ⟨rfl, rfl, rfl, by decide +kernel, rfl, by decide +kernel, by decide +kernel⟩
abbrev s_before : Stmt := topS 6
abbrev N_before : List Str := ["one", "other"]
theorem sc_before : FnScope N_before ["one", "other"] (defScope s_before) := ⟨rfl, rfl, rfl, by decide +kernel, rfl, by decide +kernel, by decide +kernel⟩
abbrev s_far_of : Stmt := topS 8
abbrev N_far_of : List Str := ["colour", "middle", "square", "number", "top", "bottom", "gap"]
theorem sc_far_of : FnScope N_far_of ["colour", "middle"] (defScope s_far_of) := ⟨rfl, rfl, rfl, by decide +kernel, rfl, by decide +kernel, by decide +kernel⟩
abbrev s_far_sum : Stmt := topS 9
abbrev N_far_sum : List Str := ["rows", "middle", "colour", "count"]
theorem sc_far_sum : FnScope N_far_sum ["rows", "middle"] (defScope s_far_sum) := ⟨rfl, rfl, rfl, by decide +kernel, rfl, by decide +kernel, by decide +kernel⟩
abbrev s_nearest_middle : Stmt := topS 11
abbrev N_nearest_middle : List Str := ["middles", "colour", "told", "least", "number", "middle", "far"]
theorem sc_nearest_middle : FnScope N_nearest_middle ["middles", "colour"] (defScope s_nearest_middle) := ⟨rfl, rfl, rfl, by decide +kernel, rfl, by decide +kernel, by decide +kernel⟩
abbrev s_shared_out : Stmt := topS 13
abbrev N_shared_out : List Str := ["rows", "middles", "shared", "row", "middle"]
theorem sc_shared_out : FnScope N_shared_out ["rows", "middles"] (defScope s_shared_out) := ⟨rfl, rfl, rfl, by decide +kernel, rfl, by decide +kernel, by decide +kernel⟩
abbrev s_lost_so : Stmt := topS 14
abbrev N_lost_so : List Str := ["shared", "middles", "group", "middle"]
theorem sc_lost_so : FnScope N_lost_so ["shared", "middles"] (defScope s_lost_so) := ⟨rfl, rfl, rfl, by decide +kernel, rfl, by decide +kernel, by decide +kernel⟩
abbrev s_lost_by : Stmt := topS 15
abbrev N_lost_by : List Str := ["rows", "middles"]
theorem sc_lost_by : FnScope N_lost_by ["rows", "middles"] (defScope s_lost_by) := ⟨rfl, rfl, rfl, by decide +kernel, rfl, by decide +kernel, by decide +kernel⟩
abbrev s_l_mix : Stmt := topS 17
abbrev N_l_mix : List Str := ["_law_cell", "_law_k", "_law_m"]
theorem sc_l_mix : FnScope N_l_mix ["_law_cell", "_law_k"] (defScope s_l_mix) := ⟨rfl, rfl, rfl, by decide +kernel, rfl, by decide +kernel, by decide +kernel⟩
abbrev s_l_left : Stmt := topS 18
abbrev N_l_left : List Str := ["_law_script", "_law_k", "_law_cell"]
theorem sc_l_left : FnScope N_l_left ["_law_script", "_law_k"] (defScope s_l_left) := ⟨rfl, rfl, rfl, by decide +kernel, rfl, by decide +kernel, by decide +kernel⟩
abbrev s_l_pick : Stmt := topS 19
abbrev N_l_pick : List Str := ["_law_left_here", "_law_many", "_law_digit"]
theorem sc_l_pick : FnScope N_l_pick ["_law_left_here", "_law_many"] (defScope s_l_pick) := ⟨rfl, rfl, rfl, by decide +kernel, rfl, by decide +kernel, by decide +kernel⟩
abbrev s_l_kind : Stmt := topS 20
abbrev N_l_kind : List Str := ["_law_left_here"]
theorem sc_l_kind : FnScope N_l_kind ["_law_left_here"] (defScope s_l_kind) := ⟨rfl, rfl, rfl, by decide +kernel, rfl, by decide +kernel, by decide +kernel⟩
abbrev s_l_colour : Stmt := topS 21
abbrev N_l_colour : List Str := ["_law_left_here", "_law_kind_here", "_law_wide", "_law_span", "_law_place"]
theorem sc_l_colour : FnScope N_l_colour ["_law_left_here", "_law_kind_here"] (defScope s_l_colour) := ⟨rfl, rfl, rfl, by decide +kernel, rfl, by decide +kernel, by decide +kernel⟩
abbrev s_l_rows : Stmt := topS 22
abbrev N_l_rows : List Str := ["_law_left_here", "_law_kind_here", "_law_most", "_law_counts", "_law_k", "_law_count"]
theorem sc_l_rows : FnScope N_l_rows ["_law_left_here", "_law_kind_here", "_law_most"] (defScope s_l_rows) := ⟨rfl, rfl, rfl, by decide +kernel, rfl, by decide +kernel, by decide +kernel⟩
abbrev s_l_part : Stmt := topS 23
abbrev N_l_part : List Str := ["_law_top", "_law_bottom", "_law_one", "_law_other", "_law_sign"]
theorem sc_l_part : FnScope N_l_part ["_law_top", "_law_bottom"] (defScope s_l_part) := ⟨rfl, rfl, rfl, by decide +kernel, rfl, by decide +kernel, by decide +kernel⟩
abbrev s_l_plus : Stmt := topS 24
abbrev N_l_plus : List Str := ["_law_one", "_law_other"]
theorem sc_l_plus : FnScope N_l_plus ["_law_one", "_law_other"] (defScope s_l_plus) := ⟨rfl, rfl, rfl, by decide +kernel, rfl, by decide +kernel, by decide +kernel⟩
abbrev s_l_less : Stmt := topS 25
abbrev N_l_less : List Str := ["_law_one", "_law_other"]
theorem sc_l_less : FnScope N_l_less ["_law_one", "_law_other"] (defScope s_l_less) := ⟨rfl, rfl, rfl, by decide +kernel, rfl, by decide +kernel, by decide +kernel⟩
abbrev s_l_same : Stmt := topS 26
abbrev N_l_same : List Str := ["_law_found", "_law_due", "_law_one", "_law_other"]
theorem sc_l_same : FnScope N_l_same ["_law_found", "_law_due"] (defScope s_l_same) := ⟨rfl, rfl, rfl, by decide +kernel, rfl, by decide +kernel, by decide +kernel⟩
abbrev s_l_some_rows : Stmt := topS 27
abbrev N_l_some_rows : List Str := ["_law_left_here", "_law_kind_here"]
theorem sc_l_some_rows : FnScope N_l_some_rows ["_law_left_here"] (defScope s_l_some_rows) := ⟨rfl, rfl, rfl, by decide +kernel, rfl, by decide +kernel, by decide +kernel⟩
abbrev s_l_middles : Stmt := topS 28
abbrev N_l_middles : List Str := ["_law_left_here", "_law_kind_here", "_law_wide", "_law_span", "_law_found", "_law_k", "_law_one", "_law_other", "_law_way", "_law_middle", "_law_number", "_law_a", "_law_b"]
theorem sc_l_middles : FnScope N_l_middles ["_law_left_here", "_law_kind_here"] (defScope s_l_middles) := ⟨rfl, rfl, rfl, by decide +kernel, rfl, by decide +kernel, by decide +kernel⟩
abbrev s_l_far : Stmt := topS 29
abbrev N_l_far : List Str := ["_law_colour_here", "_law_middle", "_law_total", "_law_number", "_law_top", "_law_bottom"]
theorem sc_l_far : FnScope N_l_far ["_law_colour_here", "_law_middle"] (defScope s_l_far) := ⟨rfl, rfl, rfl, by decide +kernel, rfl, by decide +kernel, by decide +kernel⟩
abbrev s_l_nearest_middle : Stmt := topS 30
abbrev N_l_nearest_middle : List Str := ["_law_middles_here", "_law_colour_here", "_law_best", "_law_least", "_law_k", "_law_middle", "_law_far_here"]
theorem sc_l_nearest_middle : FnScope N_l_nearest_middle ["_law_middles_here", "_law_colour_here"] (defScope s_l_nearest_middle) := ⟨rfl, rfl, rfl, by decide +kernel, rfl, by decide +kernel, by decide +kernel⟩
abbrev s_l_lost : Stmt := topS 31
abbrev N_l_lost : List Str := ["_law_rows_here", "_law_middles_here", "_law_total", "_law_colour_here", "_law_count", "_law_top", "_law_bottom"]
theorem sc_l_lost : FnScope N_l_lost ["_law_rows_here", "_law_middles_here"] (defScope s_l_lost) := ⟨rfl, rfl, rfl, by decide +kernel, rfl, by decide +kernel, by decide +kernel⟩
abbrev s_l_hairs : Stmt := topS 32
abbrev N_l_hairs : List Str := ["_law_left_here", "_law_rows_here", "_law_middles_here", "_law_colour_here", "_law_step", "_law_hair", "_law_others", "_law_made", "_law_at", "_law_number"]
theorem sc_l_hairs : FnScope N_l_hairs ["_law_left_here", "_law_rows_here", "_law_middles_here"] (defScope s_l_hairs) := ⟨rfl, rfl, rfl, by decide +kernel, rfl, by decide +kernel, by decide +kernel⟩
abbrev s_law : Stmt := topS 33
abbrev N_law : List Str := ["_law_script", "_law_k", "_law_left_here", "_law_kind_here", "_law_rows_here", "_law_middles_here", "_law_kept", "_law_due", "_law_more", "_law_some", "_law_number", "_law_colour_here", "_law_count", "_law_n"]
theorem sc_law : FnScope N_law ["_law_script"] (defScope s_law) := ⟨rfl, rfl, rfl, by decide +kernel, rfl, by decide +kernel, by decide +kernel⟩
structure Tx (K : PySem.W.Frag) (mg : Str → Option Value) where
  f_common_measure : Addr
  d_common_measure : FuncData
  F_common_measure : Fun K "common_measure" "common_measure" s_common_measure f_common_measure d_common_measure
  b_common_measure : Binds K d_common_measure ["one", "other"] []
  g_common_measure : mg "common_measure" = some (.ref f_common_measure)
  f_part : Addr
  d_part : FuncData
  F_part : Fun K "part" "part" s_part f_part d_part
  b_part : Binds K d_part ["top", "bottom"] []
  g_part : mg "part" = some (.ref f_part)
  f_plus : Addr
  d_plus : FuncData
  F_plus : Fun K "plus" "plus" s_plus f_plus d_plus
  b_plus : Binds K d_plus ["one", "other"] []
  g_plus : mg "plus" = some (.ref f_plus)
  f_sum_of : Addr
  d_sum_of : FuncData
  F_sum_of : Fun K "sum_of" "sum_of" s_sum_of f_sum_of d_sum_of
  b_sum_of : Binds K d_sum_of ["fractions"] []
  g_sum_of : mg "sum_of" = some (.ref f_sum_of)
  f_times : Addr
  d_times : FuncData
  F_times : Fun K "times" "times" s_times f_times d_times
  b_times : Binds K d_times ["one", "other"] []
  g_times : mg "times" = some (.ref f_times)
  f_before : Addr
  d_before : FuncData
  F_before : Fun K "before" "before" s_before f_before d_before
  b_before : Binds K d_before ["one", "other"] []
  g_before : mg "before" = some (.ref f_before)
  f_far_of : Addr
  d_far_of : FuncData
  F_far_of : Fun K "far_of" "far_of" s_far_of f_far_of d_far_of
  b_far_of : Binds K d_far_of ["colour", "middle"] []
  g_far_of : mg "far_of" = some (.ref f_far_of)
  f_far_sum : Addr
  d_far_sum : FuncData
  F_far_sum : Fun K "far_sum" "far_sum" s_far_sum f_far_sum d_far_sum
  b_far_sum : Binds K d_far_sum ["rows", "middle"] []
  g_far_sum : mg "far_sum" = some (.ref f_far_sum)
  f_nearest_middle : Addr
  d_nearest_middle : FuncData
  F_nearest_middle : Fun K "nearest_middle" "nearest_middle" s_nearest_middle f_nearest_middle d_nearest_middle
  b_nearest_middle : Binds K d_nearest_middle ["middles", "colour"] []
  g_nearest_middle : mg "nearest_middle" = some (.ref f_nearest_middle)
  f_shared_out : Addr
  d_shared_out : FuncData
  F_shared_out : Fun K "shared_out" "shared_out" s_shared_out f_shared_out d_shared_out
  b_shared_out : Binds K d_shared_out ["rows", "middles"] []
  g_shared_out : mg "shared_out" = some (.ref f_shared_out)
  f_lost_so : Addr
  d_lost_so : FuncData
  F_lost_so : Fun K "lost_so" "lost_so" s_lost_so f_lost_so d_lost_so
  b_lost_so : Binds K d_lost_so ["shared", "middles"] []
  g_lost_so : mg "lost_so" = some (.ref f_lost_so)
  f_lost_by : Addr
  d_lost_by : FuncData
  F_lost_by : Fun K "lost_by" "lost_by" s_lost_by f_lost_by d_lost_by
  b_lost_by : Binds K d_lost_by ["rows", "middles"] []
  g_lost_by : mg "lost_by" = some (.ref f_lost_by)
  f_l_mix : Addr
  d_l_mix : FuncData
  F_l_mix : Fun K "_law_mix" "_law_mix" s_l_mix f_l_mix d_l_mix
  b_l_mix : Binds K d_l_mix ["_law_cell", "_law_k"] []
  g_l_mix : mg "_law_mix" = some (.ref f_l_mix)
  f_l_left : Addr
  d_l_left : FuncData
  F_l_left : Fun K "_law_left" "_law_left" s_l_left f_l_left d_l_left
  b_l_left : Binds K d_l_left ["_law_script", "_law_k"] []
  g_l_left : mg "_law_left" = some (.ref f_l_left)
  f_l_pick : Addr
  d_l_pick : FuncData
  F_l_pick : Fun K "_law_pick" "_law_pick" s_l_pick f_l_pick d_l_pick
  b_l_pick : Binds K d_l_pick ["_law_left_here", "_law_many"] []
  g_l_pick : mg "_law_pick" = some (.ref f_l_pick)
  f_l_kind : Addr
  d_l_kind : FuncData
  F_l_kind : Fun K "_law_kind" "_law_kind" s_l_kind f_l_kind d_l_kind
  b_l_kind : Binds K d_l_kind ["_law_left_here"] []
  g_l_kind : mg "_law_kind" = some (.ref f_l_kind)
  f_l_colour : Addr
  d_l_colour : FuncData
  F_l_colour : Fun K "_law_colour" "_law_colour" s_l_colour f_l_colour d_l_colour
  b_l_colour : Binds K d_l_colour ["_law_left_here", "_law_kind_here"] []
  g_l_colour : mg "_law_colour" = some (.ref f_l_colour)
  f_l_rows : Addr
  d_l_rows : FuncData
  F_l_rows : Fun K "_law_rows" "_law_rows" s_l_rows f_l_rows d_l_rows
  b_l_rows : Binds K d_l_rows ["_law_left_here", "_law_kind_here", "_law_most"] []
  g_l_rows : mg "_law_rows" = some (.ref f_l_rows)
  f_l_part : Addr
  d_l_part : FuncData
  F_l_part : Fun K "_law_part" "_law_part" s_l_part f_l_part d_l_part
  b_l_part : Binds K d_l_part ["_law_top", "_law_bottom"] []
  g_l_part : mg "_law_part" = some (.ref f_l_part)
  f_l_plus : Addr
  d_l_plus : FuncData
  F_l_plus : Fun K "_law_plus" "_law_plus" s_l_plus f_l_plus d_l_plus
  b_l_plus : Binds K d_l_plus ["_law_one", "_law_other"] []
  g_l_plus : mg "_law_plus" = some (.ref f_l_plus)
  f_l_less : Addr
  d_l_less : FuncData
  F_l_less : Fun K "_law_less" "_law_less" s_l_less f_l_less d_l_less
  b_l_less : Binds K d_l_less ["_law_one", "_law_other"] []
  g_l_less : mg "_law_less" = some (.ref f_l_less)
  f_l_same : Addr
  d_l_same : FuncData
  F_l_same : Fun K "_law_same" "_law_same" s_l_same f_l_same d_l_same
  b_l_same : Binds K d_l_same ["_law_found", "_law_due"] []
  g_l_same : mg "_law_same" = some (.ref f_l_same)
  f_l_some_rows : Addr
  d_l_some_rows : FuncData
  F_l_some_rows : Fun K "_law_some_rows" "_law_some_rows" s_l_some_rows f_l_some_rows d_l_some_rows
  b_l_some_rows : Binds K d_l_some_rows ["_law_left_here"] []
  g_l_some_rows : mg "_law_some_rows" = some (.ref f_l_some_rows)
  f_l_middles : Addr
  d_l_middles : FuncData
  F_l_middles : Fun K "_law_middles" "_law_middles" s_l_middles f_l_middles d_l_middles
  b_l_middles : Binds K d_l_middles ["_law_left_here", "_law_kind_here"] []
  g_l_middles : mg "_law_middles" = some (.ref f_l_middles)
  f_l_far : Addr
  d_l_far : FuncData
  F_l_far : Fun K "_law_far" "_law_far" s_l_far f_l_far d_l_far
  b_l_far : Binds K d_l_far ["_law_colour_here", "_law_middle"] []
  g_l_far : mg "_law_far" = some (.ref f_l_far)
  f_l_nearest_middle : Addr
  d_l_nearest_middle : FuncData
  F_l_nearest_middle : Fun K "_law_nearest_middle" "_law_nearest_middle" s_l_nearest_middle f_l_nearest_middle d_l_nearest_middle
  b_l_nearest_middle : Binds K d_l_nearest_middle ["_law_middles_here", "_law_colour_here"] []
  g_l_nearest_middle : mg "_law_nearest_middle" = some (.ref f_l_nearest_middle)
  f_l_lost : Addr
  d_l_lost : FuncData
  F_l_lost : Fun K "_law_lost" "_law_lost" s_l_lost f_l_lost d_l_lost
  b_l_lost : Binds K d_l_lost ["_law_rows_here", "_law_middles_here"] []
  g_l_lost : mg "_law_lost" = some (.ref f_l_lost)
  f_l_hairs : Addr
  d_l_hairs : FuncData
  F_l_hairs : Fun K "_law_hairs" "_law_hairs" s_l_hairs f_l_hairs d_l_hairs
  b_l_hairs : Binds K d_l_hairs ["_law_left_here", "_law_rows_here", "_law_middles_here"] []
  g_l_hairs : mg "_law_hairs" = some (.ref f_l_hairs)
  z_abs : mg "abs" = none
  z_all : mg "all" = none
  z_bool : mg "bool" = none
  z_enumerate : mg "enumerate" = none
  z_int : mg "int" = none
  z_isinstance : mg "isinstance" = none
  z_len : mg "len" = none
  z_list : mg "list" = none
  z_min : mg "min" = none
  z_range : mg "range" = none
  z_sorted : mg "sorted" = none
  z_str : mg "str" = none
  z_tuple : mg "tuple" = none
  z_zip : mg "zip" = none
section
variable {P : Program} {w : World} {K : PySem.W.Frag} {mg : Str → Option Value} {base : Heap}
/-! ### mix -/
def spMix : Sp := fun vs H Q _ => ∃ c n : Int, vs = [.int c, .int n] ∧ 0 ≤ n ∧ n < 2000000000 ∧ ∀ r : Int, 0 ≤ r → r < 1999999973 → Q (.int r) H
theorem ok_l_mix (T : Tx K mg) {k : Nat} : FnOk P w K mg base CX0 (k + 1) T.f_l_mix T.d_l_mix ["_law_cell", "_law_k"] spMix := by
  refine T.F_l_mix.ok sc_l_mix (fun vs H Q E h => ?_) (fun cdv A outer s H vs Q E hr h => ?_)
  · obtain ⟨c, n, rfl, _⟩ := h
    rfl
  · obtain ⟨c, n, rfl, h1, h2, q⟩ := h
    refine ⟨_, (pss_cons (ps_set (i := 2) sc_l_mix.nd rfl (.inl rfl) (pe_op op_mod (pe_op op_mul (pe_op op_add (pe_op op_add (pe_op op_mod (pv 0) pe_int) (pe_op op_mul (pe_op op_mul (pv 1) (pv 1)) pe_int)) pe_int) pe_int) pe_int))
      (pss_one (ps_ret (pe_op op_mod (pe_op op_mul (pv 2) (pv 2)) pe_int)))), ?_⟩
    refine ⟨.int c, rfl, _, _, rfl, rfl, md (by decide), .int n, rfl, .int n, rfl, _, _, rfl, rfl, .inl ⟨by omega, by omega⟩, _, _, rfl, rfl, .inr ⟨by decide, by decide⟩, _, _, rfl, rfl, _, _, rfl, rfl, _, _, rfl, rfl, .inr ⟨by decide, by decide⟩, _, _, rfl, rfl, md (by decide), ?_⟩
    refine ⟨_, rfl, _, rfl, _, _, rfl, rfl, .inl ⟨?_, ?_⟩, _, _, rfl, rfl, md (by decide), ?_⟩
    · omega
    · omega
    · exact q _ (Int.emod_nonneg _ (by decide)) (Int.emod_lt_of_pos _ (by decide))
/-! ### left -/
def spLeft (K : PySem.W.Frag) : Sp := fun vs H Q _ => ∃ (a : Addr) (ns : List Int) (n : Int), vs = [.ref a, .int n] ∧ SqL K H a (ns.map V.int) ∧ 0 ≤ n ∧ ∀ (p : Addr) (x y : Int), H p = none → 0 ≤ x → Q (.ref p) (upd H p (.lst [.int x, .int y, .int 0]))
theorem left_end {c n : Int} {H : Hp} {Q : VK} (q : ∀ (p : Addr) (x y : Int), H p = none → 0 ≤ x → Q (.ref p) (upd H p (.lst [.int x, .int y, .int 0]))) (p : Addr) (hp : H p = none) (b : Bool) :
    Q (.ref p) (upd H p (.lst [.int ((if c < 0 then -c else c) * (if b = true then 1 else 0)), .int (c + 1000003 * n), .int 0])) := by
  refine q p _ _ hp ?_
  cases b <;> simp <;> split <;> omega
theorem ok_l_left (T : Tx K mg) {k : Nat} : FnOk P w K mg base CX0 (k + 1) T.f_l_left T.d_l_left ["_law_script", "_law_k"] (spLeft K) := by
  refine T.F_l_left.ok sc_l_left (fun vs H Q E h => ?_) (fun cdv A outer s H vs Q E hr h => ?_)
  · obtain ⟨a, ns, n, rfl, _⟩ := h
    rfl
  · obtain ⟨a, ns, n, rfl, hS, h1, q⟩ := h
    refine ⟨_, (pss_cons (ps_set (i := 2) sc_l_left.nd rfl (.inl rfl) (pe_ifExp (pt_cmpR op_lt (pv 1) (pe_callB (len_K K) (by rfl) T.z_len PySem.boot_len (pa_cons (pv 0) pa_nil)) (nomark _)) (pe_ix (ix_listK K) (pv 0) (pv 1) (fun _ _ => rfl)) pe_int))
      (pss_one (ps_ret (pe_lst (pa_cons (pe_op op_mul (pe_callB call_abs (by rfl) T.z_abs (by decide +kernel) (pa_cons (pv 2) pa_nil)) (pe_callTy call_int1 (by rfl) T.z_int (by decide +kernel) (pa_cons (pe_cmpR op_ge (pe_callB call_abs (by rfl) T.z_abs (by decide +kernel) (pa_cons (pv 2) pa_nil)) (pe_op op_pow pe_int pe_int) (nomark _)) pa_nil))) (pa_cons (pe_op op_add (pv 2) (pe_op op_mul pe_int (pv 1))) (pa_cons pe_int pa_nil))))))), ?_⟩
    refine ⟨_, rfl, _, rfl, a, _, rfl, .inl hS, _, _, rfl, rfl, _, rfl, ite2 (fun e => ?_) (fun e => ?_)⟩
    · have e1 : n < (ns.map V.int).length := of_decide_eq_true e
      rw [List.length_map] at e1
      have g : atI (ns.map V.int) n = some (.int (ns[n.toNat]'(by omega))) := at0 h1 (by rw [List.getElem?_map, List.getElem?_eq_getElem]; rfl)
      refine ⟨_, rfl, _, rfl, a, _, _, _, rfl, rfl, hS, g, ?_⟩
      exact ⟨_, rfl, _, rfl, _, rfl, _, rfl, _, _, rfl, rfl, ⟨by decide, by decide, by decide⟩, _, _, rfl, rfl, .inr ⟨_, rfl, _, _, rfl, rfl, .inr (bit_ok _), _, rfl, _, rfl, _, _, rfl, rfl, .inl ⟨by decide, by decide⟩, _, _, rfl, rfl, (by show 3 ≤ sizeLine; decide), fun p hp => left_end q p hp _⟩⟩
    · exact ⟨_, rfl, _, rfl, _, rfl, _, rfl, _, _, rfl, rfl, ⟨by decide, by decide, by decide⟩, _, _, rfl, rfl, .inr ⟨_, rfl, _, _, rfl, rfl, .inr (bit_ok _), _, rfl, _, rfl, _, _, rfl, rfl, .inl ⟨by decide, by decide⟩, _, _, rfl, rfl, (by show 3 ≤ sizeLine; decide), fun p hp => left_end q p hp _⟩⟩
/-! ### pick -/
def spPick : Sp := fun vs H Q _ => ∃ (L : Addr) (m : Int) (n : Nat), vs = [.ref L, .int m] ∧ Lf L H n ∧ n < 1000000000 ∧ 0 < m ∧ m < 1073741824 ∧ ∀ (r : Int) (H' : Hp), Go [L] H H' → Lf L H' (n + 1) → 0 ≤ r → r < m → Q (.int r) H'
theorem ok_l_pick (T : Tx K mg) {k : Nat} : FnOk P w K mg base CX0 (k + 2) T.f_l_pick T.d_l_pick ["_law_left_here", "_law_many"] spPick := by
  refine T.F_l_pick.ok sc_l_pick (fun vs H Q E h => ?_) (fun cdv A outer s H vs Q E hr h => ?_)
  · obtain ⟨L, m, n, rfl, _⟩ := h
    rfl
  · obtain ⟨L, m, n, rfl, ⟨a, b, c, hL, a0, c0, cn⟩, hn, m0, m1, q⟩ := h
    refine ⟨_, (pss_cons (ps_asg (pe_op op_add (pe_ix (ix_listK K) (pv 0) pe_int (fun _ _ => rfl)) pe_int) (pg_sub (pv 0) pe_int set_list))
      (pss_cons (ps_if (pt_cmpR op_gt (pe_ix (ix_listK K) (pv 0) pe_int (fun _ _ => rfl)) pe_int (nomark _)) (pss_cons (ps_set (i := 2) sc_l_pick.nd rfl (.inl rfl) (pe_op op_mod (pe_ix (ix_listK K) (pv 0) pe_int (fun _ _ => rfl)) (pv 1)))
      (pss_cons (ps_asg (pe_op op_fdiv (pe_ix (ix_listK K) (pv 0) pe_int (fun _ _ => rfl)) (pv 1)) (pg_sub (pv 0) pe_int set_list))
      (pss_one (ps_ret (pv 2))))) pss_nil)
      (pss_one (ps_ret (pe_op op_mod (pe_op op_fdiv (pe_call (ok_l_mix T (k := k)) hr (by rfl) T.g_l_mix T.F_l_mix.kp T.b_l_mix .nil pass0 (pa_cons (pe_call (ok_l_mix T (k := k)) hr (by rfl) T.g_l_mix T.F_l_mix.kp T.b_l_mix .nil pass0 (pa_cons (pe_ix (ix_listK K) (pv 0) pe_int (fun _ _ => rfl)) (pa_cons (pe_ix (ix_listK K) (pv 0) pe_int (fun _ _ => rfl)) pa_nil))) (pa_cons (pe_op op_add (pe_ix (ix_listK K) (pv 0) pe_int (fun _ _ => rfl)) pe_int) pa_nil))) pe_int) (pv 1)))))), ?_⟩
    refine ⟨_, rfl, L, _, 2, .int c, rfl, rfl, SqL.of hL, rfl, _, _, rfl, rfl, _, rfl, L, _, _, 2, rfl, rfl, hL, rfl, ?_⟩
    generalize hH : upd H L (.lst (List.set [V.int a, V.int b, V.int c] 2 (V.int (c + 1)))) = H1
    have hL1 : H1 L = some (.lst [.int a, .int b, .int (c + 1)]) := by rw [← hH]; exact upd_same
    have g1 : Go [L] H H1 := by rw [← hH]; exact Go.refl.at (List.mem_singleton.mpr rfl)
    refine ⟨_, rfl, L, _, 0, .int a, rfl, rfl, SqL.of hL1, rfl, _, _, rfl, rfl, _, rfl, ite2 (fun e => ?_) (fun e => ?_)⟩
    · have e1 : 0 < a := of_decide_eq_true e
      refine ⟨_, rfl, L, _, 0, .int a, rfl, rfl, SqL.of hL1, rfl, _, rfl, _, _, rfl, rfl, md m0, ?_⟩
      refine ⟨_, rfl, L, _, 0, .int a, rfl, rfl, SqL.of hL1, rfl, _, rfl, _, _, rfl, rfl, ⟨m0, m1⟩, _, rfl, L, _, _, 0, rfl, rfl, hL1, rfl, ?_⟩
      refine ⟨_, rfl, ?_⟩
      exact q _ _ (g1.at (List.mem_singleton.mpr rfl)) ⟨a / m, b, c + 1, upd_same, Int.ediv_nonneg a0 (by omega), by omega, by omega⟩ (Int.emod_nonneg _ (by omega)) (Int.emod_lt_of_pos _ m0)
    · refine ⟨_, rfl, L, _, 1, .int b, rfl, rfl, SqL.of hL1, rfl, _, rfl, L, _, 2, .int (c + 1), rfl, rfl, SqL.of hL1, rfl, _, _, rfl, by omega, by omega, fun r1 _ _ => ?_⟩
      refine ⟨_, rfl, L, _, 2, .int (c + 1), rfl, rfl, SqL.of hL1, rfl, _, _, rfl, rfl, _, _, rfl, by omega, by omega, fun r2 _ _ => ?_⟩
      refine ⟨_, _, rfl, rfl, ⟨by decide, by decide⟩, _, rfl, _, _, rfl, rfl, md m0, ?_⟩
      exact q _ _ g1 ⟨a, b, c + 1, hL1, a0, by omega, by omega⟩ (Int.emod_nonneg _ (by omega)) (Int.emod_lt_of_pos _ m0)
/-! ### kind -/
def spKind : Sp := fun vs H Q _ => ∃ (L : Addr) (n : Nat), vs = [.ref L] ∧ Lf L H n ∧ n < 100000000 ∧ ∀ (v : V) (H' : Hp) (wd sp : Int), Go [L] H H' → Lf L H' (n + 2) → 1 ≤ wd → wd ≤ 5 → 3 ≤ sp → sp ≤ 1000 → Dt [L] H' v (eC [wd, sp]) → Q v H'
theorem ok_l_kind (T : Tx K mg) {k : Nat} : FnOk P w K mg base CX0 (k + 3) T.f_l_kind T.d_l_kind ["_law_left_here"] spKind := by
  refine T.F_l_kind.ok sc_l_kind (fun vs H Q E h => ?_) (fun cdv A outer s H vs Q E hr h => ?_)
  · obtain ⟨L, n, rfl, _⟩ := h
    rfl
  · obtain ⟨L, n, rfl, hL, hn, q⟩ := h
    refine ⟨_, (pss_one (ps_ret (pe_tup (pa_cons (pe_ix (ix_listK K) (pe_lst (pa_cons pe_int (pa_cons pe_int (pa_cons pe_int (pa_cons pe_int (pa_cons pe_int (pa_cons pe_int (pa_cons pe_int (pa_cons pe_int pa_nil))))))))) (pe_call (ok_l_pick T (k := k)) hr (by rfl) T.g_l_pick T.F_l_pick.kp T.b_l_pick .nil pass0 (pa_cons (pv 0) (pa_cons pe_int pa_nil))) (fun _ _ => rfl)) (pa_cons (pe_ix (ix_listK K) (pe_lst (pa_cons pe_int (pa_cons pe_int (pa_cons pe_int (pa_cons pe_int (pa_cons pe_int (pa_cons pe_int pa_nil))))))) (pe_call (ok_l_pick T (k := k)) hr (by rfl) T.g_l_pick T.F_l_pick.kp T.b_l_pick .nil pass0 (pa_cons (pv 0) (pa_cons pe_int pa_nil))) (fun _ _ => rfl)) pa_nil))))), ?_⟩
    refine ⟨(by show 8 ≤ sizeLine; decide), fun p hp => ?_⟩
    refine ⟨_, rfl, L, 8, n, rfl, hL.new hp, by omega, by decide, by decide, fun r1 H1 g1 l1 a1 b1 => ?_⟩
    have e1 : H1 p = some (.lst ([1, 2, 3, 3, 3, 4, 5, 2].map V.int)) := g1.k p _ (hL.bk.ne hp) upd_same
    obtain ⟨wd, mw, ew⟩ := at_int (ns := [1, 2, 3, 3, 3, 4, 5, 2]) a1 b1
    refine ⟨p, _, r1, .int wd, rfl, rfl, SqL.of e1, ew, (by show 6 ≤ sizeLine; decide), fun p2 hp2 => ?_⟩
    refine ⟨_, rfl, L, 6, n + 1, rfl, l1.new hp2, by omega, by decide, by decide, fun r2 H2 g2 l2 a2 b2 => ?_⟩
    have e2 : H2 p2 = some (.lst ([3, 6, 20, 256, 1000, 10].map V.int)) := g2.k p2 _ (l1.bk.ne hp2) upd_same
    obtain ⟨sp, ms, es⟩ := at_int (ns := [3, 6, 20, 256, 1000, 10]) a2 b2
    refine ⟨p2, _, r2, .int sp, rfl, rfl, SqL.of e2, es, (by show 2 ≤ sizeLine; decide), fun p3 hp3 => ?_⟩
    simp at mw ms
    refine q _ _ wd sp (((((Go.new hp).trans g1).trans (Go.new hp2)).trans g2).trans (Go.new hp3)) (l2.new hp3) (by omega) (by omega) (by omega) (by omega) (Dt.ofCol (l2.bk.ne hp3) upd_same)
/-! ### colour -/
def spColour : Sp := fun vs H Q _ => ∃ (L : Addr) (B : List Addr) (n : Nat) (kv : V) (wd sp : Int), vs = [.ref L, kv] ∧ Lf L H n ∧ L ∈ B ∧ Bk B H ∧ n < 100000000 ∧ Dt [L] H kv (eC [wd, sp]) ∧ 0 ≤ wd ∧ wd ≤ 5 ∧ 1 ≤ sp ∧ sp ≤ 1000 ∧
  ∀ (v : V) (H' : Hp) (ns : List Int), Go [L] H H' → Lf L H' (n + 10) → Dt B H' v (eC ns) → (ns.length : Int) = wd → cIn 0 999 ns → Q v H'
theorem ok_l_colour (T : Tx K mg) {k : Nat} : FnOk P w K mg base CX0 (k + 3) T.f_l_colour T.d_l_colour ["_law_left_here", "_law_kind_here"] spColour := by
  refine T.F_l_colour.ok sc_l_colour (fun vs H Q E h => ?_) (fun cdv A outer s H vs Q E hr h => ?_)
  · obtain ⟨L, B, n, kv, wd, sp, rfl, _⟩ := h
    rfl
  · obtain ⟨L, B, n, kv, wd, sp, rfl, hL, LB, hB, hn, hk, w0, w1, s0, s1, q⟩ := h
    obtain ⟨ka, rfl, nk, hkT⟩ := hk.col
    refine ⟨_, (pss_cons (ps_asg (pv 1) (pg_tupK K (n := 2) rfl (pgs_cons (pg_name (i := 2) sc_l_colour.nd rfl (.inl rfl)) (pgs_cons (pg_name (i := 3) sc_l_colour.nd rfl (.inr rfl)) pgs_nil))))
      (pss_one (ps_ret (pe_callTy (tuple_K K) (by rfl) T.z_tuple (by decide +kernel) (pa_cons (pe_lc (own := [("_law_place", 4)]) (by rfl) sc_l_colour.nd (pi_range1 (by rfl) T.z_range (pa_cons (pv 2) pa_nil)) (blkOk_by (own := [("_law_place", 4)]) (N := N_l_colour) (sc := defScope s_l_colour) (by decide +kernel)) (fun _ _ _ _ _ => (pg_name (i := 4) sc_l_colour.nd rfl (.inl rfl))) (fun _ _ _ _ _ => pts_nil) (fun _ _ _ _ _ => (pe_ix (ix_listK K) (pe_lst (pa_cons (pe_call (ok_l_pick T (k := k)) hr (by rfl) T.g_l_pick T.F_l_pick.kp T.b_l_pick .nil pass0 (pa_cons (pv 0) (pa_cons (pv 3) pa_nil))) (pa_cons pe_int pa_nil))) (pe_callTy call_int1 (by rfl) T.z_int (by decide +kernel) (pa_cons (pe_cmpR op_eq (pe_call (ok_l_pick T (k := k)) hr (by rfl) T.g_l_pick T.F_l_pick.kp T.b_l_pick .nil pass0 (pa_cons (pv 0) (pa_cons pe_int pa_nil))) pe_int (nomark _)) pa_nil)) (fun _ _ => rfl)))) pa_nil))))), ?_⟩
    refine ⟨_, rfl, ka, [.int wd, .int sp], rfl, SqT.of hkT, rfl, .int wd, _, rfl, .int sp, _, rfl, rfl, ?_⟩
    refine ⟨_, rfl, wd, rfl, by omega, by omega, fun D hD => ?_⟩
    refine lc_range (lo := 0) (n := wd.toNat) (fun i H' => ∃ ns : List Int, ns.length = i ∧ cIn 0 999 ns ∧ Go [L] H H' ∧ Lf L H' (n + 2 * i) ∧ H' D = some (.lst (ns.map V.int)))
      ⟨[], rfl, cIn.nil, Go.new hD, hL.new hD, upd_same⟩ (fun i H1 hi h1 => ?_) (fun H1 h1 => ?_)
    · obtain ⟨ns, en, cn, g, l, eD⟩ := h1
      have nD : D ∉ [L] := hL.bk.ne hD
      refine ⟨rfl, lc_yes ?_⟩
      refine ⟨_, rfl, _, rfl, L, sp, n + 2 * i, rfl, l, by omega, by omega, by omega, fun r1 H2 g2 l2 a1 b1 => ?_⟩
      refine ⟨(by show 2 ≤ sizeLine; decide), fun p hp => ?_⟩
      refine ⟨_, rfl, L, 8, n + 2 * i + 1, rfl, l2.new hp, by omega, by decide, by decide, fun r2 H3 g3 l3 a2 b2 => ?_⟩
      have e3 : H3 p = some (.lst [.int r1, .int 999]) := g3.k p _ (l2.bk.ne hp) upd_same
      refine ⟨rfl, .inr ⟨_, rfl, p, _, _, _, rfl, rfl, SqL.of e3, at2 _ _ _, ns.map V.int, ?_⟩⟩
      have gg : Go [L] H1 H3 := (g2.trans (Go.new hp)).trans g3
      obtain ⟨x, ex, x0, x1⟩ : ∃ x : Int, (if decide (V.int r2 = V.int 0) = true then V.int 999 else V.int r1) = .int x ∧ 0 ≤ x ∧ x ≤ 999 := by
        by_cases hb : decide (V.int r2 = V.int 0) = true
        · rw [if_pos hb]
          exact ⟨999, rfl, by decide, by decide⟩
        · rw [if_neg hb]
          exact ⟨r1, rfl, by omega, by omega⟩
      refine ⟨gg.k D _ nD eD, sz (by rw [List.length_map]; omega), ns ++ [x], ?_, cn.app x0 x1, (g.trans gg).mut hD, (l3.up (hL.ne hD)).mono (by omega), ?_⟩
      · rw [List.length_append]
        simp
        omega
      · rw [upd_same, List.map_append, ex]
        rfl
    · obtain ⟨ns, en, cn, g, l, eD⟩ := h1
      refine ⟨D, _, rfl, .inl ⟨SqL.of eD, fun t ht => ?_⟩⟩
      exact q _ _ ns (g.trans (Go.new ht)) ((l.new ht).mono (by omega)) (Dt.ofCol ((hB.go g).ne ht) upd_same) (by omega) cn
/-! ### rows of counts -/
def eRs (rs : List (List Int × Int)) : PyData := .list (rs.map eRow)
def rOk (wd : Nat) (r : List Int × Int) : Prop := r.1.length = wd ∧ cIn 0 999 r.1 ∧ 1 ≤ r.2 ∧ r.2 ≤ 1000
theorem Dt.rowI {B : List Addr} {H : Hp} {v : V} {r : List Int × Int} (h : Dt B H v (eRow r)) : ∃ a q, v = .ref a ∧ a ∉ B ∧ H a = some (.tup [.ref q, .int r.2]) ∧ q ∉ B ∧ H q = some (.tup (r.1.map V.int)) := by
  obtain ⟨a, vs, rfl, na, ea, hA⟩ := h.tupI
  cases hA with
  | cons h1 h2 =>
    obtain ⟨q, rfl, nq, eq⟩ := h1.col
    cases h2 with
    | cons h3 h4 =>
      have := h3.intI
      subst this
      cases h4
      exact ⟨a, q, rfl, na, ea, nq, eq⟩
theorem Dt.ofRow {B : List Addr} {H : Hp} {a q : Addr} {r : List Int × Int} (na : a ∉ B) (ea : H a = some (.tup [.ref q, .int r.2])) (dq : Dt B H (.ref q) (eC r.1)) : Dt B H (.ref a) (eRow r) := .tup na ea (.cons dq (.cons (.int _) .nil))
def cnt (rs : List (List Int × Int)) : Int := (rs.map (·.2)).sum
def wsum (rs : List (List Int × Int)) (p : Nat) : Int := (rs.map fun r => r.2 * r.1.getD p 0).sum
def midF (rs : List (List Int × Int)) (p : Nat) : Int × Int := (pn (wsum rs p) (cnt rs), pd (wsum rs p) (cnt rs))
def mid (rs : List (List Int × Int)) (wd : Nat) : List (Int × Int) := (List.range wd).map (midF rs)
theorem cnt_in {wd : Nat} : ∀ {rs : List (List Int × Int)}, (∀ r ∈ rs, rOk wd r) → (rs.length : Int) ≤ cnt rs ∧ cnt rs ≤ 1000 * (rs.length : Int)
  | [], _ => ⟨Int.le_refl _, Int.le_refl _⟩
  | r :: rs, h => by
    have ih := cnt_in (rs := rs) fun x hx => h x (List.mem_cons_of_mem _ hx)
    have hr := h r (List.mem_cons_self ..)
    unfold cnt at ih ⊢
    rw [List.map_cons, List.sum_cons, List.length_cons]
    have := hr.2.2
    omega
theorem getD_in {ns : List Int} {lo hi : Int} (h : cIn lo hi ns) (h0 : lo ≤ 0) (h1 : 0 ≤ hi) (p : Nat) : lo ≤ ns.getD p 0 ∧ ns.getD p 0 ≤ hi := by
  rw [List.getD_eq_getElem?_getD]
  cases e : ns[p]? with
  | none => exact ⟨h0, h1⟩
  | some x => exact h x (List.mem_of_getElem? e)
theorem wsum_in {wd : Nat} (p : Nat) : ∀ {rs : List (List Int × Int)}, (∀ r ∈ rs, rOk wd r) → 0 ≤ wsum rs p ∧ wsum rs p ≤ 999000 * (rs.length : Int)
  | [], _ => ⟨Int.le_refl _, Int.le_refl _⟩
  | r :: rs, h => by
    have ih := wsum_in p (rs := rs) fun x hx => h x (List.mem_cons_of_mem _ hx)
    have hr := h r (List.mem_cons_self ..)
    have g := getD_in hr.2.1 (by omega) (by omega) p
    unfold wsum at ih ⊢
    rw [List.map_cons, List.sum_cons, List.length_cons]
    have c := hr.2.2
    have m1 : 0 ≤ r.2 * r.1.getD p 0 := Int.mul_nonneg (by omega) g.1
    have m2 : r.2 * r.1.getD p 0 ≤ 1000 * 999 := Int.mul_le_mul c.2 g.2 g.1 (by omega)
    omega
theorem part_one {n x : Int} (h : 0 < n) : pn (n * x) n = x ∧ pd (n * x) n = 1 := by
  have g : gm (n * x) n = n.natAbs := by
    unfold gm
    rw [Int.natAbs_mul]
    exact Nat.gcd_eq_right (Nat.dvd_mul_right _ _)
  have e : ((n.natAbs : Nat) : Int) = n := by omega
  unfold pn pd
  rw [g, e, if_neg (by omega), if_neg (by omega)]
  exact ⟨Int.mul_ediv_cancel_left _ (by omega), Int.ediv_self (by omega)⟩
theorem mid_one {c : List Int} {n : Int} (h : 0 < n) : mid [(c, n)] c.length = c.map fun x => (x, 1) := by
  unfold mid
  refine List.ext_getElem (by simp) fun i h1 h2 => ?_
  rw [List.getElem_map, List.getElem_map, List.getElem_range]
  have hi : i < c.length := by simpa using h2
  have e : c.getD i 0 = c[i] := by rw [List.getD_eq_getElem?_getD, List.getElem?_eq_getElem hi]; rfl
  unfold midF wsum cnt
  simp only [List.map_cons, List.map_nil, List.sum_cons, List.sum_nil, Int.add_zero]
  rw [e]
  have := part_one (x := c[i]) h
  rw [this.1, this.2]
/-! ### rows that are drawn -/
theorem put_ent {A : List Int → Prop} {C : Int → Prop} {ks : List (List Int × Int)} (h : ∀ e ∈ ks, A e.1 ∧ C e.2) {c : List Int} {n : Int} (hc : A c) (hn : C n) :
    ∃ ks' : List (List Int × Int), putK (ks.map entI) (c.map Sum.inl) (.int n) = ks'.map entI ∧ (∀ e ∈ ks', A e.1 ∧ C e.2) ∧ 0 < ks'.length ∧ ks'.length ≤ ks.length + 1 := by
  unfold putK
  by_cases b : ((ks.map entI).any fun kv => decide (kv.1 = c.map Sum.inl)) = true
  · rw [if_pos b]
    refine ⟨ks.map fun e => if e.1.map (Sum.inl (β := Str)) = c.map Sum.inl then (e.1, n) else e, ?_, fun e he => ?_, ?_, by simp⟩
    · rw [List.map_map, List.map_map]
      refine List.map_congr_left fun e _ => ?_
      show (if (entI e).1 = c.map Sum.inl then ((entI e).1, V.int n) else entI e) = entI (if e.1.map Sum.inl = c.map Sum.inl then (e.1, n) else e)
      by_cases x : e.1.map (Sum.inl (β := Str)) = c.map Sum.inl
      · rw [if_pos (show (entI e).1 = _ from x), if_pos x]
        rfl
      · rw [if_neg (show ¬ (entI e).1 = _ from x), if_neg x]
    · obtain ⟨f, hf, rfl⟩ := List.mem_map.mp he
      have := h f hf
      split
      · exact ⟨this.1, hn⟩
      · exact this
    · rw [List.length_map]
      cases ks with
      | nil => simp at b
      | cons e ks => simp
  · rw [if_neg b]
    refine ⟨ks ++ [(c, n)], by rw [List.map_append]; rfl, fun e he => ?_, by simp, by simp⟩
    rcases List.mem_append.mp he with x | x
    · exact h e x
    · rw [List.mem_singleton.mp x]
      exact ⟨hc, hn⟩
def spRows : Sp := fun vs H Q _ => ∃ (L : Addr) (n : Nat) (kv : V) (wd : Nat) (sp mo : Int), vs = [.ref L, kv, .int mo] ∧ Lf L H n ∧ n < 1000000 ∧ Dt [L] H kv (eC [(wd : Int), sp]) ∧ wd ≤ 5 ∧ 1 ≤ sp ∧ sp ≤ 1000 ∧ 1 ≤ mo ∧ mo ≤ 60 ∧
  ∀ (v : V) (H' : Hp) (rs : List (List Int × Int)), Go [L] H H' → Lf L H' (n + 1000) → Dt [L] H' v (eRs rs) → 0 < rs.length → rs.length ≤ 60 → (∀ r ∈ rs, rOk wd r) → Q v H'
theorem ok_l_rows (T : Tx K mg) {k : Nat} : FnOk P w K mg base CX0 (k + 4) T.f_l_rows T.d_l_rows ["_law_left_here", "_law_kind_here", "_law_most"] spRows := by
  refine T.F_l_rows.ok sc_l_rows (fun vs H Q E h => ?_) (fun cdv A outer s H vs Q E hr h => ?_)
  · obtain ⟨L, n, kv, wd, sp, mo, rfl, _⟩ := h
    rfl
  · obtain ⟨L, n, kv, wd, sp, mo, rfl, hL, hn, hk, w1, s0, s1, m0, m1, q⟩ := h
    refine ⟨_, (pss_cons (ps_set (i := 3) sc_l_rows.nd rfl (.inl rfl) pe_dnewT)
      (pss_cons (ps_for PassesOwn.never rfl (pi_range1 (by rfl) T.z_range (pa_cons (pe_op op_add pe_int (pe_call (ok_l_pick T (k := k + 1)) hr (by rfl) T.g_l_pick T.F_l_pick.kp T.b_l_pick .nil pass0 (pa_cons (pv 0) (pa_cons (pv 2) pa_nil)))) pa_nil)) (pg_name (i := 4) sc_l_rows.nd rfl (.inl rfl)) (pss_cons (ps_set (i := 5) sc_l_rows.nd rfl (.inl rfl) (pe_ix (ix_listK K) (pe_lst (pa_cons pe_int (pa_cons pe_int (pa_cons pe_int (pa_cons pe_int (pa_cons (pe_op op_add pe_int (pe_call (ok_l_pick T (k := k + 1)) hr (by rfl) T.g_l_pick T.F_l_pick.kp T.b_l_pick .nil pass0 (pa_cons (pv 0) (pa_cons pe_int pa_nil)))) (pa_cons (pe_op op_add pe_int (pe_call (ok_l_pick T (k := k + 1)) hr (by rfl) T.g_l_pick T.F_l_pick.kp T.b_l_pick .nil pass0 (pa_cons (pv 0) (pa_cons pe_int pa_nil)))) pa_nil))))))) (pe_call (ok_l_pick T (k := k + 1)) hr (by rfl) T.g_l_pick T.F_l_pick.kp T.b_l_pick .nil pass0 (pa_cons (pv 0) (pa_cons pe_int pa_nil))) (fun _ _ => rfl)))
      (pss_one (ps_asg (pv 5) (pg_sub (pv 3) (pe_call (ok_l_colour T (k := k)) hr (by rfl) T.g_l_colour T.F_l_colour.kp T.b_l_colour .nil pass0 (pa_cons (pv 0) (pa_cons (pv 1) pa_nil))) (set_dictU hr.units))))))
      (pss_one (ps_ret (pe_callB (cr_sortedII rfl hr.units) (by rfl) T.z_sorted (by decide +kernel) (pa_cons (pe_bm0 PySem.F.plainAttrs_dict PySem.F.slot_dict_items PySem.F.type_dict_items L2.DX.mt_itemsT (pv 3)) pa_nil)))))), ?_⟩
    refine fun D hD => ?_
    have nD : D ∉ [L] := hL.bk.ne hD
    refine ⟨_, rfl, _, rfl, L, mo, n, rfl, hL.new hD, by omega, by omega, by omega, fun r1 H1 g1 l1 a1 b1 => ?_⟩
    have eD1 : H1 D = some (.dT []) := g1.k D _ nD upd_same
    refine ⟨_, _, rfl, rfl, 1 + r1, rfl, by omega, by omega, for_range (lo := 0) (n := (1 + r1).toNat) (fun i σ H' => ∃ y4 y5 ks, σ = [some (.ref L), some kv, some (.int mo), some (.ref D), y4, y5] ∧ Go [L] H H' ∧ Lf L H' (n + 1 + 15 * i) ∧ H' D = some (.dT ((ks : List (List Int × Int)).map entI)) ∧ (∀ e ∈ ks, (e.1.length = wd ∧ cIn 0 999 e.1) ∧ (1 ≤ e.2 ∧ e.2 ≤ 1000)) ∧ ks.length ≤ i ∧ (0 < i → 0 < ks.length))
      ⟨none, none, [], rfl, (Go.new hD).trans g1, l1.mono (by omega), eD1, (fun _ h => nomatch h), Nat.le_refl _, fun h => absurd h (by omega)⟩ (fun i σ H2 hi h2 => ?_) (fun σ H2 h2 => ?_)⟩
    · obtain ⟨y4, y5, ks, rfl, g2, l2, eD2, hks, lk, _⟩ := h2
      refine ⟨_, rfl, L, 9, n + 1 + 15 * i, rfl, l2, by omega, by decide, by decide, fun r3 H3 g3 l3 a3 b3 => ?_⟩
      refine ⟨_, _, rfl, rfl, _, rfl, L, 1000, n + 1 + 15 * i + 1, rfl, l3, by omega, by decide, by decide, fun r4 H4 g4 l4 a4 b4 => ?_⟩
      refine ⟨_, _, rfl, rfl, (by show 6 ≤ sizeLine; decide), fun S hS => ?_⟩
      have eS : (upd H4 S (.lst [.int 1, .int 1, .int 2, .int 3, .int (1 + r3), .int (1 + r4)])) S = some (.lst ([1, 1, 2, 3, 1 + r3, 1 + r4].map V.int)) := upd_same
      have l5 := l4.new (o := .lst [.int 1, .int 1, .int 2, .int 3, .int (1 + r3), .int (1 + r4)]) hS
      have g25 : Go [L] H2 (upd H4 S (.lst [.int 1, .int 1, .int 2, .int 3, .int (1 + r3), .int (1 + r4)])) := (g3.trans g4).trans (Go.new hS)
      have nS : S ∉ [L] := l4.bk.ne hS
      generalize upd H4 S (.lst [.int 1, .int 1, .int 2, .int 3, .int (1 + r3), .int (1 + r4)]) = H5 at *
      refine ⟨_, rfl, L, 6, n + 1 + 15 * i + 2, rfl, l5, by omega, by decide, by decide, fun r6 H6 g6 l6 a6 b6 => ?_⟩
      obtain ⟨z, mz, ez⟩ := at_int (ns := [1, 1, 2, 3, 1 + r3, 1 + r4]) a6 b6
      refine ⟨S, _, _, .int z, rfl, rfl, SqL.of (g6.k S _ nS eS), ez, ?_⟩
      have hz : 1 ≤ z ∧ z ≤ 1000 := by
        simp at mz
        omega
      have g26 := g25.trans g6
      refine ⟨_, rfl, _, rfl, _, rfl, _, rfl, L, [L], n + 1 + 15 * i + 3, kv, wd, sp, rfl, l6, by simp, l6.bk, by omega, hk.g (g2.trans g26), by omega, by omega, s0, s1, fun cv H7 c g7 l7 d7 n7 c7 => ?_⟩
      obtain ⟨ca, rfl, nc, ec⟩ := d7.col
      have eD7 := (g26.trans g7).k D _ nD eD2
      obtain ⟨ks', e', h', p', q'⟩ := put_ent (A := fun c => c.length = wd ∧ cIn 0 999 c) (C := fun x => 1 ≤ x ∧ x ≤ 1000) hks (c := c) (n := z) ⟨by omega, c7⟩ hz
      refine ⟨D, _, rfl, DPut.t eD7 (by rw [kV_ints]; exact ec) (sz (by rw [List.length_map]; omega)), ?_⟩
      refine ⟨_, _, ks', rfl, ((g2.trans g26).trans g7).mut hD, (l7.up (hL.ne hD)).mono (by omega), by rw [upd_same, e'], h', by omega, fun _ => p'⟩
    · obtain ⟨y4, y5, ks, rfl, g2, l2, eD2, hks, lk, l0⟩ := h2
      have l0' := l0 (by omega)
      refine ⟨_, rfl, .inr (.inr (.inl ⟨rfl, .inr ⟨_, eD2⟩⟩)), D, _, rfl, rfl, eD2, fun p hp => ?_⟩
      have s3 := sm_new (o := L2.DX.itemsO p D) hp
      refine ⟨p, D, ks, rfl, upd_same, s3 _ _ eD2, by omega, fun H4 l ps s4 hl pm el hz => ?_⟩
      have g4 : Go [L] H2 H4 := (Go.of s3).trans (Go.of s4)
      have B3 : Bk [L] (upd H2 p (L2.DX.itemsO p D)) := (l2.same s3).bk
      have hA : ∀ zs : List (Addr × List Int × Int), (∀ z ∈ zs, z ∈ ps) → DtA [L] H4 (zs.map fun z => V.ref z.1) ((zs.map (·.2)).map eRow) := by
        intro zs
        induction zs with
        | nil => exact fun _ => .nil
        | cons z zs ih =>
          intro h
          obtain ⟨qa, f1, f2, f3⟩ := hz z (h z (List.mem_cons_self ..))
          refine .cons (Dt.ofRow (B3.ne f1) f2 (Dt.ofCol (fun m => ?_) (s4 _ _ f3))) (ih fun x hx => h x (List.mem_cons_of_mem _ hx))
          obtain ⟨x1, x2, x3, e5, _⟩ := l2.same s3
          rw [List.mem_singleton.mp m, e5] at f3
          cases f3
      have lp := pm.length_eq
      refine q _ _ (ps.map (·.2)) (g2.trans g4) (((l2.same s3).same s4).mono (by omega)) (.lst (B3.ne hl) el (hA ps fun _ h => h)) (by omega) (by omega) fun r hr => ?_
      have := hks r (pm.mem_iff.mp hr)
      exact ⟨this.1.1, this.1.2, this.2⟩
/-! ### fractions -/
def spMeas : Sp := fun vs H Q _ => ∃ t b : Int, vs = [.int t, .int b] ∧ Q (.int (gm t b : Int)) H
theorem ok_common_measure (T : Tx K mg) {k : Nat} : FnOk P w K mg base CX0 (k + 1) T.f_common_measure T.d_common_measure ["one", "other"] spMeas := by
  refine T.F_common_measure.ok sc_common_measure (fun vs H Q E h => ?_) (fun cdv A outer s H vs Q E hr h => ?_)
  · obtain ⟨t, b, rfl, _⟩ := h
    rfl
  · obtain ⟨t, b, rfl, q⟩ := h
    refine ⟨_, (pss_cons (ps_par (i := 0) (j := 1) (by rfl) sc_common_measure.nd rfl rfl (by decide) rfl rfl (pa_cons (pe_callB call_abs (by rfl) T.z_abs (by decide +kernel) (pa_cons (pv 0) pa_nil)) (pa_cons (pe_callB call_abs (by rfl) T.z_abs (by decide +kernel) (pa_cons (pv 1) pa_nil)) pa_nil)) (by rfl))
      (pss_cons (ps_while PassesOwn.never (pt_cmpR op_ne (pv 1) pe_int (nomark _)) (pss_one (ps_par (i := 0) (j := 1) (by rfl) sc_common_measure.nd rfl rfl (by decide) rfl rfl (pa_cons (pv 1) (pa_cons (pe_op op_mod (pv 0) (pv 1)) pa_nil)) (by rfl))))
      (pss_one (ps_ret (pv 0))))), ?_⟩
    refine ⟨_, rfl, _, rfl, _, rfl, _, rfl, _, _, rfl, ?_⟩
    refine ⟨fun m σ H' => ∃ (x y : Nat), σ = [some (.int (x : Int)), some (.int (y : Int))] ∧ H' = H ∧ m = y ∧ Nat.gcd x y = gm t b, ⟨b.natAbs, t.natAbs, b.natAbs, ?_, rfl, rfl, rfl⟩, fun m σ H' h => ?_⟩
    · have e1 : (if t < 0 then -t else t) = (t.natAbs : Int) := by split <;> omega
      have e2 : (if b < 0 then -b else b) = (b.natAbs : Int) := by split <;> omega
      rw [← e1, ← e2]
      rfl
    · obtain ⟨x, y, rfl, rfl, em, hg⟩ := h
      refine ⟨_, rfl, rfl, _, rfl, ite2 (fun e => ?_) (fun e => ?_)⟩
      · have y0 : 0 < y := by
          rcases Nat.eq_zero_or_pos y with z | z
          · subst z
            simp at e
          · exact z
        refine ⟨fun σ' H'' => σ' = [some (.int (y : Int)), some (.int ((x % y : Nat) : Int))] ∧ H'' = H', fun σ' H'' h => ?_, ?_⟩
        · obtain ⟨rfl, rfl⟩ := h
          exact ⟨x % y, by rw [em]; exact Nat.mod_lt _ y0, y, x % y, rfl, rfl, rfl, by rw [Nat.gcd_comm, ← Nat.gcd_rec, Nat.gcd_comm]; exact hg⟩
        · exact ⟨_, rfl, _, rfl, _, rfl, _, _, rfl, rfl, md (by omega), _, _, rfl, by rw [Int.natCast_emod]; rfl, rfl⟩
      · have y0 : y = 0 := by
          rcases Nat.eq_zero_or_pos y with z | z
          · exact z
          · refine absurd ?_ e
            simp
            omega
        subst y0
        have gx : x = gm t b := by rw [← hg, Nat.gcd_zero_right]
        exact ⟨_, rfl, by rw [gx]; exact q⟩
def spPart : Sp := fun vs H Q _ => ∃ t b : Int, vs = [.int t, .int b] ∧ b ≠ 0 ∧ b.natAbs < lim2 ∧ ∀ p H', Same H H' → H p = none → H' p = some (.tup [.int (Rat.divInt t b).num, .int (Rat.divInt t b).den]) → Q (.ref p) H'
theorem ok_part (T : Tx K mg) {k : Nat} : FnOk P w K mg base CX0 (k + 2) T.f_part T.d_part ["top", "bottom"] spPart := by
  refine T.F_part.ok sc_part (fun vs H Q E h => ?_) (fun cdv A outer s H vs Q E hr h => ?_)
  · obtain ⟨t, b, rfl, _⟩ := h
    rfl
  · obtain ⟨t, b, rfl, b0, hb, q⟩ := h
    have gp := gm_pos (t := t) b0
    have gl := gm_le (t := t) b0
    refine ⟨_, (pss_cons (ps_set (i := 2) sc_part.nd rfl (.inl rfl) (pe_call (ok_common_measure T (k := k)) hr (by rfl) T.g_common_measure T.F_common_measure.kp T.b_common_measure .nil pass0 (pa_cons (pv 0) (pa_cons (pv 1) pa_nil))))
      (Evl.pss_cut (ps_if (pt_cmpR op_lt (pv 1) pe_int (nomark _)) (pss_one (ps_set (i := 2) sc_part.nd rfl (.inl rfl) (pe_un un_neg (pv 2)))) pss_nil)
      (pss_one (ps_ret (pe_tup (pa_cons (pe_op op_fdivM (pv 0) (pv 2)) (pa_cons (pe_op op_fdivM (pv 1) (pv 2)) pa_nil))))))), ?_⟩
    refine ⟨_, rfl, _, rfl, t, b, rfl, ?_⟩
    refine ⟨fun σ' H' => σ' = [some (.int t), some (.int b), some (.int (if b < 0 then -(gm t b : Int) else (gm t b : Int)))] ∧ H' = H, ?_, fun σ' H' hM => ?_⟩
    · refine ⟨_, rfl, _, _, rfl, rfl, _, rfl, ite2 (fun e => ?_) (fun e => ?_)⟩
      · have e1 : b < 0 := of_decide_eq_true e
        exact ⟨_, rfl, _, rfl, by rw [if_pos e1]; rfl, rfl⟩
      · have e1 : ¬ b < 0 := fun h => e (decide_eq_true h)
        exact ⟨by rw [if_neg e1]; rfl, rfl⟩
    · obtain ⟨rfl, rfl⟩ := hM
      have m0 : (if b < 0 then -(gm t b : Int) else (gm t b : Int)) ≠ 0 := by split <;> omega
      have m1 : (if b < 0 then -(gm t b : Int) else (gm t b : Int)).natAbs < lim2 := by split <;> omega
      refine ⟨_, rfl, _, rfl, _, _, rfl, rfl, lim_divN m0 m1, _, rfl, _, rfl, _, _, rfl, rfl, lim_divN m0 m1, (by show 2 ≤ sizeLine; decide), fun p hp => ?_⟩
      refine q p _ (sm_new hp) hp ?_
      rw [upd_same]
      have ev : ∀ c : Int, c.fdiv (if b < 0 then -(gm t b : Int) else (gm t b : Int)) = (if b < 0 then -c else c) / (gm t b : Int) := fun c => by
        by_cases hb0 : b < 0
        · rw [if_pos hb0, if_pos hb0, fdiv_neg' (by omega)]
        · rw [if_neg hb0, if_neg hb0, Int.fdiv_eq_ediv_of_nonneg _ (by omega)]
      simp only [ev]
      rw [← pn_q b0, ← pd_q b0]
      rfl
/-! ### the law's own fractions -/
def spLPart : Sp := fun vs H Q _ => ∃ t b : Int, vs = [.int t, .int b] ∧ b ≠ 0 ∧ b.natAbs < lim2 ∧ ∀ p H', Same H H' → H p = none → H' p = some (.tup [.int (Rat.divInt t b).num, .int (Rat.divInt t b).den]) → Q (.ref p) H'
theorem ok_l_part (T : Tx K mg) {k : Nat} : FnOk P w K mg base CX0 (k + 1) T.f_l_part T.d_l_part ["_law_top", "_law_bottom"] spLPart := by
  refine T.F_l_part.ok sc_l_part (fun vs H Q E h => ?_) (fun cdv A outer s H vs Q E hr h => ?_)
  · obtain ⟨t, b, rfl, _⟩ := h
    rfl
  · obtain ⟨t, b, rfl, b0, hb, q⟩ := h
    refine ⟨_, (pss_cons (ps_par (i := 2) (j := 3) (by rfl) sc_l_part.nd rfl rfl (by decide) rfl rfl (pa_cons (pe_callB call_abs (by rfl) T.z_abs (by decide +kernel) (pa_cons (pv 0) pa_nil)) (pa_cons (pe_callB call_abs (by rfl) T.z_abs (by decide +kernel) (pa_cons (pv 1) pa_nil)) pa_nil)) (by rfl))
      (pss_cons (ps_while PassesOwn.never (pt_cmpR op_gt (pv 3) pe_int (nomark _)) (pss_one (ps_par (i := 2) (j := 3) (by rfl) sc_l_part.nd rfl rfl (by decide) rfl rfl (pa_cons (pv 3) (pa_cons (pe_op op_mod (pv 2) (pv 3)) pa_nil)) (by rfl))))
      (pss_cons (ps_set (i := 4) sc_l_part.nd rfl (.inl rfl) (pe_op op_sub pe_int (pe_op op_mul pe_int (pe_callTy call_int1 (by rfl) T.z_int (by decide +kernel) (pa_cons (pe_cmpR op_lt (pv 1) pe_int (nomark _)) pa_nil)))))
      (pss_one (ps_ret (pe_tup (pa_cons (pe_op op_fdivW (pe_op op_mul (pv 4) (pv 0)) (pv 2)) (pa_cons (pe_op op_fdivW (pe_op op_mul (pv 4) (pv 1)) (pv 2)) pa_nil)))))))), ?_⟩
    refine ⟨_, rfl, _, rfl, _, rfl, _, rfl, _, _, rfl, ?_⟩
    refine ⟨fun m σ H' => ∃ (x y : Nat) (z : Option V), σ = [some (.int t), some (.int b), some (.int (x : Int)), some (.int (y : Int)), z] ∧ H' = H ∧ m = y ∧ Nat.gcd x y = gm t b, ⟨b.natAbs, t.natAbs, b.natAbs, none, ?_, rfl, rfl, rfl⟩, fun m σ H' h => ?_⟩
    · have e1 : (if t < 0 then -t else t) = (t.natAbs : Int) := by split <;> omega
      have e2 : (if b < 0 then -b else b) = (b.natAbs : Int) := by split <;> omega
      rw [← e1, ← e2]
      rfl
    · obtain ⟨x, y, z, rfl, rfl, em, hg⟩ := h
      refine ⟨_, rfl, _, _, rfl, rfl, _, rfl, ite2 (fun e => ?_) (fun e => ?_)⟩
      · have y0 : 0 < y := by
          have : (0 : Int) < (y : Int) := of_decide_eq_true e
          omega
        refine ⟨fun σ' H'' => ∃ z, σ' = [some (.int t), some (.int b), some (.int (y : Int)), some (.int ((x % y : Nat) : Int)), z] ∧ H'' = H', fun σ' H'' h => ?_, ?_⟩
        · obtain ⟨z', rfl, rfl⟩ := h
          exact ⟨x % y, by rw [em]; exact Nat.mod_lt _ y0, y, x % y, z', rfl, rfl, rfl, by rw [Nat.gcd_comm, ← Nat.gcd_rec, Nat.gcd_comm]; exact hg⟩
        · exact ⟨_, rfl, _, rfl, _, rfl, _, _, rfl, rfl, md (by omega), _, _, rfl, z, by rw [Int.natCast_emod]; rfl, rfl⟩
      · have y0 : y = 0 := by
          have : ¬ (0 : Int) < (y : Int) := fun h => e (decide_eq_true h)
          omega
        subst y0
        have gx : x = gm t b := by rw [← hg, Nat.gcd_zero_right]
        have gp := gm_pos (t := t) b0
        have gl := gm_le (t := t) b0
        refine ⟨_, rfl, _, _, rfl, rfl, .inr ⟨_, rfl, _, _, rfl, rfl, .inl ⟨by decide, by decide⟩, _, _, rfl, rfl, ?_⟩⟩
        have sg : ∀ c : Int, (1 - 2 * (if decide (b < 0) = true then 1 else 0)) * c = if b < 0 then -c else c := fun c => by
          by_cases hb0 : b < 0
          · rw [if_pos (decide_eq_true hb0), if_pos hb0]; omega
          · rw [if_neg (fun h => hb0 (of_decide_eq_true h)), if_neg hb0]; omega
        have sb : (-(2 ^ 64) : Int) < (1 - 2 * (if decide (b < 0) = true then 1 else 0)) ∧ (1 - 2 * (if decide (b < 0) = true then 1 else 0) : Int) < 2 ^ 64 := by split <;> decide
        refine ⟨_, rfl, _, rfl, _, _, rfl, rfl, .inl sb, _, rfl, _, _, rfl, rfl, lim_div (by omega) (by omega), _, rfl, _, rfl, _, _, rfl, rfl, .inl sb, _, rfl, _, _, rfl, rfl, lim_div (by omega) (by omega), (by show 2 ≤ sizeLine; decide), fun p hp => ?_⟩
        refine q p _ (sm_new hp) hp ?_
        rw [upd_same, ← pn_q b0, ← pd_q b0]
        unfold pn pd
        rw [← gx]
        simp only [sg]
/-! ### two fractions, as numbers -/
def spTwoQ (f : Rat → Rat → Rat) : Sp := fun vs H Q _ => ∃ (B : List Addr) (x y : V) (p r : Rat), vs = [x, y] ∧ Dt B H x (enc (qp p)) ∧ Dt B H y (enc (qp r)) ∧ Qb p ∧ Qb r ∧
  ∀ a H', Same H H' → H a = none → H' a = some (.tup [.int (f p r).num, .int (f p r).den]) → Q (.ref a) H'
theorem nb {n : Nat} (h : n < lim) : ((n : Int)).natAbs < lim2 := Nat.lt_of_lt_of_le h lim_le
theorem ib {i : Int} (h : i.natAbs < lim) : i.natAbs < lim2 := Nat.lt_of_lt_of_le h lim_le
theorem dd0 (p r : Rat) : (p.den : Int) * (r.den : Int) ≠ 0 := by
  have h1 := p.den_nz
  have h2 := r.den_nz
  rw [← Int.natCast_mul]
  have := Nat.mul_pos (Nat.pos_of_ne_zero h1) (Nat.pos_of_ne_zero h2)
  omega
theorem ddl {p r : Rat} (h1 : Qb p) (h2 : Qb r) : ((p.den : Int) * (r.den : Int)).natAbs < lim2 := by
  rw [← Int.natCast_mul]
  exact mul_lim h1.1 h2.1
def spLessQ : Sp := fun vs H Q _ => ∃ (B : List Addr) (x y : V) (p r : Rat), vs = [x, y] ∧ Dt B H x (enc (qp p)) ∧ Dt B H y (enc (qp r)) ∧ Qb p ∧ Qb r ∧ Q (.bl (decide (p < r))) H
theorem ok_plus (T : Tx K mg) {k : Nat} : FnOk P w K mg base CX0 (k + 3) T.f_plus T.d_plus ["one", "other"] (spTwoQ (· + ·)) := by
  refine T.F_plus.ok sc_plus (fun vs H Q E h => ?_) (fun cdv A outer s H vs Q E hr h => ?_)
  · obtain ⟨B, x, y, p, r, rfl, _⟩ := h
    rfl
  · obtain ⟨B, x, y, p, r, rfl, hx, hy, op, or', q⟩ := h
    obtain ⟨pa, rfl, _, ea⟩ := hx.col
    obtain ⟨pb, rfl, _, eb⟩ := hy.col
    obtain ⟨o1, o2⟩ := id op
    obtain ⟨r1, r2⟩ := id or'
    refine ⟨_, (pss_one (ps_ret (pe_call (ok_part T (k := k)) hr (by rfl) T.g_part T.F_part.kp T.b_part .nil pass0 (pa_cons (pe_op op_add (pe_op op_mulW (pe_ix (ix_tupK K) (pv 0) pe_int (fun _ _ => rfl)) (pe_ix (ix_tupK K) (pv 1) pe_int (fun _ _ => rfl))) (pe_op op_mulW (pe_ix (ix_tupK K) (pv 1) pe_int (fun _ _ => rfl)) (pe_ix (ix_tupK K) (pv 0) pe_int (fun _ _ => rfl)))) (pa_cons (pe_op op_mulW (pe_ix (ix_tupK K) (pv 0) pe_int (fun _ _ => rfl)) (pe_ix (ix_tupK K) (pv 1) pe_int (fun _ _ => rfl))) pa_nil))))), ?_⟩
    exact ⟨_, rfl, pa, _, 0, .int p.num, rfl, rfl, SqT.of ea, rfl, _, rfl, pb, _, 1, .int r.den, rfl, rfl, SqT.of eb, rfl, _, _, rfl, rfl, lim_mul (ib o2) (nb r1),
      _, rfl, pb, _, 0, .int r.num, rfl, rfl, SqT.of eb, rfl, _, rfl, pa, _, 1, .int p.den, rfl, rfl, SqT.of ea, rfl, _, _, rfl, rfl, lim_mul (ib r2) (nb o1), _, _, rfl, rfl,
      _, rfl, pa, _, 1, .int p.den, rfl, rfl, SqT.of ea, rfl, _, rfl, pb, _, 1, .int r.den, rfl, rfl, SqT.of eb, rfl, _, _, rfl, rfl, lim_mul (nb o1) (nb r1), _, _, rfl, dd0 p r, ddl op or', fun a H' s' h' e' => q a H' s' h' (by rw [add_q] at e'; exact e')⟩
theorem ok_times (T : Tx K mg) {k : Nat} : FnOk P w K mg base CX0 (k + 3) T.f_times T.d_times ["one", "other"] (spTwoQ (· * ·)) := by
  refine T.F_times.ok sc_times (fun vs H Q E h => ?_) (fun cdv A outer s H vs Q E hr h => ?_)
  · obtain ⟨B, x, y, p, r, rfl, _⟩ := h
    rfl
  · obtain ⟨B, x, y, p, r, rfl, hx, hy, op, or', q⟩ := h
    obtain ⟨pa, rfl, _, ea⟩ := hx.col
    obtain ⟨pb, rfl, _, eb⟩ := hy.col
    obtain ⟨o1, o2⟩ := id op
    obtain ⟨r1, r2⟩ := id or'
    refine ⟨_, (pss_one (ps_ret (pe_call (ok_part T (k := k)) hr (by rfl) T.g_part T.F_part.kp T.b_part .nil pass0 (pa_cons (pe_op op_mulW (pe_ix (ix_tupK K) (pv 0) pe_int (fun _ _ => rfl)) (pe_ix (ix_tupK K) (pv 1) pe_int (fun _ _ => rfl))) (pa_cons (pe_op op_mulW (pe_ix (ix_tupK K) (pv 0) pe_int (fun _ _ => rfl)) (pe_ix (ix_tupK K) (pv 1) pe_int (fun _ _ => rfl))) pa_nil))))), ?_⟩
    exact ⟨_, rfl, pa, _, 0, .int p.num, rfl, rfl, SqT.of ea, rfl, _, rfl, pb, _, 0, .int r.num, rfl, rfl, SqT.of eb, rfl, _, _, rfl, rfl, lim_mul (ib o2) (ib r2),
      _, rfl, pa, _, 1, .int p.den, rfl, rfl, SqT.of ea, rfl, _, rfl, pb, _, 1, .int r.den, rfl, rfl, SqT.of eb, rfl, _, _, rfl, rfl, lim_mul (nb o1) (nb r1), _, _, rfl, dd0 p r, ddl op or', fun a H' s' h' e' => q a H' s' h' (by rw [mul_q] at e'; exact e')⟩
theorem ok_before (T : Tx K mg) {k : Nat} : FnOk P w K mg base CX0 (k + 1) T.f_before T.d_before ["one", "other"] spLessQ := by
  refine T.F_before.ok sc_before (fun vs H Q E h => ?_) (fun cdv A outer s H vs Q E hr h => ?_)
  · obtain ⟨B, x, y, p, r, rfl, _⟩ := h
    rfl
  · obtain ⟨B, x, y, p, r, rfl, hx, hy, op, or', q⟩ := h
    obtain ⟨pa, rfl, _, ea⟩ := hx.col
    obtain ⟨pb, rfl, _, eb⟩ := hy.col
    obtain ⟨o1, o2⟩ := id op
    obtain ⟨r1, r2⟩ := id or'
    refine ⟨_, (pss_one (ps_ret (pe_cmpR op_lt (pe_op op_mulW (pe_ix (ix_tupK K) (pv 0) pe_int (fun _ _ => rfl)) (pe_ix (ix_tupK K) (pv 1) pe_int (fun _ _ => rfl))) (pe_op op_mulW (pe_ix (ix_tupK K) (pv 1) pe_int (fun _ _ => rfl)) (pe_ix (ix_tupK K) (pv 0) pe_int (fun _ _ => rfl))) (nomark _)))), ?_⟩
    exact ⟨_, rfl, pa, _, 0, .int p.num, rfl, rfl, SqT.of ea, rfl, _, rfl, pb, _, 1, .int r.den, rfl, rfl, SqT.of eb, rfl, _, _, rfl, rfl, lim_mul (ib o2) (nb r1),
      _, rfl, pb, _, 0, .int r.num, rfl, rfl, SqT.of eb, rfl, _, rfl, pa, _, 1, .int p.den, rfl, rfl, SqT.of ea, rfl, _, _, rfl, rfl, lim_mul (ib r2) (nb o1), _, _, rfl, rfl, by show Q (.bl (decide (p.num * (r.den : Int) < r.num * (p.den : Int)))) H; rw [lt_q]; exact q⟩
theorem ok_l_plus (T : Tx K mg) {k : Nat} : FnOk P w K mg base CX0 (k + 2) T.f_l_plus T.d_l_plus ["_law_one", "_law_other"] (spTwoQ (· + ·)) := by
  refine T.F_l_plus.ok sc_l_plus (fun vs H Q E h => ?_) (fun cdv A outer s H vs Q E hr h => ?_)
  · obtain ⟨B, x, y, p, r, rfl, _⟩ := h
    rfl
  · obtain ⟨B, x, y, p, r, rfl, hx, hy, op, or', q⟩ := h
    obtain ⟨pa, rfl, _, ea⟩ := hx.col
    obtain ⟨pb, rfl, _, eb⟩ := hy.col
    obtain ⟨o1, o2⟩ := id op
    obtain ⟨r1, r2⟩ := id or'
    refine ⟨_, (pss_one (ps_ret (pe_call (ok_l_part T (k := k)) hr (by rfl) T.g_l_part T.F_l_part.kp T.b_l_part .nil pass0 (pa_cons (pe_op op_add (pe_op op_mulW (pe_ix (ix_tupK K) (pv 0) pe_int (fun _ _ => rfl)) (pe_ix (ix_tupK K) (pv 1) pe_int (fun _ _ => rfl))) (pe_op op_mulW (pe_ix (ix_tupK K) (pv 1) pe_int (fun _ _ => rfl)) (pe_ix (ix_tupK K) (pv 0) pe_int (fun _ _ => rfl)))) (pa_cons (pe_op op_mulW (pe_ix (ix_tupK K) (pv 0) pe_int (fun _ _ => rfl)) (pe_ix (ix_tupK K) (pv 1) pe_int (fun _ _ => rfl))) pa_nil))))), ?_⟩
    exact ⟨_, rfl, pa, _, 0, .int p.num, rfl, rfl, SqT.of ea, rfl, _, rfl, pb, _, 1, .int r.den, rfl, rfl, SqT.of eb, rfl, _, _, rfl, rfl, lim_mul (ib o2) (nb r1),
      _, rfl, pb, _, 0, .int r.num, rfl, rfl, SqT.of eb, rfl, _, rfl, pa, _, 1, .int p.den, rfl, rfl, SqT.of ea, rfl, _, _, rfl, rfl, lim_mul (ib r2) (nb o1), _, _, rfl, rfl,
      _, rfl, pa, _, 1, .int p.den, rfl, rfl, SqT.of ea, rfl, _, rfl, pb, _, 1, .int r.den, rfl, rfl, SqT.of eb, rfl, _, _, rfl, rfl, lim_mul (nb o1) (nb r1), _, _, rfl, dd0 p r, ddl op or', fun a H' s' h' e' => q a H' s' h' (by rw [add_q] at e'; exact e')⟩
theorem ok_l_less (T : Tx K mg) {k : Nat} : FnOk P w K mg base CX0 (k + 1) T.f_l_less T.d_l_less ["_law_one", "_law_other"] spLessQ := by
  refine T.F_l_less.ok sc_l_less (fun vs H Q E h => ?_) (fun cdv A outer s H vs Q E hr h => ?_)
  · obtain ⟨B, x, y, p, r, rfl, _⟩ := h
    rfl
  · obtain ⟨B, x, y, p, r, rfl, hx, hy, op, or', q⟩ := h
    obtain ⟨pa, rfl, _, ea⟩ := hx.col
    obtain ⟨pb, rfl, _, eb⟩ := hy.col
    obtain ⟨o1, o2⟩ := id op
    obtain ⟨r1, r2⟩ := id or'
    refine ⟨_, (pss_one (ps_ret (pe_cmpR op_lt (pe_op op_mulW (pe_ix (ix_tupK K) (pv 0) pe_int (fun _ _ => rfl)) (pe_ix (ix_tupK K) (pv 1) pe_int (fun _ _ => rfl))) (pe_op op_mulW (pe_ix (ix_tupK K) (pv 1) pe_int (fun _ _ => rfl)) (pe_ix (ix_tupK K) (pv 0) pe_int (fun _ _ => rfl))) (nomark _)))), ?_⟩
    exact ⟨_, rfl, pa, _, 0, .int p.num, rfl, rfl, SqT.of ea, rfl, _, rfl, pb, _, 1, .int r.den, rfl, rfl, SqT.of eb, rfl, _, _, rfl, rfl, lim_mul (ib o2) (nb r1),
      _, rfl, pb, _, 0, .int r.num, rfl, rfl, SqT.of eb, rfl, _, rfl, pa, _, 1, .int p.den, rfl, rfl, SqT.of ea, rfl, _, _, rfl, rfl, lim_mul (ib r2) (nb o1), _, _, rfl, rfl, by show Q (.bl (decide (p.num * (r.den : Int) < r.num * (p.den : Int)))) H; rw [lt_q]; exact q⟩
/-! ### how far from a middle: what the numbers stay below -/
def eM (fs : List (Int × Int)) : PyData := .tuple (fs.map enc)
def eMq (m : List Rat) : PyData := eM (m.map qp)
theorem gap_q (n : Int) (z : Rat) : Rat.divInt (n * z.den - z.num) z.den = (n : Rat) - z := by
  have h1 : (z.den : Int) ≠ 0 := by have := z.den_nz; omega
  have e : (n : Rat) = Rat.divInt (n * z.den) z.den := by
    have : Rat.divInt (n * z.den) (1 * z.den) = Rat.divInt n 1 := Rat.divInt_mul_right h1
    rw [Int.one_mul] at this
    rw [this, ← Rat.num_divInt_den (n : Rat)]
    rfl
  have e2 := Rat.divInt_sub_divInt (n * z.den) z.num h1 h1
  rw [← e, qq] at e2
  rw [e2, ← Int.sub_mul, Rat.divInt_mul_right h1]
structure FarOk (c : List Int) (m : List Rat) (M A : Nat) : Prop where
  l : m.length = c.length
  l2 : c.length ≤ 100
  c : cIn (-100000000) 100000000 c
  M0 : 0 < M
  M1 : M < 2 ^ 200
  A1 : A < 2 ^ 200
  m : ∀ z ∈ m, Fr M A z
theorem fb1 {M : Nat} (h : M < 2 ^ 200) : M * M < lim := Nat.lt_of_lt_of_le (Nat.mul_lt_mul'' h h) (by decide +kernel)
theorem fb2 {M A : Nat} (h : M < 2 ^ 200) (h2 : A < 2 ^ 200) : 100000000 * M + A < 2 ^ 228 := by omega
theorem fb3 {M A : Nat} (h : M < 2 ^ 200) (h2 : A < 2 ^ 200) : (100000000 * M + A) * (100000000 * M + A) < 2 ^ 456 := Nat.lt_of_lt_of_le (Nat.mul_lt_mul'' (fb2 h h2) (fb2 h h2)) (by decide +kernel)
theorem fb4 {M A i : Nat} (h : M < 2 ^ 200) (h2 : A < 2 ^ 200) (hi : i ≤ 100) : i * ((100000000 * M + A) * (100000000 * M + A)) < lim := Nat.lt_of_le_of_lt (Nat.mul_le_mul hi (Nat.le_of_lt (fb3 h h2))) (by decide +kernel)
theorem FarOk.cb {c : List Int} {m : List Rat} {M A : Nat} (o : FarOk c m M A) (i : Nat) : (c.getD i 0).natAbs ≤ 100000000 := by
  rw [List.getD_eq_getElem?_getD]
  cases e : c[i]? with
  | none => exact Nat.zero_le _
  | some x =>
    have := o.c x (List.mem_of_getElem? e)
    show x.natAbs ≤ 100000000
    omega
theorem FarOk.far {c : List Int} {m : List Rat} {M A : Nat} (o : FarOk c m M A) (i : Nat) : Fr (M * M) (i * ((100000000 * M + A) * (100000000 * M + A))) (farN c m i) := farN_fr o.M0 o.cb o.m i
theorem FarOk.qb {c : List Int} {m : List Rat} {M A : Nat} (o : FarOk c m M A) {i : Nat} (hi : i ≤ 100) : Qb (farN c m i) := (o.far i).qb (Nat.mul_pos o.M0 o.M0) (fb1 o.M1) (fb4 o.M1 o.A1 hi)
theorem FarOk.gap {c : List Int} {m : List Rat} {M A : Nat} (o : FarOk c m M A) {i : Nat} {n : Int} (hn : n.natAbs ≤ 100000000) {z : Rat} (hz : z ∈ m) : Fr M (100000000 * M + A) ((n : Rat) - z) := (Fr.int o.M0 hn).sub o.M0 (o.m z hz)
theorem FarOk.gapb {c : List Int} {m : List Rat} {M A : Nat} (o : FarOk c m M A) {n : Int} (hn : n.natAbs ≤ 100000000) {z : Rat} (hz : z ∈ m) : Qb ((n : Rat) - z) ∧ Qb (((n : Rat) - z) * ((n : Rat) - z)) := by
  have g := o.gap (i := 0) hn hz
  refine ⟨g.qb o.M0 (Nat.lt_of_lt_of_le o.M1 (by decide +kernel)) (Nat.lt_of_lt_of_le (fb2 o.M1 o.A1) (by decide +kernel)), (g.mul g).qb (Nat.mul_pos o.M0 o.M0) (fb1 o.M1) (Nat.lt_of_lt_of_le (fb3 o.M1 o.A1) (by decide +kernel))⟩
theorem FarOk.denb {c : List Int} {m : List Rat} {M A : Nat} (o : FarOk c m M A) {z : Rat} (hz : z ∈ m) : ((z.den : Int)).natAbs < lim2 := Nat.lt_of_le_of_lt ((o.m z hz).den o.M0) (Nat.lt_of_lt_of_le o.M1 (by decide +kernel))
theorem dtM {B : List Addr} {H : Hp} {vs : List V} {m : List Rat} (h : DtA B H vs ((m.map qp).map enc)) {i : Nat} {v : V} (hv : vs[i]? = some v) : ∃ z a, m[i]? = some z ∧ v = .ref a ∧ a ∉ B ∧ H a = some (.tup [.int z.num, .int z.den]) := by
  obtain ⟨d, f, g⟩ := h.getV hv
  rw [List.map_map, List.getElem?_map] at f
  cases e : m[i]? with
  | none => rw [e] at f; cases f
  | some z =>
    rw [e] at f
    have ed : d = enc (qp z) := (Option.some.inj f).symm
    subst ed
    obtain ⟨a, rfl, na, ea⟩ := g.col
    exact ⟨z, a, rfl, rfl, na, ea⟩
def spFar : Sp := fun vs H Q _ => ∃ (B1 B2 B : List Addr) (x y : V) (c : List Int) (m : List Rat) (M A : Nat), vs = [x, y] ∧ Dt B1 H x (eC c) ∧ Dt B2 H y (eMq m) ∧ Bk B H ∧ FarOk c m M A ∧ ∀ v' H', Same H H' → Dt B H' v' (enc (qp (farN c m c.length))) → Q v' H'
theorem farN_step {c : List Int} {m : List Rat} {i : Nat} {n : Int} {z : Rat} (h1 : c[i]? = some n) (h2 : m[i]? = some z) : farN c m (i + 1) = farN c m i + ((n : Rat) - z) * ((n : Rat) - z) := by
  rw [farN, List.getD_eq_getElem?_getD, List.getD_eq_getElem?_getD, h1, h2]
  rfl
theorem ok_far_of (T : Tx K mg) {k : Nat} : FnOk P w K mg base CX0 (k + 4) T.f_far_of T.d_far_of ["colour", "middle"] spFar := by
  refine T.F_far_of.ok sc_far_of (fun vs H Q E h => ?_) (fun cdv A outer s H vs Q E hr h => ?_)
  · obtain ⟨B1, B2, B, x, y, c, m, M, A', rfl, _⟩ := h
    rfl
  · obtain ⟨B1, B2, B, x, y, c, m, M, A', rfl, hx, hy, hB, o, q⟩ := h
    obtain ⟨ca, rfl, nca, ec⟩ := hx.col
    obtain ⟨ma, mvs, rfl, nma, em, hA⟩ := hy.tupI
    have lm := hA.len
    simp only [List.length_map] at lm
    have ol := o.l
    have ol2 := o.l2
    refine ⟨_, (pss_cons (ps_set (i := 2) sc_far_of.nd rfl (.inl rfl) (pe_tup (pa_cons pe_int (pa_cons pe_int pa_nil))))
      (pss_cons (ps_for PassesOwn.never rfl (RZ.pi_zipA (by rfl) T.z_zip (pa_cons (pv 0) (pa_cons (pv 1) pa_nil))) (pg_tupK K (n := 2) rfl (pgs_cons (pg_name (i := 3) sc_far_of.nd rfl (.inl rfl)) (pgs_cons (pg_tupK K (n := 2) rfl (pgs_cons (pg_name (i := 4) sc_far_of.nd rfl (.inl rfl)) (pgs_cons (pg_name (i := 5) sc_far_of.nd rfl (.inl rfl)) pgs_nil))) pgs_nil))) (pss_cons (ps_set (i := 6) sc_far_of.nd rfl (.inl rfl) (pe_call (ok_part T (k := k + 1)) hr (by rfl) T.g_part T.F_part.kp T.b_part .nil pass0 (pa_cons (pe_op op_sub (pe_op op_mul (pv 3) (pv 5)) (pv 4)) (pa_cons (pv 5) pa_nil))))
      (pss_one (ps_set (i := 2) sc_far_of.nd rfl (.inl rfl) (pe_call (ok_plus T (k := k)) hr (by rfl) T.g_plus T.F_plus.kp T.b_plus .nil pass0 (pa_cons (pv 2) (pa_cons (pe_call (ok_times T (k := k)) hr (by rfl) T.g_times T.F_times.kp T.b_times .nil pass0 (pa_cons (pv 6) (pa_cons (pv 6) pa_nil))) pa_nil)))))))
      (pss_one (ps_ret (pv 2))))), ?_⟩
    refine ⟨(by show 2 ≤ sizeLine; decide), fun s0 hs0 => ?_⟩
    have t0 := sm_new (o := .tup [.int 0, .int 1]) hs0
    refine ⟨_, rfl, _, rfl, ca, ma, _, _, rfl, .inr ⟨SqT.of (t0 _ _ ec), SqT.of (t0 _ _ em), ?_⟩⟩
    refine for_it (walk_zipT (n := c.length) (xs := c.map V.int) (ys := mvs) (by simp; omega)) (fun i σ H' => ∃ y3 y4 y5 y6 sv, σ = [some (.ref ca), some (.ref ma), some sv, y3, y4, y5, y6] ∧ Same H H' ∧ Dt B H' sv (enc (qp (farN c m i))))
      ⟨_, _, _, _, _, rfl, t0, Dt.ofCol (hB.ne hs0) upd_same⟩ (fun i σ H' _ h => ?_) (fun i x σ H1 H2 hi' h1 y => ?_) (fun σ H1 h1 => ?_)
    · obtain ⟨y3, y4, y5, y6, sv, rfl, s1, d1⟩ := h
      exact ⟨SqT.of (s1 _ _ ec), SqT.of (s1 _ _ em)⟩
    · obtain ⟨y3, y4, y5, y6, sv, rfl, s1, d1⟩ := h1
      obtain ⟨t, x, y, rfl, ht, rfl, f1, f2⟩ := y
      have x1 := mat hi' f1
      subst x1
      obtain ⟨z, za, hz, rfl, nz, ez⟩ := dtM hA f2
      have mz := List.mem_of_getElem? hz
      have s2 := s1.trans (sm_new (o := .tup [.int c[i], .ref za]) ht)
      have hn : (c[i]).natAbs ≤ 100000000 := by have := o.c _ (List.getElem_mem hi'); omega
      have d2 := d1.s (sm_new (o := .tup [.int c[i], .ref za]) ht)
      refine ⟨t, _, rfl, SqT.of upd_same, rfl, _, _, rfl, _, _, rfl, za, _, rfl, SqT.of (s2 _ _ ez), rfl, _, _, rfl, _, _, rfl, rfl, rfl, ?_⟩
      generalize upd H1 t (.tup [.int c[i], .ref za]) = H2 at *
      have dn : (z.den : Int) ≠ 0 := by have := z.den_nz; omega
      refine ⟨_, rfl, _, rfl, _, _, rfl, rfl, .inl ⟨by omega, by omega⟩, _, rfl, _, _, rfl, rfl, _, rfl, _, _, rfl, dn, o.denb mz, fun p3 H3 s3 hp3 e3 => ?_⟩
      rw [gap_q] at e3
      have B2 : Bk B H2 := hB.go (Go.of (B := B) s2)
      have B3 : Bk B H3 := B2.go (Go.of (B := B) s3)
      have d3 : Dt B H3 (.ref p3) (enc (qp ((c[i] : Rat) - z))) := Dt.ofCol (B2.ne hp3) e3
      have gb := o.gapb hn mz
      refine ⟨_, rfl, _, rfl, _, rfl, B, .ref p3, .ref p3, _, _, rfl, d3, d3, gb.1, gb.1, fun p4 H4 s4 hp4 e4 => ?_⟩
      have d4 : Dt B H4 (.ref p4) (enc (qp (((c[i] : Rat) - z) * ((c[i] : Rat) - z)))) := Dt.ofCol (B3.ne hp4) e4
      refine ⟨B, sv, .ref p4, _, _, rfl, (d2.s s3).s s4, d4, o.qb (by omega), gb.2, fun p5 H5 s5 hp5 e5 => ?_⟩
      refine ⟨_, _, _, _, _, rfl, ((s2.trans s3).trans s4).trans s5, ?_⟩
      rw [farN_step (List.getElem?_eq_getElem hi') hz]
      exact Dt.ofCol ((B3.go (Go.of (B := B) s4)).ne hp5) e5
    · obtain ⟨y3, y4, y5, y6, sv, rfl, s1, d1⟩ := h1
      exact ⟨_, rfl, q _ _ s1 d1⟩
/-! ### the nearest middle -/
def eMs (ms : List (List Rat)) : PyData := .list (ms.map eMq)
def farI (c : List Int) (ms : List (List Rat)) (i : Nat) : Rat := farN c (ms.getD i []) c.length
def spNearM : Sp := fun vs H Q _ => ∃ (B1 B2 : List Addr) (x y : V) (ms : List (List Rat)) (c : List Int), vs = [x, y] ∧ Dt B1 H x (eMs ms) ∧ Dt B2 H y (eC c) ∧ 0 < ms.length ∧ ms.length ≤ 1000 ∧ (∀ m ∈ ms, ∃ M A, FarOk c m M A) ∧ ∀ H', Same H H' → Q (.int (argF (farI c ms) ms.length : Nat)) H'
theorem dtMs {B : List Addr} {H : Hp} {vs : List V} {ms : List (List Rat)} (h : DtA B H vs (ms.map eMq)) {i : Nat} {v : V} (hv : vs[i]? = some v) : ∃ m, ms[i]? = some m ∧ Dt B H v (eMq m) := by
  obtain ⟨d, f, g⟩ := h.getV hv
  rw [List.getElem?_map] at f
  cases e : ms[i]? with
  | none => rw [e] at f; cases f
  | some m =>
    rw [e] at f
    have ed : d = eMq m := (Option.some.inj f).symm
    subst ed
    exact ⟨m, rfl, g⟩
theorem farI_at {c : List Int} {ms : List (List Rat)} {i : Nat} {m : List Rat} (h : ms[i]? = some m) : farI c ms i = farN c m c.length := by
  unfold farI
  rw [List.getD_eq_getElem?_getD, h]
  rfl
theorem farI_qb {c : List Int} {ms : List (List Rat)} {i : Nat} (o : ∀ m ∈ ms, ∃ M A, FarOk c m M A) (h : i < ms.length) : Qb (farI c ms i) := by
  rw [farI_at (List.getElem?_eq_getElem h)]
  obtain ⟨M, A, this⟩ := o _ (List.getElem_mem h)
  exact this.qb this.l2
theorem argF_zero (f : Nat → Rat) : argF f 1 = 0 := by
  show (if f 0 < f 0 then 0 else 0) = 0
  split <;> rfl
theorem bk0 {H : Hp} : Bk [] H := fun _ h => nomatch h
theorem ok_nearest_middle (T : Tx K mg) {k : Nat} : FnOk P w K mg base CX0 (k + 5) T.f_nearest_middle T.d_nearest_middle ["middles", "colour"] spNearM := by
  refine T.F_nearest_middle.ok sc_nearest_middle (fun vs H Q E h => ?_) (fun cdv A outer s H vs Q E hr h => ?_)
  · obtain ⟨B1, B2, x, y, ms, c, rfl, _⟩ := h
    rfl
  · obtain ⟨B1, B2, x, y, ms, c, rfl, hx, hy, m0, m1, o, q⟩ := h
    obtain ⟨la, vs, rfl, nla, el, hA⟩ := hx.lstI
    have lm := hA.len
    rw [List.length_map] at lm
    have i0 : 0 < vs.length := by omega
    obtain ⟨mm0, f0, d0⟩ := dtMs hA (List.getElem?_eq_getElem i0)
    obtain ⟨M0, A0, o0⟩ := o _ (List.mem_of_getElem? f0)
    refine ⟨_, (pss_cons (ps_set (i := 2) sc_nearest_middle.nd rfl (.inl rfl) pe_int)
      (pss_cons (ps_set (i := 3) sc_nearest_middle.nd rfl (.inl rfl) (pe_call (ok_far_of T (k := k)) hr (by rfl) T.g_far_of T.F_far_of.kp T.b_far_of .nil pass0 (pa_cons (pv 1) (pa_cons (pe_ix (ix_listK K) (pv 0) pe_int (fun _ _ => rfl)) pa_nil))))
      (pss_cons (ps_for PassesOwn.never rfl (pi_enum (by rfl) T.z_enumerate (pa_cons (pv 0) pa_nil)) (pg_tupK K (n := 2) rfl (pgs_cons (pg_name (i := 4) sc_nearest_middle.nd rfl (.inl rfl)) (pgs_cons (pg_name (i := 5) sc_nearest_middle.nd rfl (.inl rfl)) pgs_nil))) (pss_cons (ps_set (i := 6) sc_nearest_middle.nd rfl (.inl rfl) (pe_call (ok_far_of T (k := k)) hr (by rfl) T.g_far_of T.F_far_of.kp T.b_far_of .nil pass0 (pa_cons (pv 1) (pa_cons (pv 5) pa_nil))))
      (pss_one (ps_if (pt_val (pe_call (ok_before T (k := k + 3)) hr (by rfl) T.g_before T.F_before.kp T.b_before .nil pass0 (pa_cons (pv 6) (pa_cons (pv 3) pa_nil)))) (pss_one (ps_par (i := 2) (j := 3) (by rfl) sc_nearest_middle.nd rfl rfl (by decide) rfl rfl (pa_cons (pv 4) (pa_cons (pv 6) pa_nil)) (by rfl))) pss_nil))))
      (pss_one (ps_ret (pv 2)))))), ?_⟩
    refine ⟨_, rfl, _, rfl, la, _, 0, vs[0], rfl, rfl, SqL.of el, atI_nat (j := 0) (List.getElem?_eq_getElem i0), B2, B1, [], y, _, c, mm0, M0, A0, rfl, hy, d0, bk0, o0, fun v1 H1 s1 d1 => ?_⟩
    rw [← farI_at (ms := ms) f0] at d1
    refine ⟨_, rfl, la, _, rfl, SqL.of (s1 _ _ el), ?_⟩
    refine for_it (walk_enum (xs := vs)) (fun i σ H' => ∃ (j : Nat) (sv : V) (y4 y5 y6 : Option V), σ = [some (.ref la), some y, some (.int (j : Int)), some sv, y4, y5, y6] ∧ j = argF (farI c ms) i ∧ Same H H' ∧ Dt [] H' sv (enc (qp (farI c ms j))))
      ⟨0, _, _, _, _, rfl, rfl, s1, d1⟩ (fun i σ H' _ h => ?_) (fun i x σ H2 H3 hi' h2 y2 => ?_) (fun σ H2 h2 => ?_)
    · obtain ⟨j, sv, y4, y5, y6, rfl, ej, s2, d2⟩ := h
      exact SqL.of (s2 _ _ el)
    · obtain ⟨j, sv, y4, y5, y6, rfl, ej, s2, d2⟩ := h2
      obtain ⟨t, x, z, rfl, ht, rfl, e1, e2⟩ := y2
      have ex : V.int i = x := Option.some.inj e1
      subst ex
      obtain ⟨m, fm, dm⟩ := dtMs hA e2
      obtain ⟨M', A', om⟩ := o _ (List.mem_of_getElem? fm)
      have s3 := s2.trans (sm_new (o := .tup [.int i, z]) ht)
      have d3 := d2.s (sm_new (o := .tup [.int i, z]) ht)
      refine ⟨t, _, rfl, SqT.of upd_same, rfl, _, _, rfl, _, _, rfl, rfl, ?_⟩
      generalize upd H2 t (.tup [.int i, z]) = H3 at *
      refine ⟨_, rfl, _, rfl, B2, B1, [], y, z, c, m, M', A', rfl, hy.s s3, dm.s s3, bk0, om, fun v4 H4 s4 d4 => ?_⟩
      rw [← farI_at (ms := ms) fm] at d4
      have hi2 : i < ms.length := by omega
      have ha : j < ms.length := by
        rcases Nat.eq_zero_or_pos i with e | e
        · subst e; rw [ej]; exact m0
        · have := argF_lt (farI c ms) i e; omega
      refine ⟨_, rfl, _, rfl, [], v4, sv, _, _, rfl, d4, d3.s s4, farI_qb o hi2, farI_qb o ha, _, rfl, ite2 (fun e => ?_) (fun e => ?_)⟩
      · have e' := of_decide_eq_true e
        refine ⟨_, rfl, _, rfl, _, _, rfl, ?_⟩
        exact ⟨i, v4, _, _, _, rfl, by rw [argF, ← ej, if_pos e'], s3.trans s4, d4⟩
      · have e' : ¬ farI c ms i < farI c ms j := fun h => e (decide_eq_true h)
        exact ⟨j, sv, _, _, _, rfl, by rw [argF, ← ej, if_neg e'], s3.trans s4, d3.s s4⟩
    · obtain ⟨j, sv, y4, y5, y6, rfl, ej, s2, d2⟩ := h2
      refine ⟨_, rfl, ?_⟩
      rw [ej, lm]
      exact q _ s2
/-! ### the law's own way -/
theorem sq_q (n : Int) (z : Rat) : Rat.divInt ((z.num - n * z.den) * (z.num - n * z.den)) (z.den * z.den) = ((n : Rat) - z) * ((n : Rat) - z) := by
  rw [← Rat.divInt_mul_divInt, ← gap_q]
  have e : ∀ x y : Int, Rat.divInt (x - y) z.den = -Rat.divInt (y - x) z.den := fun x y => by
    rw [Rat.neg_divInt]
    congr 1
    omega
  rw [e z.num, Rat.neg_mul, Rat.mul_neg, Rat.neg_neg]
theorem FarOk.topb {c : List Int} {m : List Rat} {M A : Nat} (o : FarOk c m M A) {n : Int} (hn : n.natAbs ≤ 100000000) {z : Rat} (hz : z ∈ m) : (z.num - n * (z.den : Int)).natAbs < lim2 := by
  have h1 := (o.m z hz).num o.M0
  have h2 := (o.m z hz).den o.M0
  have h3 : (n * (z.den : Int)).natAbs ≤ 100000000 * M := by
    rw [Int.natAbs_mul]
    exact Nat.mul_le_mul hn h2
  have h4 := fb2 o.M1 o.A1
  exact Nat.lt_of_le_of_lt (show _ ≤ 2 ^ 228 by omega) (by decide +kernel)
theorem FarOk.ddb {c : List Int} {m : List Rat} {M A : Nat} (o : FarOk c m M A) {z : Rat} (hz : z ∈ m) : ((z.den : Int) * (z.den : Int)).natAbs < lim2 := by
  have h2 := (o.m z hz).den o.M0
  rw [← Int.natCast_mul]
  exact Nat.lt_of_le_of_lt (Nat.mul_le_mul h2 h2) (Nat.lt_of_lt_of_le (fb1 o.M1) lim_le)
theorem sq_q2 (n : Int) (z : Rat) : Rat.divInt ((n * z.den - z.num) * (n * z.den - z.num)) (z.den * z.den) = ((n : Rat) - z) * ((n : Rat) - z) := by
  rw [← Rat.divInt_mul_divInt, gap_q]
theorem ok_l_far (T : Tx K mg) {k : Nat} : FnOk P w K mg base CX0 (k + 3) T.f_l_far T.d_l_far ["_law_colour_here", "_law_middle"] spFar := by
  refine T.F_l_far.ok sc_l_far (fun vs H Q E h => ?_) (fun cdv A outer s H vs Q E hr h => ?_)
  · obtain ⟨B1, B2, B, x, y, c, m, M, A', rfl, _⟩ := h
    rfl
  · obtain ⟨B1, B2, B, x, y, c, m, M, A', rfl, hx, hy, hB, o, q⟩ := h
    obtain ⟨ca, rfl, nca, ec⟩ := hx.col
    obtain ⟨ma, mvs, rfl, nma, em, hA⟩ := hy.tupI
    have lm := hA.len
    simp only [List.length_map] at lm
    have ol := o.l
    have ol2 := o.l2
    refine ⟨_, (pss_cons (ps_set (i := 2) sc_l_far.nd rfl (.inl rfl) (pe_tup (pa_cons pe_int (pa_cons pe_int pa_nil))))
      (pss_cons (ps_for PassesOwn.never rfl (RZ.pi_zipA (by rfl) T.z_zip (pa_cons (pv 0) (pa_cons (pv 1) pa_nil))) (pg_tupK K (n := 2) rfl (pgs_cons (pg_name (i := 3) sc_l_far.nd rfl (.inl rfl)) (pgs_cons (pg_tupK K (n := 2) rfl (pgs_cons (pg_name (i := 4) sc_l_far.nd rfl (.inl rfl)) (pgs_cons (pg_name (i := 5) sc_l_far.nd rfl (.inl rfl)) pgs_nil))) pgs_nil))) (pss_one (ps_set (i := 2) sc_l_far.nd rfl (.inl rfl) (pe_call (ok_l_plus T (k := k)) hr (by rfl) T.g_l_plus T.F_l_plus.kp T.b_l_plus .nil pass0 (pa_cons (pv 2) (pa_cons (pe_call (ok_l_part T (k := k + 1)) hr (by rfl) T.g_l_part T.F_l_part.kp T.b_l_part .nil pass0 (pa_cons (pe_op op_mulW (pe_op op_sub (pe_op op_mul (pv 3) (pv 5)) (pv 4)) (pe_op op_sub (pe_op op_mul (pv 3) (pv 5)) (pv 4))) (pa_cons (pe_op op_mulW (pv 5) (pv 5)) pa_nil))) pa_nil))))))
      (pss_one (ps_ret (pv 2))))), ?_⟩
    refine ⟨(by show 2 ≤ sizeLine; decide), fun s0 hs0 => ?_⟩
    have t0 := sm_new (o := .tup [.int 0, .int 1]) hs0
    refine ⟨_, rfl, _, rfl, ca, ma, _, _, rfl, .inr ⟨SqT.of (t0 _ _ ec), SqT.of (t0 _ _ em), ?_⟩⟩
    refine for_it (walk_zipT (n := c.length) (xs := c.map V.int) (ys := mvs) (by simp; omega)) (fun i σ H' => ∃ y3 y4 y5 sv, σ = [some (.ref ca), some (.ref ma), some sv, y3, y4, y5] ∧ Same H H' ∧ Dt B H' sv (enc (qp (farN c m i))))
      ⟨_, _, _, _, rfl, t0, Dt.ofCol (hB.ne hs0) upd_same⟩ (fun i σ H' _ h => ?_) (fun i x σ H1 H2 hi' h1 y => ?_) (fun σ H1 h1 => ?_)
    · obtain ⟨y3, y4, y5, sv, rfl, s1, d1⟩ := h
      exact ⟨SqT.of (s1 _ _ ec), SqT.of (s1 _ _ em)⟩
    · obtain ⟨y3, y4, y5, sv, rfl, s1, d1⟩ := h1
      obtain ⟨t, x, y, rfl, ht, rfl, f1, f2⟩ := y
      have x1 := mat hi' f1
      subst x1
      obtain ⟨z, za, hz, rfl, nz, ez⟩ := dtM hA f2
      have mz := List.mem_of_getElem? hz
      have s2 := s1.trans (sm_new (o := .tup [.int c[i], .ref za]) ht)
      have hn : (c[i]).natAbs ≤ 100000000 := by have := o.c _ (List.getElem_mem hi'); omega
      have d2 := d1.s (sm_new (o := .tup [.int c[i], .ref za]) ht)
      refine ⟨t, _, rfl, SqT.of upd_same, rfl, _, _, rfl, _, _, rfl, za, _, rfl, SqT.of (s2 _ _ ez), rfl, _, _, rfl, _, _, rfl, rfl, rfl, ?_⟩
      generalize upd H1 t (.tup [.int c[i], .ref za]) = H2 at *
      have tb := o.topb hn mz
      have db := o.denb mz
      have tb' : (c[i] * (z.den : Int) - z.num).natAbs < lim2 := by
        have : (c[i] * (z.den : Int) - z.num).natAbs = (z.num - c[i] * (z.den : Int)).natAbs := by omega
        rw [this]
        exact tb
      refine ⟨_, rfl, _, rfl, _, rfl, _, _, rfl, rfl, .inl ⟨by omega, by omega⟩, _, rfl, _, _, rfl, rfl, _, rfl, _, rfl, _, _, rfl, rfl, .inl ⟨by omega, by omega⟩, _, rfl, _, _, rfl, rfl, _, _, rfl, rfl, lim_mul tb' tb', _, rfl, _, rfl, _, _, rfl, rfl, lim_mul db db, ?_⟩
      refine ⟨_, _, rfl, dd0 z z, o.ddb mz, fun p4 H4 s4 hp4 e4 => ?_⟩
      rw [sq_q2] at e4
      have B2 : Bk B H2 := hB.go (Go.of (B := B) s2)
      have d4 : Dt B H4 (.ref p4) (enc (qp (((c[i] : Rat) - z) * ((c[i] : Rat) - z)))) := Dt.ofCol (B2.ne hp4) e4
      have gb := o.gapb hn mz
      refine ⟨B, sv, .ref p4, _, _, rfl, d2.s s4, d4, o.qb (by omega), gb.2, fun p5 H5 s5 hp5 e5 => ?_⟩
      refine ⟨_, _, _, _, rfl, (s2.trans s4).trans s5, ?_⟩
      rw [farN_step (List.getElem?_eq_getElem hi') hz]
      exact Dt.ofCol ((B2.go (Go.of (B := B) s4)).ne hp5) e5
    · obtain ⟨y3, y4, y5, sv, rfl, s1, d1⟩ := h1
      exact ⟨_, rfl, q _ _ s1 d1⟩
/-! ### the law's own nearest middle -/
theorem ok_l_nearest_middle (T : Tx K mg) {k : Nat} : FnOk P w K mg base CX0 (k + 4) T.f_l_nearest_middle T.d_l_nearest_middle ["_law_middles_here", "_law_colour_here"] spNearM := by
  refine T.F_l_nearest_middle.ok sc_l_nearest_middle (fun vs H Q E h => ?_) (fun cdv A outer s H vs Q E hr h => ?_)
  · obtain ⟨B1, B2, x, y, ms, c, rfl, _⟩ := h
    rfl
  · obtain ⟨B1, B2, x, y, ms, c, rfl, hx, hy, m0, m1, o, q⟩ := h
    obtain ⟨la, vs, rfl, nla, el, hA⟩ := hx.lstI
    have lm := hA.len
    rw [List.length_map] at lm
    have i0 : 0 < vs.length := by omega
    obtain ⟨mm0, f0, d0⟩ := dtMs hA (List.getElem?_eq_getElem i0)
    obtain ⟨M0, A0, o0⟩ := o _ (List.mem_of_getElem? f0)
    refine ⟨_, (pss_cons (ps_set (i := 2) sc_l_nearest_middle.nd rfl (.inl rfl) pe_int)
      (pss_cons (ps_set (i := 3) sc_l_nearest_middle.nd rfl (.inl rfl) (pe_call (ok_l_far T (k := k)) hr (by rfl) T.g_l_far T.F_l_far.kp T.b_l_far .nil pass0 (pa_cons (pv 1) (pa_cons (pe_ix (ix_listK K) (pv 0) pe_int (fun _ _ => rfl)) pa_nil))))
      (pss_cons (ps_for PassesOwn.never rfl (pi_enum (by rfl) T.z_enumerate (pa_cons (pv 0) pa_nil)) (pg_tupK K (n := 2) rfl (pgs_cons (pg_name (i := 4) sc_l_nearest_middle.nd rfl (.inl rfl)) (pgs_cons (pg_name (i := 5) sc_l_nearest_middle.nd rfl (.inl rfl)) pgs_nil))) (pss_cons (ps_set (i := 6) sc_l_nearest_middle.nd rfl (.inl rfl) (pe_call (ok_l_far T (k := k)) hr (by rfl) T.g_l_far T.F_l_far.kp T.b_l_far .nil pass0 (pa_cons (pv 1) (pa_cons (pv 5) pa_nil))))
      (pss_one (ps_if (pt_val (pe_call (ok_l_less T (k := k + 2)) hr (by rfl) T.g_l_less T.F_l_less.kp T.b_l_less .nil pass0 (pa_cons (pv 6) (pa_cons (pv 3) pa_nil)))) (pss_cons (ps_set (i := 2) sc_l_nearest_middle.nd rfl (.inl rfl) (pv 4))
      (pss_one (ps_set (i := 3) sc_l_nearest_middle.nd rfl (.inl rfl) (pv 6)))) pss_nil))))
      (pss_one (ps_ret (pv 2)))))), ?_⟩
    refine ⟨_, rfl, _, rfl, la, _, 0, vs[0], rfl, rfl, SqL.of el, atI_nat (j := 0) (List.getElem?_eq_getElem i0), B2, B1, [], y, _, c, mm0, M0, A0, rfl, hy, d0, bk0, o0, fun v1 H1 s1 d1 => ?_⟩
    rw [← farI_at (ms := ms) f0] at d1
    refine ⟨_, rfl, la, _, rfl, SqL.of (s1 _ _ el), ?_⟩
    refine for_it (walk_enum (xs := vs)) (fun i σ H' => ∃ (j : Nat) (sv : V) (y4 y5 y6 : Option V), σ = [some (.ref la), some y, some (.int (j : Int)), some sv, y4, y5, y6] ∧ j = argF (farI c ms) i ∧ Same H H' ∧ Dt [] H' sv (enc (qp (farI c ms j))))
      ⟨0, _, _, _, _, rfl, rfl, s1, d1⟩ (fun i σ H' _ h => ?_) (fun i x σ H2 H3 hi' h2 y2 => ?_) (fun σ H2 h2 => ?_)
    · obtain ⟨j, sv, y4, y5, y6, rfl, ej, s2, d2⟩ := h
      exact SqL.of (s2 _ _ el)
    · obtain ⟨j, sv, y4, y5, y6, rfl, ej, s2, d2⟩ := h2
      obtain ⟨t, x, z, rfl, ht, rfl, e1, e2⟩ := y2
      have ex : V.int i = x := Option.some.inj e1
      subst ex
      obtain ⟨m, fm, dm⟩ := dtMs hA e2
      obtain ⟨M', A', om⟩ := o _ (List.mem_of_getElem? fm)
      have s3 := s2.trans (sm_new (o := .tup [.int i, z]) ht)
      have d3 := d2.s (sm_new (o := .tup [.int i, z]) ht)
      refine ⟨t, _, rfl, SqT.of upd_same, rfl, _, _, rfl, _, _, rfl, rfl, ?_⟩
      generalize upd H2 t (.tup [.int i, z]) = H3 at *
      refine ⟨_, rfl, _, rfl, B2, B1, [], y, z, c, m, M', A', rfl, hy.s s3, dm.s s3, bk0, om, fun v4 H4 s4 d4 => ?_⟩
      rw [← farI_at (ms := ms) fm] at d4
      have hi2 : i < ms.length := by omega
      have ha : j < ms.length := by
        rcases Nat.eq_zero_or_pos i with e | e
        · subst e; rw [ej]; exact m0
        · have := argF_lt (farI c ms) i e; omega
      refine ⟨_, rfl, _, rfl, [], v4, sv, _, _, rfl, d4, d3.s s4, farI_qb o hi2, farI_qb o ha, _, rfl, ite2 (fun e => ?_) (fun e => ?_)⟩
      · have e' := of_decide_eq_true e
        refine ⟨_, rfl, _, rfl, ?_⟩
        exact ⟨i, v4, _, _, _, rfl, by rw [argF, ← ej, if_pos e'], s3.trans s4, d4⟩
      · have e' : ¬ farI c ms i < farI c ms j := fun h => e (decide_eq_true h)
        exact ⟨j, sv, _, _, _, rfl, by rw [argF, ← ej, if_neg e'], s3.trans s4, d3.s s4⟩
    · obtain ⟨j, sv, y4, y5, y6, rfl, ej, s2, d2⟩ := h2
      refine ⟨_, rfl, ?_⟩
      rw [ej, lm]
      exact q _ s2
/-! ### rows shared out by middles -/
def MidOk (wd : Nat) (m : List Rat) : Prop := m.length = wd ∧ ∃ M : Nat, 0 < M ∧ M < 2 ^ 180 ∧ ∀ z ∈ m, Fr M (10000 * M) z
theorem MidOk.far {wd : Nat} {m : List Rat} {c : List Int} (h : MidOk wd m) (hc : c.length = wd) (hw : wd ≤ 100) (cc : cIn (-100000000) 100000000 c) : ∃ M A, FarOk c m M A := by
  obtain ⟨h1, M, h2, h3, h4⟩ := h
  exact ⟨M, 10000 * M, ⟨by omega, by omega, cc, h2, Nat.lt_of_lt_of_le h3 (by decide), by omega, h4⟩⟩
def shares (ms : List (List Rat)) (rs : List (List Int × Int)) : List (List (List Int × Int)) := (List.range ms.length).map fun j => rs.filter fun r => decide (argF (farI r.1 ms) ms.length = j)
theorem shares_len (ms : List (List Rat)) (rs : List (List Int × Int)) : (shares ms rs).length = ms.length := by unfold shares; simp
theorem shares_at (ms : List (List Rat)) (rs : List (List Int × Int)) (j : Nat) (h : j < (shares ms rs).length) : (shares ms rs)[j] = rs.filter fun r => decide (argF (farI r.1 ms) ms.length = j) := by simp [shares]
theorem shares_step (ms : List (List Rat)) (rs : List (List Int × Int)) {i a : Nat} (hi : i < rs.length) (ha : argF (farI rs[i].1 ms) ms.length = a) (hl : a < (shares ms (rs.take i)).length) : shares ms (rs.take (i + 1)) = (shares ms (rs.take i)).set a ((shares ms (rs.take i))[a] ++ [rs[i]]) := by
  have et : rs.take (i + 1) = rs.take i ++ [rs[i]] := by rw [List.take_add_one, List.getElem?_eq_getElem hi]; rfl
  refine List.ext_getElem (by rw [List.length_set, shares_len, shares_len]) fun j h1 h2 => ?_
  rw [List.getElem_set]
  simp only [shares_at]
  rw [et, List.filter_append]
  by_cases e : a = j
  · subst e
    rw [if_pos rfl]
    simp [ha]
  · rw [if_neg e]
    simp [ha, e]
structure ShR (B : List Addr) (H H' : Hp) (D : Addr) (as : List Addr) (gss : List (List (List Int × Int))) : Prop where
  len : as.length = gss.length
  nd : as.Nodup
  nD : D ∉ as
  hD : H D = none
  eD : H' D = some (.lst (as.map V.ref))
  fr : ∀ a ∈ as, H a = none
  row : ∀ (j : Nat) (a : Addr) (g : List (List Int × Int)), as[j]? = some a → gss[j]? = some g → ∃ ws, H' a = some (.lst ws) ∧ DtA (D :: (as ++ B)) H' ws (g.map eRow)
def spShared : Sp := fun vs H Q _ => ∃ (B : List Addr) (x y : V) (rs : List (List Int × Int)) (ms : List (List Rat)) (wd : Nat), vs = [x, y] ∧ Dt B H x (eRs rs) ∧ Dt B H y (eMs ms) ∧ Bk B H ∧ 0 < ms.length ∧ ms.length ≤ 100 ∧ rs.length ≤ 100 ∧ wd ≤ 5 ∧ (∀ r ∈ rs, rOk wd r) ∧ (∀ m ∈ ms, MidOk wd m) ∧
  ∀ (D : Addr) (as : List Addr) (H' : Hp), Same H H' → ShR B H H' D as (shares ms rs) → Q (.ref D) H'
theorem ok_shared_out (T : Tx K mg) {k : Nat} : FnOk P w K mg base CX0 (k + 6) T.f_shared_out T.d_shared_out ["rows", "middles"] spShared := by
  refine T.F_shared_out.ok sc_shared_out (fun vs H Q E h => ?_) (fun cdv A outer s H vs Q E hr h => ?_)
  · obtain ⟨B, x, y, rs, ms, wd, rfl, _⟩ := h
    rfl
  · obtain ⟨B, x, y, rs, ms, wd, rfl, hx, hy, hB, m0, m1, r1, w1, ok, om, q⟩ := h
    obtain ⟨ra, rvs, rfl, nra, era, hR⟩ := hx.lstI
    obtain ⟨ma, mvs, rfl, nma, ema, hM⟩ := hy.lstI
    have lrv := hR.len
    have lmv := hM.len
    rw [List.length_map] at lrv lmv
    refine ⟨_, (pss_cons (ps_setLc (i := 2) (own := [("middle", 4)]) (by rfl) sc_shared_out.nd rfl rfl (sw_true rfl rfl rfl (by decide +kernel)) (pi_listK K (pv 1)) (blkOk_by (own := [("middle", 4)]) (N := N_shared_out) (sc := defScope s_shared_out) (by decide +kernel)) (fun _ _ _ _ _ => (pg_name (i := 4) sc_shared_out.nd rfl (.inl rfl))) (fun _ _ _ _ _ => pts_nil) (fun _ _ _ _ _ => (pe_lst pa_nil)))
      (pss_cons (ps_for PassesOwn.never rfl (pi_listK K (pv 0)) (pg_name (i := 3) sc_shared_out.nd rfl (.inl rfl)) (pss_one (ps_expr (pe_bm PySem.F.plainAttrs_list PySem.F.slot_list_append PySem.F.type_list_append mt_append (pe_ix (ix_listK K) (pv 2) (pe_call (ok_nearest_middle T (k := k)) hr (by rfl) T.g_nearest_middle T.F_nearest_middle.kp T.b_nearest_middle .nil pass0 (pa_cons (pv 1) (pa_cons (pe_ix (ix_tupK K) (pv 3) pe_int (fun _ _ => rfl)) pa_nil))) (fun _ _ => rfl)) (pa_cons (pv 3) pa_nil)))))
      (pss_one (ps_ret (pv 2))))), ?_⟩
    refine ⟨_, rfl, ma, rfl, ⟨_, SqL.of ema⟩, fun G hG => ?_⟩
    refine lc_rows (walk_list (xs := mvs)) [] hG (fun H' s' => SqL.of (s' _ _ ema)) (by omega) (fun i => []) (fun i x H' H'' Ny Nn hi t1 y ky => ?_) (fun H2 as s2 eG R => ?_)
    · obtain ⟨rfl, y⟩ := y
      exact ⟨rfl, lc_yes ⟨Nat.zero_le _, fun E hE => ky E [] _ (sm_new hE) hE upd_same .nil⟩⟩
    have la : as.length = ms.length := by rw [R.len, List.length_map, List.length_range]; omega
    have inB : ∀ {z : Addr} {o : HO}, z ∉ B → H z = some o → z ∉ G :: (as ++ B) := fun hz e m => by
      rcases List.mem_cons.mp m with m | m
      · rw [m, hG] at e
        cases e
      · rcases List.mem_append.mp m with m | m
        · rw [R.fr _ m] at e
          cases e
        · exact hz m
    have hR2 : DtA (G :: (as ++ B)) H2 rvs (rs.map eRow) := DtA.to (fun z o hz e => ⟨inB hz e, s2 _ _ e⟩) _ _ hR
    have hM2 : DtA (G :: (as ++ B)) H2 mvs (ms.map eMq) := DtA.to (fun z o hz e => ⟨inB hz e, s2 _ _ e⟩) _ _ hM
    have nraB := inB nra era
    have nmaB := inB nma ema
    have sub : ∀ z ∈ as, z ∈ G :: (as ++ B) := fun z hz => List.mem_cons_of_mem _ (List.mem_append_left _ hz)
    have nraA : ra ∉ as := fun z => nraB (sub _ z)
    have nmaA : ma ∉ as := fun z => nmaB (sub _ z)
    refine ⟨_, rfl, ra, rfl, ⟨_, SqL.of (s2 _ _ era)⟩, for_list (xs := rvs) (fun i σ H' => ∃ y3 y4, σ = [some (.ref ra), some (.ref ma), some (.ref G), y3, y4] ∧ Go as H2 H' ∧ ∀ (j : Nat) (a : Addr) (g : List (List Int × Int)), as[j]? = some a → (shares ms (rs.take i))[j]? = some g → ∃ ws, H' a = some (.lst ws) ∧ DtA (G :: (as ++ B)) H' ws (g.map eRow) ∧ g.length ≤ i)
      ⟨_, _, rfl, Go.refl, fun j a g h1 h2 => ?_⟩ (fun i σ H' _ h => ?_) (fun i x σ H3 hx3 h => ?_) (fun σ H3 h => ?_)⟩
    · have hj : j < as.length := (List.getElem?_eq_some_iff.mp h1).1
      have eg : g = [] := by
        unfold shares at h2
        rw [List.getElem?_map, List.getElem?_range (by omega)] at h2
        cases h2
        rfl
      subst eg
      obtain ⟨ws, e, d⟩ := R.row j a [] h1 (by rw [List.getElem?_map, List.getElem?_range (by omega)]; rfl)
      cases d
      exact ⟨[], e, .nil, Nat.zero_le _⟩
    · obtain ⟨y3, y4, rfl, g3, _⟩ := h
      exact SqL.of (g3.k ra _ nraA (s2 _ _ era))
    · obtain ⟨y3, y4, rfl, g3, inv⟩ := h
      have g3' : Go (G :: (as ++ B)) H2 H3 := g3.w sub
      have eG3 := g3.k G _ R.nD eG
      have hi : i < rs.length := by have := (List.getElem?_eq_some_iff.mp hx3).1; omega
      obtain ⟨d, fd, dx⟩ := (hR2.g g3').getV hx3
      rw [List.getElem?_map, List.getElem?_eq_getElem hi] at fd
      have ed : d = eRow rs[i] := (Option.some.inj fd).symm
      subst ed
      have orow := ok _ (List.getElem_mem hi)
      obtain ⟨t, tq, rfl, nt, et, nq, eq⟩ := dx.rowI
      have ema3 := g3.k ma _ nmaA (s2 _ _ ema)
      have dm3 : Dt [] H3 (.ref ma) (eMs ms) := .lst (fun h => nomatch h) ema3 ((hM2.g g3').sub (fun _ h => nomatch h))
      refine ⟨_, rfl, _, rfl, _, rfl, t, _, 0, .ref tq, rfl, rfl, SqT.of et, rfl, [], _, _, _, ms, rs[i].1, rfl, dm3, Dt.ofCol nq eq, m0, by omega, fun m hm => (om m hm).far orow.1 (by omega) (orow.2.1.mono (by decide) (by decide)), fun H4 s4 => ?_⟩
      have ha : argF (farI rs[i].1 ms) ms.length < ms.length := argF_lt _ _ m0
      generalize ea : argF (farI rs[i].1 ms) ms.length = a at *
      have hj : a < as.length := by omega
      have hg : a < (shares ms (rs.take i)).length := by rw [shares_len]; exact ha
      obtain ⟨ws, ew, dw, lw⟩ := inv a as[a] _ (List.getElem?_eq_getElem hj) (List.getElem?_eq_getElem hg)
      have lws := dw.len
      rw [List.length_map] at lws
      have ew4 := s4 _ _ ew
      refine ⟨G, _, _, .ref as[a], rfl, rfl, SqL.of (s4 _ _ eG3), at0 (by omega) (by rw [Int.toNat_natCast, List.getElem?_map, List.getElem?_eq_getElem hj]; rfl), .inl ⟨rfl, _, SqL.of ew4⟩, _, rfl, as[a], _, _, rfl, rfl, ew4, sz (by omega), ?_⟩
      have gm : Go as H4 (upd H4 as[a] (.lst (ws ++ [.ref t]))) := Go.refl.at (List.getElem_mem hj)
      have gm' : Go (G :: (as ++ B)) H4 (upd H4 as[a] (.lst (ws ++ [.ref t]))) := gm.w sub
      refine ⟨_, _, rfl, (g3.trans (Go.of s4)).trans gm, fun j b g h1 h2 => ?_⟩
      rw [shares_step ms rs hi ea hg] at h2
      by_cases c : j = a
      · subst c
        rw [List.getElem?_eq_getElem hj] at h1
        cases h1
        rw [List.getElem?_set_self hg] at h2
        cases h2
        refine ⟨ws ++ [.ref t], upd_same, ?_, by rw [List.length_append]; simp; omega⟩
        rw [List.map_append]
        exact ((dw.s s4).g gm').app (.one ((dx.s s4).g gm'))
      · rw [List.getElem?_set_ne (Ne.symm c)] at h2
        obtain ⟨ws2, e2, d2, l2⟩ := inv j b g h1 h2
        have nb : b ≠ as[a] := fun z => by
          obtain ⟨hj2, ej2⟩ := List.getElem?_eq_some_iff.mp h1
          exact c ((List.getElem_inj R.nd).mp (ej2.trans z))
        refine ⟨ws2, ?_, (d2.s s4).g gm', by omega⟩
        rw [upd_ne nb]
        exact s4 _ _ e2
    · obtain ⟨y3, y4, rfl, g3, inv⟩ := h
      rw [lrv, List.take_length] at inv
      exact ⟨_, rfl, q G as H3 (g3.sm s2 R.fr) ⟨by rw [shares_len]; exact la, R.nd, R.nD, hG, g3.k G _ R.nD eG, R.fr, fun j a g h1 h2 => by
        obtain ⟨ws, e, d, _⟩ := inv j a g h1 h2
        exact ⟨ws, e, d⟩⟩⟩
/-! ### a kind and rows of it, drawn -/
def spSomeR : Sp := fun vs H Q _ => ∃ (L : Addr) (n : Nat), vs = [.ref L] ∧ Lf L H n ∧ n < 900000 ∧
  ∀ (t : Addr) (kv rv : V) (H' : Hp) (wd : Nat) (sp : Int) (rs : List (List Int × Int)), Go [L] H H' → Lf L H' (n + 1010) → t ∉ [L] → H' t = some (.tup [kv, rv]) → Dt [L] H' kv (eC [(wd : Int), sp]) → Dt [L] H' rv (eRs rs) → 1 ≤ wd → wd ≤ 5 → 1 ≤ sp → sp ≤ 1000 → 0 < rs.length → rs.length ≤ 60 → (∀ r ∈ rs, rOk wd r) → Q (.ref t) H'
theorem ok_l_some_rows (T : Tx K mg) {k : Nat} : FnOk P w K mg base CX0 (k + 5) T.f_l_some_rows T.d_l_some_rows ["_law_left_here"] spSomeR := by
  refine T.F_l_some_rows.ok sc_l_some_rows (fun vs H Q E h => ?_) (fun cdv A outer s H vs Q E hr h => ?_)
  · obtain ⟨L, n, rfl, _⟩ := h
    rfl
  · obtain ⟨L, n, rfl, hL, hn, q⟩ := h
    refine ⟨_, (pss_cons (ps_set (i := 1) sc_l_some_rows.nd rfl (.inl rfl) (pe_call (ok_l_kind T (k := k + 1)) hr (by rfl) T.g_l_kind T.F_l_kind.kp T.b_l_kind .nil pass0 (pa_cons (pv 0) pa_nil)))
      (pss_one (ps_ret (pe_tup (pa_cons (pv 1) (pa_cons (pe_call (ok_l_rows T (k := k)) hr (by rfl) T.g_l_rows T.F_l_rows.kp T.b_l_rows .nil pass0 (pa_cons (pv 0) (pa_cons (pv 1) (pa_cons (pe_ix (ix_listK K) (pe_lst (pa_cons pe_int (pa_cons pe_int pa_nil))) (pe_callTy call_int1 (by rfl) T.z_int (by decide +kernel) (pa_cons (pe_cmpR op_eq (pe_call (ok_l_pick T (k := k + 2)) hr (by rfl) T.g_l_pick T.F_l_pick.kp T.b_l_pick .nil pass0 (pa_cons (pv 0) (pa_cons pe_int pa_nil))) pe_int (nomark _)) pa_nil)) (fun _ _ => rfl)) pa_nil)))) pa_nil)))))), ?_⟩
    refine ⟨_, rfl, L, n, rfl, hL, by omega, fun kv H1 wd sp g1 l1 w0 w1 p0 p1 d1 => ?_⟩
    obtain ⟨wn, rfl⟩ : ∃ wn : Nat, wd = (wn : Int) := ⟨wd.toNat, by omega⟩
    refine ⟨_, rfl, _, rfl, _, rfl, (by show 2 ≤ sizeLine; decide), fun p hp => ?_⟩
    have l2 := l1.new (o := .lst [.int 10, .int 30]) hp
    have e2 : (upd H1 p (.lst [.int 10, .int 30])) p = some (.lst [.int 10, .int 30]) := upd_same
    have g2 : Go [L] H1 (upd H1 p (.lst [.int 10, .int 30])) := Go.new hp
    have np : p ∉ [L] := l1.bk.ne hp
    generalize upd H1 p (.lst [.int 10, .int 30]) = H2 at *
    refine ⟨_, rfl, L, 8, _, rfl, l2, by omega, by decide, by decide, fun r3 H3 g3 l3 a3 b3 => ?_⟩
    obtain ⟨z3, f3, hz3⟩ := at2i 10 30 (decide (V.int r3 = V.int 0))
    refine ⟨rfl, .inr ⟨_, rfl, p, _, _, _, rfl, rfl, SqL.of (g3.k p _ np e2), f3, ?_⟩⟩
    have g23 := g2.trans g3
    refine ⟨L, _, kv, wn, sp, z3, rfl, l3, by omega, d1.g g23, by omega, by omega, p1, by omega, by omega, fun rv H4 rs g4 l4 d4 r0 r1 ok => ?_⟩
    refine ⟨(by show 2 ≤ sizeLine; decide), fun t ht => ?_⟩
    have st := sm_new (o := .tup [kv, rv]) ht
    exact q t kv rv _ wn sp rs (((g1.trans g23).trans g4).trans (Go.of st)) ((l4.same st).mono (by omega)) (l4.bk.ne ht) upd_same (((d1.g g23).g g4).s st) (d4.s st) (by omega) (by omega) (by omega) p1 r0 r1 ok
/-! ### same -/
def spSame : Nat → Sp
  | 0 => fun _ _ _ _ => False
  | k + 1 => fun vs H Q _ => ∃ (B : List Addr) (x y : V) (d : PyData), vs = [x, y] ∧ Dt B H x d ∧ Dt B H y d ∧ Sh d k ∧ k ≤ 60 ∧ ∀ H', Same H H' → Q (.bl true) H'
theorem kT {K : PySem.W.Frag} : PySem.W.kitAny K (.type "tuple") [.type "list", .type "tuple"] = some true := kitAny_cons (b := false) (kit_ty (by decide +kernel)) (fun _ => kitAny_cons (b := true) (kit_ty (by decide +kernel)) (fun h => Bool.noConfusion h) (fun _ => rfl)) (fun h => Bool.noConfusion h)
theorem kL {K : PySem.W.Frag} : PySem.W.kitAny K (.type "list") [.type "list", .type "tuple"] = some true := kitAny_cons (b := true) (kit_ty (by decide +kernel)) (fun h => Bool.noConfusion h) (fun _ => rfl)
theorem kF {K : PySem.W.Frag} {t : String} (h1 : kitB t "list" = some false) (h2 : kitB t "tuple" = some false) : PySem.W.kitAny K (.type t) [.type "list", .type "tuple"] = some false :=
  kitAny_cons (kit_ty (b := "list") h1) (fun _ => kitAny_cons (kit_ty (b := "tuple") h2) (fun _ => kitAny_nil) (fun h => nomatch h)) (fun h => nomatch h)
theorem eqv_sh {d : PyData} {k : Nat} (h : Sh d k) : PyData.eqv d d = true := SeqAt.eqv_refl d h.1
theorem allT : ∀ n : Nat, (List.range n).filterMap (fun _ => some (PyData.bool true)) = (List.replicate n true).map PyData.bool
  | 0 => rfl
  | n + 1 => by
    rw [List.range_succ, List.filterMap_append, allT n, List.replicate_succ', List.map_append]
    rfl
theorem same_all (T : Tx K mg) (k : Nat) : FnOk P w K mg base CX0 k T.f_l_same T.d_l_same ["_law_found", "_law_due"] (spSame k) := by
  induction k with
  | zero => exact ⟨fun _ _ _ _ h => h.elim, fun _ _ _ _ _ _ _ _ _ _ _ _ _ h => h.elim⟩
  | succ k GS =>
    refine T.F_l_same.ok sc_l_same (fun vs H Q E h => ?_) (fun cdv A outer s H vs Q E hr h => ?_)
    · obtain ⟨B, x, y, d, rfl, _⟩ := h
      rfl
    · obtain ⟨B, x, y, d, rfl, hx, hy, hd, k60, q⟩ := h
      have hrS := hr
      refine ⟨_, (pss_cons (ps_if (pt_val (pe_callB (call_isiTK K) (by rfl) T.z_isinstance (by decide +kernel) (pa_cons (pv 1) (pa_cons (pe_tup (pa_cons (pe_bltn (v := .ty "list") (by rfl) T.z_list (by decide +kernel) rfl) (pa_cons (pe_bltn (v := .ty "tuple") (by rfl) T.z_tuple (by decide +kernel) rfl) pa_nil))) pa_nil)))) (pss_cons (ps_if (PW.pt (pw_or (pt_cmpR op_ne (pe_callB (call_isiK1 K) (by rfl) T.z_isinstance (by decide +kernel) (pa_cons (pv 0) (pa_cons (pe_bltn (v := .ty "list") (by rfl) T.z_list (by decide +kernel) rfl) pa_nil))) (pe_callB (call_isiK1 K) (by rfl) T.z_isinstance (by decide +kernel) (pa_cons (pv 1) (pa_cons (pe_bltn (v := .ty "list") (by rfl) T.z_list (by decide +kernel) rfl) pa_nil))) (nomark _)) (pw_or1 (pt_cmpR op_ne (pe_callB (call_isiK1 K) (by rfl) T.z_isinstance (by decide +kernel) (pa_cons (pv 0) (pa_cons (pe_bltn (v := .ty "tuple") (by rfl) T.z_tuple (by decide +kernel) rfl) pa_nil))) (pe_callB (call_isiK1 K) (by rfl) T.z_isinstance (by decide +kernel) (pa_cons (pv 1) (pa_cons (pe_bltn (v := .ty "tuple") (by rfl) T.z_tuple (by decide +kernel) rfl) pa_nil))) (nomark _))))) (pss_one (ps_ret pe_bl)) pss_nil)
      (pss_one (ps_ret (pe_and (pe_cmpR op_eq (pe_callB (len_K K) (by rfl) T.z_len PySem.boot_len (pa_cons (pv 0) pa_nil)) (pe_callB (len_K K) (by rfl) T.z_len PySem.boot_len (pa_cons (pv 1) pa_nil)) (nomark _)) (pe_one (pe_callB (cr_allK K rfl) (by rfl) T.z_all (by decide +kernel) (pa_cons (pe_lc (own := [("_law_one", 2), ("_law_other", 3)]) (by rfl) sc_l_same.nd (RZ.pi_zipA (by rfl) T.z_zip (pa_cons (pv 0) (pa_cons (pv 1) pa_nil))) (blkOk_by (own := [("_law_one", 2), ("_law_other", 3)]) (N := N_l_same) (sc := defScope s_l_same) (by decide +kernel)) (fun _ _ _ _ _ => (pg_tupK K (n := 2) rfl (pgs_cons (pg_name (i := 2) sc_l_same.nd rfl (.inl rfl)) (pgs_cons (pg_name (i := 3) sc_l_same.nd rfl (.inl rfl)) pgs_nil)))) (fun _ _ _ _ _ => pts_nil) (fun _ _ _ _ _ => (pe_call GS hrS (by rfl) T.g_l_same T.F_l_same.kp T.b_l_same .nil pass0 (pa_cons (pv 2) (pa_cons (pv 3) pa_nil))))) pa_nil))))))) pss_nil)
      (pss_cons (ps_if (PW.pt (pw_or (pt_cmpR op_isN (pv 1) pe_non (nomark _)) (pw_or1 (pt_val (pe_callB (call_isiK1 K) (by rfl) T.z_isinstance (by decide +kernel) (pa_cons (pv 1) (pa_cons (pe_bltn (v := .ty "str") (by rfl) T.z_str (by decide +kernel) rfl) pa_nil))))))) (pss_one (ps_ret (pe_and (pe_cmpR (op_eqDK K hr.units) (pv 0) (pv 1) (nomark _)) (pe_one (pe_cmpR op_eq (pe_callB (call_isiK1 K) (by rfl) T.z_isinstance (by decide +kernel) (pa_cons (pv 0) (pa_cons (pe_bltn (v := .ty "str") (by rfl) T.z_str (by decide +kernel) rfl) pa_nil))) (pe_callB (call_isiK1 K) (by rfl) T.z_isinstance (by decide +kernel) (pa_cons (pv 1) (pa_cons (pe_bltn (v := .ty "str") (by rfl) T.z_str (by decide +kernel) rfl) pa_nil))) (nomark _)))))) pss_nil)
      (pss_cons (ps_if (pt_val (pe_callB (call_isiK1 K) (by rfl) T.z_isinstance (by decide +kernel) (pa_cons (pv 1) (pa_cons (pe_bltn (v := .ty "bool") (by rfl) T.z_bool (by decide +kernel) rfl) pa_nil)))) (pss_one (ps_ret (pe_and (pe_callB (call_isiK1 K) (by rfl) T.z_isinstance (by decide +kernel) (pa_cons (pv 0) (pa_cons (pe_bltn (v := .ty "bool") (by rfl) T.z_bool (by decide +kernel) rfl) pa_nil))) (pe_one (pe_cmpR (op_eqDK K hr.units) (pv 0) (pv 1) (nomark _)))))) pss_nil)
      (pss_one (ps_ret (pe_and (pe_callB (call_isiK1 K) (by rfl) T.z_isinstance (by decide +kernel) (pa_cons (pv 0) (pa_cons (pe_bltn (v := .ty "int") (by rfl) T.z_int (by decide +kernel) rfl) pa_nil))) (pe_and (pe_not (pe_callB (call_isiK1 K) (by rfl) T.z_isinstance (by decide +kernel) (pa_cons (pv 0) (pa_cons (pe_bltn (v := .ty "bool") (by rfl) T.z_bool (by decide +kernel) rfl) pa_nil)))) (pe_one (pe_cmpR (op_eqDK K hr.units) (pv 0) (pv 1) (nomark _)))))))))), ?_⟩
      refine ⟨_, rfl, (by show 2 ≤ sizeLine; decide), fun tp htp => ?_⟩
      have s1 : Same H (upd H tp (.tup [.ty "list", .ty "tuple"])) := sm_new htp
      have hx1 := hx.s s1
      have hy1 := hy.s s1
      have hT : (upd H tp (.tup [.ty "list", .ty "tuple"])) tp = some (.tup [.ty "list", .ty "tuple"]) := upd_same
      generalize upd H tp (.tup [.ty "list", .ty "tuple"]) = H1 at *
      cases d with
      | list ds =>
        have tx : TyX K H1 x (.type "list") := hx1.ty
        have ty : TyX K H1 y (.type "list") := hy1.ty
        refine ⟨y, tp, _, _, [.type "list", .type "tuple"], true, rfl, hT, .cons (.ty _) (.cons (.ty _) .nil), ty, kL, true, rfl, iteT ?_⟩
        refine ⟨_, rfl, _, _, _, _, true, rfl, .ty _, tx, kit_ty (by decide +kernel), _, rfl, _, _, _, _, true, rfl, .ty _, ty, kit_ty (by decide +kernel), rfl, _, rfl, iteNS rfl ?_⟩
        refine ⟨_, rfl, _, _, _, _, false, rfl, .ty _, tx, kit_ty (by decide +kernel), _, rfl, _, _, _, _, false, rfl, .ty _, ty, kit_ty (by decide +kernel), rfl, _, rfl, iteNS rfl ?_⟩
        obtain ⟨a, xs, rfl, na, ha, hA⟩ := hx1.lstI
        obtain ⟨b, ys, rfl, nb, hb, hB⟩ := hy1.lstI
        have l1 := hA.len
        have l2 := hB.len
        refine ⟨_, rfl, a, _, rfl, .inl (SqL.of ha), _, rfl, b, _, rfl, .inl (SqL.of hb), rfl, _, rfl, iteD (by rw [l1, l2]) ?_⟩
        refine ⟨_, rfl, _, rfl, a, b, _, _, rfl, .inl ⟨SqL.of ha, SqL.of hb, fun D hD => ?_⟩⟩
        obtain ⟨j, rfl, hs, hl⟩ := hd.lstI
        refine lc_pure (B := []) (walk_zip (n := ds.length) (xs := xs) (ys := ys) (by rw [l1, l2, Nat.min_self])) hD (fun _ h => nomatch h) (fun H' s' => ⟨SqL.of (s' _ _ ha), SqL.of (s' _ _ hb)⟩) hl
          (fun i => some (.bool true)) (fun i x H' H'' Ny Nn hi s2 bk y ky kn => ?_) (fun H' ws s2 eD hW => ?_)
        · obtain ⟨t, x, y, rfl, ht, rfl, e1, e2⟩ := y
          obtain ⟨d1, f1, g1⟩ := hA.getV e1
          obtain ⟨d2, f2, g2⟩ := hB.getV e2
          have ed : d1 = d2 := Option.some.inj (f1.symm.trans f2)
          subst ed
          refine ⟨t, [x, y], rfl, SqT.of upd_same, rfl, x, _, rfl, y, _, rfl, rfl, rfl, lc_yes ?_⟩
          refine ⟨_, rfl, _, rfl, B, x, y, d1, rfl, (g1.s s2).s (sm_new ht), (g2.s s2).s (sm_new ht), hs _ (List.mem_of_getElem? f1), by omega, fun H3 s3 => ?_⟩
          exact ky _ _ _ rfl ((sm_new ht).trans s3) (.bl _)
        · rw [allT] at hW
          refine ⟨D, _, rfl, SqL.of (by rw [eD, hW.blsV]), ?_⟩
          rw [show (List.replicate ds.length true).all id = true by simp]
          exact q _ (s1.trans s2)
      | tuple ds =>
        have tx : TyX K H1 x (.type "tuple") := hx1.ty
        have ty : TyX K H1 y (.type "tuple") := hy1.ty
        refine ⟨y, tp, _, _, [.type "list", .type "tuple"], true, rfl, hT, .cons (.ty _) (.cons (.ty _) .nil), ty, kT, true, rfl, iteT ?_⟩
        refine ⟨_, rfl, _, _, _, _, false, rfl, .ty _, tx, kit_ty (by decide +kernel), _, rfl, _, _, _, _, false, rfl, .ty _, ty, kit_ty (by decide +kernel), rfl, _, rfl, iteNS rfl ?_⟩
        refine ⟨_, rfl, _, _, _, _, true, rfl, .ty _, tx, kit_ty (by decide +kernel), _, rfl, _, _, _, _, true, rfl, .ty _, ty, kit_ty (by decide +kernel), rfl, _, rfl, iteNS rfl ?_⟩
        obtain ⟨a, xs, rfl, na, ha, hA⟩ := hx1.tupI
        obtain ⟨b, ys, rfl, nb, hb, hB⟩ := hy1.tupI
        have l1 := hA.len
        have l2 := hB.len
        refine ⟨_, rfl, a, _, rfl, .inr (SqT.of ha), _, rfl, b, _, rfl, .inr (SqT.of hb), rfl, _, rfl, iteD (by rw [l1, l2]) ?_⟩
        refine ⟨_, rfl, _, rfl, a, b, _, _, rfl, .inr ⟨SqT.of ha, SqT.of hb, fun D hD => ?_⟩⟩
        obtain ⟨j, rfl, hs, hl⟩ := hd.tupI
        refine lc_pure (B := []) (walk_zipT (n := ds.length) (xs := xs) (ys := ys) (by rw [l1, l2, Nat.min_self])) hD (fun _ h => nomatch h) (fun H' s' => ⟨SqT.of (s' _ _ ha), SqT.of (s' _ _ hb)⟩) hl
          (fun i => some (.bool true)) (fun i x H' H'' Ny Nn hi s2 bk y ky kn => ?_) (fun H' ws s2 eD hW => ?_)
        · obtain ⟨t, x, y, rfl, ht, rfl, e1, e2⟩ := y
          obtain ⟨d1, f1, g1⟩ := hA.getV e1
          obtain ⟨d2, f2, g2⟩ := hB.getV e2
          have ed : d1 = d2 := Option.some.inj (f1.symm.trans f2)
          subst ed
          refine ⟨t, [x, y], rfl, SqT.of upd_same, rfl, x, _, rfl, y, _, rfl, rfl, rfl, lc_yes ?_⟩
          refine ⟨_, rfl, _, rfl, B, x, y, d1, rfl, (g1.s s2).s (sm_new ht), (g2.s s2).s (sm_new ht), hs _ (List.mem_of_getElem? f1), by omega, fun H3 s3 => ?_⟩
          exact ky _ _ _ rfl ((sm_new ht).trans s3) (.bl _)
        · rw [allT] at hW
          refine ⟨D, _, rfl, SqL.of (by rw [eD, hW.blsV]), ?_⟩
          rw [show (List.replicate ds.length true).all id = true by simp]
          exact q _ (s1.trans s2)
      | none =>
        have tx : TyX K H1 x (.type "NoneType") := hx1.ty
        have ty : TyX K H1 y (.type "NoneType") := hy1.ty
        refine ⟨y, tp, _, _, [.type "list", .type "tuple"], false, rfl, hT, .cons (.ty _) (.cons (.ty _) .nil), ty, kF (by decide +kernel) (by decide +kernel), false, rfl, iteF ?_⟩
        have ey : y = .non := by cases hy1; rfl
        subst ey
        refine ⟨_, rfl, rfl, _, rfl, iteD rfl ?_⟩
        refine iteT ?_
        refine ⟨_, rfl, _, rfl, _, _, hx1.dP, hy1.dP, hd.sh (by omega), hd.sh (by omega), _, rfl, iteE (eqv_sh hd) ?_⟩
        refine ⟨_, rfl, _, _, _, _, false, rfl, .ty _, tx, kit_ty (by decide +kernel), _, rfl, _, _, _, _, false, rfl, .ty _, ty, kit_ty (by decide +kernel), rfl, ?_⟩
        exact q _ s1
      | bool b =>
        have tx : TyX K H1 x (.type "bool") := hx1.ty
        have ty : TyX K H1 y (.type "bool") := hy1.ty
        refine ⟨y, tp, _, _, [.type "list", .type "tuple"], false, rfl, hT, .cons (.ty _) (.cons (.ty _) .nil), ty, kF (by decide +kernel) (by decide +kernel), false, rfl, iteF ?_⟩
        have ey : y = .bl b := by cases hy1; rfl
        subst ey
        refine ⟨_, rfl, rfl, _, rfl, iteN (decide_eq_false (fun h => nomatch h)) ?_⟩
        refine ⟨_, rfl, _, _, _, _, false, rfl, .ty _, ty, kit_ty (by decide +kernel), _, rfl, iteF ?_⟩
        refine ⟨_, rfl, _, _, _, _, true, rfl, .ty _, ty, kit_ty (by decide +kernel), _, rfl, iteT ?_⟩
        refine ⟨_, rfl, _, _, _, _, true, rfl, .ty _, tx, kit_ty (by decide +kernel), _, rfl, iteT ?_⟩
        refine ⟨_, rfl, _, rfl, _, _, hx1.dP, hy1.dP, hd.sh (by omega), hd.sh (by omega), ?_⟩
        rw [eqv_sh hd]
        exact q _ s1
      | int i =>
        have tx : TyX K H1 x (.type "int") := hx1.ty
        have ty : TyX K H1 y (.type "int") := hy1.ty
        refine ⟨y, tp, _, _, [.type "list", .type "tuple"], false, rfl, hT, .cons (.ty _) (.cons (.ty _) .nil), ty, kF (by decide +kernel) (by decide +kernel), false, rfl, iteF ?_⟩
        have ey := hy1.intI
        subst ey
        refine ⟨_, rfl, rfl, _, rfl, iteN (decide_eq_false (fun h => nomatch h)) ?_⟩
        refine ⟨_, rfl, _, _, _, _, false, rfl, .ty _, ty, kit_ty (by decide +kernel), _, rfl, iteF ?_⟩
        refine ⟨_, rfl, _, _, _, _, false, rfl, .ty _, ty, kit_ty (by decide +kernel), _, rfl, iteF ?_⟩
        refine ⟨_, rfl, _, _, _, _, true, rfl, .ty _, tx, kit_ty (by decide +kernel), _, rfl, iteT ?_⟩
        refine ⟨_, rfl, _, _, _, _, false, rfl, .ty _, tx, kit_ty (by decide +kernel), _, rfl, _, rfl, iteT ?_⟩
        refine ⟨_, rfl, _, rfl, _, _, hx1.dP, hy1.dP, hd.sh (by omega), hd.sh (by omega), ?_⟩
        rw [eqv_sh hd]
        exact q _ s1
      | str z =>
        have tx : TyX K H1 x (.type "str") := hx1.ty
        have ty : TyX K H1 y (.type "str") := hy1.ty
        refine ⟨y, tp, _, _, [.type "list", .type "tuple"], false, rfl, hT, .cons (.ty _) (.cons (.ty _) .nil), ty, kF (by decide +kernel) (by decide +kernel), false, rfl, iteF ?_⟩
        have ey : y = .str z := by cases hy1; rfl
        subst ey
        refine ⟨_, rfl, rfl, _, rfl, iteN (decide_eq_false (fun h => nomatch h)) ?_⟩
        refine ⟨_, rfl, _, _, _, _, true, rfl, .ty _, ty, kit_ty (by decide +kernel), _, rfl, iteT ?_⟩
        refine ⟨_, rfl, _, rfl, _, _, hx1.dP, hy1.dP, hd.sh (by omega), hd.sh (by omega), _, rfl, iteE (eqv_sh hd) ?_⟩
        refine ⟨_, rfl, _, _, _, _, true, rfl, .ty _, tx, kit_ty (by decide +kernel), _, rfl, _, _, _, _, true, rfl, .ty _, ty, kit_ty (by decide +kernel), rfl, ?_⟩
        exact q _ s1
      | dict kvs => cases hx
theorem ok_l_same (T : Tx K mg) {k : Nat} : FnOk P w K mg base CX0 (k + 1) T.f_l_same T.d_l_same ["_law_found", "_law_due"] (spSame (k + 1)) := same_all T (k + 1)
/-! ### the sum of what rows are away from a middle -/
def rowAt (rs : List (List Int × Int)) (i : Nat) : List Int × Int := rs.getD i ([], 0)
def totN (rs : List (List Int × Int)) (m : List Rat) (wd : Nat) : Nat → Rat
  | 0 => 0
  | i + 1 => totN rs m wd i + ((rowAt rs i).2 : Rat) * farN (rowAt rs i).1 m wd
def plN (rs : List (List Int × Int)) (x : Rat) (p : Nat) : Nat → Rat
  | 0 => 0
  | i + 1 => plN rs x p i + ((rowAt rs i).2 : Rat) * sq (((rowAt rs i).1.getD p 0 : Rat) - x)
def s0N (rs : List (List Int × Int)) : Nat → Int
  | 0 => 0
  | i + 1 => s0N rs i + (rowAt rs i).2
def s1N (rs : List (List Int × Int)) (p : Nat) : Nat → Int
  | 0 => 0
  | i + 1 => s1N rs p i + (rowAt rs i).2 * (rowAt rs i).1.getD p 0
def s2N (rs : List (List Int × Int)) (p : Nat) : Nat → Int
  | 0 => 0
  | i + 1 => s2N rs p i + (rowAt rs i).2 * (rowAt rs i).1.getD p 0 * (rowAt rs i).1.getD p 0
theorem totN_zero (rs : List (List Int × Int)) (m : List Rat) : ∀ i, totN rs m 0 i = 0
  | 0 => rfl
  | i + 1 => by
    rw [totN, totN_zero rs m i, farN]
    grind
theorem totN_succ (rs : List (List Int × Int)) (m : List Rat) (wd : Nat) : ∀ i, totN rs m (wd + 1) i = totN rs m wd i + plN rs (m.getD wd 0) wd i
  | 0 => by simp [totN, plN]; grind
  | i + 1 => by
    rw [totN, totN, plN, totN_succ rs m wd i, farN]
    grind
theorem plN_eq (rs : List (List Int × Int)) (x : Rat) (p : Nat) : ∀ i, plN rs x p i = (s2N rs p i : Rat) - 2 * x * (s1N rs p i : Rat) + x * x * (s0N rs i : Rat)
  | 0 => by simp [plN, s2N, s1N, s0N]; grind
  | i + 1 => by
    rw [plN, plN_eq rs x p i, s2N, s1N, s0N]
    unfold sq
    simp only [Rat.intCast_add, Rat.intCast_mul]
    grind
theorem sq_nonneg (x : Rat) : 0 ≤ x * x := by
  rcases Rat.nonneg_total x with h | h
  · exact Rat.mul_nonneg h h
  · have := Rat.mul_nonneg h h
    rw [Rat.neg_mul, Rat.mul_neg, Rat.neg_neg] at this
    exact this
theorem plN_least {rs : List (List Int × Int)} {p i : Nat} {u : Rat} (x : Rat) (h0 : 0 ≤ s0N rs i) (hu : (s1N rs p i : Rat) = u * (s0N rs i : Rat)) : plN rs u p i ≤ plN rs x p i := by
  rw [Rat.le_iff_sub_nonneg, plN_eq, plN_eq, hu]
  have e : ((s2N rs p i : Rat) - 2 * x * (u * (s0N rs i : Rat)) + x * x * (s0N rs i : Rat)) - ((s2N rs p i : Rat) - 2 * u * (u * (s0N rs i : Rat)) + u * u * (s0N rs i : Rat)) = (s0N rs i : Rat) * ((x - u) * (x - u)) := by grind
  rw [e]
  exact Rat.mul_nonneg (Rat.intCast_nonneg.mpr h0) (sq_nonneg _)
theorem totN_least {rs : List (List Int × Int)} {i : Nat} {m u : List Rat} (h0 : 0 ≤ s0N rs i) : ∀ wd, (∀ p, p < wd → (s1N rs p i : Rat) = u.getD p 0 * (s0N rs i : Rat)) → totN rs u wd i ≤ totN rs m wd i
  | 0, _ => by rw [totN_zero, totN_zero]; exact Rat.le_refl
  | wd + 1, h => by
    rw [totN_succ, totN_succ]
    have a := totN_least (m := m) h0 wd fun p hp => h p (by omega)
    have b := plN_least (rs := rs) (p := wd) (i := i) (m.getD wd 0) h0 (h wd (by omega))
    have c := Rat.add_le_add_right (c := plN rs (u.getD wd 0) wd i) |>.mpr a
    have d := Rat.add_le_add_left (c := totN rs m wd i) |>.mpr b
    exact Rat.le_trans c d
theorem s0N_all : ∀ (rs : List (List Int × Int)), s0N rs rs.length = cnt rs := by
  have h : ∀ (rs : List (List Int × Int)) (i : Nat), s0N rs i = cnt (rs.take i) := by
    intro rs i
    induction i with
    | zero => rfl
    | succ i ih =>
      rw [s0N, ih, List.take_add_one]
      unfold cnt rowAt
      cases e : rs[i]? with
      | none => simp [List.getD_eq_getElem?_getD, e]
      | some r => simp [List.getD_eq_getElem?_getD, e]
  intro rs
  rw [h, List.take_length]
theorem s1N_all (p : Nat) : ∀ (rs : List (List Int × Int)), s1N rs p rs.length = wsum rs p := by
  have h : ∀ (rs : List (List Int × Int)) (i : Nat), s1N rs p i = wsum (rs.take i) p := by
    intro rs i
    induction i with
    | zero => rfl
    | succ i ih =>
      rw [s1N, ih, List.take_add_one]
      unfold wsum rowAt
      cases e : rs[i]? with
      | none => simp [List.getD_eq_getElem?_getD, e]
      | some r => simp [List.getD_eq_getElem?_getD, e]
  intro rs
  rw [h, List.take_length]
def midQ (rs : List (List Int × Int)) (p : Nat) : Rat := Rat.divInt (wsum rs p) (cnt rs)
def midL (rs : List (List Int × Int)) (wd : Nat) : List Rat := (List.range wd).map (midQ rs)
theorem midL_at {rs : List (List Int × Int)} {wd p : Nat} (h : p < wd) : (midL rs wd).getD p 0 = midQ rs p := by
  unfold midL
  rw [List.getD_eq_getElem?_getD, List.getElem?_map, List.getElem?_range h]
  rfl
theorem div_mul_q {t b : Int} (h : b ≠ 0) : Rat.divInt t b * (b : Rat) = (t : Rat) := by
  rw [Rat.divInt_eq_div]
  refine Rat.div_mul_cancel ?_
  intro z
  exact h (Rat.intCast_inj.mp z)
theorem spread_least {rs : List (List Int × Int)} {wd : Nat} (h : 0 < cnt rs) (m : List Rat) : totN rs (midL rs wd) wd rs.length ≤ totN rs m wd rs.length := by
  refine totN_least (by rw [s0N_all]; omega) wd fun p hp => ?_
  rw [midL_at hp, s0N_all, s1N_all]
  unfold midQ
  exact (div_mul_q (by omega)).symm
theorem farN_self {c : List Int} {m : List Rat} : ∀ wd, (∀ p, p < wd → m.getD p 0 = (c.getD p 0 : Rat)) → farN c m wd = 0
  | 0, _ => rfl
  | wd + 1, h => by
    rw [farN, farN_self wd fun p hp => h p (by omega), h wd (by omega)]
    unfold sq
    grind
theorem midQ_one {c : List Int} {n : Int} {p : Nat} (h : 0 < n) : midQ [(c, n)] p = (c.getD p 0 : Rat) := by
  unfold midQ wsum cnt
  simp only [List.map_cons, List.map_nil, List.sum_cons, List.sum_nil, Int.add_zero]
  have : Rat.divInt (n * c.getD p 0) (n * 1) = Rat.divInt (c.getD p 0) 1 := Rat.divInt_mul_left (by omega)
  rw [Int.mul_one] at this
  rw [this, ← Rat.num_divInt_den (c.getD p 0 : Rat)]
  rfl
theorem spread_one {c : List Int} {n : Int} {wd : Nat} (h : 0 < n) : totN [(c, n)] (midL [(c, n)] wd) wd 1 = 0 := by
  show (0 : Rat) + (n : Rat) * farN c (midL [(c, n)] wd) wd = 0
  rw [farN_self wd fun p hp => by rw [midL_at hp, midQ_one h]]
  grind
theorem rowAt_of {rs : List (List Int × Int)} {i : Nat} (h : i < rs.length) : rowAt rs i = rs[i] := by
  unfold rowAt
  rw [List.getD_eq_getElem?_getD, List.getElem?_eq_getElem h]
  rfl
theorem totN_step {rs : List (List Int × Int)} {m : List Rat} {wd i : Nat} (h : i < rs.length) : totN rs m wd (i + 1) = totN rs m wd i + (rs[i].2 : Rat) * farN rs[i].1 m wd := by
  rw [totN, rowAt_of h]
structure TotOk (rs : List (List Int × Int)) (m : List Rat) (wd M A : Nat) : Prop where
  l : rs.length ≤ 1000
  w : wd ≤ 100
  r : ∀ r ∈ rs, rOk wd r
  f : ∀ r ∈ rs, FarOk r.1 m M A
theorem TotOk.one {rs : List (List Int × Int)} {m : List Rat} {wd M A : Nat} (o : TotOk rs m wd M A) {r : List Int × Int} (h : r ∈ rs) : Fr (M * M) (1000 * (wd * ((100000000 * M + A) * (100000000 * M + A)))) ((r.2 : Rat) * farN r.1 m wd) := by
  have h1 := o.r r h
  have h2 := (o.f r h).far wd
  have h3 : Fr 1 (1000 * 1) (r.2 : Rat) := Fr.int (by decide) (by have := h1.2.2; omega)
  have := h3.mul h2
  rw [Nat.one_mul, Nat.mul_one] at this
  exact this
theorem TotOk.tot {rs : List (List Int × Int)} {m : List Rat} {wd M A : Nat} (hM : 0 < M) (o : TotOk rs m wd M A) : ∀ i, i ≤ rs.length → Fr (M * M) (i * (1000 * (wd * ((100000000 * M + A) * (100000000 * M + A))))) (totN rs m wd i)
  | 0, _ => Fr.zero (Nat.mul_pos hM hM)
  | i + 1, h => by
    rw [totN_step (by omega), Nat.succ_mul]
    exact (TotOk.tot hM o i (by omega)).add (Nat.mul_pos hM hM) (o.one (List.getElem_mem _))
theorem tb1 {M A wd i : Nat} (h : M < 2 ^ 200) (h2 : A < 2 ^ 200) (hi : i ≤ 1000) (hw : wd ≤ 100) : i * (1000 * (wd * ((100000000 * M + A) * (100000000 * M + A)))) < lim :=
  Nat.lt_of_le_of_lt (Nat.mul_le_mul hi (Nat.mul_le_mul_left _ (Nat.mul_le_mul hw (Nat.le_of_lt (fb3 h h2))))) (by decide +kernel)
theorem TotOk.qb {rs : List (List Int × Int)} {m : List Rat} {wd M A : Nat} (h : 0 < rs.length) (o : TotOk rs m wd M A) {i : Nat} (hi : i ≤ rs.length) : Qb (totN rs m wd i) := by
  have f := o.f _ (List.getElem_mem h)
  have := o.l
  exact (o.tot f.M0 i hi).qb (Nat.mul_pos f.M0 f.M0) (fb1 f.M1) (tb1 f.M1 f.A1 (by omega) o.w)
theorem TotOk.qb1 {rs : List (List Int × Int)} {m : List Rat} {wd M A : Nat} (o : TotOk rs m wd M A) {r : List Int × Int} (h : r ∈ rs) : Qb ((r.2 : Rat) * farN r.1 m wd) := by
  have f := o.f _ h
  exact (o.one h).qb (Nat.mul_pos f.M0 f.M0) (fb1 f.M1) (Nat.lt_of_le_of_lt (Nat.le_of_eq (Nat.one_mul _).symm) (tb1 f.M1 f.A1 (show 1 ≤ 1000 by decide) o.w))
theorem qb_int {n : Int} (h : n.natAbs < lim) : Qb (n : Rat) := ⟨(by show 1 < lim; decide +kernel), h⟩
theorem mid_far {rs : List (List Int × Int)} {wd : Nat} (h0 : 0 < rs.length) (hl : rs.length ≤ 1000) (hw : wd ≤ 100) (ho : ∀ r ∈ rs, rOk wd r) {c : List Int} (hc : c.length = wd) (hi : cIn (-100000000) 100000000 c) : FarOk c (midL rs wd) (cnt rs).natAbs (999000 * rs.length) where
  l := by unfold midL; rw [List.length_map, List.length_range]; exact hc.symm
  l2 := by omega
  c := hi
  M0 := by have := cnt_in ho; omega
  M1 := by have := cnt_in ho; omega
  A1 := by omega
  m := fun z hz => by
    obtain ⟨p, hp, rfl⟩ := List.mem_map.mp hz
    have := cnt_in ho
    have w := wsum_in p ho
    refine ⟨wsum rs p, ?_, by omega⟩
    unfold midQ
    congr 1
    omega
theorem mid_tot {rs : List (List Int × Int)} {wd : Nat} (h0 : 0 < rs.length) (hl : rs.length ≤ 1000) (hw : wd ≤ 100) (ho : ∀ r ∈ rs, rOk wd r) : TotOk rs (midL rs wd) wd (cnt rs).natAbs (999000 * rs.length) where
  l := hl
  w := hw
  r := ho
  f := fun r hr => mid_far h0 hl hw ho (ho r hr).1 ((ho r hr).2.1.mono (by decide) (by decide))
/-! ### sums of fractions -/
theorem rowsAt {B : List Addr} {H : Hp} {vs : List V} {rs : List (List Int × Int)} (h : DtA B H vs (rs.map eRow)) {i : Nat} {v : V} (hv : vs[i]? = some v) : ∃ (hi : i < rs.length) (a q : Addr), v = .ref a ∧ a ∉ B ∧ H a = some (.tup [.ref q, .int rs[i].2]) ∧ q ∉ B ∧ H q = some (.tup (rs[i].1.map V.int)) := by
  obtain ⟨d, f, g⟩ := h.getV hv
  rw [List.getElem?_map] at f
  by_cases hi : i < rs.length
  · rw [List.getElem?_eq_getElem hi] at f
    have ed : d = eRow rs[i] := (Option.some.inj f).symm
    subst ed
    obtain ⟨a, q, h1, h2, h3, h4, h5⟩ := g.rowI
    exact ⟨hi, a, q, h1, h2, h3, h4, h5⟩
  · rw [List.getElem?_eq_none (by omega)] at f
    cases f
def spSumQ : Sp := fun vs H Q _ => ∃ (C : List Addr) (fa : Addr) (vs' : List V) (n : Nat) (t x : Nat → Rat), vs = [.ref fa] ∧ H fa = some (.lst vs') ∧ DtA C H vs' ((List.range n).map fun i => enc (qp (x i))) ∧ Bk C H ∧ t 0 = 0 ∧ (∀ i, i < n → t (i + 1) = t i + x i) ∧ (∀ i, i ≤ n → Qb (t i)) ∧ (∀ i, i < n → Qb (x i)) ∧ ∀ v' H', Same H H' → Dt C H' v' (enc (qp (t n))) → Q v' H'
theorem ok_sum_of (T : Tx K mg) {k : Nat} : FnOk P w K mg base CX0 (k + 4) T.f_sum_of T.d_sum_of ["fractions"] spSumQ := by
  refine T.F_sum_of.ok sc_sum_of (fun vs H Q E h => ?_) (fun cdv A outer s H vs Q E hr h => ?_)
  · obtain ⟨C, fa, vs', n, t, x, rfl, _⟩ := h
    rfl
  · obtain ⟨C, fa, vs', n, t, x, rfl, ef, hA, hB, t0, ts, tq, xq, q⟩ := h
    have lv := hA.len
    rw [List.length_map, List.length_range] at lv
    refine ⟨_, (pss_cons (ps_set (i := 1) sc_sum_of.nd rfl (.inl rfl) (pe_tup (pa_cons pe_int (pa_cons pe_int pa_nil))))
      (pss_cons (ps_for PassesOwn.never rfl (pi_listK K (pv 0)) (pg_name (i := 2) sc_sum_of.nd rfl (.inl rfl)) (pss_one (ps_set (i := 1) sc_sum_of.nd rfl (.inl rfl) (pe_call (ok_plus T (k := k)) hr (by rfl) T.g_plus T.F_plus.kp T.b_plus .nil pass0 (pa_cons (pv 1) (pa_cons (pv 2) pa_nil))))))
      (pss_one (ps_ret (pv 1))))), ?_⟩
    refine ⟨(by show 2 ≤ sizeLine; decide), fun s0 hs0 => ?_⟩
    have u0 := sm_new (o := .tup [.int 0, .int 1]) hs0
    have e0 : Dt C (upd H s0 (.tup [.int 0, .int 1])) (.ref s0) (enc (qp (t 0))) := by rw [t0]; exact Dt.ofCol (hB.ne hs0) upd_same
    generalize upd H s0 (.tup [.int 0, .int 1]) = H2 at *
    refine ⟨_, rfl, fa, rfl, ⟨_, SqL.of (u0 _ _ ef)⟩, for_list (xs := vs') (fun i σ H' => ∃ sv y2, σ = [some (.ref fa), some sv, y2] ∧ Same H2 H' ∧ Dt C H' sv (enc (qp (t i))))
      ⟨_, _, rfl, Same.refl _, e0⟩ (fun i σ H' _ h => ?_) (fun i y σ H3 hx h3 => ?_) (fun σ H3 h3 => ?_)⟩
    · obtain ⟨sv, y2, rfl, s2, d2⟩ := h
      exact SqL.of (s2 _ _ (u0 _ _ ef))
    · obtain ⟨sv, y2, rfl, s3, d3⟩ := h3
      obtain ⟨d, fd, gd⟩ := hA.getV hx
      have hi : i < n := by
        have := (List.getElem?_eq_some_iff.mp hx).1
        omega
      rw [List.getElem?_map, List.getElem?_range hi] at fd
      have ed : d = enc (qp (x i)) := (Option.some.inj fd).symm
      subst ed
      have t3 := u0.trans s3
      refine ⟨_, rfl, _, rfl, C, sv, y, _, _, rfl, d3, gd.s t3, tq i (by omega), xq i hi, fun p7 H7 s7 hp7 e7 => ?_⟩
      refine ⟨_, _, rfl, s3.trans s7, ?_⟩
      rw [ts i hi]
      exact Dt.ofCol ((hB.go (Go.of (B := C) t3)).ne hp7) e7
    · obtain ⟨sv, y2, rfl, s3, d3⟩ := h3
      refine ⟨_, rfl, q _ _ (u0.trans s3) ?_⟩
      rw [← lv]
      exact d3
def spFarSum : Sp := fun vs H Q _ => ∃ (B C : List Addr) (v mv : V) (rs : List (List Int × Int)) (m : List Rat) (wd M A : Nat), vs = [v, mv] ∧ Dt B H v (eRs rs) ∧ Dt C H mv (eMq m) ∧ Bk C H ∧ 0 < M ∧ TotOk rs m wd M A ∧ (∀ i, i ≤ rs.length → Qb (totN rs m wd i)) ∧ ∀ v' H', Same H H' → Dt C H' v' (enc (qp (totN rs m wd rs.length))) → Q v' H'
theorem ok_far_sum (T : Tx K mg) {k : Nat} : FnOk P w K mg base CX0 (k + 5) T.f_far_sum T.d_far_sum ["rows", "middle"] spFarSum := by
  refine T.F_far_sum.ok sc_far_sum (fun vs H Q E h => ?_) (fun cdv A outer s H vs Q E hr h => ?_)
  · obtain ⟨B, C, v, mv, rs, m, wd, M, A0, rfl, _⟩ := h
    rfl
  · obtain ⟨B, C, v, mv, rs, m, wd, M, A0, rfl, hv, hm, hB, hM, tk, tq, q⟩ := h
    obtain ⟨ra, vs, rfl, na, ea, hA⟩ := hv.lstI
    have lv := hA.len
    rw [List.length_map] at lv
    have hl := tk.l
    refine ⟨_, (pss_one (ps_ret (pe_call (ok_sum_of T (k := k)) hr (by rfl) T.g_sum_of T.F_sum_of.kp T.b_sum_of .nil pass0 (pa_cons (pe_lc (own := [("colour", 2), ("count", 3)]) (by rfl) sc_far_sum.nd (pi_listK K (pv 0)) (blkOk_by (own := [("colour", 2), ("count", 3)]) (N := N_far_sum) (sc := defScope s_far_sum) (by decide +kernel)) (fun _ _ _ _ _ => (pg_tupK K (n := 2) rfl (pgs_cons (pg_name (i := 2) sc_far_sum.nd rfl (.inl rfl)) (pgs_cons (pg_name (i := 3) sc_far_sum.nd rfl (.inl rfl)) pgs_nil)))) (fun _ _ _ _ _ => pts_nil) (fun _ _ _ _ _ => (pe_call (ok_times T (k := k + 1)) hr (by rfl) T.g_times T.F_times.kp T.b_times .nil pass0 (pa_cons (pe_tup (pa_cons (pv 3) (pa_cons pe_int pa_nil))) (pa_cons (pe_call (ok_far_of T (k := k)) hr (by rfl) T.g_far_of T.F_far_of.kp T.b_far_of .nil pass0 (pa_cons (pv 2) (pa_cons (pv 1) pa_nil))) pa_nil))))) pa_nil)))), ?_⟩
    refine ⟨_, rfl, ra, rfl, ⟨_, SqL.of ea⟩, fun D hD => ?_⟩
    refine lc_pure (B := C) (walk_list (xs := vs)) hD hB (fun H' s' => SqL.of (s' _ _ ea)) (by omega)
      (fun i => some (enc (qp (((rs.getD i ([], 0)).2 : Rat) * farN (rs.getD i ([], 0)).1 m wd)))) (fun i x H0 H3 Ny Nn hi t3 bk y ky kn => ?_) (fun H1 ws s1 eS hW => ?_)
    · obtain ⟨rfl, y⟩ := y
      obtain ⟨hi, a, qa, rfl, _, e1, nq, e2⟩ := rowsAt hA y
      have gd : rs.getD i ([], 0) = rs[i] := by rw [List.getD_eq_getElem?_getD, List.getElem?_eq_getElem hi]; rfl
      rw [gd] at ky
      have mr := List.getElem_mem hi
      have or1 := tk.r _ mr
      have bk3 : Bk C H3 := fun z hz => bk z (List.mem_cons_of_mem _ hz)
      refine ⟨a, _, rfl, SqT.of (t3 _ _ e1), rfl, _, _, rfl, _, _, rfl, rfl, rfl, lc_yes ?_⟩
      refine ⟨_, rfl, (by show 2 ≤ sizeLine; decide), fun p4 hp4 => ?_⟩
      have s4 := sm_new (o := .tup [.int rs[i].2, .int 1]) hp4
      have d4 : Dt C (upd H3 p4 (.tup [.int rs[i].2, .int 1])) (.ref p4) (enc (qp (rs[i].2 : Rat))) := Dt.ofCol (bk3.ne hp4) upd_same
      have t4 := t3.trans s4
      generalize upd H3 p4 (.tup [.int rs[i].2, .int 1]) = H4 at *
      have B4 := hB.go (Go.of (B := C) t4)
      refine ⟨_, rfl, _, rfl, B, C, C, .ref qa, mv, rs[i].1, m, _, _, rfl, Dt.ofCol nq (t4 _ _ e2), hm.s t4, B4, tk.f _ mr, fun v5 H5 s5 d5 => ?_⟩
      rw [or1.1] at d5
      have fq : Qb (farN rs[i].1 m wd) := (tk.f _ mr).qb (by have := tk.w; omega)
      refine ⟨C, .ref p4, v5, _, _, rfl, d4.s s5, d5, qb_int (to_lim (b := 1000) (by have := or1.2.2; omega)), fq, fun p6 H6 s6 hp6 e6 => ?_⟩
      have t46 := (s4.trans s5).trans s6
      refine ky _ _ _ rfl t46 (Dt.ofCol ((bk.go (Go.of (B := []) (s4.trans s5))).ne hp6) e6)
    · rw [fm_some] at hW
      refine ⟨C, D, ws, rs.length, totN rs m wd, fun i => ((rs.getD i ([], 0)).2 : Rat) * farN (rs.getD i ([], 0)).1 m wd, rfl, eS, ?_, hB.go (Go.of (B := C) s1), rfl, fun i hi => ?_, tq, fun i hi => ?_, fun v' H' s' d' => q v' H' (s1.trans s') d'⟩
      · rw [← lv]
        exact hW.un
      · rw [totN_step hi]
        simp [List.getD_eq_getElem?_getD, List.getElem?_eq_getElem hi]
      · have gd : rs.getD i ([], 0) = rs[i] := by rw [List.getD_eq_getElem?_getD, List.getElem?_eq_getElem hi]; rfl
        show Qb (((rs.getD i ([], 0)).2 : Rat) * farN (rs.getD i ([], 0)).1 m wd)
        rw [gd]
        exact tk.qb1 (List.getElem_mem hi)
/-! ### what is shared out, as data; texts of it -/
theorem Dt.away {C : List Addr} {H H' : Hp} {v : V} {d : PyData} (h : Dt [] H v d) (fr : ∀ a ∈ C, H a = none) (s : Same H H') : Dt C H' v d := Dt.to (fun z o _ e => ⟨fun m => (by rw [fr z m] at e; cases e), s _ _ e⟩) d v h
theorem ShR.dt {B : List Addr} {H H' : Hp} {D : Addr} {as : List Addr} {gss : List (List (List Int × Int))} (R : ShR B H H' D as gss) : Dt [] H' (.ref D) (.list (gss.map eRs)) := by
  refine .lst (fun h => nomatch h) R.eD (DtA.mk (by rw [List.length_map, List.length_map]; exact R.len) fun i v d h1 h2 => ?_)
  rw [List.getElem?_map] at h1 h2
  obtain ⟨a, e1, rfl⟩ := Option.map_eq_some_iff.mp h1
  obtain ⟨g, e2, rfl⟩ := Option.map_eq_some_iff.mp h2
  obtain ⟨ws, e, d⟩ := R.row i a g e1 e2
  exact .lst (fun h => nomatch h) e (d.sub (fun _ h => nomatch h))
theorem shw_row {wd : Nat} {r : List Int × Int} (h : rOk wd r) (hw : wd ≤ 5) : Shw (eRow r) 1500 := by
  refine (shw_tup (n := 700) fun d hd => ?_).mono (by simp)
  simp only [List.mem_cons, List.not_mem_nil, or_false] at hd
  rcases hd with rfl | rfl
  · exact shw_eC (h.2.1.mono (by decide) (by decide)) (by have := h.1; omega)
  · exact (shw_int (by have := h.2.2; omega)).mono (by decide)
theorem shw_eRs {wd : Nat} {rs : List (List Int × Int)} (h : ∀ r ∈ rs, rOk wd r) (hw : wd ≤ 5) (l : rs.length ≤ 60) : Shw (eRs rs) 100000 := by
  refine (shw_lst (n := 1500) fun d hd => ?_).mono (by rw [List.length_map]; omega)
  obtain ⟨x, hx, rfl⟩ := List.mem_map.mp hd
  exact shw_row (h x hx) hw
theorem shw_eMq {wd : Nat} {m : List Rat} (h : MidOk wd m) (hw : wd ≤ 5) : Shw (eMq m) 4000 := by
  obtain ⟨h1, M, M0, M1, hz⟩ := h
  refine (shw_tup (n := 700) fun d hd => ?_).mono (by simp only [List.length_map]; omega)
  rw [List.map_map] at hd
  obtain ⟨z, mz, rfl⟩ := List.mem_map.mp hd
  have a := (hz z mz).num M0
  have b := (hz z mz).den M0
  refine (shw_tup (n := 300) fun d hd => ?_).mono (by simp)
  simp only [List.map_cons, List.map_nil, List.mem_cons, List.not_mem_nil, or_false] at hd
  rcases hd with rfl | rfl
  · exact shw_intW (Nat.lt_of_le_of_lt a (by omega))
  · exact shw_intW (show ((z.den : Int)).natAbs < 2 ^ 200 by rw [Int.natAbs_natCast]; omega)
theorem shw_eMs {wd : Nat} {ms : List (List Rat)} (h : ∀ m ∈ ms, MidOk wd m) (hw : wd ≤ 5) (l : ms.length ≤ 12) : Shw (eMs ms) 100000 := by
  refine (shw_lst (n := 4000) fun d hd => ?_).mono (by rw [List.length_map]; omega)
  obtain ⟨x, hx, rfl⟩ := List.mem_map.mp hd
  exact shw_eMq (h x hx) hw
theorem sh_eRow {r : List Int × Int} (h : r.1.length ≤ 100000) : Sh (eRow r) 2 := sh_tup (by simp) fun d hd => by
  simp only [List.mem_cons, List.not_mem_nil, or_false] at hd
  rcases hd with rfl | rfl
  · exact sh_eC h
  · exact sh_int _ 1
theorem sh_eRs {rs : List (List Int × Int)} (l : rs.length ≤ 100000) (h : ∀ r ∈ rs, r.1.length ≤ 100000) : Sh (eRs rs) 3 := sh_lst (by simpa using l) fun d hd => by
  obtain ⟨n, m, rfl⟩ := List.mem_map.mp hd
  exact sh_eRow (h n m)
theorem shares_ok {wd : Nat} {ms : List (List Rat)} {rs : List (List Int × Int)} (h : ∀ r ∈ rs, rOk wd r) (l : rs.length ≤ 60) : ∀ g ∈ shares ms rs, g.length ≤ 60 ∧ ∀ r ∈ g, rOk wd r := fun g hg => by
  unfold shares at hg
  obtain ⟨j, _, rfl⟩ := List.mem_map.mp hg
  exact ⟨Nat.le_trans (List.length_filter_le ..) l, fun r hr => h r (List.mem_filter.mp hr).1⟩
/-! ### what is lost by middles -/
def MidM (M wd : Nat) (m : List Rat) : Prop := m.length = wd ∧ ∀ z ∈ m, Fr M (10000 * M) z
theorem MidM.ok {M wd : Nat} {m : List Rat} (h : MidM M wd m) (M0 : 0 < M) (M1 : M < 2 ^ 180) : MidOk wd m := ⟨h.1, M, M0, M1, h.2⟩
theorem MidM.far {M wd : Nat} {m : List Rat} {c : List Int} (h : MidM M wd m) (M0 : 0 < M) (M1 : M < 2 ^ 180) (hc : c.length = wd) (hw : wd ≤ 5) (cc : cIn (-100000000) 100000000 c) : FarOk c m M (10000 * M) := ⟨by rw [h.1, hc], by omega, cc, M0, Nat.lt_of_lt_of_le M1 (by decide), by omega, h.2⟩
def wt (ms : List (List Rat)) (r : List Int × Int) : Rat := (r.2 : Rat) * farI r.1 ms (argF (farI r.1 ms) ms.length)
def sumQ : List Rat → Rat
  | [] => 0
  | x :: xs => x + sumQ xs
theorem sumQ_app : ∀ (xs : List Rat) (y : Rat), sumQ (xs ++ [y]) = sumQ xs + y
  | [], y => by show y + 0 = 0 + y; grind
  | x :: xs, y => by
    show x + sumQ (xs ++ [y]) = x + sumQ xs + y
    rw [sumQ_app xs y]
    grind
def lostQ (ms : List (List Rat)) (rs : List (List Int × Int)) : Rat := sumQ (rs.map (wt ms))
def gq (wd : Nat) (ms : List (List Rat)) (gss : List (List (List Int × Int))) (j : Nat) : Rat := totN (gss.getD j []) (ms.getD j []) wd (gss.getD j []).length
def tq (wd : Nat) (ms : List (List Rat)) (gss : List (List (List Int × Int))) : Nat → Rat
  | 0 => 0
  | i + 1 => tq wd ms gss i + gq wd ms gss i
theorem totN_sum (g : List (List Int × Int)) (m : List Rat) (wd : Nat) : ∀ i, i ≤ g.length → totN g m wd i = sumQ ((g.take i).map fun r => (r.2 : Rat) * farN r.1 m wd)
  | 0, _ => rfl
  | i + 1, h => by
    rw [totN_step (by omega), totN_sum g m wd i (by omega), List.take_add_one, List.getElem?_eq_getElem (by omega), List.map_append]
    show _ = sumQ (_ ++ [_])
    rw [sumQ_app]
theorem sumQ_split {α : Type} (f : α → Rat) (p q s : α → Bool) (h : ∀ x, s x = (p x || q x)) (hd : ∀ x, p x = true → q x = false) : ∀ xs : List α, sumQ ((xs.filter s).map f) = sumQ ((xs.filter p).map f) + sumQ ((xs.filter q).map f)
  | [] => by show (0 : Rat) = 0 + 0; grind
  | x :: xs => by
    have ih := sumQ_split f p q s h hd xs
    by_cases a : p x = true
    · have b := hd x a
      have c : s x = true := by rw [h, a]; rfl
      rw [List.filter_cons_of_pos c, List.filter_cons_of_pos a, List.filter_cons_of_neg (by rw [b]; decide)]
      show f x + _ = f x + _ + _
      rw [ih]
      grind
    · have a' : p x = false := by simpa using a
      by_cases b : q x = true
      · have c : s x = true := by rw [h, b]; simp
        rw [List.filter_cons_of_pos c, List.filter_cons_of_neg a, List.filter_cons_of_pos b]
        show f x + _ = _ + (f x + _)
        rw [ih]
        grind
      · have b' : q x = false := by simpa using b
        have c : s x = false := by rw [h, a', b']; rfl
        rw [List.filter_cons_of_neg (by rw [c]; decide), List.filter_cons_of_neg a, List.filter_cons_of_neg b]
        exact ih
theorem tq_lost {wd : Nat} {ms : List (List Rat)} {rs : List (List Int × Int)} (hr : ∀ r ∈ rs, r.1.length = wd) : ∀ i, i ≤ ms.length → tq wd ms (shares ms rs) i = sumQ ((rs.filter fun r => decide (argF (farI r.1 ms) ms.length < i)).map (wt ms))
  | 0, _ => by
    have : (rs.filter fun r => decide (argF (farI r.1 ms) ms.length < 0)) = [] := List.filter_eq_nil_iff.mpr fun r _ => by simp
    rw [this]
    rfl
  | i + 1, h => by
    rw [sumQ_split (wt ms) (fun r => decide (argF (farI r.1 ms) ms.length < i)) (fun r => decide (argF (farI r.1 ms) ms.length = i)) _ (fun r => ?_) (fun r e => ?_) rs]
    · rw [tq, tq_lost hr i (by omega)]
      congr 1
      unfold gq
      have hg : i < (shares ms rs).length := by rw [shares_len]; omega
      have gd : (shares ms rs).getD i [] = rs.filter fun r => decide (argF (farI r.1 ms) ms.length = i) := by rw [List.getD_eq_getElem?_getD, List.getElem?_eq_getElem hg]; exact shares_at ms rs i hg
      rw [gd, totN_sum _ _ _ _ (Nat.le_refl _), List.take_length]
      congr 1
      refine List.map_congr_left fun r hm => ?_
      obtain ⟨h1, h2⟩ := List.mem_filter.mp hm
      have e := of_decide_eq_true h2
      unfold wt
      rw [e]
      unfold farI
      rw [hr r h1]
    · by_cases a : argF (farI r.1 ms) ms.length < i
      · rw [decide_eq_true a, decide_eq_true (by omega)]
        rfl
      · rw [decide_eq_false a]
        by_cases b : argF (farI r.1 ms) ms.length = i
        · rw [decide_eq_true b, decide_eq_true (by omega)]
          rfl
        · rw [decide_eq_false b, decide_eq_false (by omega)]
          rfl
    · have a := of_decide_eq_true e
      exact decide_eq_false (by omega)
theorem tq_all {wd : Nat} {ms : List (List Rat)} {rs : List (List Int × Int)} (m0 : 0 < ms.length) (hr : ∀ r ∈ rs, r.1.length = wd) : tq wd ms (shares ms rs) ms.length = lostQ ms rs := by
  rw [tq_lost hr _ (Nat.le_refl _)]
  have : (rs.filter fun r => decide (argF (farI r.1 ms) ms.length < ms.length)) = rs := List.filter_eq_self.mpr fun r _ => decide_eq_true (argF_lt _ _ m0)
  rw [this]
  rfl
/-! bounds -/
theorem gq_fr {M wd : Nat} {ms : List (List Rat)} {gss : List (List (List Int × Int))} (M0 : 0 < M) (M1 : M < 2 ^ 180) (hw : wd ≤ 5) (om : ∀ m ∈ ms, MidM M wd m) (og : ∀ g ∈ gss, g.length ≤ 60 ∧ ∀ r ∈ g, rOk wd r) {j : Nat} (h1 : j < ms.length) (h2 : j < gss.length) : TotOk gss[j] ms[j] wd M (10000 * M) := by
  have o := og _ (List.getElem_mem h2)
  exact ⟨by omega, by omega, o.2, fun r hr => (om _ (List.getElem_mem h1)).far M0 M1 (o.2 r hr).1 hw ((o.2 r hr).2.1.mono (by decide) (by decide))⟩
theorem tq_fr {M wd : Nat} {ms : List (List Rat)} {gss : List (List (List Int × Int))} (M0 : 0 < M) (M1 : M < 2 ^ 180) (hw : wd ≤ 5) (om : ∀ m ∈ ms, MidM M wd m) (og : ∀ g ∈ gss, g.length ≤ 60 ∧ ∀ r ∈ g, rOk wd r) (hl : gss.length = ms.length) : ∀ i, i ≤ ms.length → Fr (M * M) ((i * 60) * (1000 * (wd * ((100000000 * M + 10000 * M) * (100000000 * M + 10000 * M))))) (tq wd ms gss i)
  | 0, _ => Fr.zero (Nat.mul_pos M0 M0)
  | i + 1, h => by
    have t := gq_fr M0 M1 hw om og (j := i) (by omega) (by omega)
    have f := t.tot M0 _ (Nat.le_refl _)
    have l := (og _ (List.getElem_mem (show i < gss.length by omega))).1
    have e : gq wd ms gss i = totN gss[i] ms[i] wd gss[i].length := by
      unfold gq
      rw [List.getD_eq_getElem?_getD, List.getElem?_eq_getElem (show i < gss.length by omega), List.getD_eq_getElem?_getD, List.getElem?_eq_getElem (show i < ms.length by omega)]
      rfl
    rw [tq, Nat.succ_mul, Nat.add_mul, e]
    exact (tq_fr M0 M1 hw om og hl i (by omega)).add (Nat.mul_pos M0 M0) (f.mono (Nat.mul_le_mul_right _ l))
theorem tq_qb {M wd : Nat} {ms : List (List Rat)} {gss : List (List (List Int × Int))} (M0 : 0 < M) (M1 : M < 2 ^ 180) (hw : wd ≤ 5) (om : ∀ m ∈ ms, MidM M wd m) (og : ∀ g ∈ gss, g.length ≤ 60 ∧ ∀ r ∈ g, rOk wd r) (hl : gss.length = ms.length) (h13 : ms.length ≤ 13) {i : Nat} (hi : i ≤ ms.length) : Qb (tq wd ms gss i) := by
  have a1 : M < 2 ^ 200 := Nat.lt_of_lt_of_le M1 (by decide)
  exact (tq_fr M0 M1 hw om og hl i hi).qb (Nat.mul_pos M0 M0) (fb1 a1) (tb1 a1 (by omega) (by omega) (by omega))
theorem argF_le (f : Nat → Rat) : ∀ n i, i < n → f (argF f n) ≤ f i
  | 0, _, h => absurd h (by omega)
  | n + 1, i, h => by
    rw [argF]
    by_cases e : f n < f (argF f n)
    · rw [if_pos e]
      rcases Nat.lt_or_ge i n with c | c
      · have := argF_le f n i c
        grind
      · have : i = n := by omega
        rw [this]
        exact Rat.le_refl
    · rw [if_neg e]
      rcases Nat.lt_or_ge i n with c | c
      · exact argF_le f n i c
      · have : i = n := by omega
        rw [this]
        grind
theorem argF_same {f g : Nat → Rat} {n m : Nat} (n0 : 0 < n) (m0 : 0 < m) (h1 : ∀ i, i < n → ∃ j, j < m ∧ g j = f i) (h2 : ∀ j, j < m → ∃ i, i < n ∧ f i = g j) : f (argF f n) = g (argF g m) := by
  obtain ⟨j, hj, ej⟩ := h1 _ (argF_lt f n n0)
  obtain ⟨i, hi, ei⟩ := h2 _ (argF_lt g m m0)
  have a := argF_le g m j hj
  have b := argF_le f n i hi
  grind
theorem lost_rev {ms : List (List Rat)} (m0 : 0 < ms.length) (rs : List (List Int × Int)) : lostQ ms.reverse rs = lostQ ms rs := by
  unfold lostQ
  congr 1
  refine List.map_congr_left fun r _ => ?_
  unfold wt
  congr 1
  have e : ∀ i, i < ms.length → farI r.1 ms.reverse i = farI r.1 ms (ms.length - 1 - i) := fun i hi => by
    unfold farI
    rw [List.getD_eq_getElem?_getD, List.getD_eq_getElem?_getD, List.getElem?_reverse hi]
  refine argF_same (by simpa using m0) m0 (fun i hi => ?_) (fun j hj => ?_)
  · rw [List.length_reverse] at hi
    exact ⟨ms.length - 1 - i, by omega, (e i hi).symm⟩
  · refine ⟨ms.length - 1 - j, by rw [List.length_reverse]; omega, ?_⟩
    rw [e _ (by omega)]
    congr 1
    omega
theorem sumQ_le {α : Type} {f g : α → Rat} : ∀ {xs : List α}, (∀ x ∈ xs, f x ≤ g x) → sumQ (xs.map f) ≤ sumQ (xs.map g)
  | [], _ => Rat.le_refl
  | x :: xs, h => by
    have a := h x (List.mem_cons_self ..)
    have b := sumQ_le (xs := xs) fun y hy => h y (List.mem_cons_of_mem _ hy)
    show f x + _ ≤ g x + _
    grind
theorem farI_app {c : List Int} {ms : List (List Rat)} (x : List Rat) {j : Nat} (hj : j < ms.length) : farI c (ms ++ [x]) j = farI c ms j := by
  unfold farI
  rw [List.getD_eq_getElem?_getD, List.getD_eq_getElem?_getD, List.getElem?_append_left hj]
theorem lost_more {ms : List (List Rat)} (m0 : 0 < ms.length) (x : List Rat) {rs : List (List Int × Int)} (hr : ∀ r ∈ rs, 0 ≤ r.2) : lostQ (ms ++ [x]) rs ≤ lostQ ms rs := by
  refine sumQ_le fun r hm => ?_
  unfold wt
  have hj := argF_lt (farI r.1 ms) ms.length m0
  have e := farI_app (c := r.1) x hj
  have a := argF_le (farI r.1 (ms ++ [x])) (ms ++ [x]).length (argF (farI r.1 ms) ms.length) (by rw [List.length_append]; omega)
  rw [e] at a
  exact Rat.mul_le_mul_of_nonneg_left a (by exact_mod_cast hr r hm)
theorem lost_own {rs : List (List Int × Int)} {wd : Nat} (hr : ∀ r ∈ rs, r.1.length = wd) : lostQ (rs.map fun r => r.1.map fun (x : Int) => (x : Rat)) rs = 0 := by
  have z : ∀ r ∈ rs, wt (rs.map fun r => r.1.map fun (x : Int) => (x : Rat)) r = 0 := fun r hm => by
    obtain ⟨i, hi, ei⟩ := List.getElem_of_mem hm
    have f0 : farI r.1 (rs.map fun r => r.1.map fun (x : Int) => (x : Rat)) i = 0 := by
      unfold farI
      refine farN_self _ fun p hp => ?_
      rw [List.getD_eq_getElem?_getD, List.getD_eq_getElem?_getD, List.getElem?_map, List.getElem?_eq_getElem hi, ei]
      rw [List.getD_eq_getElem?_getD]
      show ((r.1.map fun (x : Int) => (x : Rat))[p]?).getD 0 = _
      rw [List.getElem?_map, List.getElem?_eq_getElem hp]
      rfl
    have a := argF_le (farI r.1 (rs.map fun r => r.1.map fun (x : Int) => (x : Rat))) _ i (show i < (rs.map fun r => r.1.map fun (x : Int) => (x : Rat)).length by rw [List.length_map]; exact hi)
    have b : 0 ≤ farI r.1 (rs.map fun r => r.1.map fun (x : Int) => (x : Rat)) (argF (farI r.1 (rs.map fun r => r.1.map fun (x : Int) => (x : Rat))) (rs.map fun r => r.1.map fun (x : Int) => (x : Rat)).length) := farN_nonneg _ _ _
    unfold wt
    rw [f0] at a
    have c := Rat.le_antisymm a b
    rw [c]
    grind
  unfold lostQ
  have : ∀ xs : List (List Int × Int), (∀ r ∈ xs, wt (rs.map fun r => r.1.map fun (x : Int) => (x : Rat)) r = 0) → sumQ (xs.map (wt (rs.map fun r => r.1.map fun (x : Int) => (x : Rat)))) = 0 := by
    intro xs
    induction xs with
    | nil => intro _; rfl
    | cons x xs ih =>
      intro h
      show wt _ x + _ = 0
      rw [h x (List.mem_cons_self ..), ih fun y hy => h y (List.mem_cons_of_mem _ hy)]
      grind
  exact this rs z
/-! ### middles that are drawn -/
theorem rats {Pz : Rat → Prop} : ∀ {ds : List PyData}, (∀ d ∈ ds, ∃ z, d = enc (qp z) ∧ Pz z) → ∃ m : List Rat, ds = (m.map qp).map enc ∧ ∀ z ∈ m, Pz z
  | [], _ => ⟨[], rfl, fun _ h => nomatch h⟩
  | d :: ds, h => by
    obtain ⟨m, e, hm⟩ := rats (ds := ds) fun x hx => h x (List.mem_cons_of_mem _ hx)
    obtain ⟨z, ez, hz⟩ := h d (List.mem_cons_self ..)
    refine ⟨z :: m, by rw [e, ez]; rfl, fun y hy => ?_⟩
    rcases List.mem_cons.mp hy with q | q
    · rw [q]; exact hz
    · exact hm y q
theorem sh_eMq {m : List Rat} (h : m.length ≤ 100000) : Sh (eMq m) 2 := sh_tup (by simpa using h) fun d hd => by
  obtain ⟨n, _, rfl⟩ := List.mem_map.mp hd
  exact sh_eC (by simp)
theorem sh_eMs {ms : List (List Rat)} (l : ms.length ≤ 100000) (h : ∀ m ∈ ms, m.length ≤ 100000) : Sh (eMs ms) 3 := sh_lst (by simpa using l) fun d hd => by
  obtain ⟨n, m, rfl⟩ := List.mem_map.mp hd
  exact sh_eMq (h n m)
def spMiddles : Sp := fun vs H Q _ => ∃ (L : Addr) (n : Nat) (kv : V) (wd : Nat) (sp : Int), vs = [.ref L, kv] ∧ Lf L H n ∧ n < 10000000 ∧ Dt [L] H kv (eC [(wd : Int), sp]) ∧ wd ≤ 5 ∧ 1 ≤ sp ∧ sp ≤ 1000 ∧
  ∀ (v : V) (H' : Hp) (ms : List (List Rat)), Go [L] H H' → Lf L H' (n + 2000) → Dt [L] H' v (eMs ms) → 0 < ms.length → ms.length ≤ 12 → (∀ m ∈ ms, MidM 418740 wd m) → Q v H'
theorem eMq_tup {B : List Addr} {H : Hp} {t D : Addr} {ws : List V} {m : List Rat} (hB : Bk B H) (hW : DtA B H ws ((m.map qp).map enc)) (ht : H t = none) : Dt B (upd H t (.tup ws)) (.ref t) (eMq m) := .tup (hB.ne ht) upd_same (hW.g (Go.new ht))
set_option maxHeartbeats 1000000 in
theorem ok_l_middles (T : Tx K mg) {k : Nat} : FnOk P w K mg base CX0 (k + 4) T.f_l_middles T.d_l_middles ["_law_left_here", "_law_kind_here"] spMiddles := by
  refine T.F_l_middles.ok sc_l_middles (fun vs H Q E h => ?_) (fun cdv A outer s H vs Q E hr h => ?_)
  · obtain ⟨L, n, kv, wd, sp, rfl, _⟩ := h
    rfl
  · obtain ⟨L, n, kv, wd, sp, rfl, hL, hn, hk, w1, s0, s1, q⟩ := h
    obtain ⟨ka, rfl, nk, hkT⟩ := hk.col
    refine ⟨_, (pss_cons (ps_asg (pv 1) (pg_tupK K (n := 2) rfl (pgs_cons (pg_name (i := 2) sc_l_middles.nd rfl (.inl rfl)) (pgs_cons (pg_name (i := 3) sc_l_middles.nd rfl (.inr rfl)) pgs_nil))))
      (pss_cons (ps_set (i := 4) sc_l_middles.nd rfl (.inl rfl) (pe_lst pa_nil))
      (pss_cons (ps_for PassesOwn.never rfl (pi_range1 (by rfl) T.z_range (pa_cons (pe_ix (ix_listK K) (pe_lst (pa_cons pe_int (pa_cons pe_int (pa_cons pe_int (pa_cons pe_int (pa_cons pe_int (pa_cons pe_int (pa_cons pe_int (pa_cons (pe_op op_add pe_int (pe_call (ok_l_pick T (k := k + 1)) hr (by rfl) T.g_l_pick T.F_l_pick.kp T.b_l_pick .nil pass0 (pa_cons (pv 0) (pa_cons pe_int pa_nil)))) pa_nil))))))))) (pe_call (ok_l_pick T (k := k + 1)) hr (by rfl) T.g_l_pick T.F_l_pick.kp T.b_l_pick .nil pass0 (pa_cons (pv 0) (pa_cons pe_int pa_nil))) (fun _ _ => rfl)) pa_nil)) (pg_name (i := 5) sc_l_middles.nd rfl (.inl rfl)) (pss_cons (ps_set (i := 6) sc_l_middles.nd rfl (.inl rfl) (pe_call (ok_l_colour T (k := k)) hr (by rfl) T.g_l_colour T.F_l_colour.kp T.b_l_colour .nil pass0 (pa_cons (pv 0) (pa_cons (pv 1) pa_nil))))
      (pss_cons (ps_set (i := 7) sc_l_middles.nd rfl (.inl rfl) (pe_call (ok_l_colour T (k := k)) hr (by rfl) T.g_l_colour T.F_l_colour.kp T.b_l_colour .nil pass0 (pa_cons (pv 0) (pa_cons (pv 1) pa_nil))))
      (pss_cons (ps_set (i := 8) sc_l_middles.nd rfl (.inl rfl) (pe_call (ok_l_pick T (k := k + 1)) hr (by rfl) T.g_l_pick T.F_l_pick.kp T.b_l_pick .nil pass0 (pa_cons (pv 0) (pa_cons pe_int pa_nil))))
      (pss_cons (ps_set (i := 9) sc_l_middles.nd rfl (.inl rfl) (pe_callTy (tuple_K K) (by rfl) T.z_tuple (by decide +kernel) (pa_cons (pe_lc (own := [("_law_number", 10)]) (by rfl) sc_l_middles.nd (pi_tupK K (pv 6)) (blkOk_by (own := [("_law_number", 10)]) (N := N_l_middles) (sc := defScope s_l_middles) (by decide +kernel)) (fun _ _ _ _ _ => (pg_name (i := 10) sc_l_middles.nd rfl (.inl rfl))) (fun _ _ _ _ _ => pts_nil) (fun _ _ _ _ _ => (pe_tup (pa_cons (pv 10) (pa_cons pe_int pa_nil))))) pa_nil)))
      (Evl.pss_cut (ps_if (pt_cmpR op_eq (pv 8) pe_int (nomark _)) (pss_one (ps_set (i := 9) sc_l_middles.nd rfl (.inl rfl) (pe_callTy (tuple_K K) (by rfl) T.z_tuple (by decide +kernel) (pa_cons (pe_lc (own := [("_law_a", 11), ("_law_b", 12)]) (by rfl) sc_l_middles.nd (RZ.pi_zipA (by rfl) T.z_zip (pa_cons (pv 6) (pa_cons (pv 7) pa_nil))) (blkOk_by (own := [("_law_a", 11), ("_law_b", 12)]) (N := N_l_middles) (sc := defScope s_l_middles) (by decide +kernel)) (fun _ _ _ _ _ => (pg_tupK K (n := 2) rfl (pgs_cons (pg_name (i := 11) sc_l_middles.nd rfl (.inl rfl)) (pgs_cons (pg_name (i := 12) sc_l_middles.nd rfl (.inl rfl)) pgs_nil)))) (fun _ _ _ _ _ => pts_nil) (fun _ _ _ _ _ => (pe_call (ok_l_part T (k := k + 2)) hr (by rfl) T.g_l_part T.F_l_part.kp T.b_l_part .nil pass0 (pa_cons (pe_op op_add (pv 11) (pv 12)) (pa_cons pe_int pa_nil))))) pa_nil)))) pss_nil)
      (Evl.pss_cut (ps_if (pt_cmpR op_eq (pv 8) pe_int (nomark _)) (pss_one (ps_set (i := 9) sc_l_middles.nd rfl (.inl rfl) (pe_callTy (tuple_K K) (by rfl) T.z_tuple (by decide +kernel) (pa_cons (pe_lc (own := [("_law_number", 10)]) (by rfl) sc_l_middles.nd (pi_tupK K (pv 6)) (blkOk_by (own := [("_law_number", 10)]) (N := N_l_middles) (sc := defScope s_l_middles) (by decide +kernel)) (fun _ _ _ _ _ => (pg_name (i := 10) sc_l_middles.nd rfl (.inl rfl))) (fun _ _ _ _ _ => pts_nil) (fun _ _ _ _ _ => (pe_call (ok_l_part T (k := k + 2)) hr (by rfl) T.g_l_part T.F_l_part.kp T.b_l_part .nil pass0 (pa_cons (pe_call (ok_l_pick T (k := k + 1)) hr (by rfl) T.g_l_pick T.F_l_pick.kp T.b_l_pick .nil pass0 (pa_cons (pv 0) (pa_cons (pe_op op_mul (pv 3) pe_int) pa_nil))) (pa_cons (pe_op op_add pe_int (pe_call (ok_l_pick T (k := k + 1)) hr (by rfl) T.g_l_pick T.F_l_pick.kp T.b_l_pick .nil pass0 (pa_cons (pv 0) (pa_cons pe_int pa_nil)))) pa_nil))))) pa_nil)))) pss_nil)
      (Evl.pss_cut (ps_if (pt_cmpR op_eq (pv 8) pe_int (nomark _)) (pss_one (ps_set (i := 9) sc_l_middles.nd rfl (.inl rfl) (pe_callTy (tuple_K K) (by rfl) T.z_tuple (by decide +kernel) (pa_cons (pe_lc (own := [("_law_number", 10)]) (by rfl) sc_l_middles.nd (pi_tupK K (pv 6)) (blkOk_by (own := [("_law_number", 10)]) (N := N_l_middles) (sc := defScope s_l_middles) (by decide +kernel)) (fun _ _ _ _ _ => (pg_name (i := 10) sc_l_middles.nd rfl (.inl rfl))) (fun _ _ _ _ _ => pts_nil) (fun _ _ _ _ _ => (pe_call (ok_l_part T (k := k + 2)) hr (by rfl) T.g_l_part T.F_l_part.kp T.b_l_part .nil pass0 (pa_cons (pe_op op_sub (pe_op op_mul (pv 10) pe_int) (pe_op op_mul pe_int (pe_call (ok_l_pick T (k := k + 1)) hr (by rfl) T.g_l_pick T.F_l_pick.kp T.b_l_pick .nil pass0 (pa_cons (pv 0) (pa_cons pe_int pa_nil))))) (pa_cons pe_int pa_nil))))) pa_nil)))) pss_nil)
      (Evl.pss_cut (ps_if (PW.pt (pw_and (pt_cmpR op_eq (pv 8) pe_int (nomark _)) (pw_and1 (pt_cmpR (op_neDK K hr.units) (pv 4) (pe_lst pa_nil) (nomark _))))) (pss_one (ps_set (i := 9) sc_l_middles.nd rfl (.inl rfl) (pe_ix (ix_listK K) (pv 4) (pe_call (ok_l_pick T (k := k + 1)) hr (by rfl) T.g_l_pick T.F_l_pick.kp T.b_l_pick .nil pass0 (pa_cons (pv 0) (pa_cons (pe_callB (len_K K) (by rfl) T.z_len PySem.boot_len (pa_cons (pv 4) pa_nil)) pa_nil))) (fun _ _ => rfl)))) pss_nil)
      (pss_one (ps_expr (pe_bm PySem.F.plainAttrs_list PySem.F.slot_list_append PySem.F.type_list_append mt_append (pv 4) (pa_cons (pv 9) pa_nil)))))))))))))
      (pss_one (ps_ret (pv 4)))))), ?_⟩
    refine ⟨_, rfl, ka, [.int wd, .int sp], rfl, SqT.of hkT, rfl, .int wd, _, rfl, .int sp, _, rfl, rfl, ?_⟩
    refine ⟨Nat.zero_le _, fun D hD => ?_⟩
    have nD : D ∉ [L] := hL.bk.ne hD
    have lD := hL.new (o := .lst []) hD
    refine ⟨_, rfl, L, 5, n, rfl, lD, by omega, by decide, by decide, fun r0 H0 g0 l0 a0 b0 => ?_⟩
    refine ⟨_, _, rfl, rfl, (by show 8 ≤ sizeLine; decide), fun p hp => ?_⟩
    refine ⟨_, rfl, L, 8, _, rfl, l0.new hp, by omega, by decide, by decide, fun r2 H2 g2 l2 a2 b2 => ?_⟩
    have e2 : H2 p = some (.lst ([1, 2, 3, 4, 5, 7, 2, 8 + r0].map V.int)) := g2.k p _ (l0.bk.ne hp) upd_same
    obtain ⟨m, mm, em⟩ := at_int (ns := [1, 2, 3, 4, 5, 7, 2, 8 + r0]) a2 b2
    have hm : 1 ≤ m ∧ m ≤ 12 := by
      simp at mm
      omega
    have g02 : Go [L] H0 H2 := (Go.new hp).trans g2
    have gH : Go [L] H H2 := ((Go.new hD).trans g0).trans g02
    have eD2 : H2 D = some (.lst []) := (g0.trans g02).k D _ nD upd_same
    refine ⟨p, _, r2, .int m, rfl, rfl, SqL.of e2, em, m, rfl, by omega, by omega, for_range (lo := 0) (n := m.toNat) (fun i σ H' => ∃ y5 y6 y7 y8 y9 y10 y11 y12 vs ms, σ = [some (.ref L), some (.ref ka), some (.int wd), some (.int sp), some (.ref D), y5, y6, y7, y8, y9, y10, y11, y12] ∧ Go [L] H H' ∧ Lf L H' (n + 2 + 100 * i) ∧ H' D = some (.lst vs) ∧ DtA [D, L] H' vs (ms.map eMq) ∧ ms.length = i ∧ ∀ c ∈ ms, MidM 418740 wd c)
      ⟨_, _, _, _, _, _, _, _, [], [], rfl, gH, l2.mono (by omega), eD2, .nil, rfl, fun _ h => nomatch h⟩ (fun i σ H3 hi h3 => ?_) (fun σ H3 h3 => ?_)⟩
    · obtain ⟨y5, y6, y7, y8, y9, y10, y11, y12, vs, ms, rfl, g3, l3, eD, hA, hl, hc⟩ := h3
      have bk3 : Bk [D, L] H3 := l3.bk.cons eD
      refine ⟨_, rfl, _, rfl, L, [D, L], _, .ref ka, wd, sp, rfl, l3, by simp, bk3, by omega, hk.g g3, by omega, by omega, s0, s1, fun ov H4 oc g4 l4 d4 n4 c4 => ?_⟩
      refine ⟨_, rfl, _, rfl, L, [D, L], _, .ref ka, wd, sp, rfl, l4, by simp, bk3.go g4, by omega, hk.g (g3.trans g4), by omega, by omega, s0, s1, fun pv H5 pc g5 l5 d5 n5 c5 => ?_⟩
      refine ⟨_, rfl, L, 6, _, rfl, l5, by omega, by decide, by decide, fun way H6 g6 l6 a6 b6 => ?_⟩
      have g36 : Go [L] H3 H6 := (g4.trans g5).trans g6
      have bk6 : Bk [D, L] H6 := bk3.go g36
      have do6 : Dt [D, L] H6 ov (eC oc) := (d4.g (g5.w1 (by simp))).g (g6.w1 (by simp))
      have dp6 : Dt [D, L] H6 pv (eC pc) := d5.g (g6.w1 (by simp))
      obtain ⟨oa, rfl, noa, eoa⟩ := do6.col
      obtain ⟨pa, rfl, npa, epa⟩ := dp6.col
      refine ⟨_, rfl, oa, rfl, ⟨_, SqT.of eoa⟩, fun D2 hD2 => ?_⟩
      refine lc_pure (B := [D, L]) (walk_tup (xs := oc.map V.int)) hD2 bk6 (fun H' s' => SqT.of (s' _ _ eoa)) (by rw [List.length_map]; omega)
        (fun i => (((oc.map fun (x : Int) => (x : Rat)).map qp).map enc)[i]?) (fun j x H' H'' Ny Nn hj t1 bk y ky kn => ?_) (fun H7 ws s7 eD2 hW => ?_)
      · obtain ⟨rfl, y⟩ := y
        rw [List.length_map] at hj
        have ex := mat hj y
        subst ex
        refine ⟨rfl, lc_yes ⟨_, rfl, (by show 2 ≤ sizeLine; decide), fun p hp => ?_⟩⟩
        exact ky _ _ (enc (oc[j], 1)) (by rw [List.getElem?_map, List.getElem?_map, List.getElem?_map, List.getElem?_eq_getElem hj]; rfl) (sm_new hp) (Dt.ofCol (bk.ne hp) upd_same)
      rw [fm_all (by simp)] at hW
      refine ⟨D2, _, rfl, .inl ⟨SqL.of eD2, fun t ht => ?_⟩⟩
      have s8 := s7.trans (sm_new (o := .tup ws) ht)
      have d8 := eMq_tup (D := D) (bk6.go (Go.of (B := []) s7)) hW.un ht
      generalize upd H7 t (.tup ws) = H8 at *
      have g38 : Go [L] H3 H8 := g36.trans (Go.of s8)
      have l8 := l6.same s8
      have eoa8 := s8 _ _ eoa
      have epa8 := s8 _ _ epa
      have ok8 : MidM 418740 wd (oc.map fun (x : Int) => (x : Rat)) := ⟨by simp; omega, fun z hz => by
        obtain ⟨x, hx, rfl⟩ := List.mem_map.mp hz
        have := c4 x hx
        exact (Fr.int (M := 418740) (A := 10000) (by decide) (by omega))⟩
      have eD8 := g38.k D _ nD eD
      have hA8 := hA.g (g38.w1 (B := [D, L]) (by simp))
      have bk8 : Bk [D, L] H8 := bk3.go g38
      -- what the first three ways make of it
      refine ⟨fun σ' H' => ∃ y5 y10 y11 y12 mv, ∃ mq : List Rat, σ' = [some (.ref L), some (.ref ka), some (.int wd), some (.int sp), some (.ref D), y5, some (.ref oa), some (.ref pa), some (.int way), some mv, y10, y11, y12] ∧ Go [L] H8 H' ∧ Lf L H' (n + 2 + 100 * i + 21) ∧ Dt [D, L] H' mv (eMq mq) ∧ MidM 418740 wd mq, ?_, fun σ' H9 hM => ?_⟩
      · refine ⟨_, rfl, rfl, _, rfl, ite2 (fun e => ?_) (fun e => ?_)⟩
        · refine ⟨_, rfl, _, rfl, oa, pa, _, _, rfl, .inr ⟨SqT.of eoa8, SqT.of epa8, fun D3 hD3 => ?_⟩⟩
          refine lc_pure (B := [D, L]) (walk_zipT (n := oc.length) (xs := oc.map V.int) (ys := pc.map V.int) (by simp; omega)) hD3 bk8 (fun H' s' => ⟨SqT.of (s' _ _ eoa8), SqT.of (s' _ _ epa8)⟩) (by omega)
            (fun i => some (enc (qp (Rat.divInt (oc.getD i 0 + pc.getD i 0) 2)))) (fun j x H' H'' Ny Nn hj t1 bk y ky kn => ?_) (fun H9 ws s9 eD3 hW => ?_)
          · obtain ⟨t, x, y, rfl, ht, rfl, e1, e2⟩ := y
            have j2 : j < pc.length := by omega
            have x1 := mat hj e1
            have x2 := mat j2 e2
            subst x1 x2
            have st := sm_new (o := .tup [.int oc[j], .int pc[j]]) ht
            refine ⟨t, _, rfl, SqT.of upd_same, rfl, _, _, rfl, _, _, rfl, rfl, rfl, lc_yes ?_⟩
            have bkt : Bk (D3 :: [D, L]) (upd H' t (.tup [.int oc[j], .int pc[j]])) := bk.go (Go.of (B := []) st)
            generalize upd H' t (.tup [.int oc[j], .int pc[j]]) = H10 at *
            refine ⟨_, rfl, _, rfl, _, _, rfl, rfl, _, _, rfl, by decide, by decide +kernel, fun p11 H11 s11 hp11 e11 => ?_⟩
            refine ky _ _ _ rfl (st.trans s11) ?_
            rw [List.getD_eq_getElem?_getD, List.getD_eq_getElem?_getD, List.getElem?_eq_getElem hj, List.getElem?_eq_getElem j2]
            exact Dt.ofCol (bkt.ne hp11) e11
          rw [fm_some] at hW
          refine ⟨D3, _, rfl, .inl ⟨SqL.of eD3, fun t ht => ?_⟩⟩
          have er : (List.range oc.length).map (fun i => enc (qp (Rat.divInt (oc.getD i 0 + pc.getD i 0) 2))) = (((List.range oc.length).map fun i => Rat.divInt (oc.getD i 0 + pc.getD i 0) 2).map qp).map enc := by
            rw [List.map_map, List.map_map]
            rfl
          rw [er] at hW
          have dt := eMq_tup (D := D) (bk8.go (Go.of (B := []) s9)) hW.un ht
          have st := s9.trans (sm_new (o := .tup ws) ht)
          refine ⟨_, _, _, _, _, _, rfl, Go.of st, (l8.same st).mono (by omega), dt, by simp; omega, fun z hz => ?_⟩
          obtain ⟨j, hj, rfl⟩ := List.mem_map.mp hz
          have h1 := getD_in c4 (by decide) (by decide) j
          have h2 := getD_in c5 (by decide) (by decide) j
          exact Fr.of (by decide) (by decide) (by decide) (by omega)
        · exact ⟨_, _, _, _, _, _, rfl, Go.refl, l8.mono (by omega), d8, ok8⟩
      obtain ⟨z5, z10, z11, z12, mv, mq, rfl, g9, l9, d9, ok9⟩ := hM
      have eoa9 := g9.k oa _ (fun z => noa (List.mem_cons_of_mem _ z)) eoa8
      have bk9 : Bk [D, L] H9 := bk8.go g9
      refine ⟨fun σ' H' => ∃ y5 y10 y11 y12 mv, ∃ mq : List Rat, σ' = [some (.ref L), some (.ref ka), some (.int wd), some (.int sp), some (.ref D), y5, some (.ref oa), some (.ref pa), some (.int way), some mv, y10, y11, y12] ∧ Go [L] H8 H' ∧ Lf L H' (n + 2 + 100 * i + 31) ∧ Dt [D, L] H' mv (eMq mq) ∧ MidM 418740 wd mq, ?_, fun σ' H10 hM => ?_⟩
      · refine ⟨_, rfl, rfl, _, rfl, ite2 (fun e => ?_) (fun e => ?_)⟩
        · refine ⟨_, rfl, oa, rfl, ⟨_, SqT.of eoa9⟩, fun D3 hD3 => ?_⟩
          have nD3 : D3 ∉ [D, L] := bk9.ne hD3
          refine lc_dtsB (walk_tup (xs := oc.map V.int)) (B := [D, L]) _ 2 (fun d => ∃ z, d = enc (qp z) ∧ Fr 418740 (10000 * 418740) z) hD3 l9 (by simp) bk9 (fun H' g' => SqT.of (g'.k oa _ (fun z => noa (List.mem_cons_of_mem _ z)) eoa9)) (by rw [List.length_map]; omega) (fun j x H10 H11 Ny Nn hj g10 l10 bk10 y ky => ?_) (fun H10 ws ds g10 l10 eD10 hW hn10 hp10 => ?_)
          · obtain ⟨rfl, y⟩ := y
            rw [List.length_map] at hj
            refine ⟨rfl, lc_yes ⟨_, rfl, _, rfl, _, _, rfl, rfl, .inl ⟨by omega, by omega⟩, L, _, _, rfl, l10, by omega, by omega, by omega, fun r11 H11 g11 l11 a11 b11 => ?_⟩⟩
            refine ⟨_, rfl, L, 7, _, rfl, l11, by omega, by decide, by decide, fun r12 H12 g12 l12 a12 b12 => ?_⟩
            refine ⟨_, _, rfl, rfl, _, _, rfl, by omega, to_lim2 (b := 7) (by omega), fun p13 H13 s13 hp13 e13 => ?_⟩
            have bk12 := (bk10.go g11).go g12
            refine ky _ (enc (qp (Rat.divInt r11 (1 + r12)))) _ ((g11.trans g12).trans (Go.of s13)) ((l12.same s13).mono (by omega)) (Dt.ofCol (bk12.ne hp13) e13) ⟨Rat.divInt r11 (1 + r12), rfl, Fr.of (by omega) ?_ (by decide) (by omega)⟩
            have h7 : r12 = 0 ∨ r12 = 1 ∨ r12 = 2 ∨ r12 = 3 ∨ r12 = 4 ∨ r12 = 5 ∨ r12 = 6 := by omega
            rcases h7 with rfl | rfl | rfl | rfl | rfl | rfl | rfl <;> decide
          obtain ⟨mz, ed, omz⟩ := rats hp10
          subst ed
          rw [List.length_map, List.length_map, List.length_map] at hn10
          refine ⟨D3, _, rfl, .inl ⟨SqL.of eD10, fun t ht => ?_⟩⟩
          have dt := eMq_tup (D := D) (bk9.go g10) hW.un ht
          have st := sm_new (o := .tup ws) ht
          exact ⟨_, _, _, _, _, mz, rfl, (g9.trans g10).trans (Go.of st), (l10.same st).mono (by rw [List.length_map]; omega), dt, by omega, omz⟩
        · exact ⟨_, _, _, _, _, _, rfl, g9, l9.mono (by omega), d9, ok9⟩
      clear d9 ok9 mv mq
      obtain ⟨z5, z10, z11, z12, mv, mq, rfl, g10, l10, d10, ok10⟩ := hM
      have eoa10 := g10.k oa _ (fun z => noa (List.mem_cons_of_mem _ z)) eoa8
      have bk10 : Bk [D, L] H10 := bk8.go g10
      refine ⟨fun σ' H' => ∃ y5 y10 y11 y12 mv, ∃ mq : List Rat, σ' = [some (.ref L), some (.ref ka), some (.int wd), some (.int sp), some (.ref D), y5, some (.ref oa), some (.ref pa), some (.int way), some mv, y10, y11, y12] ∧ Go [L] H8 H' ∧ Lf L H' (n + 2 + 100 * i + 41) ∧ Dt [D, L] H' mv (eMq mq) ∧ MidM 418740 wd mq, ?_, fun σ' H11 hM => ?_⟩
      · refine ⟨_, rfl, rfl, _, rfl, ite2 (fun e => ?_) (fun e => ?_)⟩
        · refine ⟨_, rfl, oa, rfl, ⟨_, SqT.of eoa10⟩, fun D3 hD3 => ?_⟩
          refine lc_dtsB (walk_tup (xs := oc.map V.int)) (B := [D, L]) _ 1 (fun d => ∃ z, d = enc (qp z) ∧ Fr 418740 (10000 * 418740) z) hD3 l10 (by simp) bk10 (fun H' g' => SqT.of (g'.k oa _ (fun z => noa (List.mem_cons_of_mem _ z)) eoa10)) (by rw [List.length_map]; omega) (fun j x H11 H12 Ny Nn hj g11 l11 bk11 y ky => ?_) (fun H11 ws ds g11 l11 eD11 hW hn11 hp11 => ?_)
          · obtain ⟨rfl, y⟩ := y
            rw [List.length_map] at hj
            have ex := mat hj y
            subst ex
            have cj := c4 _ (List.getElem_mem hj)
            refine ⟨rfl, lc_yes ⟨_, rfl, _, _, rfl, rfl, .inl ⟨by omega, by omega⟩, _, rfl, L, 3, _, rfl, l11, by omega, by decide, by decide, fun r12 H12 g12 l12 a12 b12 => ?_⟩⟩
            refine ⟨_, _, rfl, rfl, .inr ⟨by omega, by omega⟩, _, _, rfl, rfl, _, _, rfl, by decide, by decide +kernel, fun p13 H13 s13 hp13 e13 => ?_⟩
            exact ky _ (enc (qp (Rat.divInt (oc[j] * 1000 - 500 * r12) 997))) _ (g12.trans (Go.of s13)) ((l12.same s13).mono (by omega)) (Dt.ofCol ((bk11.go g12).ne hp13) e13) ⟨_, rfl, Fr.scale (M := 997) (A := 10000 * 997) (N := 420) ⟨oc[j] * 1000 - 500 * r12, rfl, by omega⟩ (by decide)⟩
          obtain ⟨mz, ed, omz⟩ := rats hp11
          subst ed
          rw [List.length_map, List.length_map, List.length_map] at hn11
          refine ⟨D3, _, rfl, .inl ⟨SqL.of eD11, fun t ht => ?_⟩⟩
          have dt := eMq_tup (D := D) (bk10.go g11) hW.un ht
          have st := sm_new (o := .tup ws) ht
          exact ⟨_, _, _, _, _, mz, rfl, (g10.trans g11).trans (Go.of st), (l11.same st).mono (by rw [List.length_map]; omega), dt, by omega, omz⟩
        · exact ⟨_, _, _, _, _, _, rfl, g10, l10.mono (by omega), d10, ok10⟩
      clear d10 ok10 mv mq
      obtain ⟨z5, z10, z11, z12, mv, mq, rfl, g11, l11, d11, ok11⟩ := hM
      have eD11 := g11.k D _ nD eD8
      have hA11 := hA8.g (g11.w1 (B := [D, L]) (by simp))
      refine ⟨fun σ' H' => ∃ y5 y10 y11 y12 mv, ∃ mq : List Rat, σ' = [some (.ref L), some (.ref ka), some (.int wd), some (.int sp), some (.ref D), y5, some (.ref oa), some (.ref pa), some (.int way), some mv, y10, y11, y12] ∧ Go [L] H11 H' ∧ Lf L H' (n + 2 + 100 * i + 42) ∧ Dt [D, L] H' mv (eMq mq) ∧ MidM 418740 wd mq, ?_, fun σ' H' hM => ?_⟩
      · refine ⟨_, rfl, rfl, _, rfl, ite2 (fun e => ?_) (fun e => ?_)⟩
        · refine ⟨_, rfl, Nat.zero_le _, fun z hz => ⟨eMs ms, .list [], ?_, .lst (SqL.of upd_same) .nil, ?_, rfl, _, rfl, ite2 (fun e => ?_) (fun e => ?_)⟩⟩
          · exact Dt.dP (B := [L]) (.lst nD ((Go.new (B := [L]) hz).k D _ nD eD11) (hA11.un.g (Go.new hz)))
          · exact (sh_eMs (by omega) fun c h => by have := (hc c h).1; omega).sh (by omega)
          · have hcs : ms ≠ [] := fun z => by
              subst z
              exact absurd e (by decide)
            have hlen : 0 < ms.length := List.length_pos_iff.mpr hcs
            have sz12 := sm_new (o := .lst []) hz
            have eD12 := sz12 _ _ eD11
            have hA12 := hA11.s sz12
            have l12 := l11.same sz12
            have lv := hA12.len
            rw [List.length_map] at lv
            generalize upd H11 z (.lst []) = H12 at *
            refine ⟨_, rfl, _, rfl, _, rfl, D, _, rfl, .inl (SqL.of eD12), L, _, _, rfl, l12, by omega, by omega, by omega, fun r13 H13 g13 l13 a13 b13 => ?_⟩
            have hr7 : r13.toNat < ms.length := by omega
            obtain ⟨v7, f7, d7⟩ := (hA12.g (g13.w1 (B := [D, L]) (by simp))).get (i := r13.toNat) (d := eMq ms[r13.toNat]) (by rw [List.getElem?_map, List.getElem?_eq_getElem hr7]; rfl)
            refine ⟨D, _, _, _, rfl, rfl, SqL.of (g13.k D _ nD eD12), at0 a13 f7, ?_⟩
            exact ⟨_, _, _, _, v7, _, rfl, (Go.of sz12).trans g13, l13.mono (by omega), d7, hc _ (List.getElem_mem hr7)⟩
          · exact ⟨_, _, _, _, mv, mq, rfl, Go.new hz, (l11.new hz).mono (by omega), d11.g (Go.new hz), ok11⟩
        · exact iteF ⟨_, _, _, _, mv, mq, rfl, Go.refl, l11.mono (by omega), d11, ok11⟩
      · obtain ⟨z5, z10, z11, z12, v7, c7, rfl, g12, l7, d7, o7⟩ := hM
        have g7 : Go [L] H3 H' := (g38.trans g11).trans g12
        have eD7 := g7.k D _ nD eD
        have hA7 := hA.g (g7.w1 (B := [D, L]) (by simp))
        have lv := hA7.len
        rw [List.length_map] at lv
        have gm : Go [D, L] H' (upd H' D (.lst (vs ++ [v7]))) := Go.refl.at (by simp)
        refine ⟨_, rfl, .inl ⟨rfl, _, SqL.of eD7⟩, _, rfl, D, _, _, rfl, rfl, eD7, sz (by omega), ?_⟩
        refine ⟨_, _, _, _, _, _, _, _, vs ++ [v7], ms ++ [c7], rfl, (g3.trans g7).mut hD, (l7.up (hL.ne hD)).mono (by omega), upd_same, ?_, by simp; omega, fun c h => ?_⟩
        · rw [List.map_append]
          exact (hA7.g gm).app (.one (d7.g gm))
        · rcases List.mem_append.mp h with h | h
          · exact hc c h
          · rw [List.mem_singleton.mp h]
            exact o7
    · obtain ⟨y5, y6, y7, y8, y9, y10, y11, y12, vs, ms, rfl, g3, l3, eD, hA, hl, hc⟩ := h3
      exact ⟨_, rfl, q _ _ ms g3 (l3.mono (by omega)) (.lst (hL.bk.ne hD) eD hA.un) (by omega) (by omega) hc⟩
/-! ### middles a hair beside -/
def hair18 : Rat := ⟨1, 1000000000000000009, by decide, by decide⟩
def hair18n : Rat := ⟨-1, 1000000000000000009, by decide, by decide⟩
def hair30 : Rat := ⟨1, 1000000000000000000000000000057, by decide, by decide⟩
def spHairs : Sp := fun vs H Q _ => ∃ (L : Addr) (n : Nat) (rv mv : V) (rs : List (List Int × Int)) (ms : List (List Rat)) (wd : Nat), vs = [.ref L, rv, mv] ∧ Lf L H n ∧ n < 10000000 ∧ Dt [L] H rv (eRs rs) ∧ Dt [L] H mv (eMs ms) ∧ 0 < rs.length ∧ rs.length ≤ 60 ∧ 0 < ms.length ∧ ms.length ≤ 12 ∧ 1 ≤ wd ∧ wd ≤ 5 ∧ (∀ r ∈ rs, rOk wd r) ∧ (∀ m ∈ ms, MidM 418740 wd m) ∧
  ∀ (v : V) (H' : Hp) (ms : List (List Rat)) (M : Nat), Go [L] H H' → Lf L H' (n + 10) → Dt [L] H' v (eMs ms) → 0 < ms.length → ms.length ≤ 12 → 0 < M → M < 2 ^ 180 → (∀ m ∈ ms, MidM M wd m) → Q v H'
set_option maxHeartbeats 1000000 in
theorem ok_l_hairs (T : Tx K mg) {k : Nat} : FnOk P w K mg base CX0 (k + 3) T.f_l_hairs T.d_l_hairs ["_law_left_here", "_law_rows_here", "_law_middles_here"] spHairs := by
  refine T.F_l_hairs.ok sc_l_hairs (fun vs H Q E h => ?_) (fun cdv A outer s H vs Q E hr h => ?_)
  · obtain ⟨L, n, rv, mv, rs, ms, wd, rfl, _⟩ := h
    rfl
  · obtain ⟨L, n, rv, mv, rs, ms, wd, rfl, hL, hn, hr0, hm0, r0, r1, m0, m1, w0, w1, ok, om, q⟩ := h
    obtain ⟨ra, rvs, rfl, nra, era, hR⟩ := hr0.lstI
    obtain ⟨ma, mvs, rfl, nma, ema, hM⟩ := hm0.lstI
    have lrv := hR.len
    have lmv := hM.len
    rw [List.length_map] at lrv lmv
    refine ⟨_, (pss_cons (ps_if (PW.pt (pw_or (pt_cmpR op_eq (pe_call (ok_l_pick T (k := k)) hr (by rfl) T.g_l_pick T.F_l_pick.kp T.b_l_pick .nil pass0 (pa_cons (pv 0) (pa_cons pe_int pa_nil))) pe_int (nomark _)) (pw_or1 (pt_cmpR op_gt (pe_callB (len_K K) (by rfl) T.z_len PySem.boot_len (pa_cons (pv 2) pa_nil)) pe_int (nomark _))))) (pss_one (ps_ret (pv 2))) pss_nil)
      (pss_cons (ps_set (i := 3) sc_l_hairs.nd rfl (.inl rfl) (pe_ix (ix_tupK K) (pe_ix (ix_listK K) (pv 1) (pe_call (ok_l_pick T (k := k)) hr (by rfl) T.g_l_pick T.F_l_pick.kp T.b_l_pick .nil pass0 (pa_cons (pv 0) (pa_cons (pe_callB (len_K K) (by rfl) T.z_len PySem.boot_len (pa_cons (pv 1) pa_nil)) pa_nil))) (fun _ _ => rfl)) pe_int (fun _ _ => rfl)))
      (pss_cons (ps_set (i := 4) sc_l_hairs.nd rfl (.inl rfl) (pe_op op_add pe_int (pe_call (ok_l_pick T (k := k)) hr (by rfl) T.g_l_pick T.F_l_pick.kp T.b_l_pick .nil pass0 (pa_cons (pv 0) (pa_cons pe_int pa_nil)))))
      (pss_cons (ps_set (i := 5) sc_l_hairs.nd rfl (.inl rfl) (pe_ix (ix_listK K) (pe_lst (pa_cons (pe_tup (pa_cons pe_int (pa_cons pe_int pa_nil))) (pa_cons (pe_tup (pa_cons pe_int (pa_cons (pe_op op_add (pe_op op_pow pe_int pe_int) pe_int) pa_nil))) (pa_cons (pe_tup (pa_cons (pe_un un_neg pe_int) (pa_cons (pe_op op_add (pe_op op_pow pe_int pe_int) pe_int) pa_nil))) (pa_cons (pe_tup (pa_cons pe_int (pa_cons (pe_op op_add (pe_op op_pow pe_int pe_int) pe_int) pa_nil))) pa_nil))))) (pe_call (ok_l_pick T (k := k)) hr (by rfl) T.g_l_pick T.F_l_pick.kp T.b_l_pick .nil pass0 (pa_cons (pv 0) (pa_cons pe_int pa_nil))) (fun _ _ => rfl)))
      (pss_cons (ps_set (i := 6) sc_l_hairs.nd rfl (.inl rfl) (pe_callTy (tuple_K K) (by rfl) T.z_tuple (by decide +kernel) (pa_cons (pe_lc (own := [("_law_number", 9)]) (by rfl) sc_l_hairs.nd (pi_tupK K (pe_slice (sl_tupAK K) (pv 3) (po_some pe_int) po_none)) (blkOk_by (own := [("_law_number", 9)]) (N := N_l_hairs) (sc := defScope s_l_hairs) (by decide +kernel)) (fun _ _ _ _ _ => (pg_name (i := 9) sc_l_hairs.nd rfl (.inl rfl))) (fun _ _ _ _ _ => pts_nil) (fun _ _ _ _ _ => (pe_tup (pa_cons (pv 9) (pa_cons pe_int pa_nil))))) pa_nil)))
      (pss_cons (ps_set (i := 7) sc_l_hairs.nd rfl (.inl rfl) (pe_lst (pa_cons (pe_op (op_catAK K) (pe_tup (pa_cons (pe_call (ok_l_plus T (k := k)) hr (by rfl) T.g_l_plus T.F_l_plus.kp T.b_l_plus .nil pass0 (pa_cons (pe_tup (pa_cons (pe_op op_add (pe_ix (ix_tupK K) (pv 3) pe_int (fun _ _ => rfl)) (pv 4)) (pa_cons pe_int pa_nil))) (pa_cons (pv 5) pa_nil))) pa_nil)) (pv 6)) (pa_cons (pe_op (op_catAK K) (pe_tup (pa_cons (pe_tup (pa_cons (pe_op op_sub (pe_ix (ix_tupK K) (pv 3) pe_int (fun _ _ => rfl)) (pv 4)) (pa_cons pe_int pa_nil))) pa_nil)) (pv 6)) pa_nil))))
      (Evl.pss_cut (ps_if (pt_cmpR op_eq (pe_call (ok_l_pick T (k := k)) hr (by rfl) T.g_l_pick T.F_l_pick.kp T.b_l_pick .nil pass0 (pa_cons (pv 0) (pa_cons pe_int pa_nil))) pe_int (nomark _)) (pss_one (ps_expr (pe_bm0 PySem.F.plainAttrs_list PySem.F.slot_list_reverse PySem.F.type_list_reverse mt_reverse (pv 7)))) pss_nil)
      (pss_cons (ps_set (i := 8) sc_l_hairs.nd rfl (.inl rfl) (pe_call (ok_l_pick T (k := k)) hr (by rfl) T.g_l_pick T.F_l_pick.kp T.b_l_pick .nil pass0 (pa_cons (pv 0) (pa_cons (pe_op op_add (pe_callB (len_K K) (by rfl) T.z_len PySem.boot_len (pa_cons (pv 2) pa_nil)) pe_int) pa_nil))))
      (pss_one (ps_ret (pe_op op_cat (pe_op op_cat (pe_slice (sl_listK K) (pv 2) po_none (po_some (pv 8))) (pv 7)) (pe_slice (sl_listK K) (pv 2) (po_some (pv 8)) po_none)))))))))))), ?_⟩
    refine ⟨_, rfl, L, 2, n, rfl, hL, by omega, by decide, by decide, fun r1' H1 g1 l1 a1 b1 => ?_⟩
    refine ⟨rfl, _, rfl, ite2 (fun e => ?_) (fun e => ?_)⟩
    · exact iteT ⟨_, rfl, q _ _ ms 418740 g1 (l1.mono (by omega)) (hm0.g g1) m0 m1 (by decide) (by decide) om⟩
    have ema1 := g1.k ma _ nma ema
    refine ⟨_, rfl, ma, _, rfl, .inl (SqL.of ema1), _, _, rfl, rfl, _, rfl, ite2 (fun e => ?_) (fun e => ?_)⟩
    · exact ⟨_, rfl, q _ _ ms 418740 g1 (l1.mono (by omega)) (hm0.g g1) m0 m1 (by decide) (by decide) om⟩
    have m10 : ms.length ≤ 10 := by
      have : ¬ (mvs.length : Int) > 10 := fun h => e (decide_eq_true h)
      omega
    have era1 := g1.k ra _ nra era
    refine ⟨_, rfl, _, rfl, _, rfl, ra, _, rfl, .inl (SqL.of era1), L, _, _, rfl, l1, by omega, by omega, by omega, fun r2 H2 g2 l2 a2 b2 => ?_⟩
    have g12 := g1.trans g2
    have i2 : r2.toNat < rs.length := by omega
    obtain ⟨v2, f2, d2⟩ := (hR.g g12).get (i := r2.toNat) (d := eRow rs[r2.toNat]) (by rw [List.getElem?_map, List.getElem?_eq_getElem i2]; rfl)
    have orow := ok _ (List.getElem_mem i2)
    obtain ⟨t, tq, rfl, nt, et, nq, eq⟩ := d2.rowI
    refine ⟨ra, _, _, _, rfl, rfl, SqL.of (g12.k ra _ nra era), at0 a2 f2, t, _, 0, .ref tq, rfl, rfl, SqT.of et, rfl, ?_⟩
    generalize rs[r2.toNat] = row at *
    obtain ⟨c, ct⟩ := row
    obtain ⟨oc1, oc2, _⟩ := orow
    simp only at oc1 oc2 eq
    obtain ⟨x, xs, rfl⟩ : ∃ x xs, c = x :: xs := by
      cases c with
      | nil => simp at oc1; omega
      | cons x xs => exact ⟨x, xs, rfl⟩
    have hx := oc2 x (List.mem_cons_self ..)
    refine ⟨_, rfl, L, 3, _, rfl, l2, by omega, by decide, by decide, fun r3 H3 g3 l3 a3 b3 => ?_⟩
    refine ⟨_, _, rfl, rfl, ?_⟩
    have eq3 := g3.k tq _ nq eq
    have g13 := g12.trans g3
    -- four hairs
    refine ⟨(by show 2 ≤ sizeLine; decide), fun p1 hp1 => ?_⟩
    have s4 := sm_new (o := .tup [.int 0, .int 1]) hp1
    have e41 : (upd H3 p1 (.tup [.int 0, .int 1])) p1 = some (.tup [.int 0, .int 1]) := upd_same
    generalize upd H3 p1 (.tup [.int 0, .int 1]) = H4 at *
    refine ⟨_, _, rfl, rfl, ⟨by decide, by decide, by decide⟩, _, _, rfl, rfl, (by show 2 ≤ sizeLine; decide), fun p2 hp2 => ?_⟩
    have s5 := sm_new (o := .tup [.int 1, .int (10 ^ Int.toNat 18 + 9)]) hp2
    have e52 : (upd H4 p2 (.tup [.int 1, .int (10 ^ Int.toNat 18 + 9)])) p2 = some (.tup [.int 1, .int (10 ^ Int.toNat 18 + 9)]) := upd_same
    generalize upd H4 p2 (.tup [.int 1, .int (10 ^ Int.toNat 18 + 9)]) = H5 at *
    refine ⟨_, rfl, _, _, rfl, rfl, ⟨by decide, by decide, by decide⟩, _, _, rfl, rfl, (by show 2 ≤ sizeLine; decide), fun p3 hp3 => ?_⟩
    have s6 := sm_new (o := .tup [.int (-1), .int (10 ^ Int.toNat 18 + 9)]) hp3
    have e63 : (upd H5 p3 (.tup [.int (-1), .int (10 ^ Int.toNat 18 + 9)])) p3 = some (.tup [.int (-1), .int (10 ^ Int.toNat 18 + 9)]) := upd_same
    generalize upd H5 p3 (.tup [.int (-1), .int (10 ^ Int.toNat 18 + 9)]) = H6 at *
    refine ⟨_, _, rfl, rfl, ⟨by decide, by decide, by decide⟩, _, _, rfl, rfl, (by show 2 ≤ sizeLine; decide), fun p4 hp4 => ?_⟩
    have s7 := sm_new (o := .tup [.int 1, .int (10 ^ Int.toNat 30 + 57)]) hp4
    have e74 : (upd H6 p4 (.tup [.int 1, .int (10 ^ Int.toNat 30 + 57)])) p4 = some (.tup [.int 1, .int (10 ^ Int.toNat 30 + 57)]) := upd_same
    generalize upd H6 p4 (.tup [.int 1, .int (10 ^ Int.toNat 30 + 57)]) = H7 at *
    refine ⟨(by show 4 ≤ sizeLine; decide), fun ha hha => ?_⟩
    have s8 := sm_new (o := .lst [.ref p1, .ref p2, .ref p3, .ref p4]) hha
    have e8 : (upd H7 ha (.lst [.ref p1, .ref p2, .ref p3, .ref p4])) ha = some (.lst [.ref p1, .ref p2, .ref p3, .ref p4]) := upd_same
    generalize upd H7 ha (.lst [.ref p1, .ref p2, .ref p3, .ref p4]) = H8 at *
    have t48 := (((s4.trans s5).trans s6).trans s7).trans s8
    have l8 := l3.same t48
    have nha : ha ∉ [L] := fun z => by
      obtain ⟨_, _, _, eL, _⟩ := l3.same (((s4.trans s5).trans s6).trans s7)
      rw [List.mem_singleton.mp z, eL] at hha
      cases hha
    refine ⟨_, rfl, L, 4, _, rfl, l8, by omega, by decide, by decide, fun r9 H9 g9 l9 a9 b9 => ?_⟩
    have nn : ∀ {p : Addr} {x y : Int} {H : Hp} {n : Nat}, Lf L H n → H p = some (.tup [.int x, .int y]) → p ∉ [L] := fun hl e z => by
      obtain ⟨_, _, _, eL, _⟩ := hl
      rw [List.mem_singleton.mp z, eL] at e
      cases e
    have k1 := ((s5.trans s6).trans s7).trans s8 _ _ e41
    have k2 := (s6.trans s7).trans s8 _ _ e52
    have k3 := s7.trans s8 _ _ e63
    have k4 := s8 _ _ e74
    obtain ⟨hp, hq, fh, eh, oh⟩ : ∃ (hp : Addr) (hq : Rat), atI [V.ref p1, .ref p2, .ref p3, .ref p4] r9 = some (.ref hp) ∧ H9 hp = some (.tup [.int hq.num, .int hq.den]) ∧ ∃ M : Nat, 0 < M ∧ M < 2 ^ 110 ∧ Fr M M hq := by
      have h4 : r9 = 0 ∨ r9 = 1 ∨ r9 = 2 ∨ r9 = 3 := by omega
      rcases h4 with rfl | rfl | rfl | rfl
      · exact ⟨p1, 0, rfl, g9.k _ _ (nn l8 k1) k1, 1, by decide, by decide, Fr.zero (by decide)⟩
      · exact ⟨p2, hair18, rfl, g9.k _ _ (nn l8 k2) k2, 1000000000000000009, by decide, by decide, ⟨1, (qq hair18).symm, by decide⟩⟩
      · exact ⟨p3, hair18n, rfl, g9.k _ _ (nn l8 k3) k3, 1000000000000000009, by decide, by decide, ⟨-1, (qq hair18n).symm, by decide⟩⟩
      · exact ⟨p4, hair30, rfl, g9.k _ _ (nn l8 k4) k4, 1000000000000000000000000000057, by decide, by decide, ⟨1, (qq hair30).symm, by decide⟩⟩
    refine ⟨ha, _, _, _, rfl, rfl, SqL.of (g9.k ha _ nha e8), fh, ?_⟩
    have g39 : Go [L] H3 H9 := (Go.of t48).trans g9
    have eq9 := g39.k tq _ nq eq3
    have gA := g13.trans g39
    have nhp : hp ∉ [L] := nn l9 eh
    -- the others
    refine ⟨_, rfl, 1, rfl, ?_⟩
    unfold tNoPart
    refine slice_dt (Dt.ofCol nq eq9) l9.bk fun v10 H10 s10 d10 => ?_
    rw [cut_fromV _ (by decide), show (1 : Int).toNat = 1 from rfl, List.map_cons, List.drop_succ_cons, List.drop_zero] at d10
    have d10' : Dt [L] H10 v10 (eC xs) := d10
    obtain ⟨a10, rfl, n10, e10⟩ := d10'.col
    have lx : xs.length + 1 = wd := by simpa using oc1
    have l10 := l9.same s10
    refine ⟨a10, rfl, ⟨_, SqT.of e10⟩, fun D hD => ?_⟩
    refine lc_pure (B := [L]) (walk_tup (xs := xs.map V.int)) hD l10.bk (fun H' s' => SqT.of (s' _ _ e10)) (by rw [List.length_map]; omega)
      (fun i => (((xs.map fun (x : Int) => (x : Rat)).map qp).map enc)[i]?) (fun j x H' H'' Ny Nn hj t1 bk y ky kn => ?_) (fun H11 ws s11 eD hW => ?_)
    · obtain ⟨rfl, y⟩ := y
      rw [List.length_map] at hj
      have ex := mat hj y
      subst ex
      refine ⟨rfl, lc_yes ⟨_, rfl, (by show 2 ≤ sizeLine; decide), fun p hp => ?_⟩⟩
      exact ky _ _ (enc (xs[j], 1)) (by rw [List.getElem?_map, List.getElem?_map, List.getElem?_map, List.getElem?_eq_getElem hj]; rfl) (sm_new hp) (Dt.ofCol (bk.ne hp) upd_same)
    rw [fm_all (by simp)] at hW
    refine ⟨D, _, rfl, .inl ⟨SqL.of eD, fun ot hot => ?_⟩⟩
    have l11 := l10.same s11
    have do12 : Dt [L] (upd H11 ot (.tup ws)) (.ref ot) (.tuple (((xs.map fun (x : Int) => (x : Rat)).map qp).map enc)) := .tup (l11.bk.ne hot) upd_same (hW.un.g (Go.new hot))
    have s12 := (s10.trans s11).trans (sm_new (o := .tup ws) hot)
    have l12 := l9.same s12
    generalize upd H11 ot (.tup ws) = H12 at *
    have eq12 := s12 _ _ eq9
    have eh12 := s12 _ _ eh
    -- the one a hair beside
    refine ⟨_, rfl, tq, _, 0, .int x, rfl, rfl, SqT.of eq12, atI_nat (j := 0) rfl, _, rfl, _, _, rfl, rfl, (by show 2 ≤ sizeLine; decide), fun p13 hp13 => ?_⟩
    have s13 := sm_new (o := .tup [.int (x + (1 + r3)), .int 1]) hp13
    have d13 : Dt [L] (upd H12 p13 (.tup [.int (x + (1 + r3)), .int 1])) (.ref p13) (enc (qp ((x + (1 + r3) : Int) : Rat))) := Dt.ofCol (l12.bk.ne hp13) upd_same
    have l13 := l12.same s13
    generalize upd H12 p13 (.tup [.int (x + (1 + r3)), .int 1]) = H13 at *
    obtain ⟨M, M0, M1, fh⟩ := oh
    have fx : Fr M (2000 * M) ((x + (1 + r3) : Int) : Rat) := Fr.int M0 (by omega)
    have qb1 : Qb ((x + (1 + r3) : Int) : Rat) := fx.qb M0 (Nat.lt_of_lt_of_le M1 (by decide +kernel)) (Nat.lt_of_lt_of_le (show 2000 * M < 2 ^ 200 by omega) (by decide +kernel))
    have qb2 : Qb hq := fh.qb M0 (Nat.lt_of_lt_of_le M1 (by decide +kernel)) (Nat.lt_of_lt_of_le M1 (by decide +kernel))
    have dh13 : Dt [L] H13 (.ref hp) (enc (qp hq)) := Dt.ofCol nhp (s13 _ _ eh12)
    refine ⟨_, rfl, [L], _, _, _, hq, rfl, d13, dh13, qb1, qb2, fun a14 H14 s14 ha14 e14 => ?_⟩
    have d14 : Dt [L] H14 (.ref a14) (enc (qp (((x + (1 + r3) : Int) : Rat) + hq))) := Dt.ofCol (l13.bk.ne ha14) e14
    have l14 := l13.same s14
    refine ⟨(by show 1 ≤ sizeLine; decide), fun p15 hp15 => ?_⟩
    have s15 := sm_new (o := .tup [.ref a14]) hp15
    have d15 : Dt [L] (upd H14 p15 (.tup [.ref a14])) (.ref p15) (.tuple [enc (qp (((x + (1 + r3) : Int) : Rat) + hq))]) := .tup (l14.bk.ne hp15) upd_same (.one (d14.s s15))
    have l15 := l14.same s15
    generalize upd H14 p15 (.tup [.ref a14]) = H15 at *
    have t15 := (s13.trans s14).trans s15
    refine ⟨_, rfl, ?_⟩
    refine cat_dt d15 (do12.s t15) l15.bk (by simp; omega) fun v16 H16 s16 d16 => ?_
    have l16 := l15.same s16
    have t16 := t15.trans s16
    -- the one on the other side
    refine ⟨_, rfl, tq, _, 0, .int x, rfl, rfl, SqT.of (t16 _ _ eq12), atI_nat (j := 0) rfl, _, rfl, _, _, rfl, rfl, (by show 2 ≤ sizeLine; decide), fun p17 hp17 => ?_⟩
    have s17 := sm_new (o := .tup [.int (x - (1 + r3)), .int 1]) hp17
    have d17 : Dt [L] (upd H16 p17 (.tup [.int (x - (1 + r3)), .int 1])) (.ref p17) (enc (qp ((x - (1 + r3) : Int) : Rat))) := Dt.ofCol (l16.bk.ne hp17) upd_same
    have l17 := l16.same s17
    generalize upd H16 p17 (.tup [.int (x - (1 + r3)), .int 1]) = H17 at *
    refine ⟨(by show 1 ≤ sizeLine; decide), fun p18 hp18 => ?_⟩
    have s18 := sm_new (o := .tup [.ref p17]) hp18
    have d18 : Dt [L] (upd H17 p18 (.tup [.ref p17])) (.ref p18) (.tuple [enc (qp ((x - (1 + r3) : Int) : Rat))]) := .tup (l17.bk.ne hp18) upd_same (.one (d17.s s18))
    have l18 := l17.same s18
    generalize upd H17 p18 (.tup [.ref p17]) = H18 at *
    refine ⟨_, rfl, ?_⟩
    have t18 := s17.trans s18
    refine cat_dt d18 ((do12.s t16).s t18) l18.bk (by simp; omega) fun v19 H19 s19 d19 => ?_
    have l19 := l18.same s19
    have t19 := t18.trans s19
    refine ⟨(by show 2 ≤ sizeLine; decide), fun md hmd => ?_⟩
    have nmd : md ∉ [L] := l19.bk.ne hmd
    have s20 := sm_new (o := .lst [v16, v19]) hmd
    have e20 : (upd H19 md (.lst [v16, v19])) md = some (.lst [v16, v19]) := upd_same
    have d16' : Dt [md, L] (upd H19 md (.lst [v16, v19])) v16 (eMq ((((x + (1 + r3) : Int) : Rat) + hq) :: xs.map fun (x : Int) => (x : Rat))) := (((d16.s t19).fr hmd)).s s20
    have d19' : Dt [md, L] (upd H19 md (.lst [v16, v19])) v19 (eMq (((x - (1 + r3) : Int) : Rat) :: xs.map fun (x : Int) => (x : Rat))) := ((d19.fr hmd)).s s20
    have l20 := l19.same s20
    have g20 : Go [L] H (upd H19 md (.lst [v16, v19])) := gA.trans (Go.of (((s12.trans t16).trans t19).trans s20))
    generalize upd H19 md (.lst [v16, v19]) = H20 at *
    have hmdH : H md = none := by
      cases z : H md with
      | none => rfl
      | some o => exact absurd hmd ((gA.trans (Go.of ((s12.trans t16).trans t19))).d md (by rw [z]; exact fun q => nomatch q))
    have M2 : 0 < M * 418740 := Nat.mul_pos M0 (by decide)
    have okr : ∀ z ∈ xs.map (fun (x : Int) => (x : Rat)), Fr (M * 418740) (10000 * (M * 418740)) z := fun z hz => by
      obtain ⟨y, hy, rfl⟩ := List.mem_map.mp hz
      have := oc2 y (List.mem_cons_of_mem _ hy)
      exact (Fr.int M2 (show y.natAbs ≤ 2000 by omega)).mono (by omega)
    have ok1 : MidM (M * 418740) wd ((((x + (1 + r3) : Int) : Rat) + hq) :: xs.map fun (x : Int) => (x : Rat)) := ⟨by simp; omega, fun z hz => by
      rcases List.mem_cons.mp hz with e | e
      · rw [e]; exact ((fx.add M0 fh).scale (N := 418740) (by decide)).mono (by omega)
      · exact okr z e⟩
    have ok2 : MidM (M * 418740) wd (((x - (1 + r3) : Int) : Rat) :: xs.map fun (x : Int) => (x : Rat)) := ⟨by simp; omega, fun z hz => by
      rcases List.mem_cons.mp hz with e | e
      · rw [e]; exact (Fr.int M2 (show (x - (1 + r3)).natAbs ≤ 2000 by omega)).mono (by omega)
      · exact okr z e⟩
    refine ⟨fun σ' H' => ∃ y3 y4 y5 y6 y8 y9 us, ∃ zs : List (List Rat), σ' = [some (.ref L), some (.ref ra), some (.ref ma), y3, y4, y5, y6, some (.ref md), y8, y9] ∧ Go [L] H H' ∧ Lf L H' (n + 5) ∧ H' md = some (.lst us) ∧ DtA [md, L] H' us (zs.map eMq) ∧ zs.length = 2 ∧ ∀ m ∈ zs, MidM (M * 418740) wd m, ?_, fun σ' H' hM' => ?_⟩
    · refine ⟨_, rfl, L, 2, _, rfl, l20, by omega, by decide, by decide, fun r21 H21 g21 l21 a21 b21 => ?_⟩
      have e21 := g21.k md _ nmd e20
      have dd : DtA [md, L] H21 [v16, v19] ([(((x + (1 + r3) : Int) : Rat) + hq) :: xs.map (fun (x : Int) => (x : Rat)), ((x - (1 + r3) : Int) : Rat) :: xs.map (fun (x : Int) => (x : Rat))].map eMq) := .cons (d16'.g (g21.w1 (by simp))) (.one (d19'.g (g21.w1 (by simp))))
      have okk : ∀ m ∈ [(((x + (1 + r3) : Int) : Rat) + hq) :: xs.map (fun (x : Int) => (x : Rat)), ((x - (1 + r3) : Int) : Rat) :: xs.map (fun (x : Int) => (x : Rat))], MidM (M * 418740) wd m := fun m hm => by
        simp only [List.mem_cons, List.not_mem_nil, or_false] at hm
        rcases hm with rfl | rfl
        · exact ok1
        · exact ok2
      refine ⟨rfl, _, rfl, ite2 (fun e => ?_) (fun e => ?_)⟩
      · refine ⟨_, rfl, .inl ⟨rfl, _, SqL.of e21⟩, md, _, rfl, rfl, e21, ?_⟩
        have gm : Go [md, L] H21 (upd H21 md (.lst [v16, v19].reverse)) := Go.refl.at (by simp)
        refine ⟨_, _, _, _, _, _, _, _, rfl, (g20.trans g21).mut hmdH, (l21.up (show md ≠ L by simpa using nmd)).mono (by omega), upd_same, ?_, by simp, fun m hm => okk m (List.mem_reverse.mp hm)⟩
        rw [List.map_reverse]
        exact (dd.g gm).rev
      · exact ⟨_, _, _, _, _, _, _, _, rfl, g20.trans g21, l21.mono (by omega), e21, dd, rfl, okk⟩
    obtain ⟨y3, y4, y5, y6, y8, y9, us, zs, rfl, g22, l22, e22, d22, lz, oz⟩ := hM'
    have ema22 := g22.k ma _ nma ema
    refine ⟨_, rfl, _, rfl, ma, _, rfl, .inl (SqL.of ema22), _, _, rfl, rfl, L, _, _, rfl, l22, by omega, by omega, by omega, fun r23 H23 g23 l23 a23 b23 => ?_⟩
    have g23' := g22.trans g23
    have ema23 := g23'.k ma _ nma ema
    have e23 := g23.k md _ nmd e22
    have hM23 := hM.g g23'
    have d23 := (d22.g (g23.w1 (B := [md, L]) (by simp))).un
    have lus := d23.len
    rw [List.length_map] at lus
    refine ⟨_, rfl, _, rfl, r23, rfl, ma, _, rfl, SqL.of ema23, fun c1 hc1 => ?_⟩
    have u1 := sm_new (o := .lst (cutV mvs none (some r23))) hc1
    have ec1 : (upd H23 c1 (.lst (cutV mvs none (some r23)))) c1 = some (.lst (cutV mvs none (some r23))) := upd_same
    generalize upd H23 c1 (.lst (cutV mvs none (some r23))) = H24 at *
    have k1' := (hM23.s u1).cut none (some r23)
    rw [cut_toV _ a23, ← List.map_take] at k1'
    have lk1 := k1'.len
    rw [List.length_map, List.length_take] at lk1
    refine ⟨_, rfl, c1, md, _, _, rfl, rfl, ec1, u1 _ _ e23, Nat.le_of_lt (sz (by omega)), fun c2 hc2 => ?_⟩
    have u2 := sm_new (o := .lst (cutV mvs none (some r23) ++ us)) hc2
    have ec2 : (upd H24 c2 (.lst (cutV mvs none (some r23) ++ us))) c2 = some (.lst (cutV mvs none (some r23) ++ us)) := upd_same
    generalize upd H24 c2 (.lst (cutV mvs none (some r23) ++ us)) = H25 at *
    have v2 := u1.trans u2
    refine ⟨_, rfl, _, rfl, r23, rfl, ?_⟩
    refine ⟨ma, _, rfl, SqL.of (v2 _ _ ema23), fun c3 hc3 => ?_⟩
    have u3 := sm_new (o := .lst (cutV mvs (some r23) none)) hc3
    have ec3 : (upd H25 c3 (.lst (cutV mvs (some r23) none))) c3 = some (.lst (cutV mvs (some r23) none)) := upd_same
    generalize upd H25 c3 (.lst (cutV mvs (some r23) none)) = H26 at *
    have v3 := v2.trans u3
    have k2' := (hM23.s v3).cut (some r23) none
    rw [cut_fromV _ a23, ← List.map_drop] at k2'
    have lk2 := k2'.len
    rw [List.length_map, List.length_drop] at lk2
    refine ⟨c2, c3, _, _, rfl, rfl, u3 _ _ ec2, ec3, Nat.le_of_lt (sz (by rw [List.length_append]; omega)), fun c4 hc4 => ?_⟩
    have u4 := sm_new (o := .lst ((cutV mvs none (some r23) ++ us) ++ cutV mvs (some r23) none)) hc4
    have l26 := l23.same v3
    have omM : ∀ m ∈ ms, MidM (M * 418740) wd m := fun m hm => ⟨(om m hm).1, fun z hz => by
      have := ((om m hm).2 z hz).scale (N := M) M0
      rw [Nat.mul_comm 418740 M, Nat.mul_assoc, Nat.mul_comm 418740 M] at this
      exact this⟩
    refine q _ _ ((ms.take r23.toNat ++ zs) ++ ms.drop r23.toNat) (M * 418740) ((g23'.trans (Go.of v3)).trans (Go.of u4)) ((l26.same u4).mono (by omega)) (.lst (l26.bk.ne hc4) upd_same ?_) (by simp; omega) (by simp; omega) M2 (by omega) fun m hm => ?_
    · rw [List.map_append, List.map_append]
      exact (((((k1'.s u2).s u3).s u4).app (((d23.s v3).s u4)))).app (k2'.s u4)
    · rcases List.mem_append.mp hm with h | h
      · rcases List.mem_append.mp h with h | h
        · exact omM m (List.mem_of_mem_take h)
        · exact oz m h
      · exact omM m (List.mem_of_mem_drop h)
/-! ### what is lost, by groups -/
def spLostSo : Sp := fun vs H Q _ => ∃ (B1 C : List Addr) (x y : V) (gss : List (List (List Int × Int))) (ms : List (List Rat)) (wd M : Nat), vs = [x, y] ∧ Dt B1 H x (.list (gss.map eRs)) ∧ Dt C H y (eMs ms) ∧ Bk C H ∧ gss.length = ms.length ∧ ms.length ≤ 13 ∧ wd ≤ 5 ∧ 0 < M ∧ M < 2 ^ 180 ∧ (∀ g ∈ gss, g.length ≤ 60 ∧ ∀ r ∈ g, rOk wd r) ∧ (∀ m ∈ ms, MidM M wd m) ∧
  ∀ (v' : V) (H' : Hp), Same H H' → Dt C H' v' (enc (qp (tq wd ms gss ms.length))) → Q v' H'
theorem ok_lost_so (T : Tx K mg) {k : Nat} : FnOk P w K mg base CX0 (k + 6) T.f_lost_so T.d_lost_so ["shared", "middles"] spLostSo := by
  refine T.F_lost_so.ok sc_lost_so (fun vs H Q E h => ?_) (fun cdv A outer s H vs Q E hr h => ?_)
  · obtain ⟨B1, C, x, y, gss, ms, wd, M, rfl, _⟩ := h
    rfl
  · obtain ⟨B1, C, x, y, gss, ms, wd, M, rfl, hx, hy, hC, lg, m1, w1, M0, M1, og, om, q⟩ := h
    obtain ⟨ga, gvs, rfl, nga, ega, hG⟩ := hx.lstI
    obtain ⟨ma, mvs, rfl, nma, ema, hM⟩ := hy.lstI
    have lgv := hG.len
    have lmv := hM.len
    rw [List.length_map] at lgv lmv
    refine ⟨_, (pss_one (ps_ret (pe_call (ok_sum_of T (k := k + 1)) hr (by rfl) T.g_sum_of T.F_sum_of.kp T.b_sum_of .nil pass0 (pa_cons (pe_lc (own := [("group", 2), ("middle", 3)]) (by rfl) sc_lost_so.nd (RZ.pi_zipA (by rfl) T.z_zip (pa_cons (pv 0) (pa_cons (pv 1) pa_nil))) (blkOk_by (own := [("group", 2), ("middle", 3)]) (N := N_lost_so) (sc := defScope s_lost_so) (by decide +kernel)) (fun _ _ _ _ _ => (pg_tupK K (n := 2) rfl (pgs_cons (pg_name (i := 2) sc_lost_so.nd rfl (.inl rfl)) (pgs_cons (pg_name (i := 3) sc_lost_so.nd rfl (.inl rfl)) pgs_nil)))) (fun _ _ _ _ _ => pts_nil) (fun _ _ _ _ _ => (pe_call (ok_far_sum T (k := k)) hr (by rfl) T.g_far_sum T.F_far_sum.kp T.b_far_sum .nil pass0 (pa_cons (pv 2) (pa_cons (pv 3) pa_nil))))) pa_nil)))), ?_⟩
    refine ⟨_, rfl, _, rfl, ga, ma, _, _, rfl, .inl ⟨SqL.of ega, SqL.of ema, fun D hD => ?_⟩⟩
    have hMf := hM.fr hD
    refine lc_pure (B := C) (walk_zip (n := ms.length) (xs := gvs) (ys := mvs) (by omega)) hD hC (fun H' s' => ⟨SqL.of (s' _ _ ega), SqL.of (s' _ _ ema)⟩) (by omega)
      (fun i => some (enc (qp (gq wd ms gss i)))) (fun i x H' H'' Ny Nn hi t1 bk y ky kn => ?_) (fun H8 ws s8 eD hW => ?_)
    · obtain ⟨t, x, y, rfl, ht, rfl, e1, e2⟩ := y
      obtain ⟨d1, f1, g1⟩ := hG.getV e1
      have hi2 : i < gss.length := by omega
      rw [List.getElem?_map, List.getElem?_eq_getElem hi2] at f1
      have ed : d1 = eRs gss[i] := (Option.some.inj f1).symm
      subst ed
      obtain ⟨m, fm, dm⟩ := dtMs hMf e2
      have em : ms[i] = m := by rw [List.getElem?_eq_getElem hi] at fm; exact Option.some.inj fm
      subst em
      have o := og _ (List.getElem_mem hi2)
      have tk := gq_fr M0 M1 w1 om og hi hi2
      have eg : gq wd ms gss i = totN gss[i] ms[i] wd gss[i].length := by
        unfold gq
        rw [List.getD_eq_getElem?_getD, List.getElem?_eq_getElem hi2, List.getD_eq_getElem?_getD, List.getElem?_eq_getElem hi]
        rfl
      have st := sm_new (o := .tup [x, y]) ht
      refine ⟨t, _, rfl, SqT.of upd_same, rfl, _, _, rfl, _, _, rfl, rfl, rfl, lc_yes ?_⟩
      have bkt : Bk (D :: C) (upd H' t (.tup [x, y])) := bk.go (Go.of (B := []) st)
      generalize upd H' t (.tup [x, y]) = H2 at *
      have a1 : M < 2 ^ 200 := Nat.lt_of_lt_of_le M1 (by decide)
      refine ⟨_, rfl, _, rfl, B1, D :: C, x, y, gss[i], ms[i], wd, M, 10000 * M, rfl, (g1.s t1).s st, (dm.s t1).s st, bkt, M0, tk, fun j hj => (tk.tot M0 j hj).qb (Nat.mul_pos M0 M0) (fb1 a1) (tb1 a1 (by omega) (by omega) (by omega)), fun v' H4 s4 d4 => ?_⟩
      refine ky _ _ _ rfl (st.trans s4) ?_
      rw [eg]
      exact d4
    · rw [fm_some] at hW
      refine ⟨C, D, ws, ms.length, tq wd ms gss, gq wd ms gss, rfl, eD, hW.un, hC.go (Go.of (B := []) s8), rfl, fun i hi => rfl, fun i hi => tq_qb M0 M1 w1 om og lg m1 hi, fun i hi => ?_, fun v' H' s' d' => q v' H' (s8.trans s') d'⟩
      have eg : gq wd ms gss i = totN (gss[i]'(by omega)) ms[i] wd (gss[i]'(by omega)).length := by
        unfold gq
        rw [List.getD_eq_getElem?_getD, List.getElem?_eq_getElem (show i < gss.length by omega), List.getD_eq_getElem?_getD, List.getElem?_eq_getElem hi]
        rfl
      have tk := gq_fr M0 M1 w1 om og hi (show i < gss.length by omega)
      have o := og _ (List.getElem_mem (show i < gss.length by omega))
      have a1 : M < 2 ^ 200 := Nat.lt_of_lt_of_le M1 (by decide)
      rw [eg]
      exact (tk.tot M0 _ (Nat.le_refl _)).qb (Nat.mul_pos M0 M0) (fb1 a1) (tb1 a1 (by omega) (by omega) (by omega))
def spLostQ : Sp := fun vs H Q _ => ∃ (C : List Addr) (x y : V) (rs : List (List Int × Int)) (ms : List (List Rat)) (wd M : Nat), vs = [x, y] ∧ Dt C H x (eRs rs) ∧ Dt C H y (eMs ms) ∧ Bk C H ∧ 0 < ms.length ∧ ms.length ≤ 13 ∧ rs.length ≤ 60 ∧ wd ≤ 5 ∧ 0 < M ∧ M < 2 ^ 180 ∧ (∀ r ∈ rs, rOk wd r) ∧ (∀ m ∈ ms, MidM M wd m) ∧
  ∀ (v' : V) (H' : Hp), Same H H' → Dt C H' v' (enc (qp (lostQ ms rs))) → Q v' H'
theorem ok_lost_by (T : Tx K mg) {k : Nat} : FnOk P w K mg base CX0 (k + 7) T.f_lost_by T.d_lost_by ["rows", "middles"] spLostQ := by
  refine T.F_lost_by.ok sc_lost_by (fun vs H Q E h => ?_) (fun cdv A outer s H vs Q E hr h => ?_)
  · obtain ⟨C, x, y, rs, ms, wd, M, rfl, _⟩ := h
    rfl
  · obtain ⟨C, x, y, rs, ms, wd, M, rfl, hx, hy, hC, m0, m1, r1, w1, M0, M1, ok, om, q⟩ := h
    refine ⟨_, (pss_one (ps_ret (pe_call (ok_lost_so T (k := k)) hr (by rfl) T.g_lost_so T.F_lost_so.kp T.b_lost_so .nil pass0 (pa_cons (pe_call (ok_shared_out T (k := k)) hr (by rfl) T.g_shared_out T.F_shared_out.kp T.b_shared_out .nil pass0 (pa_cons (pv 0) (pa_cons (pv 1) pa_nil))) (pa_cons (pv 1) pa_nil))))), ?_⟩
    refine ⟨_, rfl, _, rfl, C, x, y, rs, ms, wd, rfl, hx, hy, hC, m0, by omega, by omega, w1, ok, fun m hm => (om m hm).ok M0 M1, fun D as H1 s1 R => ?_⟩
    have ogs := shares_ok (ms := ms) ok r1
    refine ⟨_, rfl, [], C, _, y, shares ms rs, ms, wd, M, rfl, R.dt, hy.s s1, hC.go (Go.of (B := []) s1), shares_len _ _, m1, w1, M0, M1, ogs, om, fun v' H2 s2 d2 => ?_⟩
    rw [tq_all m0 fun r hr => (ok r hr).1] at d2
    exact q v' H2 (s1.trans s2) d2
/-! ### the law's own sum of what is lost -/
theorem cnt_q (n : Int) (z : Rat) : Rat.divInt (n * z.num) z.den = (n : Rat) * z := by
  have h1 : (z.den : Int) ≠ 0 := by have := z.den_nz; omega
  have e : (n : Rat) = Rat.divInt n 1 := by
    rw [← Rat.num_divInt_den (n : Rat)]
    rfl
  rw [e]
  conv => rhs; rw [← qq z]
  rw [Rat.divInt_mul_divInt, Int.one_mul]
def pq (ms : List (List Rat)) (rs : List (List Int × Int)) (i : Nat) : Rat := sumQ ((rs.take i).map (wt ms))
theorem pq_step (ms : List (List Rat)) {rs : List (List Int × Int)} {i : Nat} (h : i < rs.length) : pq ms rs (i + 1) = pq ms rs i + wt ms rs[i] := by
  unfold pq
  rw [List.take_add_one, List.getElem?_eq_getElem h, List.map_append]
  exact sumQ_app _ _
theorem wt_fr {M wd : Nat} {ms : List (List Rat)} {r : List Int × Int} (M0 : 0 < M) (M1 : M < 2 ^ 180) (hw : wd ≤ 5) (m0 : 0 < ms.length) (om : ∀ m ∈ ms, MidM M wd m) (ok : rOk wd r) : Fr (M * M) (1000 * (wd * ((100000000 * M + 10000 * M) * (100000000 * M + 10000 * M)))) (wt ms r) := by
  have hj := argF_lt (farI r.1 ms) ms.length m0
  have t : TotOk [r] (ms[argF (farI r.1 ms) ms.length]) wd M (10000 * M) := ⟨by simp, by omega, fun x hx => by rw [List.mem_singleton.mp hx]; exact ok, fun x hx => by
    rw [List.mem_singleton.mp hx]
    exact (om _ (List.getElem_mem hj)).far M0 M1 ok.1 hw (ok.2.1.mono (by decide) (by decide))⟩
  have := t.one (r := r) (by simp)
  unfold wt
  rw [farI_at (List.getElem?_eq_getElem hj), ok.1]
  exact this
theorem pq_fr {M wd : Nat} {ms : List (List Rat)} {rs : List (List Int × Int)} (M0 : 0 < M) (M1 : M < 2 ^ 180) (hw : wd ≤ 5) (m0 : 0 < ms.length) (om : ∀ m ∈ ms, MidM M wd m) (ok : ∀ r ∈ rs, rOk wd r) : ∀ i, i ≤ rs.length → Fr (M * M) (i * (1000 * (wd * ((100000000 * M + 10000 * M) * (100000000 * M + 10000 * M))))) (pq ms rs i)
  | 0, _ => Fr.zero (Nat.mul_pos M0 M0)
  | i + 1, h => by
    rw [pq_step ms (by omega), Nat.succ_mul]
    exact (pq_fr M0 M1 hw m0 om ok i (by omega)).add (Nat.mul_pos M0 M0) (wt_fr M0 M1 hw m0 om (ok _ (List.getElem_mem _)))
theorem ok_l_lost (T : Tx K mg) {k : Nat} : FnOk P w K mg base CX0 (k + 5) T.f_l_lost T.d_l_lost ["_law_rows_here", "_law_middles_here"] spLostQ := by
  refine T.F_l_lost.ok sc_l_lost (fun vs H Q E h => ?_) (fun cdv A outer s H vs Q E hr h => ?_)
  · obtain ⟨C, x, y, rs, ms, wd, M, rfl, _⟩ := h
    rfl
  · obtain ⟨C, x, y, rs, ms, wd, M, rfl, hx, hy, hC, m0, m1, r1, w1, M0, M1, ok, om, q⟩ := h
    obtain ⟨ra, rvs, rfl, nra, era, hR⟩ := hx.lstI
    have hy0 := hy
    obtain ⟨ma, mvs, rfl, nma, ema, hM⟩ := hy.lstI
    have lrv := hR.len
    have lmv := hM.len
    rw [List.length_map] at lrv lmv
    have a1 : M < 2 ^ 200 := Nat.lt_of_lt_of_le M1 (by decide)
    refine ⟨_, (pss_cons (ps_set (i := 2) sc_l_lost.nd rfl (.inl rfl) (pe_tup (pa_cons pe_int (pa_cons pe_int pa_nil))))
      (pss_cons (ps_for PassesOwn.never rfl (pi_listK K (pv 0)) (pg_tupK K (n := 2) rfl (pgs_cons (pg_name (i := 3) sc_l_lost.nd rfl (.inl rfl)) (pgs_cons (pg_name (i := 4) sc_l_lost.nd rfl (.inl rfl)) pgs_nil))) (pss_cons (ps_asg (pe_call (ok_l_far T (k := k + 1)) hr (by rfl) T.g_l_far T.F_l_far.kp T.b_l_far .nil pass0 (pa_cons (pv 3) (pa_cons (pe_ix (ix_listK K) (pv 1) (pe_call (ok_l_nearest_middle T (k := k)) hr (by rfl) T.g_l_nearest_middle T.F_l_nearest_middle.kp T.b_l_nearest_middle .nil pass0 (pa_cons (pv 1) (pa_cons (pv 3) pa_nil))) (fun _ _ => rfl)) pa_nil))) (pg_tupK K (n := 2) rfl (pgs_cons (pg_name (i := 5) sc_l_lost.nd rfl (.inl rfl)) (pgs_cons (pg_name (i := 6) sc_l_lost.nd rfl (.inl rfl)) pgs_nil))))
      (pss_one (ps_set (i := 2) sc_l_lost.nd rfl (.inl rfl) (pe_call (ok_l_plus T (k := k + 2)) hr (by rfl) T.g_l_plus T.F_l_plus.kp T.b_l_plus .nil pass0 (pa_cons (pv 2) (pa_cons (pe_call (ok_l_part T (k := k + 3)) hr (by rfl) T.g_l_part T.F_l_part.kp T.b_l_part .nil pass0 (pa_cons (pe_op op_mul (pv 4) (pv 5)) (pa_cons (pv 6) pa_nil))) pa_nil)))))))
      (pss_one (ps_ret (pv 2))))), ?_⟩
    refine ⟨(by show 2 ≤ sizeLine; decide), fun s0 hs0 => ?_⟩
    have t0 := sm_new (o := .tup [.int 0, .int 1]) hs0
    have e0 : Dt C (upd H s0 (.tup [.int 0, .int 1])) (.ref s0) (enc (qp (pq ms rs 0))) := Dt.ofCol (hC.ne hs0) upd_same
    generalize upd H s0 (.tup [.int 0, .int 1]) = H1 at *
    refine ⟨_, rfl, ra, rfl, ⟨_, SqL.of (t0 _ _ era)⟩, for_list (xs := rvs) (fun i σ H' => ∃ y3 y4 y5 y6 tv, σ = [some (.ref ra), some (.ref ma), some tv, y3, y4, y5, y6] ∧ Same H H' ∧ Dt C H' tv (enc (qp (pq ms rs i))))
      ⟨_, _, _, _, _, rfl, t0, e0⟩ (fun i σ H' _ h => ?_) (fun i x σ H2 hx2 h => ?_) (fun σ H2 h => ?_)⟩
    · obtain ⟨y3, y4, y5, y6, tv, rfl, s2, d2⟩ := h
      exact SqL.of (s2 _ _ era)
    · obtain ⟨y3, y4, y5, y6, tv, rfl, s2, d2⟩ := h
      have hi : i < rs.length := by have := (List.getElem?_eq_some_iff.mp hx2).1; omega
      obtain ⟨d, fd, dx⟩ := (hR.s s2).getV hx2
      rw [List.getElem?_map, List.getElem?_eq_getElem hi] at fd
      have ed : d = eRow rs[i] := (Option.some.inj fd).symm
      subst ed
      have o := ok _ (List.getElem_mem hi)
      obtain ⟨t, tq', rfl, nt, et, nq, eq⟩ := dx.rowI
      refine ⟨t, _, rfl, SqT.of et, rfl, _, _, rfl, _, _, rfl, rfl, ?_⟩
      have oc : cIn (-100000000) 100000000 rs[i].1 := o.2.1.mono (by decide) (by decide)
      refine ⟨_, rfl, _, rfl, _, rfl, _, rfl, C, C, _, _, ms, rs[i].1, rfl, hy0.s s2, Dt.ofCol nq eq, m0, by omega, fun m hm => ⟨M, 10000 * M, (om m hm).far M0 M1 o.1 w1 oc⟩, fun H3 s3 => ?_⟩
      have hj := argF_lt (farI rs[i].1 ms) ms.length m0
      have t3 := s2.trans s3
      obtain ⟨mv, fmv, dmv⟩ := (hM.s t3).get (i := argF (farI rs[i].1 ms) ms.length) (d := eMq ms[argF (farI rs[i].1 ms) ms.length]) (by rw [List.getElem?_map, List.getElem?_eq_getElem hj]; rfl)
      have B3 : Bk C H3 := hC.go (Go.of (B := []) t3)
      refine ⟨ma, _, _, mv, rfl, rfl, SqL.of (t3 _ _ ema), at0 (by omega) (by rw [Int.toNat_natCast]; exact fmv), C, C, C, _, mv, rs[i].1, _, M, 10000 * M, rfl, (Dt.ofCol nq eq).s s3, dmv, B3, (om _ (List.getElem_mem hj)).far M0 M1 o.1 w1 oc, fun fv H4 s4 d4 => ?_⟩
      obtain ⟨fa, rfl, nfa, efa⟩ := d4.col
      refine ⟨fa, _, rfl, SqT.of efa, rfl, _, _, rfl, _, _, rfl, rfl, ?_⟩
      have t4 := t3.trans s4
      have ew : wt ms rs[i] = (rs[i].2 : Rat) * farN rs[i].1 ms[argF (farI rs[i].1 ms) ms.length] rs[i].1.length := by
        unfold wt
        rw [farI_at (List.getElem?_eq_getElem hj)]
      have fz : Qb (farN rs[i].1 ms[argF (farI rs[i].1 ms) ms.length] rs[i].1.length) := ((om _ (List.getElem_mem hj)).far M0 M1 o.1 w1 oc).qb (by have := o.1; omega)
      generalize farN rs[i].1 ms[argF (farI rs[i].1 ms) ms.length] rs[i].1.length = z at *
      have wb := wt_fr M0 M1 w1 m0 om o
      have pb := pq_fr M0 M1 w1 m0 om ok i (by omega)
      have oc2 := o.2.2
      refine ⟨_, rfl, _, rfl, _, rfl, _, _, rfl, rfl, .inl ⟨by omega, by omega⟩, _, rfl, rs[i].2 * z.num, (z.den : Int), rfl, by have := z.den_nz; omega, nb fz.1, fun p5 H5 s5 hp5 e5 => ?_⟩
      rw [cnt_q, ← ew] at e5
      have t5 := t4.trans s5
      have B4 : Bk C H4 := hC.go (Go.of (B := []) t4)
      have B5 : Bk C H5 := hC.go (Go.of (B := []) t5)
      have d5 : Dt C H5 (.ref p5) (enc (qp (wt ms rs[i]))) := Dt.ofCol (B4.ne hp5) e5
      refine ⟨C, tv, .ref p5, _, _, rfl, ((d2.s s3).s s4).s s5, d5, pb.qb (Nat.mul_pos M0 M0) (fb1 a1) (tb1 a1 (by omega) (by omega) (by omega)), wb.qb (Nat.mul_pos M0 M0) (fb1 a1) (Nat.lt_of_le_of_lt (Nat.le_of_eq (Nat.one_mul _).symm) (tb1 a1 (by omega) (show 1 ≤ 1000 by decide) (by omega))), fun p6 H6 s6 hp6 e6 => ?_⟩
      refine ⟨_, _, _, _, _, rfl, t5.trans s6, ?_⟩
      rw [pq_step ms hi]
      exact Dt.ofCol (B5.ne hp6) e6
    · obtain ⟨y3, y4, y5, y6, tv, rfl, s2, d2⟩ := h
      refine ⟨_, rfl, q _ _ s2 ?_⟩
      rw [lrv] at d2
      unfold pq at d2
      rw [List.take_length] at d2
      exact d2
/-! ### what the law promises -/
def spLaw (K : PySem.W.Frag) : Sp := fun vs H Q _ => ∃ (a : Addr) (ns : List Int), vs = [.ref a] ∧ SqL K H a (ns.map V.int) ∧ ns.length ≤ 63 ∧ ∀ H', Q (.bl true) H'
/-! ### the law -/
theorem lost_qb {M wd : Nat} {ms : List (List Rat)} {rs : List (List Int × Int)} (M0 : 0 < M) (M1 : M < 2 ^ 180) (hw : wd ≤ 5) (m0 : 0 < ms.length) (m1 : ms.length ≤ 13) (om : ∀ m ∈ ms, MidM M wd m) (ok : ∀ r ∈ rs, rOk wd r) (l : rs.length ≤ 60) : Qb (lostQ ms rs) := by
  rw [← tq_all (wd := wd) m0 fun r hr => (ok r hr).1]
  exact tq_qb M0 M1 hw om (shares_ok ok l) (shares_len _ _) m1 (Nat.le_refl _)
theorem midM_int {M wd : Nat} {c : List Int} (M0 : 0 < M) (hc : c.length = wd) (ci : cIn 0 999 c) : MidM M wd (c.map fun (x : Int) => (x : Rat)) := ⟨by simpa using hc, fun z hz => by
  obtain ⟨x, hx, rfl⟩ := List.mem_map.mp hz
  have := ci x hx
  exact Fr.int M0 (by omega)⟩
set_option maxHeartbeats 2000000 in
theorem ok_law (T : Tx K mg) {f : Addr} {fd : FuncData} (F : Fun K "law" "law" s_law f fd) {k : Nat} (hk : k ≤ 10) : FnG P w K mg base (k + 8) f fd ["_law_script"] (spLaw K) := by
  refine fn_g F sc_law (fun vs H Q E h => ?_) (fun cdv A outer s H vs Q E hA hr h => ?_)
  · obtain ⟨a, ns, rfl, _⟩ := h
    rfl
  · obtain ⟨a, ns0, rfl, hS, hlen, q⟩ := h
    refine ⟨_, (pss_cons (ps_for PassesOwn.never rfl (pi_range1 (by rfl) T.z_range (pa_cons (pe_op op_add pe_int (pe_callB (call_min2 rfl) (by rfl) T.z_min (by decide +kernel) (pa_cons pe_int (pa_cons (pe_callB (len_K K) (by rfl) T.z_len PySem.boot_len (pa_cons (pv 0) pa_nil)) pa_nil)))) pa_nil)) (pg_name (i := 1) sc_law.nd rfl (.inl rfl)) (pss_cons (ps_set (i := 2) sc_law.nd rfl (.inl rfl) (pe_call (ok_l_left T (k := k + 6)) hr (by rfl) T.g_l_left T.F_l_left.kp T.b_l_left .nil pass0 (pa_cons (pv 0) (pa_cons (pv 1) pa_nil))))
      (pss_cons (ps_asg (pe_call (ok_l_some_rows T (k := k + 2)) hr (by rfl) T.g_l_some_rows T.F_l_some_rows.kp T.b_l_some_rows .nil pass0 (pa_cons (pv 2) pa_nil)) (pg_tupK K (n := 2) rfl (pgs_cons (pg_name (i := 3) sc_law.nd rfl (.inl rfl)) (pgs_cons (pg_name (i := 4) sc_law.nd rfl (.inl rfl)) pgs_nil))))
      (pss_cons (ps_set (i := 5) sc_law.nd rfl (.inl rfl) (pe_call (ok_l_hairs T (k := k + 4)) hr (by rfl) T.g_l_hairs T.F_l_hairs.kp T.b_l_hairs .nil pass0 (pa_cons (pv 2) (pa_cons (pv 4) (pa_cons (pe_call (ok_l_middles T (k := k + 3)) hr (by rfl) T.g_l_middles T.F_l_middles.kp T.b_l_middles .nil pass0 (pa_cons (pv 2) (pa_cons (pv 3) pa_nil))) pa_nil)))))
      (pss_cons (ps_set (i := 6) sc_law.nd rfl (.inl rfl) (pe_callTy (cr_strD K hA hr.units) (by rfl) T.z_str (by decide +kernel) (pa_cons (pe_lst (pa_cons (pv 4) (pa_cons (pv 5) pa_nil))) pa_nil)))
      (pss_cons (ps_set (i := 7) sc_law.nd rfl (.inl rfl) (pe_call (ok_l_lost T (k := k + 2)) hr (by rfl) T.g_l_lost T.F_l_lost.kp T.b_l_lost .nil pass0 (pa_cons (pv 4) (pa_cons (pv 5) pa_nil))))
      (pss_cons (ps_if (pt_not (pt_val (pe_call (ok_l_same T (k := k + 6)) hr (by rfl) T.g_l_same T.F_l_same.kp T.b_l_same .nil pass0 (pa_cons (pe_call (ok_lost_by T (k := k)) hr (by rfl) T.g_lost_by T.F_lost_by.kp T.b_lost_by .nil pass0 (pa_cons (pv 4) (pa_cons (pv 5) pa_nil))) (pa_cons (pv 7) pa_nil))))) (pss_one (ps_ret pe_bl)) pss_nil)
      (pss_cons (ps_if (PW.pt (pw_or (pt_not (pt_val (pe_call (ok_l_same T (k := k + 6)) hr (by rfl) T.g_l_same T.F_l_same.kp T.b_l_same .nil pass0 (pa_cons (pe_call (ok_lost_by T (k := k)) hr (by rfl) T.g_lost_by T.F_lost_by.kp T.b_lost_by .nil pass0 (pa_cons (pv 4) (pa_cons (pe_revL (pv 5)) pa_nil))) (pa_cons (pv 7) pa_nil))))) (pw_or1 (pt_cmpR op_ne (pe_callTy (cr_strD K hA hr.units) (by rfl) T.z_str (by decide +kernel) (pa_cons (pe_lst (pa_cons (pv 4) (pa_cons (pv 5) pa_nil))) pa_nil)) (pv 6) (nomark _))))) (pss_one (ps_ret pe_bl)) pss_nil)
      (pss_cons (ps_set (i := 8) sc_law.nd rfl (.inl rfl) (pe_op op_cat (pe_slice (sl_listK K) (pv 5) po_none (po_some pe_int)) (pe_lst (pa_cons (pe_callTy (tuple_K K) (by rfl) T.z_tuple (by decide +kernel) (pa_cons (pe_lc (own := [("_law_number", 10)]) (by rfl) sc_law.nd (pi_tupK K (pe_call (ok_l_colour T (k := k + 4)) hr (by rfl) T.g_l_colour T.F_l_colour.kp T.b_l_colour .nil pass0 (pa_cons (pv 2) (pa_cons (pv 3) pa_nil)))) (blkOk_by (own := [("_law_number", 10)]) (N := N_law) (sc := defScope s_law) (by decide +kernel)) (fun _ _ _ _ _ => (pg_name (i := 10) sc_law.nd rfl (.inl rfl))) (fun _ _ _ _ _ => pts_nil) (fun _ _ _ _ _ => (pe_tup (pa_cons (pv 10) (pa_cons pe_int pa_nil))))) pa_nil)) pa_nil))))
      (pss_cons (ps_if (PW.pt (pw_and (pt_cmpR op_lt (pe_callB (len_K K) (by rfl) T.z_len PySem.boot_len (pa_cons (pv 5) pa_nil)) pe_int (nomark _)) (pw_and1 (pt_val (pe_call (ok_l_less T (k := k + 6)) hr (by rfl) T.g_l_less T.F_l_less.kp T.b_l_less .nil pass0 (pa_cons (pv 7) (pa_cons (pe_call (ok_lost_by T (k := k)) hr (by rfl) T.g_lost_by T.F_lost_by.kp T.b_lost_by .nil pass0 (pa_cons (pv 4) (pa_cons (pv 8) pa_nil))) pa_nil))))))) (pss_one (ps_ret pe_bl)) pss_nil)
      (pss_cons (ps_set (i := 9) sc_law.nd rfl (.inl rfl) (pe_slice (sl_listK K) (pv 4) po_none (po_some pe_int)))
      (pss_one (ps_if (pt_not (pt_val (pe_call (ok_l_same T (k := k + 6)) hr (by rfl) T.g_l_same T.F_l_same.kp T.b_l_same .nil pass0 (pa_cons (pe_call (ok_lost_by T (k := k)) hr (by rfl) T.g_lost_by T.F_lost_by.kp T.b_lost_by .nil pass0 (pa_cons (pv 9) (pa_cons (pe_lc (own := [("_law_colour_here", 11), ("_law_count", 12)]) (by rfl) sc_law.nd (pi_listK K (pv 9)) (blkOk_by (own := [("_law_colour_here", 11), ("_law_count", 12)]) (N := N_law) (sc := defScope s_law) (by decide +kernel)) (fun _ _ _ _ _ => (pg_tupK K (n := 2) rfl (pgs_cons (pg_name (i := 11) sc_law.nd rfl (.inl rfl)) (pgs_cons (pg_name (i := 12) sc_law.nd rfl (.inl rfl)) pgs_nil)))) (fun _ _ _ _ _ => pts_nil) (fun _ _ _ _ _ => (pe_callTy (tuple_K K) (by rfl) T.z_tuple (by decide +kernel) (pa_cons (pe_lc (own := [("_law_n", 13)]) (by rfl) sc_law.nd (pi_tupK K (pv 11)) (blkOk_in (own := [("_law_n", 13)]) (N := N_law) [] (by decide +kernel) (by decide +kernel) trivial) (fun _ _ _ _ _ => (pg_name (i := 13) sc_law.nd rfl (.inl rfl))) (fun _ _ _ _ _ => pts_nil) (fun _ _ _ _ _ => (pe_tup (pa_cons (pv 13) (pa_cons pe_int pa_nil))))) pa_nil)))) pa_nil))) (pa_cons (pe_tup (pa_cons pe_int (pa_cons pe_int pa_nil))) pa_nil))))) (pss_one (ps_ret pe_bl)) pss_nil)))))))))))))
      (pss_one (ps_ret pe_bl))), ?_⟩
    refine ⟨_, rfl, a, _, rfl, .inl hS, _, _, rfl, _, _, rfl, rfl, ?_⟩
    obtain ⟨m, hm⟩ : ∃ m : Int, m = 1 + (if ((ns0.map V.int).length : Int) < 5 then ((ns0.map V.int).length : Int) else (5 : Int)) := ⟨_, rfl⟩
    have m0 : 0 ≤ m ∧ m ≤ 7 := by
      rw [hm]
      split <;> omega
    refine ⟨m, by rw [hm], by omega, by omega, for_range (lo := 0) (n := m.toNat) (fun i σ H' => ∃ y1 y2 y3 y4 y5 y6 y7 y8 y9 y10 y11 y12 y13, σ = [some (.ref a), y1, y2, y3, y4, y5, y6, y7, y8, y9, y10, y11, y12, y13] ∧ Same H H')
      ⟨none, none, none, none, none, none, none, none, none, none, none, none, none, rfl, Same.refl H⟩ (fun i σ H1 hi h1 => ?_) (fun σ H1 h1 => ?_)⟩
    · obtain ⟨y1, y2, y3, y4, y5, y6, y7, y8, y9, y10, y11, y12, y13, rfl, s1⟩ := h1
      refine ⟨_, rfl, _, rfl, a, ns0, _, rfl, s1.seq hS, by omega, fun L x0 y0 hL0 x0n => ?_⟩
      have lf1 : Lf L (upd H1 L (.lst [.int x0, .int y0, .int 0])) 0 := ⟨x0, y0, 0, upd_same, x0n, by omega, by omega⟩
      have s2 := sm_mut (o := .lst [.int x0, .int y0, .int 0]) s1 (s1.free hL0)
      have hLH : H L = none := s1.free hL0
      generalize upd H1 L (.lst [.int x0, .int y0, .int 0]) = H2 at *
      have nB : ∀ b ∈ [L], H b = none := fun b hb => by rw [List.mem_singleton.mp hb]; exact hLH
      refine ⟨_, rfl, L, 0, rfl, lf1, by omega, fun t kv rv H3 wd sp rs g3 l3 nt et dk dr w0 w1 p0 p1 r0 r1 ok => ?_⟩
      refine ⟨t, _, rfl, SqT.of et, rfl, _, _, rfl, _, _, rfl, rfl, ?_⟩
      refine ⟨_, rfl, _, rfl, _, rfl, _, rfl, L, _, kv, wd, sp, rfl, l3, by omega, dk, w1, p0, p1, fun mv4 H4 ms4 g4 l4 dm4 m04 m14 om4 => ?_⟩
      refine ⟨L, _, rv, mv4, rs, ms4, wd, rfl, l4, by omega, dr.g g4, dm4, r0, r1, m04, m14, w0, w1, ok, om4, fun mv H5 ms M g5 l5 dm5 m05 m15 M0 M1 om => ?_⟩
      have dr5 : Dt [L] H5 rv (eRs rs) := (dr.g g4).g g5
      have dk5 : Dt [L] H5 kv (eC [(wd : Int), sp]) := (dk.g g4).g g5
      have g25 : Go [L] H2 H5 := (g3.trans g4).trans g5
      clear dr dm4 dk
      have oko : ∀ m ∈ ms, MidOk wd m := fun m hm => (om m hm).ok M0 M1
      -- the text that is kept
      have shwR := shw_eRs ok w1 r1
      have shwM := shw_eMs oko w1 m15
      have shw : Shw (.list [eRs rs, eMs ms]) 300000 := (shw_lst (n := 100000) fun d hd => by
        simp only [List.mem_cons, List.not_mem_nil, or_false] at hd
        rcases hd with rfl | rfl
        · exact shwR
        · exact shwM).mono (by simp)
      have shR : Sh (eRs rs) 3 := sh_eRs (by omega) fun r hr => by have := (ok r hr).1; omega
      have shM : Sh (eMs ms) 3 := sh_eMs (by omega) fun m hm => by have := (om m hm).1; omega
      have sh : Sh (.list [eRs rs, eMs ms]) 4 := sh_lst (by simp) fun d hd => by
        simp only [List.mem_cons, List.not_mem_nil, or_false] at hd
        rcases hd with rfl | rfl
        · exact shR
        · exact shM
      have dep : (PyData.list [eRs rs, eMs ms]).depth ≤ 40 := Nat.le_trans sh.2.1 (by decide)
      have slen : (PyData.list [eRs rs, eMs ms]).shown.length ≤ sizeLine := Nat.le_trans shw.c (by decide)
      refine ⟨_, rfl, _, rfl, (by show 2 ≤ sizeLine; decide), fun kl hkl => ?_⟩
      have s6 := sm_new (o := .lst [rv, mv]) hkl
      have dK : Dt [L] (upd H5 kl (.lst [rv, mv])) (.ref kl) (.list [eRs rs, eMs ms]) := .lst (l5.bk.ne hkl) upd_same (.cons (dr5.s s6) (.one (dm5.s s6)))
      generalize upd H5 kl (.lst [rv, mv]) = H6 at *
      refine ⟨kl, _, rfl, dK.dP, shw.a, shw.b, dep, slen, ?_⟩
      have dr6 := dr5.s s6
      have dm6 := dm5.s s6
      have l6 := l5.same s6
      have shq : ∀ z : Rat, Sh (enc (qp z)) 1 := fun z => sh_eC (by simp)
      refine ⟨_, rfl, _, rfl, [L], rv, mv, rs, ms, wd, M, rfl, dr6, dm6, l6.bk, m05, by omega, r1, w1, M0, M1, ok, om, fun dv H7 s7 d7 => ?_⟩
      refine ⟨_, rfl, _, rfl, [L], rv, mv, rs, ms, wd, M, rfl, dr6.s s7, dm6.s s7, (l6.same s7).bk, m05, by omega, r1, w1, M0, M1, ok, om, fun fv H8 s8 d8 => ?_⟩
      refine ⟨_, rfl, [L], _, _, _, rfl, d8, d7.s s8, (shq _).mono (by omega), by omega, fun H9 s9 => ?_⟩
      refine ⟨_, rfl, iteF ?_⟩
      have t9 := (s7.trans s8).trans s9
      have dr9 := dr6.s t9
      have dm9 := dm6.s t9
      have l9 := l6.same t9
      have due9 := (d7.s s8).s s9
      obtain ⟨ma, mvs, rfl, nma, ema9, hM9⟩ := dm9.lstI
      have lmv := hM9.len
      rw [List.length_map] at lmv
      -- the other way about
      refine ⟨_, rfl, _, rfl, ma, _, rfl, SqL.of ema9, fun rp hrp => ?_⟩
      have s10 := sm_new (o := .lst mvs.reverse) hrp
      have dv10 : Dt [L] (upd H9 rp (.lst mvs.reverse)) (.ref rp) (eMs ms.reverse) := .lst (l9.bk.ne hrp) upd_same (by
        rw [List.map_reverse]
        exact (hM9.s s10).rev)
      have l10 := l9.same s10
      generalize upd H9 rp (.lst mvs.reverse) = H10 at *
      refine ⟨[L], rv, _, rs, ms.reverse, wd, M, rfl, dr9.s s10, dv10, l10.bk, by simpa using m05, by simp; omega, r1, w1, M0, M1, ok, fun m hm => om m (List.mem_reverse.mp hm), fun fv H11 s11 d11 => ?_⟩
      rw [lost_rev m05] at d11
      refine ⟨_, rfl, [L], _, _, _, rfl, d11, (due9.s s10).s s11, (shq _).mono (by omega), by omega, fun H12 s12 => ?_⟩
      refine ⟨_, rfl, iteF ?_⟩
      have t12 := (s10.trans s11).trans s12
      have dr12 := dr9.s t12
      have dm12 := dm9.s t12
      have l12 := l9.same t12
      have due12 := due9.s t12
      refine ⟨_, rfl, _, rfl, (by show 2 ≤ sizeLine; decide), fun kl2 hkl2 => ?_⟩
      have s13 := sm_new (o := .lst [rv, .ref ma]) hkl2
      have dK2 : Dt [L] (upd H12 kl2 (.lst [rv, .ref ma])) (.ref kl2) (.list [eRs rs, eMs ms]) := .lst (l12.bk.ne hkl2) upd_same (.cons (dr12.s s13) (.one (dm12.s s13)))
      generalize upd H12 kl2 (.lst [rv, .ref ma]) = H13 at *
      refine ⟨kl2, _, rfl, dK2.dP, shw.a, shw.b, dep, slen, ?_⟩
      refine ⟨_, rfl, rfl, _, rfl, iteN (by simp) ?_⟩
      have t13 := t12.trans s13
      have dr13 := dr9.s t13
      have l13 := l9.same t13
      have due13 := due9.s t13
      have ema13 := t13 _ _ ema9
      have hM13 := hM9.s t13
      have dk13 := ((dk5.s s6).s t9).s t13
      -- one middle more
      refine ⟨_, rfl, 11, rfl, ma, _, rfl, SqL.of ema13, fun c1 hc1 => ?_⟩
      have u1 := sm_new (o := .lst (cutV mvs none (some 11))) hc1
      have ec1 : (upd H13 c1 (.lst (cutV mvs none (some 11)))) c1 = some (.lst (cutV mvs none (some 11))) := upd_same
      have nc1 : c1 ∉ [L] := l13.bk.ne hc1
      generalize upd H13 c1 (.lst (cutV mvs none (some 11))) = H14 at *
      have k1 := (hM13.s u1).cut none (some 11)
      rw [cut_toV _ (by decide), ← List.map_take] at k1
      have l14 := l13.same u1
      refine ⟨_, rfl, _, rfl, L, [L], _, kv, wd, sp, rfl, l14, by simp, l14.bk, by omega, dk13.s u1, by omega, by omega, p0, p1, fun cv H15 c g15 l15 d15 n15 c15 => ?_⟩
      obtain ⟨ca, rfl, nca, eca⟩ := d15.col
      have lc : c.length = wd := by omega
      refine ⟨ca, rfl, ⟨_, SqT.of eca⟩, fun D hD => ?_⟩
      refine lc_pure (B := [L]) (walk_tup (xs := c.map V.int)) hD l15.bk (fun H' s' => SqT.of (s' _ _ eca)) (by rw [List.length_map]; omega)
        (fun i => (((c.map fun (x : Int) => (x : Rat)).map qp).map enc)[i]?) (fun j x H' H'' Ny Nn hj t1 bk y ky kn => ?_) (fun H16 ws s16 eD hW => ?_)
      · obtain ⟨rfl, y⟩ := y
        rw [List.length_map] at hj
        have ex := mat hj y
        subst ex
        refine ⟨rfl, lc_yes ⟨_, rfl, (by show 2 ≤ sizeLine; decide), fun p hp => ?_⟩⟩
        exact ky _ _ (enc (c[j], 1)) (by rw [List.getElem?_map, List.getElem?_map, List.getElem?_map, List.getElem?_eq_getElem hj]; rfl) (sm_new hp) (Dt.ofCol (bk.ne hp) upd_same)
      rw [fm_all (by simp)] at hW
      refine ⟨D, _, rfl, .inl ⟨SqL.of eD, fun t ht => ?_⟩⟩
      have l16 := l15.same s16
      have d17 := eMq_tup (D := L) l16.bk hW.un ht
      have s17 := s16.trans (sm_new (o := .tup ws) ht)
      generalize upd H16 t (.tup ws) = H17 at *
      have l17 := l15.same s17
      refine ⟨(by show 1 ≤ sizeLine; decide), fun o ho => ?_⟩
      have s18 := sm_new (o := .lst [.ref t]) ho
      have eo : (upd H17 o (.lst [.ref t])) o = some (.lst [.ref t]) := upd_same
      have d18 := d17.s s18
      generalize upd H17 o (.lst [.ref t]) = H18 at *
      have g18 : Go [L] H14 H18 := g15.trans (Go.of (s17.trans s18))
      have l18 := l17.same s18
      have k18 := k1.g g18
      have lk1 := k18.len
      rw [List.length_map, List.length_take] at lk1
      refine ⟨c1, o, _, _, rfl, rfl, g18.k c1 _ nc1 ec1, eo, Nat.le_of_lt (sz (by simp; omega)), fun c2 hc2 => ?_⟩
      have s19 := sm_new (o := .lst (cutV mvs none (some 11) ++ [.ref t])) hc2
      have dmore : Dt [L] (upd H18 c2 (.lst (cutV mvs none (some 11) ++ [.ref t]))) (.ref c2) (eMs (ms.take (11 : Int).toNat ++ [c.map fun (x : Int) => (x : Rat)])) := .lst (l18.bk.ne hc2) upd_same (by
        rw [List.map_append]
        exact (k18.s s19).app (.one (d18.s s19)))
      generalize upd H18 c2 (.lst (cutV mvs none (some 11) ++ [.ref t])) = H19 at *
      have g1319 : Go [L] H13 H19 := ((Go.of u1).trans g18).trans (Go.of s19)
      have dr19 := dr13.g g1319
      have due19 := due13.g g1319
      have ema19 := g1319.k ma _ nma ema13
      have l19 := l18.same s19
      have g219 : Go [L] H2 H19 := ((g25.trans (Go.of ((s6.trans t9).trans t13)))).trans g1319
      refine ⟨_, rfl, ma, _, rfl, .inl (SqL.of ema19), _, _, rfl, rfl, _, rfl, ite2 (fun e => ?_) (fun e => iteF ?_)⟩
      rotate_left
      have dr20 := dr19
      have l20 := l19
      have g220 := g219
      clear dmore ema19 due19 dr19 g1319 g219 l19 s19 e
      generalize H19 = H20 at *
      rotate_right
      have m12 : ms.length < 12 := by
        have : (mvs.length : Int) < 12 := of_decide_eq_true e
        omega
      have et : ms.take (11 : Int).toNat = ms := List.take_of_length_le (by show ms.length ≤ 11; omega)
      rw [et] at dmore
      have omm : ∀ m ∈ ms ++ [c.map fun (x : Int) => (x : Rat)], MidM M wd m := fun m hm => by
        rcases List.mem_append.mp hm with z | z
        · exact om m z
        · rw [List.mem_singleton.mp z]; exact midM_int M0 lc c15
      refine ⟨_, rfl, _, rfl, _, rfl, [L], rv, _, rs, _, wd, M, rfl, dr19, dmore, l19.bk, by simp, by simp; omega, r1, w1, M0, M1, ok, omm, fun v20 H20 s20 d20 => ?_⟩
      refine ⟨[L], dv, v20, _, _, rfl, due19.s s20, d20, lost_qb M0 M1 w1 m05 (by omega) om ok r1, lost_qb M0 M1 w1 (by simp) (by simp; omega) omm ok r1, ?_⟩
      have lm := lost_more m05 (c.map fun (x : Int) => (x : Rat)) (rs := rs) (fun r hr => by have := (ok r hr).2.2; omega)
      refine ⟨_, rfl, iteN (decide_eq_false (by grind)) ?_⟩
      have dr20 := dr19.s s20
      have l20 := l19.same s20
      have g220 := g219.trans (Go.of s20)
      all_goals
        obtain ⟨ra, rvs, rfl, nra, era20, hR20⟩ := dr20.lstI
        have lrv := hR20.len
        rw [List.length_map] at lrv
        refine ⟨_, rfl, 12, rfl, ra, _, rfl, SqL.of era20, fun c3 hc3 => ?_⟩
        have s21 := sm_new (o := .lst (cutV rvs none (some 12))) hc3
        have ec3 : (upd H20 c3 (.lst (cutV rvs none (some 12)))) c3 = some (.lst (cutV rvs none (some 12))) := upd_same
        have nc3 : c3 ∉ [L] := l20.bk.ne hc3
        generalize upd H20 c3 (.lst (cutV rvs none (some 12))) = H21 at *
        have l21 := l20.same s21
        have k3 := (hR20.s s21).cut none (some 12)
        rw [cut_toV _ (by decide), ← List.map_take] at k3
        have lk3 := k3.len
        rw [List.length_map, List.length_take] at lk3
        have okt : ∀ r ∈ rs.take (12 : Int).toNat, rOk wd r := fun r hr => ok r (List.mem_of_mem_take hr)
        have ltt : (rs.take (12 : Int).toNat).length ≤ 12 := by rw [List.length_take]; exact Nat.min_le_left _ _
        have lt0 : 0 < (rs.take (12 : Int).toNat).length := by rw [List.length_take]; have : (12 : Int).toNat = 12 := rfl; omega
        rw [← List.length_take] at lk3
        generalize rs.take (12 : Int).toNat = qs at *
        generalize cutV rvs none (some 12) = us at *
        refine ⟨_, rfl, _, rfl, c3, rfl, ⟨_, SqL.of ec3⟩, fun D3 hD3 => ?_⟩
        refine lc_pure (B := [L]) (walk_list (xs := us)) hD3 l21.bk (fun H' s' => SqL.of (s' _ _ ec3)) (by omega)
          (fun i => some (eMq ((qs.getD i ([], 0)).1.map fun (x : Int) => (x : Rat)))) (fun j x H' H'' Ny Nn hj t1 bk y ky kn => ?_) (fun H22 xs s22 eD3 hW3 => ?_)
        · obtain ⟨rfl, y⟩ := y
          obtain ⟨d1, f1, g1⟩ := k3.getV y
          have hi2 : j < qs.length := by omega
          rw [List.getElem?_map, List.getElem?_eq_getElem hi2] at f1
          have ed : d1 = eRow qs[j] := (Option.some.inj f1).symm
          subst ed
          have gd : qs.getD j ([], 0) = qs[j] := by rw [List.getD_eq_getElem?_getD, List.getElem?_eq_getElem hi2]; rfl
          rw [gd] at ky
          have oq := okt _ (List.getElem_mem hi2)
          have lq := oq.1
          obtain ⟨ta, qa, rfl, _, e1, _, e2⟩ := (g1.s t1).rowI
          refine ⟨ta, _, rfl, SqT.of e1, rfl, _, _, rfl, _, _, rfl, rfl, rfl, lc_yes ?_⟩
          refine ⟨_, rfl, qa, rfl, ⟨_, SqT.of e2⟩, fun D4 hD4 => ?_⟩
          refine lc_pure (B := D3 :: [L]) (walk_tup (xs := qs[j].1.map V.int)) hD4 bk (fun H' s' => SqT.of (s' _ _ e2)) (by rw [List.length_map]; omega)
            (fun i => (((qs[j].1.map fun (x : Int) => (x : Rat)).map qp).map enc)[i]?) (fun l x H3 H4 Ny2 Nn2 hl t3 bk3 y ky2 kn2 => ?_) (fun H5 ws5 s5 eD5 hW5 => ?_)
          · obtain ⟨rfl, y⟩ := y
            rw [List.length_map] at hl
            have ex := mat hl y
            subst ex
            refine ⟨rfl, lc_yes ⟨_, rfl, (by show 2 ≤ sizeLine; decide), fun p hp => ?_⟩⟩
            exact ky2 _ _ (enc (qs[j].1[l], 1)) (by rw [List.getElem?_map, List.getElem?_map, List.getElem?_map, List.getElem?_eq_getElem hl]; rfl) (sm_new hp) (Dt.ofCol (bk3.ne hp) upd_same)
          · rw [fm_all (by simp)] at hW5
            refine ⟨D4, _, rfl, .inl ⟨SqL.of eD5, fun t5 ht5 => ?_⟩⟩
            have d5 := eMq_tup (D := D3) (bk.go (Go.of (B := []) s5)) hW5.un ht5
            exact ky _ _ _ rfl (s5.trans (sm_new ht5)) d5
        rw [fm_some] at hW3
        have er : (List.range us.length).map (fun i => eMq ((qs.getD i ([], 0)).1.map fun (x : Int) => (x : Rat))) = (qs.map fun r => r.1.map fun (x : Int) => (x : Rat)).map eMq := by
          refine List.ext_getElem (by simp; omega) fun i h1 h2 => ?_
          have hi : i < qs.length := by simpa using h2
          simp [List.getD_eq_getElem?_getD, List.getElem?_eq_getElem hi]
        rw [er] at hW3
        have l22 := l21.same s22
        have dms : Dt [L] H22 (.ref D3) (eMs (qs.map fun r => r.1.map fun (x : Int) => (x : Rat))) := .lst (l21.bk.ne hD3) eD3 hW3.un
        have dqs : Dt [L] H22 (.ref c3) (eRs qs) := .lst nc3 (s22 _ _ ec3) (k3.s s22)
        refine ⟨[L], _, _, qs, _, wd, 1, rfl, dqs, dms, l22.bk, by simpa using lt0, by simp; omega, by omega, w1, by decide, by decide, okt, fun m hm => ?_, fun v23 H23 s23 d23 => ?_⟩
        · obtain ⟨r, hr', rfl⟩ := List.mem_map.mp hm
          exact midM_int (by decide) (okt r hr').1 (okt r hr').2.1
        rw [lost_own (wd := wd) fun r hr => (okt r hr).1] at d23
        have l23 := l22.same s23
        refine ⟨(by show 2 ≤ sizeLine; decide), fun z hz => ?_⟩
        have s24 := sm_new (o := .tup [.int 0, .int 1]) hz
        have dz : Dt [L] (upd H23 z (.tup [.int 0, .int 1])) (.ref z) (enc (qp 0)) := Dt.ofCol (l23.bk.ne hz) upd_same
        generalize upd H23 z (.tup [.int 0, .int 1]) = H24 at *
        refine ⟨[L], _, _, _, rfl, d23.s s24, dz, (shq 0).mono (by omega), by omega, fun H25 s25 => ?_⟩
        refine ⟨_, rfl, iteF ?_⟩
        exact ⟨_, _, _, _, _, _, _, _, _, _, _, _, _, rfl, (g220.trans (Go.of ((((s21.trans s22).trans s23).trans s24).trans s25))).sm s2 nB⟩
    · obtain ⟨y1, y2, y3, y4, y5, y6, y7, y8, y9, y10, y11, y12, y13, rfl, s1⟩ := h1
      exact q H1

end
theorem all_mk {l : PySem.W.OpenLaw} {w : World} {K : PySem.W.Frag} {h : Heap} {mg : Str → Option Value} {fa : Addr} (X : K.In h) (G : h.Ns mainGlobals mg) (hfa : mg "law" = some (.ref fa))
    {f0 : Addr} {od0 an0 : Option Addr} {sl0 : Array (Option Value)} {oc0 kV0 dc0 pm0 cd0 ct0 : Value}
    (a0 : PySem.W.nsIn K mainGlobals "common_measure" = some (some (.ref f0))) (l0 : K.lookup f0 = some ⟨oc0, od0, .func (PySem.W.fnOf "common_measure" "common_measure" (defArgs s_common_measure) (defBody s_common_measure) (defScope s_common_measure) .none kV0 dc0 pm0 an0 cd0 ct0), sl0⟩) (c0 : PySem.W.codeIn K cd0 "common_measure" = true) (k0 : PySem.W.keepIn K (.ref f0) = true)
    {f1 : Addr} {od1 an1 : Option Addr} {sl1 : Array (Option Value)} {oc1 kV1 dc1 pm1 cd1 ct1 : Value}
    (a1 : PySem.W.nsIn K mainGlobals "part" = some (some (.ref f1))) (l1 : K.lookup f1 = some ⟨oc1, od1, .func (PySem.W.fnOf "part" "part" (defArgs s_part) (defBody s_part) (defScope s_part) .none kV1 dc1 pm1 an1 cd1 ct1), sl1⟩) (c1 : PySem.W.codeIn K cd1 "part" = true) (k1 : PySem.W.keepIn K (.ref f1) = true)
    {f2 : Addr} {od2 an2 : Option Addr} {sl2 : Array (Option Value)} {oc2 kV2 dc2 pm2 cd2 ct2 : Value}
    (a2 : PySem.W.nsIn K mainGlobals "plus" = some (some (.ref f2))) (l2 : K.lookup f2 = some ⟨oc2, od2, .func (PySem.W.fnOf "plus" "plus" (defArgs s_plus) (defBody s_plus) (defScope s_plus) .none kV2 dc2 pm2 an2 cd2 ct2), sl2⟩) (c2 : PySem.W.codeIn K cd2 "plus" = true) (k2 : PySem.W.keepIn K (.ref f2) = true)
    {f3 : Addr} {od3 an3 : Option Addr} {sl3 : Array (Option Value)} {oc3 kV3 dc3 pm3 cd3 ct3 : Value}
    (a3 : PySem.W.nsIn K mainGlobals "sum_of" = some (some (.ref f3))) (l3 : K.lookup f3 = some ⟨oc3, od3, .func (PySem.W.fnOf "sum_of" "sum_of" (defArgs s_sum_of) (defBody s_sum_of) (defScope s_sum_of) .none kV3 dc3 pm3 an3 cd3 ct3), sl3⟩) (c3 : PySem.W.codeIn K cd3 "sum_of" = true) (k3 : PySem.W.keepIn K (.ref f3) = true)
    {f4 : Addr} {od4 an4 : Option Addr} {sl4 : Array (Option Value)} {oc4 kV4 dc4 pm4 cd4 ct4 : Value}
    (a4 : PySem.W.nsIn K mainGlobals "times" = some (some (.ref f4))) (l4 : K.lookup f4 = some ⟨oc4, od4, .func (PySem.W.fnOf "times" "times" (defArgs s_times) (defBody s_times) (defScope s_times) .none kV4 dc4 pm4 an4 cd4 ct4), sl4⟩) (c4 : PySem.W.codeIn K cd4 "times" = true) (k4 : PySem.W.keepIn K (.ref f4) = true)
    {f5 : Addr} {od5 an5 : Option Addr} {sl5 : Array (Option Value)} {oc5 kV5 dc5 pm5 cd5 ct5 : Value}
    (a5 : PySem.W.nsIn K mainGlobals "before" = some (some (.ref f5))) (l5 : K.lookup f5 = some ⟨oc5, od5, .func (PySem.W.fnOf "before" "before" (defArgs s_before) (defBody s_before) (defScope s_before) .none kV5 dc5 pm5 an5 cd5 ct5), sl5⟩) (c5 : PySem.W.codeIn K cd5 "before" = true) (k5 : PySem.W.keepIn K (.ref f5) = true)
    {f6 : Addr} {od6 an6 : Option Addr} {sl6 : Array (Option Value)} {oc6 kV6 dc6 pm6 cd6 ct6 : Value}
    (a6 : PySem.W.nsIn K mainGlobals "far_of" = some (some (.ref f6))) (l6 : K.lookup f6 = some ⟨oc6, od6, .func (PySem.W.fnOf "far_of" "far_of" (defArgs s_far_of) (defBody s_far_of) (defScope s_far_of) .none kV6 dc6 pm6 an6 cd6 ct6), sl6⟩) (c6 : PySem.W.codeIn K cd6 "far_of" = true) (k6 : PySem.W.keepIn K (.ref f6) = true)
    {f7 : Addr} {od7 an7 : Option Addr} {sl7 : Array (Option Value)} {oc7 kV7 dc7 pm7 cd7 ct7 : Value}
    (a7 : PySem.W.nsIn K mainGlobals "far_sum" = some (some (.ref f7))) (l7 : K.lookup f7 = some ⟨oc7, od7, .func (PySem.W.fnOf "far_sum" "far_sum" (defArgs s_far_sum) (defBody s_far_sum) (defScope s_far_sum) .none kV7 dc7 pm7 an7 cd7 ct7), sl7⟩) (c7 : PySem.W.codeIn K cd7 "far_sum" = true) (k7 : PySem.W.keepIn K (.ref f7) = true)
    {f8 : Addr} {od8 an8 : Option Addr} {sl8 : Array (Option Value)} {oc8 kV8 dc8 pm8 cd8 ct8 : Value}
    (a8 : PySem.W.nsIn K mainGlobals "nearest_middle" = some (some (.ref f8))) (l8 : K.lookup f8 = some ⟨oc8, od8, .func (PySem.W.fnOf "nearest_middle" "nearest_middle" (defArgs s_nearest_middle) (defBody s_nearest_middle) (defScope s_nearest_middle) .none kV8 dc8 pm8 an8 cd8 ct8), sl8⟩) (c8 : PySem.W.codeIn K cd8 "nearest_middle" = true) (k8 : PySem.W.keepIn K (.ref f8) = true)
    {f9 : Addr} {od9 an9 : Option Addr} {sl9 : Array (Option Value)} {oc9 kV9 dc9 pm9 cd9 ct9 : Value}
    (a9 : PySem.W.nsIn K mainGlobals "shared_out" = some (some (.ref f9))) (l9 : K.lookup f9 = some ⟨oc9, od9, .func (PySem.W.fnOf "shared_out" "shared_out" (defArgs s_shared_out) (defBody s_shared_out) (defScope s_shared_out) .none kV9 dc9 pm9 an9 cd9 ct9), sl9⟩) (c9 : PySem.W.codeIn K cd9 "shared_out" = true) (k9 : PySem.W.keepIn K (.ref f9) = true)
    {f10 : Addr} {od10 an10 : Option Addr} {sl10 : Array (Option Value)} {oc10 kV10 dc10 pm10 cd10 ct10 : Value}
    (a10 : PySem.W.nsIn K mainGlobals "lost_so" = some (some (.ref f10))) (l10 : K.lookup f10 = some ⟨oc10, od10, .func (PySem.W.fnOf "lost_so" "lost_so" (defArgs s_lost_so) (defBody s_lost_so) (defScope s_lost_so) .none kV10 dc10 pm10 an10 cd10 ct10), sl10⟩) (c10 : PySem.W.codeIn K cd10 "lost_so" = true) (k10 : PySem.W.keepIn K (.ref f10) = true)
    {f11 : Addr} {od11 an11 : Option Addr} {sl11 : Array (Option Value)} {oc11 kV11 dc11 pm11 cd11 ct11 : Value}
    (a11 : PySem.W.nsIn K mainGlobals "lost_by" = some (some (.ref f11))) (l11 : K.lookup f11 = some ⟨oc11, od11, .func (PySem.W.fnOf "lost_by" "lost_by" (defArgs s_lost_by) (defBody s_lost_by) (defScope s_lost_by) .none kV11 dc11 pm11 an11 cd11 ct11), sl11⟩) (c11 : PySem.W.codeIn K cd11 "lost_by" = true) (k11 : PySem.W.keepIn K (.ref f11) = true)
    {f12 : Addr} {od12 an12 : Option Addr} {sl12 : Array (Option Value)} {oc12 kV12 dc12 pm12 cd12 ct12 : Value}
    (a12 : PySem.W.nsIn K mainGlobals "_law_mix" = some (some (.ref f12))) (l12 : K.lookup f12 = some ⟨oc12, od12, .func (PySem.W.fnOf "_law_mix" "_law_mix" (defArgs s_l_mix) (defBody s_l_mix) (defScope s_l_mix) .none kV12 dc12 pm12 an12 cd12 ct12), sl12⟩) (c12 : PySem.W.codeIn K cd12 "_law_mix" = true) (k12 : PySem.W.keepIn K (.ref f12) = true)
    {f13 : Addr} {od13 an13 : Option Addr} {sl13 : Array (Option Value)} {oc13 kV13 dc13 pm13 cd13 ct13 : Value}
    (a13 : PySem.W.nsIn K mainGlobals "_law_left" = some (some (.ref f13))) (l13 : K.lookup f13 = some ⟨oc13, od13, .func (PySem.W.fnOf "_law_left" "_law_left" (defArgs s_l_left) (defBody s_l_left) (defScope s_l_left) .none kV13 dc13 pm13 an13 cd13 ct13), sl13⟩) (c13 : PySem.W.codeIn K cd13 "_law_left" = true) (k13 : PySem.W.keepIn K (.ref f13) = true)
    {f14 : Addr} {od14 an14 : Option Addr} {sl14 : Array (Option Value)} {oc14 kV14 dc14 pm14 cd14 ct14 : Value}
    (a14 : PySem.W.nsIn K mainGlobals "_law_pick" = some (some (.ref f14))) (l14 : K.lookup f14 = some ⟨oc14, od14, .func (PySem.W.fnOf "_law_pick" "_law_pick" (defArgs s_l_pick) (defBody s_l_pick) (defScope s_l_pick) .none kV14 dc14 pm14 an14 cd14 ct14), sl14⟩) (c14 : PySem.W.codeIn K cd14 "_law_pick" = true) (k14 : PySem.W.keepIn K (.ref f14) = true)
    {f15 : Addr} {od15 an15 : Option Addr} {sl15 : Array (Option Value)} {oc15 kV15 dc15 pm15 cd15 ct15 : Value}
    (a15 : PySem.W.nsIn K mainGlobals "_law_kind" = some (some (.ref f15))) (l15 : K.lookup f15 = some ⟨oc15, od15, .func (PySem.W.fnOf "_law_kind" "_law_kind" (defArgs s_l_kind) (defBody s_l_kind) (defScope s_l_kind) .none kV15 dc15 pm15 an15 cd15 ct15), sl15⟩) (c15 : PySem.W.codeIn K cd15 "_law_kind" = true) (k15 : PySem.W.keepIn K (.ref f15) = true)
    {f16 : Addr} {od16 an16 : Option Addr} {sl16 : Array (Option Value)} {oc16 kV16 dc16 pm16 cd16 ct16 : Value}
    (a16 : PySem.W.nsIn K mainGlobals "_law_colour" = some (some (.ref f16))) (l16 : K.lookup f16 = some ⟨oc16, od16, .func (PySem.W.fnOf "_law_colour" "_law_colour" (defArgs s_l_colour) (defBody s_l_colour) (defScope s_l_colour) .none kV16 dc16 pm16 an16 cd16 ct16), sl16⟩) (c16 : PySem.W.codeIn K cd16 "_law_colour" = true) (k16 : PySem.W.keepIn K (.ref f16) = true)
    {f17 : Addr} {od17 an17 : Option Addr} {sl17 : Array (Option Value)} {oc17 kV17 dc17 pm17 cd17 ct17 : Value}
    (a17 : PySem.W.nsIn K mainGlobals "_law_rows" = some (some (.ref f17))) (l17 : K.lookup f17 = some ⟨oc17, od17, .func (PySem.W.fnOf "_law_rows" "_law_rows" (defArgs s_l_rows) (defBody s_l_rows) (defScope s_l_rows) .none kV17 dc17 pm17 an17 cd17 ct17), sl17⟩) (c17 : PySem.W.codeIn K cd17 "_law_rows" = true) (k17 : PySem.W.keepIn K (.ref f17) = true)
    {f18 : Addr} {od18 an18 : Option Addr} {sl18 : Array (Option Value)} {oc18 kV18 dc18 pm18 cd18 ct18 : Value}
    (a18 : PySem.W.nsIn K mainGlobals "_law_part" = some (some (.ref f18))) (l18 : K.lookup f18 = some ⟨oc18, od18, .func (PySem.W.fnOf "_law_part" "_law_part" (defArgs s_l_part) (defBody s_l_part) (defScope s_l_part) .none kV18 dc18 pm18 an18 cd18 ct18), sl18⟩) (c18 : PySem.W.codeIn K cd18 "_law_part" = true) (k18 : PySem.W.keepIn K (.ref f18) = true)
    {f19 : Addr} {od19 an19 : Option Addr} {sl19 : Array (Option Value)} {oc19 kV19 dc19 pm19 cd19 ct19 : Value}
    (a19 : PySem.W.nsIn K mainGlobals "_law_plus" = some (some (.ref f19))) (l19 : K.lookup f19 = some ⟨oc19, od19, .func (PySem.W.fnOf "_law_plus" "_law_plus" (defArgs s_l_plus) (defBody s_l_plus) (defScope s_l_plus) .none kV19 dc19 pm19 an19 cd19 ct19), sl19⟩) (c19 : PySem.W.codeIn K cd19 "_law_plus" = true) (k19 : PySem.W.keepIn K (.ref f19) = true)
    {f20 : Addr} {od20 an20 : Option Addr} {sl20 : Array (Option Value)} {oc20 kV20 dc20 pm20 cd20 ct20 : Value}
    (a20 : PySem.W.nsIn K mainGlobals "_law_less" = some (some (.ref f20))) (l20 : K.lookup f20 = some ⟨oc20, od20, .func (PySem.W.fnOf "_law_less" "_law_less" (defArgs s_l_less) (defBody s_l_less) (defScope s_l_less) .none kV20 dc20 pm20 an20 cd20 ct20), sl20⟩) (c20 : PySem.W.codeIn K cd20 "_law_less" = true) (k20 : PySem.W.keepIn K (.ref f20) = true)
    {f21 : Addr} {od21 an21 : Option Addr} {sl21 : Array (Option Value)} {oc21 kV21 dc21 pm21 cd21 ct21 : Value}
    (a21 : PySem.W.nsIn K mainGlobals "_law_same" = some (some (.ref f21))) (l21 : K.lookup f21 = some ⟨oc21, od21, .func (PySem.W.fnOf "_law_same" "_law_same" (defArgs s_l_same) (defBody s_l_same) (defScope s_l_same) .none kV21 dc21 pm21 an21 cd21 ct21), sl21⟩) (c21 : PySem.W.codeIn K cd21 "_law_same" = true) (k21 : PySem.W.keepIn K (.ref f21) = true)
    {f22 : Addr} {od22 an22 : Option Addr} {sl22 : Array (Option Value)} {oc22 kV22 dc22 pm22 cd22 ct22 : Value}
    (a22 : PySem.W.nsIn K mainGlobals "_law_some_rows" = some (some (.ref f22))) (l22 : K.lookup f22 = some ⟨oc22, od22, .func (PySem.W.fnOf "_law_some_rows" "_law_some_rows" (defArgs s_l_some_rows) (defBody s_l_some_rows) (defScope s_l_some_rows) .none kV22 dc22 pm22 an22 cd22 ct22), sl22⟩) (c22 : PySem.W.codeIn K cd22 "_law_some_rows" = true) (k22 : PySem.W.keepIn K (.ref f22) = true)
    {f23 : Addr} {od23 an23 : Option Addr} {sl23 : Array (Option Value)} {oc23 kV23 dc23 pm23 cd23 ct23 : Value}
    (a23 : PySem.W.nsIn K mainGlobals "_law_middles" = some (some (.ref f23))) (l23 : K.lookup f23 = some ⟨oc23, od23, .func (PySem.W.fnOf "_law_middles" "_law_middles" (defArgs s_l_middles) (defBody s_l_middles) (defScope s_l_middles) .none kV23 dc23 pm23 an23 cd23 ct23), sl23⟩) (c23 : PySem.W.codeIn K cd23 "_law_middles" = true) (k23 : PySem.W.keepIn K (.ref f23) = true)
    {f24 : Addr} {od24 an24 : Option Addr} {sl24 : Array (Option Value)} {oc24 kV24 dc24 pm24 cd24 ct24 : Value}
    (a24 : PySem.W.nsIn K mainGlobals "_law_far" = some (some (.ref f24))) (l24 : K.lookup f24 = some ⟨oc24, od24, .func (PySem.W.fnOf "_law_far" "_law_far" (defArgs s_l_far) (defBody s_l_far) (defScope s_l_far) .none kV24 dc24 pm24 an24 cd24 ct24), sl24⟩) (c24 : PySem.W.codeIn K cd24 "_law_far" = true) (k24 : PySem.W.keepIn K (.ref f24) = true)
    {f25 : Addr} {od25 an25 : Option Addr} {sl25 : Array (Option Value)} {oc25 kV25 dc25 pm25 cd25 ct25 : Value}
    (a25 : PySem.W.nsIn K mainGlobals "_law_nearest_middle" = some (some (.ref f25))) (l25 : K.lookup f25 = some ⟨oc25, od25, .func (PySem.W.fnOf "_law_nearest_middle" "_law_nearest_middle" (defArgs s_l_nearest_middle) (defBody s_l_nearest_middle) (defScope s_l_nearest_middle) .none kV25 dc25 pm25 an25 cd25 ct25), sl25⟩) (c25 : PySem.W.codeIn K cd25 "_law_nearest_middle" = true) (k25 : PySem.W.keepIn K (.ref f25) = true)
    {f26 : Addr} {od26 an26 : Option Addr} {sl26 : Array (Option Value)} {oc26 kV26 dc26 pm26 cd26 ct26 : Value}
    (a26 : PySem.W.nsIn K mainGlobals "_law_lost" = some (some (.ref f26))) (l26 : K.lookup f26 = some ⟨oc26, od26, .func (PySem.W.fnOf "_law_lost" "_law_lost" (defArgs s_l_lost) (defBody s_l_lost) (defScope s_l_lost) .none kV26 dc26 pm26 an26 cd26 ct26), sl26⟩) (c26 : PySem.W.codeIn K cd26 "_law_lost" = true) (k26 : PySem.W.keepIn K (.ref f26) = true)
    {f27 : Addr} {od27 an27 : Option Addr} {sl27 : Array (Option Value)} {oc27 kV27 dc27 pm27 cd27 ct27 : Value}
    (a27 : PySem.W.nsIn K mainGlobals "_law_hairs" = some (some (.ref f27))) (l27 : K.lookup f27 = some ⟨oc27, od27, .func (PySem.W.fnOf "_law_hairs" "_law_hairs" (defArgs s_l_hairs) (defBody s_l_hairs) (defScope s_l_hairs) .none kV27 dc27 pm27 an27 cd27 ct27), sl27⟩) (c27 : PySem.W.codeIn K cd27 "_law_hairs" = true) (k27 : PySem.W.keepIn K (.ref f27) = true)
    {f28 : Addr} {od28 an28 : Option Addr} {sl28 : Array (Option Value)} {oc28 kV28 dc28 pm28 cd28 ct28 : Value}
    (a28 : PySem.W.nsIn K mainGlobals "law" = some (some (.ref f28))) (l28 : K.lookup f28 = some ⟨oc28, od28, .func (PySem.W.fnOf "law" "law" (defArgs s_law) (defBody s_law) (defScope s_law) .none kV28 dc28 pm28 an28 cd28 ct28), sl28⟩) (c28 : PySem.W.codeIn K cd28 "law" = true) (k28 : PySem.W.keepIn K (.ref f28) = true)
    (z_abs : PySem.W.nsIn K mainGlobals "abs" = some none)
    (z_all : PySem.W.nsIn K mainGlobals "all" = some none)
    (z_bool : PySem.W.nsIn K mainGlobals "bool" = some none)
    (z_enumerate : PySem.W.nsIn K mainGlobals "enumerate" = some none)
    (z_int : PySem.W.nsIn K mainGlobals "int" = some none)
    (z_isinstance : PySem.W.nsIn K mainGlobals "isinstance" = some none)
    (z_len : PySem.W.nsIn K mainGlobals "len" = some none)
    (z_list : PySem.W.nsIn K mainGlobals "list" = some none)
    (z_min : PySem.W.nsIn K mainGlobals "min" = some none)
    (z_range : PySem.W.nsIn K mainGlobals "range" = some none)
    (z_sorted : PySem.W.nsIn K mainGlobals "sorted" = some none)
    (z_str : PySem.W.nsIn K mainGlobals "str" = some none)
    (z_tuple : PySem.W.nsIn K mainGlobals "tuple" = some none)
    (z_zip : PySem.W.nsIn K mainGlobals "zip" = some none)
    : ∃ fd : FuncData, (∀ (s : Shared) (v : Value), BindsTo s fd ⟨[v], []⟩ [("_law_script", v)]) ∧ ∀ base : Heap, K.In base → base.Ns mainGlobals mg → FnG l.prog w K mg base 8 fa fd ["_law_script"] (spLaw K) := by
  have e := hfa.symm.trans (PySem.W.mg_of X G a28)
  cases e
  exact ⟨_, fun s v => .of_eq rfl, fun base _ _ => ok_law (k := 0) {
      f_common_measure := f0, d_common_measure := _, F_common_measure := fun_mk (st := s_common_measure) l0 c0 k0, b_common_measure := (fun_mk (st := s_common_measure) l0 c0 k0).binds (ps := ["one", "other"]) fun _ _ _ _ _ _ us hl => match us, hl with | [_, _], _ => rfl, g_common_measure := PySem.W.mg_of X G a0,
      f_part := f1, d_part := _, F_part := fun_mk (st := s_part) l1 c1 k1, b_part := (fun_mk (st := s_part) l1 c1 k1).binds (ps := ["top", "bottom"]) fun _ _ _ _ _ _ us hl => match us, hl with | [_, _], _ => rfl, g_part := PySem.W.mg_of X G a1,
      f_plus := f2, d_plus := _, F_plus := fun_mk (st := s_plus) l2 c2 k2, b_plus := (fun_mk (st := s_plus) l2 c2 k2).binds (ps := ["one", "other"]) fun _ _ _ _ _ _ us hl => match us, hl with | [_, _], _ => rfl, g_plus := PySem.W.mg_of X G a2,
      f_sum_of := f3, d_sum_of := _, F_sum_of := fun_mk (st := s_sum_of) l3 c3 k3, b_sum_of := (fun_mk (st := s_sum_of) l3 c3 k3).binds (ps := ["fractions"]) fun _ _ _ _ _ _ us hl => match us, hl with | [_], _ => rfl, g_sum_of := PySem.W.mg_of X G a3,
      f_times := f4, d_times := _, F_times := fun_mk (st := s_times) l4 c4 k4, b_times := (fun_mk (st := s_times) l4 c4 k4).binds (ps := ["one", "other"]) fun _ _ _ _ _ _ us hl => match us, hl with | [_, _], _ => rfl, g_times := PySem.W.mg_of X G a4,
      f_before := f5, d_before := _, F_before := fun_mk (st := s_before) l5 c5 k5, b_before := (fun_mk (st := s_before) l5 c5 k5).binds (ps := ["one", "other"]) fun _ _ _ _ _ _ us hl => match us, hl with | [_, _], _ => rfl, g_before := PySem.W.mg_of X G a5,
      f_far_of := f6, d_far_of := _, F_far_of := fun_mk (st := s_far_of) l6 c6 k6, b_far_of := (fun_mk (st := s_far_of) l6 c6 k6).binds (ps := ["colour", "middle"]) fun _ _ _ _ _ _ us hl => match us, hl with | [_, _], _ => rfl, g_far_of := PySem.W.mg_of X G a6,
      f_far_sum := f7, d_far_sum := _, F_far_sum := fun_mk (st := s_far_sum) l7 c7 k7, b_far_sum := (fun_mk (st := s_far_sum) l7 c7 k7).binds (ps := ["rows", "middle"]) fun _ _ _ _ _ _ us hl => match us, hl with | [_, _], _ => rfl, g_far_sum := PySem.W.mg_of X G a7,
      f_nearest_middle := f8, d_nearest_middle := _, F_nearest_middle := fun_mk (st := s_nearest_middle) l8 c8 k8, b_nearest_middle := (fun_mk (st := s_nearest_middle) l8 c8 k8).binds (ps := ["middles", "colour"]) fun _ _ _ _ _ _ us hl => match us, hl with | [_, _], _ => rfl, g_nearest_middle := PySem.W.mg_of X G a8,
      f_shared_out := f9, d_shared_out := _, F_shared_out := fun_mk (st := s_shared_out) l9 c9 k9, b_shared_out := (fun_mk (st := s_shared_out) l9 c9 k9).binds (ps := ["rows", "middles"]) fun _ _ _ _ _ _ us hl => match us, hl with | [_, _], _ => rfl, g_shared_out := PySem.W.mg_of X G a9,
      f_lost_so := f10, d_lost_so := _, F_lost_so := fun_mk (st := s_lost_so) l10 c10 k10, b_lost_so := (fun_mk (st := s_lost_so) l10 c10 k10).binds (ps := ["shared", "middles"]) fun _ _ _ _ _ _ us hl => match us, hl with | [_, _], _ => rfl, g_lost_so := PySem.W.mg_of X G a10,
      f_lost_by := f11, d_lost_by := _, F_lost_by := fun_mk (st := s_lost_by) l11 c11 k11, b_lost_by := (fun_mk (st := s_lost_by) l11 c11 k11).binds (ps := ["rows", "middles"]) fun _ _ _ _ _ _ us hl => match us, hl with | [_, _], _ => rfl, g_lost_by := PySem.W.mg_of X G a11,
      f_l_mix := f12, d_l_mix := _, F_l_mix := fun_mk (st := s_l_mix) l12 c12 k12, b_l_mix := (fun_mk (st := s_l_mix) l12 c12 k12).binds (ps := ["_law_cell", "_law_k"]) fun _ _ _ _ _ _ us hl => match us, hl with | [_, _], _ => rfl, g_l_mix := PySem.W.mg_of X G a12,
      f_l_left := f13, d_l_left := _, F_l_left := fun_mk (st := s_l_left) l13 c13 k13, b_l_left := (fun_mk (st := s_l_left) l13 c13 k13).binds (ps := ["_law_script", "_law_k"]) fun _ _ _ _ _ _ us hl => match us, hl with | [_, _], _ => rfl, g_l_left := PySem.W.mg_of X G a13,
      f_l_pick := f14, d_l_pick := _, F_l_pick := fun_mk (st := s_l_pick) l14 c14 k14, b_l_pick := (fun_mk (st := s_l_pick) l14 c14 k14).binds (ps := ["_law_left_here", "_law_many"]) fun _ _ _ _ _ _ us hl => match us, hl with | [_, _], _ => rfl, g_l_pick := PySem.W.mg_of X G a14,
      f_l_kind := f15, d_l_kind := _, F_l_kind := fun_mk (st := s_l_kind) l15 c15 k15, b_l_kind := (fun_mk (st := s_l_kind) l15 c15 k15).binds (ps := ["_law_left_here"]) fun _ _ _ _ _ _ us hl => match us, hl with | [_], _ => rfl, g_l_kind := PySem.W.mg_of X G a15,
      f_l_colour := f16, d_l_colour := _, F_l_colour := fun_mk (st := s_l_colour) l16 c16 k16, b_l_colour := (fun_mk (st := s_l_colour) l16 c16 k16).binds (ps := ["_law_left_here", "_law_kind_here"]) fun _ _ _ _ _ _ us hl => match us, hl with | [_, _], _ => rfl, g_l_colour := PySem.W.mg_of X G a16,
      f_l_rows := f17, d_l_rows := _, F_l_rows := fun_mk (st := s_l_rows) l17 c17 k17, b_l_rows := (fun_mk (st := s_l_rows) l17 c17 k17).binds (ps := ["_law_left_here", "_law_kind_here", "_law_most"]) fun _ _ _ _ _ _ us hl => match us, hl with | [_, _, _], _ => rfl, g_l_rows := PySem.W.mg_of X G a17,
      f_l_part := f18, d_l_part := _, F_l_part := fun_mk (st := s_l_part) l18 c18 k18, b_l_part := (fun_mk (st := s_l_part) l18 c18 k18).binds (ps := ["_law_top", "_law_bottom"]) fun _ _ _ _ _ _ us hl => match us, hl with | [_, _], _ => rfl, g_l_part := PySem.W.mg_of X G a18,
      f_l_plus := f19, d_l_plus := _, F_l_plus := fun_mk (st := s_l_plus) l19 c19 k19, b_l_plus := (fun_mk (st := s_l_plus) l19 c19 k19).binds (ps := ["_law_one", "_law_other"]) fun _ _ _ _ _ _ us hl => match us, hl with | [_, _], _ => rfl, g_l_plus := PySem.W.mg_of X G a19,
      f_l_less := f20, d_l_less := _, F_l_less := fun_mk (st := s_l_less) l20 c20 k20, b_l_less := (fun_mk (st := s_l_less) l20 c20 k20).binds (ps := ["_law_one", "_law_other"]) fun _ _ _ _ _ _ us hl => match us, hl with | [_, _], _ => rfl, g_l_less := PySem.W.mg_of X G a20,
      f_l_same := f21, d_l_same := _, F_l_same := fun_mk (st := s_l_same) l21 c21 k21, b_l_same := (fun_mk (st := s_l_same) l21 c21 k21).binds (ps := ["_law_found", "_law_due"]) fun _ _ _ _ _ _ us hl => match us, hl with | [_, _], _ => rfl, g_l_same := PySem.W.mg_of X G a21,
      f_l_some_rows := f22, d_l_some_rows := _, F_l_some_rows := fun_mk (st := s_l_some_rows) l22 c22 k22, b_l_some_rows := (fun_mk (st := s_l_some_rows) l22 c22 k22).binds (ps := ["_law_left_here"]) fun _ _ _ _ _ _ us hl => match us, hl with | [_], _ => rfl, g_l_some_rows := PySem.W.mg_of X G a22,
      f_l_middles := f23, d_l_middles := _, F_l_middles := fun_mk (st := s_l_middles) l23 c23 k23, b_l_middles := (fun_mk (st := s_l_middles) l23 c23 k23).binds (ps := ["_law_left_here", "_law_kind_here"]) fun _ _ _ _ _ _ us hl => match us, hl with | [_, _], _ => rfl, g_l_middles := PySem.W.mg_of X G a23,
      f_l_far := f24, d_l_far := _, F_l_far := fun_mk (st := s_l_far) l24 c24 k24, b_l_far := (fun_mk (st := s_l_far) l24 c24 k24).binds (ps := ["_law_colour_here", "_law_middle"]) fun _ _ _ _ _ _ us hl => match us, hl with | [_, _], _ => rfl, g_l_far := PySem.W.mg_of X G a24,
      f_l_nearest_middle := f25, d_l_nearest_middle := _, F_l_nearest_middle := fun_mk (st := s_l_nearest_middle) l25 c25 k25, b_l_nearest_middle := (fun_mk (st := s_l_nearest_middle) l25 c25 k25).binds (ps := ["_law_middles_here", "_law_colour_here"]) fun _ _ _ _ _ _ us hl => match us, hl with | [_, _], _ => rfl, g_l_nearest_middle := PySem.W.mg_of X G a25,
      f_l_lost := f26, d_l_lost := _, F_l_lost := fun_mk (st := s_l_lost) l26 c26 k26, b_l_lost := (fun_mk (st := s_l_lost) l26 c26 k26).binds (ps := ["_law_rows_here", "_law_middles_here"]) fun _ _ _ _ _ _ us hl => match us, hl with | [_, _], _ => rfl, g_l_lost := PySem.W.mg_of X G a26,
      f_l_hairs := f27, d_l_hairs := _, F_l_hairs := fun_mk (st := s_l_hairs) l27 c27 k27, b_l_hairs := (fun_mk (st := s_l_hairs) l27 c27 k27).binds (ps := ["_law_left_here", "_law_rows_here", "_law_middles_here"]) fun _ _ _ _ _ _ us hl => match us, hl with | [_, _, _], _ => rfl, g_l_hairs := PySem.W.mg_of X G a27,
      z_abs := PySem.W.mg_none_of X G z_abs,
      z_all := PySem.W.mg_none_of X G z_all,
      z_bool := PySem.W.mg_none_of X G z_bool,
      z_enumerate := PySem.W.mg_none_of X G z_enumerate,
      z_int := PySem.W.mg_none_of X G z_int,
      z_isinstance := PySem.W.mg_none_of X G z_isinstance,
      z_len := PySem.W.mg_none_of X G z_len,
      z_list := PySem.W.mg_none_of X G z_list,
      z_min := PySem.W.mg_none_of X G z_min,
      z_range := PySem.W.mg_none_of X G z_range,
      z_sorted := PySem.W.mg_none_of X G z_sorted,
      z_str := PySem.W.mg_none_of X G z_str,
      z_tuple := PySem.W.mg_none_of X G z_tuple,
      z_zip := PySem.W.mg_none_of X G z_zip } (fun_mk (st := s_law) l28 c28 k28) (by decide)⟩
end Z
open PySem PySem.W PyProof.Rows
set_option maxHeartbeats 0 in
theorem PySem.Challenge.cw_fewcolours_k42_lost_by_middles_holds : PySem.Challenge.rw_fewcolours_k42_lost_by_middles.Holds := by
  w_on; o_law; k_head; (case hw => w_witness2)
  k_fill
  refine Z.walk_of2 (l := PySem.Challenge.rw_fewcolours_k42_lost_by_middles) (n := 63) (k := 8) (x := "_law_script") (sp := fun w => Z.spLaw _) rfl (by decide) rfl ⟨rfl, by decide, by decide⟩ (fun w h Y => PySem.W.kIn_of Y) ?F (fun _ _ a ns hl _ hS => ⟨a, ns, rfl, hS, hl, fun _ => rfl⟩)
  case F =>
    intro w mg fa h KX G hmg
    refine' Z.all_mk KX G hmg ?a0 ?l0 ?c0 ?k0 ?a1 ?l1 ?c1 ?k1 ?a2 ?l2 ?c2 ?k2 ?a3 ?l3 ?c3 ?k3 ?a4 ?l4 ?c4 ?k4 ?a5 ?l5 ?c5 ?k5 ?a6 ?l6 ?c6 ?k6 ?a7 ?l7 ?c7 ?k7 ?a8 ?l8 ?c8 ?k8 ?a9 ?l9 ?c9 ?k9 ?a10 ?l10 ?c10 ?k10 ?a11 ?l11 ?c11 ?k11 ?a12 ?l12 ?c12 ?k12 ?a13 ?l13 ?c13 ?k13 ?a14 ?l14 ?c14 ?k14 ?a15 ?l15 ?c15 ?k15 ?a16 ?l16 ?c16 ?k16 ?a17 ?l17 ?c17 ?k17 ?a18 ?l18 ?c18 ?k18 ?a19 ?l19 ?c19 ?k19 ?a20 ?l20 ?c20 ?k20 ?a21 ?l21 ?c21 ?k21 ?a22 ?l22 ?c22 ?k22 ?a23 ?l23 ?c23 ?k23 ?a24 ?l24 ?c24 ?k24 ?a25 ?l25 ?c25 ?k25 ?a26 ?l26 ?c26 ?k26 ?a27 ?l27 ?c27 ?k27 ?a28 ?l28 ?c28 ?k28 ?z_abs ?z_all ?z_bool ?z_enumerate ?z_int ?z_isinstance ?z_len ?z_list ?z_min ?z_range ?z_sorted ?z_str ?z_tuple ?z_zip
    case a0 => k_is
    case l0 => k_is
    case c0 => k_is
    case k0 => k_is
    case a1 => k_is
    case l1 => k_is
    case c1 => k_is
    case k1 => k_is
    case a2 => k_is
    case l2 => k_is
    case c2 => k_is
    case k2 => k_is
    case a3 => k_is
    case l3 => k_is
    case c3 => k_is
    case k3 => k_is
    case a4 => k_is
    case l4 => k_is
    case c4 => k_is
    case k4 => k_is
    case a5 => k_is
    case l5 => k_is
    case c5 => k_is
    case k5 => k_is
    case a6 => k_is
    case l6 => k_is
    case c6 => k_is
    case k6 => k_is
    case a7 => k_is
    case l7 => k_is
    case c7 => k_is
    case k7 => k_is
    case a8 => k_is
    case l8 => k_is
    case c8 => k_is
    case k8 => k_is
    case a9 => k_is
    case l9 => k_is
    case c9 => k_is
    case k9 => k_is
    case a10 => k_is
    case l10 => k_is
    case c10 => k_is
    case k10 => k_is
    case a11 => k_is
    case l11 => k_is
    case c11 => k_is
    case k11 => k_is
    case a12 => k_is
    case l12 => k_is
    case c12 => k_is
    case k12 => k_is
    case a13 => k_is
    case l13 => k_is
    case c13 => k_is
    case k13 => k_is
    case a14 => k_is
    case l14 => k_is
    case c14 => k_is
    case k14 => k_is
    case a15 => k_is
    case l15 => k_is
    case c15 => k_is
    case k15 => k_is
    case a16 => k_is
    case l16 => k_is
    case c16 => k_is
    case k16 => k_is
    case a17 => k_is
    case l17 => k_is
    case c17 => k_is
    case k17 => k_is
    case a18 => k_is
    case l18 => k_is
    case c18 => k_is
    case k18 => k_is
    case a19 => k_is
    case l19 => k_is
    case c19 => k_is
    case k19 => k_is
    case a20 => k_is
    case l20 => k_is
    case c20 => k_is
    case k20 => k_is
    case a21 => k_is
    case l21 => k_is
    case c21 => k_is
    case k21 => k_is
    case a22 => k_is
    case l22 => k_is
    case c22 => k_is
    case k22 => k_is
    case a23 => k_is
    case l23 => k_is
    case c23 => k_is
    case k23 => k_is
    case a24 => k_is
    case l24 => k_is
    case c24 => k_is
    case k24 => k_is
    case a25 => k_is
    case l25 => k_is
    case c25 => k_is
    case k25 => k_is
    case a26 => k_is
    case l26 => k_is
    case c26 => k_is
    case k26 => k_is
    case a27 => k_is
    case l27 => k_is
    case c27 => k_is
    case k27 => k_is
    case a28 => k_is
    case l28 => k_is
    case c28 => k_is
    case k28 => k_is
    case z_abs => k_is
    case z_all => k_is
    case z_bool => k_is
    case z_enumerate => k_is
    case z_int => k_is
    case z_isinstance => k_is
    case z_len => k_is
    case z_list => k_is
    case z_min => k_is
    case z_range => k_is
    case z_sorted => k_is
    case z_str => k_is
    case z_tuple => k_is
    case z_zip => k_is

