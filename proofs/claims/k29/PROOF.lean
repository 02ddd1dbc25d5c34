import PyProof.Rows.All
import Wide.All
import OpenK.AllK
import Wide.FinOn
import HandS.ForMost
import HandS.Zip
import HandS.IsInst
import HandS.TupAny
import HandS.SortRule
import HandS.Style
import HandS.Walk
import HandS.Evl
import KE.DataMinMax
import HandS.TryOnly
import PySem.Challenge.RW_fewcolours_k29_numbers_by
set_option Elab.async false
set_option linter.all false
set_option maxRecDepth 100000
namespace Z
open PySem PySem.Spec PyProof.Rows L2
/-! ### heaps but for some addresses -/
def Dom (H H' : Hp) : Prop := ∀ a, H a ≠ none → H' a ≠ none
structure Go (B : List Addr) (H H' : Hp) : Prop where
  k : ∀ a o, a ∉ B → H a = some o → H' a = some o
  d : Dom H H'
def Bk (B : List Addr) (H : Hp) : Prop := ∀ a ∈ B, H a ≠ none
section
variable {B C : List Addr} {H H' H1 H2 : Hp} {p L : Addr} {o : HO}
theorem dom_new : Dom H (upd H p o) := fun a h => by
  by_cases e : a = p
  · subst e
    rw [upd_same]
    exact fun z => nomatch z
  · rw [upd_ne e]
    exact h
theorem dom_mut (d : Dom H H') : Dom H (upd H' p o) := fun a h => dom_new a (d a h)
theorem Go.refl : Go B H H := ⟨fun _ _ _ h => h, fun _ h => h⟩
theorem Go.trans (a : Go B H H1) (b : Go B H1 H2) : Go B H H2 := ⟨fun c o n h => b.k c o n (a.k c o n h), fun c h => b.d c (a.d c h)⟩
theorem same_dom (s : Same H H') : Dom H H' := fun a h => by
  cases q : H a with
  | none => exact absurd q h
  | some o => rw [s a o q]; exact fun z => nomatch z
theorem Go.of (s : Same H H') : Go B H H' := ⟨fun a o _ h => s a o h, same_dom s⟩
theorem Go.new (h : H p = none) : Go B H (upd H p o) := ⟨fun a u _ e => by
  rw [upd_ne (ne_of_none e h)]
  exact e, dom_new⟩
theorem Go.mut (g : Go B H H') (h : H p = none) : Go B H (upd H' p o) := ⟨fun a u n e => by
  rw [upd_ne (ne_of_none e h)]
  exact g.k a u n e, dom_mut g.d⟩
theorem Go.at (g : Go B H H') (h : p ∈ B) : Go B H (upd H' p o) := ⟨fun a u n e => by
  rw [upd_ne (show a ≠ p from fun z => n (by rw [z]; exact h))]
  exact g.k a u n e, dom_mut g.d⟩
theorem Go.w (g : Go C H H') (s : ∀ a ∈ C, a ∈ B) : Go B H H' := ⟨fun a o n h => g.k a o (fun q => n (s a q)) h, g.d⟩
theorem Go.w1 (g : Go [L] H H') (s : L ∈ B) : Go B H H' := g.w fun a h => by rw [List.mem_singleton.mp h]; exact s
theorem Go.free (g : Go B H H') (h : H' p = none) : H p = none := by
  cases q : H p with
  | none => rfl
  | some o => exact absurd h (g.d p (by rw [q]; exact fun z => nomatch z))
theorem Bk.go (b : Bk B H) (g : Go C H H') : Bk B H' := fun a h => g.d a (b a h)
theorem Bk.ne (b : Bk B H) (h : H p = none) : p ∉ B := fun q => b p q h
theorem Bk.cons (b : Bk B H) (h : H p = some o) : Bk (p :: B) H := fun a q => by
  rcases List.mem_cons.mp q with e | e
  · subst e
    rw [h]
    exact fun z => nomatch z
  · exact b a e
theorem Bk.up (b : Bk B H) : Bk B (upd H p o) := fun a h => dom_new a (b a h)
theorem sm_new (h : H p = none) : Same H (upd H p o) := fun b x e => by
  rw [upd_ne (ne_of_none e h)]
  exact e
theorem sm_mut (s : Same H H') (h : H p = none) : Same H (upd H' p o) := fun b x e => by
  rw [upd_ne (ne_of_none e h)]
  exact s b x e
/-- what was new behind H, and is in B, may change -/
theorem Go.sm (g : Go B H1 H2) (s : Same H H1) (n : ∀ a ∈ B, H a = none) : Same H H2 := fun a o h => g.k a o (fun q => by rw [n a q] at h; cases h) (s a o h)
theorem Go.cons (g : Go (p :: B) H1 H2) (s : Go B H H1) (h : H p = none) : Go B H H2 := ⟨fun a o n e => g.k a o (fun q => by
  rcases List.mem_cons.mp q with z | z
  · rw [z, h] at e
    cases e
  · exact n z) (s.k a o n e), fun a e => g.d a (s.d a e)⟩
end
/-! ### the list that is drawn from -/
def Lf (L : Addr) (H : Hp) (n : Nat) : Prop := ∃ a b c : Int, H L = some (.lst [.int a, .int b, .int c]) ∧ 0 ≤ a ∧ 0 ≤ c ∧ c ≤ (n : Int)
section
variable {L p : Addr} {H H' : Hp} {n m : Nat} {o : HO} {B : List Addr}
theorem Lf.mono (h : Lf L H n) (l : n ≤ m) : Lf L H m := by
  obtain ⟨a, b, c, e, h1, h2, h3⟩ := h
  exact ⟨a, b, c, e, h1, h2, by omega⟩
theorem Lf.same (h : Lf L H n) (s : Same H H') : Lf L H' n := by
  obtain ⟨a, b, c, e, h1, h2, h3⟩ := h
  exact ⟨a, b, c, s _ _ e, h1, h2, h3⟩
theorem Lf.go (h : Lf L H n) (g : Go B H H') (i : L ∉ B) : Lf L H' n := by
  obtain ⟨a, b, c, e, h1, h2, h3⟩ := h
  exact ⟨a, b, c, g.k _ _ i e, h1, h2, h3⟩
theorem Lf.ne (h : Lf L H n) (e : H p = none) : p ≠ L := fun q => by
  obtain ⟨a, b, c, e', _⟩ := h
  rw [q, e'] at e
  cases e
theorem Lf.up (h : Lf L H n) (e : p ≠ L) : Lf L (upd H p o) n := by
  obtain ⟨a, b, c, e', h1, h2, h3⟩ := h
  refine ⟨a, b, c, ?_, h1, h2, h3⟩
  rw [upd_ne (Ne.symm e)]
  exact e'
theorem Lf.new (h : Lf L H n) (e : H p = none) : Lf L (upd H p o) n := h.up (h.ne e)
theorem Lf.bk (h : Lf L H n) : Bk [L] H := fun a q => by
  obtain ⟨_, _, _, e, _⟩ := h
  rw [List.mem_singleton.mp q, e]
  exact fun z => nomatch z
end
/-! ### data apart from some addresses -/
mutual
inductive Dt (B : List Addr) (H : Hp) : V → PyData → Prop
  | non : Dt B H .non .none
  | bl (b : Bool) : Dt B H (.bl b) (.bool b)
  | int (i : Int) : Dt B H (.int i) (.int i)
  | str (x : Str) : Dt B H (.str x) (.str x)
  | lst {a : Addr} {xs : List V} {ds : List PyData} : a ∉ B → H a = some (.lst xs) → DtA B H xs ds → Dt B H (.ref a) (.list ds)
  | tup {a : Addr} {xs : List V} {ds : List PyData} : a ∉ B → H a = some (.tup xs) → DtA B H xs ds → Dt B H (.ref a) (.tuple ds)
inductive DtA (B : List Addr) (H : Hp) : List V → List PyData → Prop
  | nil : DtA B H [] []
  | cons {v : V} {vs : List V} {d : PyData} {ds : List PyData} : Dt B H v d → DtA B H vs ds → DtA B H (v :: vs) (d :: ds)
end
section
variable {B C : List Addr} {H H' : Hp} {p L : Addr}
mutual
/-- the general way from one to another -/
theorem Dt.to (f : ∀ a o, a ∉ B → H a = some o → a ∉ C ∧ H' a = some o) : ∀ (d : PyData) (v : V), Dt B H v d → Dt C H' v d
  | .none, _, h => by cases h; exact .non
  | .bool b, _, h => by cases h; exact .bl b
  | .int i, _, h => by cases h; exact .int i
  | .str x, _, h => by cases h; exact .str x
  | .list ds, _, h => by
    cases h with
    | lst n hs ha => exact .lst (f _ _ n hs).1 (f _ _ n hs).2 (DtA.to f ds _ ha)
  | .tuple ds, _, h => by
    cases h with
    | tup n hs ha => exact .tup (f _ _ n hs).1 (f _ _ n hs).2 (DtA.to f ds _ ha)
  | .dict _, _, h => by cases h
theorem DtA.to (f : ∀ a o, a ∉ B → H a = some o → a ∉ C ∧ H' a = some o) : ∀ (ds : List PyData) (vs : List V), DtA B H vs ds → DtA C H' vs ds
  | [], _, h => by cases h; exact .nil
  | d :: ds, _, h => by
    cases h with
    | cons h1 h2 => exact .cons (Dt.to f d _ h1) (DtA.to f ds _ h2)
end
mutual
theorem Dt.dp {K : PySem.W.Frag} : ∀ (d : PyData) (v : V), Dt B H v d → Dp K H v d
  | .none, _, h => by cases h; exact .non
  | .bool b, _, h => by cases h; exact .bl b
  | .int i, _, h => by cases h; exact .int i
  | .str x, _, h => by cases h; exact .str x
  | .list ds, _, h => by
    cases h with
    | lst n hs ha => exact .lst (SqL.of hs) (DtA.dp ds _ ha)
  | .tuple ds, _, h => by
    cases h with
    | tup n hs ha => exact .tup (SqT.of hs) (DtA.dp ds _ ha)
  | .dict _, _, h => by cases h
theorem DtA.dp {K : PySem.W.Frag} : ∀ (ds : List PyData) (vs : List V), DtA B H vs ds → DpAll K H vs ds
  | [], _, h => by cases h; exact .nil
  | d :: ds, _, h => by
    cases h with
    | cons h1 h2 => exact .cons (Dt.dp d _ h1) (DtA.dp ds _ h2)
end
variable {d : PyData} {v : V} {ds : List PyData} {vs ws : List V}
theorem Dt.g (h : Dt B H v d) (g : Go B H H') : Dt B H' v d := Dt.to (fun a o n e => ⟨n, g.k a o n e⟩) d v h
theorem DtA.g (h : DtA B H vs ds) (g : Go B H H') : DtA B H' vs ds := DtA.to (fun a o n e => ⟨n, g.k a o n e⟩) ds vs h
theorem Dt.s (h : Dt B H v d) (s : Same H H') : Dt B H' v d := h.g (Go.of s)
theorem DtA.s (h : DtA B H vs ds) (s : Same H H') : DtA B H' vs ds := h.g (Go.of s)
/-- a new address may change, too -/
theorem Dt.fr (h : Dt B H v d) (e : H p = none) : Dt (p :: B) H v d := Dt.to (fun a o n q => ⟨fun z => by
  rcases List.mem_cons.mp z with y | y
  · rw [y, e] at q
    cases q
  · exact n y, q⟩) d v h
theorem DtA.fr (h : DtA B H vs ds) (e : H p = none) : DtA (p :: B) H vs ds := DtA.to (fun a o n q => ⟨fun z => by
  rcases List.mem_cons.mp z with y | y
  · rw [y, e] at q
    cases q
  · exact n y, q⟩) ds vs h
theorem Dt.un (h : Dt (p :: B) H v d) : Dt B H v d := Dt.to (fun a o n q => ⟨fun z => n (List.mem_cons_of_mem _ z), q⟩) d v h
theorem DtA.un (h : DtA (p :: B) H vs ds) : DtA B H vs ds := DtA.to (fun a o n q => ⟨fun z => n (List.mem_cons_of_mem _ z), q⟩) ds vs h
theorem Dt.sub (h : Dt B H v d) (s : ∀ a ∈ C, a ∈ B) : Dt C H v d := Dt.to (fun a o n q => ⟨fun z => n (s a z), q⟩) d v h
theorem DtA.sub (h : DtA B H vs ds) (s : ∀ a ∈ C, a ∈ B) : DtA C H vs ds := DtA.to (fun a o n q => ⟨fun z => n (s a z), q⟩) ds vs h
theorem Dt.dP {K : PySem.W.Frag} (h : Dt B H v d) : Dp K H v d := Dt.dp d v h
theorem DtA.len {vs : List V} : ∀ {ds : List PyData}, DtA B H vs ds → vs.length = ds.length := by
  induction vs with
  | nil => intro ds h; cases h; rfl
  | cons v vs ih => intro ds h; cases h with | cons h1 h2 => rw [List.length_cons, List.length_cons, ih h2]
theorem DtA.get {vs : List V} : ∀ {ds : List PyData} {i : Nat} {d : PyData}, DtA B H vs ds → ds[i]? = some d → ∃ v, vs[i]? = some v ∧ Dt B H v d := by
  induction vs with
  | nil => intro ds i d h e; cases h; simp at e
  | cons v vs ih =>
    intro ds i d h e
    cases h with
    | cons h1 h2 =>
      cases i with
      | zero => cases e; exact ⟨v, rfl, h1⟩
      | succ i => exact ih (i := i) h2 (by simpa using e)
theorem DtA.getV {vs : List V} : ∀ {ds : List PyData} {i : Nat} {v : V}, DtA B H vs ds → vs[i]? = some v → ∃ d, ds[i]? = some d ∧ Dt B H v d := by
  induction vs with
  | nil => intro ds i d h e; simp at e
  | cons v vs ih =>
    intro ds i d h e
    cases h with
    | cons h1 h2 =>
      cases i with
      | zero => cases e; exact ⟨_, rfl, h1⟩
      | succ i => exact ih (i := i) h2 (by simpa using e)
theorem DtA.app {vs ws : List V} : ∀ {ds es : List PyData}, DtA B H vs ds → DtA B H ws es → DtA B H (vs ++ ws) (ds ++ es) := by
  induction vs with
  | nil => intro ds es h h2; cases h; exact h2
  | cons v vs ih =>
    intro ds es h h2
    cases h with
    | cons h1 h3 => exact .cons h1 (ih h3 h2)
theorem DtA.one (h : Dt B H v d) : DtA B H [v] [d] := .cons h .nil
theorem DtA.ints : ∀ ns : List Int, DtA B H (ns.map V.int) (ns.map PyData.int)
  | [] => .nil
  | n :: ns => .cons (.int n) (DtA.ints ns)
theorem DtA.intsV : ∀ {ns : List Int} {vs : List V}, DtA B H vs (ns.map PyData.int) → vs = ns.map V.int
  | [], _, h => by cases h; rfl
  | n :: ns, _, h => by
    cases h with
    | cons h1 h2 =>
      cases h1
      rw [DtA.intsV h2]
      rfl
theorem DtA.blsV : ∀ {ns : List Bool} {vs : List V}, DtA B H vs (ns.map PyData.bool) → vs = ns.map V.bl
  | [], _, h => by cases h; rfl
  | n :: ns, _, h => by
    cases h with
    | cons h1 h2 =>
      cases h1
      rw [DtA.blsV h2]
      rfl
/-- a colour; a list of ints; a palette -/
def eC (ns : List Int) : PyData := .tuple (ns.map .int)
def eI (ns : List Int) : PyData := .list (ns.map .int)
def eP (cs : List (List Int)) : PyData := .list (cs.map eC)
theorem Dt.col {v : V} {ns : List Int} (h : Dt B H v (eC ns)) : ∃ a, v = .ref a ∧ a ∉ B ∧ H a = some (.tup (ns.map V.int)) := by
  cases h with
  | tup n hs ha =>
    have e := DtA.intsV ha
    subst e
    exact ⟨_, rfl, n, hs⟩
theorem Dt.ofCol {a : Addr} {ns : List Int} (n : a ∉ B) (h : H a = some (.tup (ns.map V.int))) : Dt B H (.ref a) (eC ns) := .tup n h (DtA.ints ns)
theorem Dt.ofInts {a : Addr} {ns : List Int} (n : a ∉ B) (h : H a = some (.lst (ns.map V.int))) : Dt B H (.ref a) (eI ns) := .lst n h (DtA.ints ns)
theorem Dt.ints {v : V} {ns : List Int} (h : Dt B H v (eI ns)) : ∃ a, v = .ref a ∧ a ∉ B ∧ H a = some (.lst (ns.map V.int)) := by
  cases h with
  | lst n hs ha =>
    have e := DtA.intsV ha
    subst e
    exact ⟨_, rfl, n, hs⟩
theorem Dt.tupI {v : V} {ds : List PyData} (h : Dt B H v (.tuple ds)) : ∃ a vs, v = .ref a ∧ a ∉ B ∧ H a = some (.tup vs) ∧ DtA B H vs ds := by
  cases h with
  | tup n hs ha => exact ⟨_, _, rfl, n, hs, ha⟩
theorem Dt.lstI {v : V} {ds : List PyData} (h : Dt B H v (.list ds)) : ∃ a vs, v = .ref a ∧ a ∉ B ∧ H a = some (.lst vs) ∧ DtA B H vs ds := by
  cases h with
  | lst n hs ha => exact ⟨_, _, rfl, n, hs, ha⟩
theorem Dt.pal {v : V} {cs : List (List Int)} (h : Dt B H v (eP cs)) : ∃ a vs, v = .ref a ∧ a ∉ B ∧ H a = some (.lst vs) ∧ DtA B H vs (cs.map eC) := Dt.lstI h
theorem Dt.intI {v : V} {i : Int} (h : Dt B H v (.int i)) : v = .int i := by
  cases h
  rfl
end
/-! ### the rules that speak of the written part, with it named -/
def rLenS (K : PySem.W.Frag) : List V → Hp → VK → Prop := fun xs H Q => ∃ p ys, xs = [.ref p] ∧ (SqL K H p ys ∨ SqT K H p ys) ∧ Q (.int ys.length) H
def rListOf (K : PySem.W.Frag) : List V → Hp → VK → Prop := fun xs H Q => ∃ p ys, xs = [.ref p] ∧ (SqL K H p ys ∨ SqT K H p ys) ∧ ∀ l, H l = none → Q (.ref l) (upd H l (.lst ys))
def rTupOf (K : PySem.W.Frag) : List V → Hp → VK → Prop := fun xs H Q => ∃ p ys, xs = [.ref p] ∧ ((SqL K H p ys ∧ ∀ l, H l = none → Q (.ref l) (upd H l (.tup ys))) ∨ (SqT K H p ys ∧ Q (.ref p) H))
section
variable (K : PySem.W.Frag) {X : Cx}
theorem ix_listK (h : X.K = K := by rfl) : IxR X (rIxL K) := h ▸ ix_list
theorem ix_tupK (h : X.K = K := by rfl) : IxR X (rIxT K) := h ▸ ix_tup
theorem sl_listK (h : X.K = K := by rfl) : SlR X (rSlL K) := h ▸ sl_list
theorem sl_tupAK (h : X.K = K := by rfl) : SlR X (rSlA K) := h ▸ sl_tupA
theorem op_catAK (h : X.K = K := by rfl) : OpR X (binaryOp .Add) (rCatA K) := h ▸ op_catA
theorem op_eqDK (hu : X.A.units + 64 < cLine) (h : X.K = K := by rfl) : OpR X (compareOp .Eq) (rEqD K) := h ▸ op_eqD hu
theorem op_neDK (hu : X.A.units + 64 < cLine) (h : X.K = K := by rfl) : OpR X (compareOp .NotEq) (rNeD K) := h ▸ op_neD hu
theorem len_K (h : X.K = K := by rfl) : CallR X (.builtin "len") (rLenS K) := h ▸ call_len_seq
theorem list_K (h : X.K = K := by rfl) : CallR X (.type "list") (rListOf K) := h ▸ call_list_of
theorem tuple_K (h : X.K = K := by rfl) : CallR X (.type "tuple") (rTupOf K) := h ▸ call_tuple_of
theorem cr_sumK (hc : X.calm = true) (h : X.K = K := by rfl) : CallR X (.builtin "sum") (rSum K) := h ▸ cr_sum hc
theorem cr_maxK (hc : X.calm = true) (h : X.K = K := by rfl) : CallR X (.builtin "max") (rMax K) := h ▸ cr_max hc
theorem cr_minK (hc : X.calm = true) (h : X.K = K := by rfl) : CallR X (.builtin "min") (rMin K) := h ▸ cr_min hc
theorem cr_anyK (hc : X.calm = true) (h : X.K = K := by rfl) : CallR X (.builtin "any") (rAny K) := h ▸ cr_any hc
theorem cr_allK (hc : X.calm = true) (h : X.K = K := by rfl) : CallR X (.builtin "all") (rAll K) := h ▸ cr_all hc
theorem call_isiK1 (h : X.K = K := by rfl) : CallR X (.builtin "isinstance") (rIsi K) := h ▸ call_isi
theorem call_isiTK (h : X.K = K := by rfl) : CallR X (.builtin "isinstance") (rIsiT K) := h ▸ call_isiT
theorem cr_sortedK (h : X.K = K := by rfl) : CallR X (.builtin "sorted") (rSortedPO K) := h ▸ cr_sortedPO
theorem mt_indexK (h : X.K = K := by rfl) : MtR X "list.index" (rIndex K) := h ▸ mt_index
theorem pi_listK {tg l : Expr} {tl : TE} (hl : PE X l tl) (h : X.K = K := by rfl) : PI X tg l (iList K tl) := h ▸ pi_list hl
theorem pg_tupK {pos : Pos} {es : List Expr} {kk : Nat} {t : TGs} {n : Nat} (hc : X.calm = true) (h : PGs X es t) (hn : (assignEach es X.env).length = n := by rfl) (hst : (assignEach es X.env).findIdx? (·.1) = none := by rfl) (h2 : X.K = K := by rfl) : PG X (.Tuple es kk pos) (gTup K n t) :=
  h2 ▸ pg_tup hc h hn hst
theorem pi_tupK {tg l : Expr} {tl : TE} (hl : PE X l tl) (h : X.K = K := by rfl) : PI X tg l (iTup K tl) := h ▸ pi_tup hl
end
/-! ### shapes -/
mutual
def wide : PyData → Bool
  | .none | .bool _ | .int _ | .str _ => true
  | .list xs | .tuple xs => decide (xs.length ≤ 100000) && wideAll xs
  | .dict _ => false
def wideAll : List PyData → Bool
  | [] => true
  | x :: xs => wide x && wideAll xs
end
def Sh (d : PyData) (k : Nat) : Prop := d.canLay0 = true ∧ d.depth ≤ k ∧ wide d = true
theorem sh_all : ∀ {ds : List PyData} {k : Nat}, (∀ d ∈ ds, Sh d k) → PyData.canLayAll0 ds = true ∧ PyData.depthAll ds ≤ k ∧ wideAll ds = true
  | [], _, _ => ⟨rfl, Nat.zero_le _, by rw [wideAll]⟩
  | d :: ds, k, h => by
    obtain ⟨h1, h2, h4⟩ := sh_all (ds := ds) (k := k) fun x hx => h x (List.mem_cons_of_mem _ hx)
    have h3 := h d (List.mem_cons_self ..)
    refine ⟨?_, ?_, ?_⟩
    · rw [PyData.canLayAll0, h1, h3.1]; rfl
    · rw [PyData.depthAll]
      exact Nat.max_le.mpr ⟨h3.2.1, h2⟩
    · rw [wideAll, h4, h3.2.2]; rfl
theorem sh_mem : ∀ {ds : List PyData} {k : Nat}, PyData.canLayAll0 ds = true → PyData.depthAll ds ≤ k → wideAll ds = true → ∀ d ∈ ds, Sh d k
  | [], _, _, _, _, _, h => nomatch h
  | d :: ds, k, h1, h2, h3, x, hx => by
    rw [PyData.canLayAll0] at h1
    rw [PyData.depthAll] at h2
    rw [wideAll] at h3
    have a := Bool.and_eq_true_iff.mp h1
    have b := Nat.max_le.mp h2
    have c := Bool.and_eq_true_iff.mp h3
    rcases List.mem_cons.mp hx with e | e
    · rw [e]; exact ⟨a.1, b.1, c.1⟩
    · exact sh_mem a.2 b.2 c.2 x e
theorem sh_tup {ds : List PyData} {k : Nat} (l : ds.length ≤ 100000) (h : ∀ d ∈ ds, Sh d k) : Sh (.tuple ds) (k + 1) := by
  obtain ⟨h1, h2, h3⟩ := sh_all h
  exact ⟨by rw [PyData.canLay0]; exact h1, by rw [PyData.depth]; omega, by rw [wide, h3, decide_eq_true l]; rfl⟩
theorem sh_lst {ds : List PyData} {k : Nat} (l : ds.length ≤ 100000) (h : ∀ d ∈ ds, Sh d k) : Sh (.list ds) (k + 1) := by
  obtain ⟨h1, h2, h3⟩ := sh_all h
  exact ⟨by rw [PyData.canLay0]; exact h1, by rw [PyData.depth]; omega, by rw [wide, h3, decide_eq_true l]; rfl⟩
theorem sh_int (i : Int) (k : Nat) : Sh (.int i) k := ⟨rfl, by rw [PyData.depth]; omega, by rw [wide]⟩
theorem sh_bool (i : Bool) (k : Nat) : Sh (.bool i) k := ⟨rfl, by rw [PyData.depth]; omega, by rw [wide]⟩
theorem sh_none (k : Nat) : Sh .none k := ⟨rfl, by rw [PyData.depth]; omega, by rw [wide]⟩
theorem sh_eC {ns : List Int} (l : ns.length ≤ 100000) : Sh (eC ns) 1 := sh_tup (by simpa using l) fun d hd => by
  obtain ⟨n, _, rfl⟩ := List.mem_map.mp hd
  exact sh_int n 0
theorem sh_eI {ns : List Int} (l : ns.length ≤ 100000) : Sh (eI ns) 1 := sh_lst (by simpa using l) fun d hd => by
  obtain ⟨n, _, rfl⟩ := List.mem_map.mp hd
  exact sh_int n 0
theorem sh_eP {cs : List (List Int)} (l : cs.length ≤ 100000) (h : ∀ c ∈ cs, c.length ≤ 100000) : Sh (eP cs) 2 := sh_lst (by simpa using l) fun d hd => by
  obtain ⟨n, m, rfl⟩ := List.mem_map.mp hd
  exact sh_eC (h n m)
theorem Sh.mono {d : PyData} {j k : Nat} (h : Sh d j) (l : j ≤ k) : Sh d k := ⟨h.1, Nat.le_trans h.2.1 l, h.2.2⟩
theorem Sh.sh {d : PyData} {k : Nat} (h : Sh d k) (l : k ≤ 64) : SeqAt.shaped d = true := by
  unfold SeqAt.shaped
  rw [h.1, decide_eq_true (Nat.le_trans h.2.1 l)]
  rfl
theorem Sh.tupI {ds : List PyData} {k : Nat} (h : Sh (.tuple ds) k) : ∃ j, k = j + 1 ∧ (∀ d ∈ ds, Sh d j) ∧ ds.length ≤ 100000 := by
  obtain ⟨h1, h2, h3⟩ := h
  rw [PyData.canLay0] at h1
  rw [PyData.depth] at h2
  rw [wide] at h3
  have c := Bool.and_eq_true_iff.mp h3
  exact ⟨k - 1, by omega, sh_mem h1 (by omega) c.2, of_decide_eq_true c.1⟩
theorem Sh.lstI {ds : List PyData} {k : Nat} (h : Sh (.list ds) k) : ∃ j, k = j + 1 ∧ (∀ d ∈ ds, Sh d j) ∧ ds.length ≤ 100000 := by
  obtain ⟨h1, h2, h3⟩ := h
  rw [PyData.canLay0] at h1
  rw [PyData.depth] at h2
  rw [wide] at h3
  have c := Bool.and_eq_true_iff.mp h3
  exact ⟨k - 1, by omega, sh_mem h1 (by omega) c.2, of_decide_eq_true c.1⟩
/-! ### isinstance -/
def tyn : PyData → String
  | .none => "NoneType" | .bool _ => "bool" | .int _ => "int" | .str _ => "str" | .list _ => "list" | .tuple _ => "tuple" | .dict _ => "dict"
theorem Dt.ty {K : PySem.W.Frag} {B : List Addr} {H : Hp} {v : V} {d : PyData} (h : Dt B H v d) : TyX K H v (.type (tyn d)) := by
  cases h with
  | non => exact .base .non
  | bl b => exact .base (.bl b)
  | int i => exact .base (.int i)
  | str x => exact .base (.str x)
  | lst n hs ha => exact .base (.lst hs)
  | tup n hs ha => exact .base (.tup hs)
theorem r_isi {K : PySem.W.Frag} {H : Hp} {Q : VK} {x : V} {t n : String} {b : Bool} (h : TyX K H x (.type t)) (e : kitB t n = some b) (q : Q (.bl b) H) : rIsi K [x, .ty n] H Q := ⟨x, .ty n, _, _, b, rfl, .ty n, h, kit_ty e, q⟩
theorem iteD {c A B : Prop} [Decidable c] (hc : c) (h : A) : if decide c = true then A else B := by
  rw [if_pos (decide_eq_true hc)]
  exact h
theorem iteE {A B : Prop} {c : Bool} (hc : c = true) (h : A) : if c = true then A else B := by
  rw [if_pos hc]
  exact h
theorem iteN {A B : Prop} {c : Bool} (hc : c = false) (h : B) : if c = true then A else B := by
  rw [hc, if_neg Bool.false_ne_true]
  exact h
/-! ### comprehensions -/
theorem lc_yes {te : TE} {σ : L2.St} {H : Hp} {Qy : VK} {N : Hp → Prop} (h : te σ H Qy) : tYes σ H (fun b H3 => if b = true then te σ H3 Qy else N H3) := by
  show if true = true then te σ H Qy else N H
  rw [if_pos rfl]
  exact h
theorem walk_zipT {K : PySem.W.Frag} {a b : Addr} {xs ys : List V} {n : Nat} (hn : n = min xs.length ys.length) : Walk (RZ.ItzT K a b) n (fun H => SqT K H a xs ∧ SqT K H b ys) (YPair (fun i => xs[i]?) (fun i => ys[i]?)) := by
  subst hn
  refine ⟨fun i _ hi q => ?_, fun _ q => ⟨xs, ys, q.1, q.2, by omega⟩, fun i H v H' _ q y => ?_⟩
  · have h1 : i < xs.length := by omega
    have h2 : i < ys.length := by omega
    exact ⟨xs, ys, xs[i], ys[i], q.1, q.2, by simp [h1], by simp [h2]⟩
  · obtain ⟨T, x, z, h1, h2, h3, h4, h5⟩ := y
    exact ⟨T, x, z, h1, h2, h3, h4 xs q.1, h5 ys q.2⟩
theorem sz {n : Nat} (h : n ≤ 100000) : n < sizeLine := Nat.lt_of_le_of_lt h (by decide)
/-- a comprehension that leaves all as it was: what it makes, item by item -/
theorem lc_pure {J : It} {n : Nat} {G : Hp → Prop} {Y : Nat → Hp → V → Hp → Prop} (w : Walk J n G Y) {g : TG} {tt : TT} {te : TE} {vs : List Nat} {σ : L2.St} {H1 : Hp} {D : Addr} {Qd : Hp → Prop} {B : List Addr}
    (hD : H1 D = none) (hB : Bk B H1) (hG : ∀ H', Same H1 H' → G H') (hn : n ≤ 100000) (e : Nat → Option PyData)
    (hs : ∀ (i : Nat) (x : V) (H' H'' : Hp) (Ny : V → Hp → Prop) (Nn : Hp → Prop), i < n → Same H1 H' → Bk (D :: B) H' → Y i H' x H'' → (∀ y H4 d, e i = some d → Same H' H4 → Dt (D :: B) H4 y d → Ny y H4) → (∀ H3, e i = none → Same H' H3 → Nn H3) →
      g x (wipe σ vs) H'' fun σ2 H2 => wipe σ2 vs = wipe σ vs ∧ tt σ2 H2 fun b H3 => if b = true then te σ2 H3 Ny else Nn H3)
    (hd : ∀ (H' : Hp) (ws : List V), Same H1 H' → H' D = some (.lst ws) → DtA (D :: B) H' ws ((List.range n).filterMap e) → Qd H') :
    ∃ W : Nat → Nat → Hp → Prop, (∃ m, W 0 m (upd H1 D (.lst []))) ∧ ∀ i m H, W i m H →
      (J.stop i H ∧ Qd H) ∨ (J.go i H ∧ ∃ Nx : Hp → Prop, (∀ H', Nx H' → ∃ m', m' < m ∧ W (i + 1) m' H') ∧ ∀ x H', J.yld i H x H' → g x (wipe σ vs) H' fun σ2 H2 => wipe σ2 vs = wipe σ vs ∧ tt σ2 H2 fun b H3 =>
        if b = true then te σ2 H3 fun y H4 => ∃ acc, H4 D = some (.lst acc) ∧ acc.length < sizeLine ∧ Nx (upd H4 D (.lst (acc ++ [y]))) else Nx H3) := by
  refine lc_it w (fun i H' => Same H1 H' ∧ ∃ ws, H' D = some (.lst ws) ∧ DtA (D :: B) H' ws ((List.range i).filterMap e) ∧ ws.length ≤ i) ⟨sm_new hD, [], upd_same, .nil, Nat.le_refl _⟩ (fun i H' _ h => hG H' h.1) (fun i x H' H'' hi h y => ?_) (fun H' h => ?_)
  · obtain ⟨s1, ws, eD, hA, hl⟩ := h
    have hb : Bk (D :: B) H' := (hB.go (Go.of (B := B) s1)).cons eD
    refine hs i x H' H'' _ _ hi s1 hb y (fun y H4 d ed s4 hy => ?_) (fun H3 ed s3 => ?_)
    · refine ⟨ws, s4 _ _ eD, sz (by omega), sm_mut (s1.trans s4) hD, ws ++ [y], upd_same, ?_, by simp; omega⟩
      rw [List.range_succ, List.filterMap_append]
      have g4 : Go (D :: B) H4 (upd H4 D (.lst (ws ++ [y]))) := Go.refl.at (List.mem_cons_self ..)
      refine DtA.app ((hA.s s4).g g4) ?_
      simp only [List.filterMap_cons, List.filterMap_nil, ed]
      exact .one (hy.g g4)
    · refine ⟨s1.trans s3, ws, s3 _ _ eD, ?_, by omega⟩
      rw [List.range_succ, List.filterMap_append]
      simp only [List.filterMap_cons, List.filterMap_nil, ed, List.append_nil]
      exact hA.s s3
  · obtain ⟨s1, ws, eD, hA, hl⟩ := h
    exact hd H' ws s1 eD hA
theorem fm_take {α : Type} (ys : List α) : ∀ n, (List.range n).filterMap (fun i => ys[i]?) = ys.take n
  | 0 => by simp
  | n + 1 => by
    rw [List.range_succ, List.filterMap_append, fm_take ys n, List.take_add_one]
    cases h : ys[n]? <;> simp [h]
theorem fm_all {α : Type} {ys : List α} {n : Nat} (h : ys.length = n) : (List.range n).filterMap (fun i => ys[i]?) = ys := by
  rw [fm_take, ← h, List.take_length]
theorem at0 {α : Type} {xs : List α} {i : Int} {v : α} (h : 0 ≤ i) (e : xs[i.toNat]? = some v) : atI xs i = some v := by
  have := atI_nat e
  rw [Int.toNat_of_nonneg h] at this
  exact this
theorem bit_ok (b : Bool) : (-(2 ^ 64) : Int) < (if b = true then 1 else 0) ∧ (if b = true then 1 else 0 : Int) < 2 ^ 64 := by cases b <;> decide
theorem md {j : Int} (h : 0 < j) : 0 < j := h
theorem at_in {xs : List V} {r : Int} (h0 : 0 ≤ r) (h1 : r < xs.length) : ∃ v, v ∈ xs ∧ atI xs r = some v := by
  have h : r.toNat < xs.length := by omega
  exact ⟨xs[r.toNat], List.getElem_mem h, at0 h0 (List.getElem?_eq_getElem h)⟩
theorem at_int {ns : List Int} {r : Int} (h0 : 0 ≤ r) (h1 : r < ns.length) : ∃ z, z ∈ ns ∧ atI (ns.map V.int) r = some (.int z) := by
  have h : r.toNat < ns.length := by omega
  exact ⟨ns[r.toNat], List.getElem_mem h, at0 h0 (by rw [List.getElem?_map, List.getElem?_eq_getElem h]; rfl)⟩
theorem at2 (x y : V) (b : Bool) : atI [x, y] (if b = true then 1 else 0) = some (if b = true then y else x) := by cases b <;> rfl
/-- numbers within bounds -/
def cIn (lo hi : Int) (ns : List Int) : Prop := ∀ x ∈ ns, lo ≤ x ∧ x ≤ hi
theorem cIn.app {lo hi x : Int} {ns : List Int} (h : cIn lo hi ns) (h1 : lo ≤ x) (h2 : x ≤ hi) : cIn lo hi (ns ++ [x]) := fun y hy => by
  rcases List.mem_append.mp hy with q | q
  · exact h y q
  · rw [List.mem_singleton.mp q]
    exact ⟨h1, h2⟩
theorem cIn.nil {lo hi : Int} : cIn lo hi [] := fun _ h => nomatch h
theorem cIn.mono {lo hi lo' hi' : Int} {ns : List Int} (h : cIn lo hi ns) (h1 : lo' ≤ lo) (h2 : hi ≤ hi') : cIn lo' hi' ns := fun x hx => by
  have := h x hx
  omega
/-- a comprehension of drawn numbers -/
theorem lc_ints {J : It} {n : Nat} {G : Hp → Prop} {Y : Nat → Hp → V → Hp → Prop} (w : Walk J n G Y) {g : TG} {tt : TT} {te : TE} {vs : List Nat} {σ : L2.St} {H1 : Hp} {D L : Addr} {Qd : Hp → Prop} (N u : Nat) (lo hi : Int)
    (hD : H1 D = none) (hL : Lf L H1 N) (hG : ∀ H', Go [L] H1 H' → G H') (hn : n ≤ 100000)
    (hs : ∀ (i : Nat) (x : V) (H' H'' : Hp) (Ny : V → Hp → Prop) (Nn : Hp → Prop), i < n → Go [L] H1 H' → Lf L H' (N + u * i) → Y i H' x H'' → (∀ (z : Int) H4, Go [L] H' H4 → Lf L H4 (N + u * i + u) → lo ≤ z → z ≤ hi → Ny (.int z) H4) →
      g x (wipe σ vs) H'' fun σ2 H2 => wipe σ2 vs = wipe σ vs ∧ tt σ2 H2 fun b H3 => if b = true then te σ2 H3 Ny else Nn H3)
    (hd : ∀ (H' : Hp) (ns : List Int), Go [L] H1 H' → Lf L H' (N + u * n) → H' D = some (.lst (ns.map V.int)) → ns.length = n → cIn lo hi ns → Qd H') :
    ∃ W : Nat → Nat → Hp → Prop, (∃ m, W 0 m (upd H1 D (.lst []))) ∧ ∀ i m H, W i m H →
      (J.stop i H ∧ Qd H) ∨ (J.go i H ∧ ∃ Nx : Hp → Prop, (∀ H', Nx H' → ∃ m', m' < m ∧ W (i + 1) m' H') ∧ ∀ x H', J.yld i H x H' → g x (wipe σ vs) H' fun σ2 H2 => wipe σ2 vs = wipe σ vs ∧ tt σ2 H2 fun b H3 =>
        if b = true then te σ2 H3 fun y H4 => ∃ acc, H4 D = some (.lst acc) ∧ acc.length < sizeLine ∧ Nx (upd H4 D (.lst (acc ++ [y]))) else Nx H3) := by
  have nD : D ∉ [L] := hL.bk.ne hD
  refine lc_it w (fun i H' => Go [L] H1 H' ∧ Lf L H' (N + u * i) ∧ ∃ ns : List Int, H' D = some (.lst (ns.map V.int)) ∧ ns.length = i ∧ cIn lo hi ns) ⟨Go.new hD, hL.new hD, [], upd_same, rfl, cIn.nil⟩ (fun i H' _ h => hG H' h.1) (fun i x H' H'' hi h y => ?_) (fun H' h => ?_)
  · obtain ⟨g1, l1, ns, eD, en, cn⟩ := h
    refine hs i x H' H'' _ _ hi g1 l1 y (fun z H4 g4 l4 z0 z1 => ?_)
    refine ⟨ns.map V.int, g4.k D _ nD eD, sz (by rw [List.length_map]; omega), (g1.trans g4).mut hD, (l4.up (hL.ne hD)).mono (by rw [Nat.mul_succ]; omega), ns ++ [z], ?_, by simp; omega, cn.app z0 z1⟩
    rw [upd_same, List.map_append]
    rfl
  · obtain ⟨g1, l1, ns, eD, en, cn⟩ := h
    exact hd H' ns g1 l1 eD en cn
theorem mat {a : List Int} {i : Nat} {x : V} (h : i < a.length) (e : (a.map V.int)[i]? = some x) : x = .int a[i] := by
  rw [List.getElem?_map, List.getElem?_eq_getElem h] at e
  exact (Option.some.inj e).symm
end Z

set_option Elab.async false
set_option linter.all false
set_option maxRecDepth 100000
namespace Z
open PySem PySem.Spec PyProof.Rows L2
open PySem.W (dataLt minD alike alikeAll dataLt_tuple dataLt_all_yes dataLt_all_no dataLt_int min_list_data readsAll_at reads_keeps AlikeAll)
/-! ### the least of pairs -/
def enc (p : Int × Int) : PyData := eC [p.1, p.2]
theorem enc_inj {p q : Int × Int} (h : enc p = enc q) : p = q := by
  have h1 : [PyData.int p.1, PyData.int p.2] = [PyData.int q.1, PyData.int q.2] := by
    unfold enc eC at h
    exact PyData.tuple.inj h
  have h2 := (List.cons.inj h1)
  have h3 := (List.cons.inj h2.2)
  exact Prod.ext (PyData.int.inj h2.1) (PyData.int.inj h3.1)
theorem lt_enc (p q : Int × Int) : dataLt (enc p) (enc q) = SrtO.lexB p q := by
  unfold enc eC
  rw [dataLt_tuple]
  simp only [List.map_cons, List.map_nil]
  unfold SrtO.lexB
  by_cases h : p.1 = q.1
  · rw [if_pos h, dataLt_all_yes (by rfl) (by simp [PyData.eqv, h])]
    by_cases h2 : p.2 = q.2
    · rw [dataLt_all_yes (by rfl) (by simp [PyData.eqv, h2]), decide_eq_false (by omega)]
      rfl
    · rw [dataLt_all_no (by rfl) (by simp [PyData.eqv, h2]), dataLt_int]
  · rw [if_neg h, dataLt_all_no (by rfl) (by simp [PyData.eqv, h]), dataLt_int]
def minP (p : Int × Int) (ps : List (Int × Int)) : Int × Int := ps.foldl (fun a y => if SrtO.lexB y a then y else a) p
theorem minD_enc (p : Int × Int) (ps : List (Int × Int)) : minD (enc p) (ps.map enc) = enc (minP p ps) := by
  unfold minD minP
  induction ps generalizing p with
  | nil => rfl
  | cons x r ih =>
    rw [List.map_cons, List.foldl_cons, List.foldl_cons, lt_enc]
    by_cases h : SrtO.lexB x p = true
    · rw [if_pos h, if_pos h]; exact ih x
    · rw [if_neg h, if_neg h]; exact ih p
theorem minP_le (p : Int × Int) (ps : List (Int × Int)) : ∀ q ∈ p :: ps, SrtO.lexB q (minP p ps) = false := by
  unfold minP
  induction ps generalizing p with
  | nil =>
    intro q hq
    rw [List.mem_singleton.mp hq]
    exact SrtO.lexB_no.mpr (by simp only [List.foldl_nil]; omega)
  | cons x r ih =>
    intro q hq
    rw [List.foldl_cons]
    by_cases h : SrtO.lexB x p = true
    · rw [if_pos h]
      rcases List.mem_cons.mp hq with e | e
      · have i1 := SrtO.lexB_no.mp (ih x x (List.mem_cons_self ..))
        have i2 := SrtO.lexB_iff.mp h
        rw [e]
        exact SrtO.lexB_no.mpr (by omega)
      · exact ih x q e
    · rw [if_neg h]
      rcases List.mem_cons.mp hq with e | e
      · exact ih p q (by rw [e]; exact List.mem_cons_self ..)
      · rcases List.mem_cons.mp e with e | e
        · have i1 := SrtO.lexB_no.mp (ih p p (List.mem_cons_self ..))
          have i2 := SrtO.lexB_no.mp (Bool.eq_false_iff.mpr h)
          rw [e]
          exact SrtO.lexB_no.mpr (by omega)
        · exact ih p q (List.mem_cons_of_mem _ e)
theorem alike_enc (p q : Int × Int) : alike (enc p) (enc q) = true := by
  unfold enc eC
  simp [alike, alikeAll]
theorem dep_enc : ∀ ps : List (Int × Int), PyData.depthAll (ps.map enc) ≤ 1
  | [] => Nat.zero_le _
  | p :: ps => by
    rw [List.map_cons, PyData.depthAll]
    exact Nat.max_le.mpr ⟨(sh_eC (ns := [p.1, p.2]) (by simp)).2.1, dep_enc ps⟩
/-- min(xs), xs a list of pairs of ints: one of the least -/
def rMinP (K : PySem.W.Frag) : List V → Hp → VK → Prop := fun vs H Q => ∃ (a : Addr) (xs : List V) (p : Int × Int) (ps : List (Int × Int)), vs = [V.ref a] ∧ SqL K H a xs ∧ DpAll K H xs ((p :: ps).map enc) ∧
  ∀ (i : Nat) (x : V), xs[i]? = some x → (p :: ps)[i]? = some (minP p ps) → Q x H
theorem cr_minP (K : PySem.W.Frag) {X : Cx} (hc : X.calm = true) (hu : X.A.units + 64 < cLine) (hK : X.K = K := by rfl) : CallR X (.builtin "min") (rMinP K) := by
  subst hK
  intro pins s σ H vs us Q I r h
  obtain ⟨a, xs, p, ps, rfl, hs, hd, q⟩ := h
  obtain ⟨its, rv, hl, hz⟩ := I.list hs
  obtain ⟨u, rfl, ru⟩ := vals1 r
  obtain rfl : u = Value.ref a := ru
  obtain ⟨as, hr⟩ := Dp.readsAll I _ xs its hd rv
  rw [List.map_cons] at hr
  have hdep := dep_enc (p :: ps)
  rw [List.map_cons] at hdep
  refine min_list_data (x := enc p) (xs := ps.map enc) (I.ok.hd hc) hl.isList (by simpa using hr) ⟨fun x hx y hy => ?_, fun x hx => ?_⟩ (by omega) fun i v h' tk bs hv rd hk => ?_
  · rw [← List.map_cons] at hx hy
    obtain ⟨x, _, rfl⟩ := List.mem_map.mp hx
    obtain ⟨y, _, rfl⟩ := List.mem_map.mp hy
    exact alike_enc x y
  · rw [← List.map_cons] at hx
    obtain ⟨x, _, rfl⟩ := List.mem_map.mp hx
    intro z
    unfold enc eC at z
    cases z
  · have hv2 : its[i]? = some v := by simpa using hv
    have hi : i < its.length := (List.getElem?_eq_some_iff.mp hv2).1
    have hi2 : i < xs.length := by rw [rv.length]; exact hi
    obtain ⟨w, hw, rw1⟩ := rv.get (List.getElem?_eq_getElem hi2)
    have ew : w = v := Option.some.inj (hw.symm.trans hv2)
    subst ew
    obtain ⟨cs, r1, l1, m1, _⟩ := readsAll_at hr i w hv2
    rw [← List.map_cons] at l1 m1 r1
    rw [List.length_map] at l1
    have eg : ((p :: ps).map enc).getD i .none = enc (p :: ps)[i] := by
      rw [List.getD_eq_getElem?_getD, List.getElem?_map, List.getElem?_eq_getElem l1]
      rfl
    rw [eg] at r1
    rw [minD_enc] at rd
    have ee := SeqAt.Reads.unique _ _ _ _ _ (sh_eC (ns := [((p :: ps)[i]).1, ((p :: ps)[i]).2]) (by simp)).1 (reads_keeps hk r1) rd
    have ep : (p :: ps)[i] = minP p ps := enc_inj ee
    exact ⟨xs[i], H, I.kept (t' := tk) hk, rw1, q i _ (List.getElem?_eq_getElem hi2) (by rw [List.getElem?_eq_getElem l1, ep])⟩
theorem DtA.rev {B : List Addr} {H : Hp} : ∀ {vs : List V} {ds : List PyData}, DtA B H vs ds → DtA B H vs.reverse ds.reverse
  | [], _, h => by
    cases h
    exact .nil
  | v :: vs, _, h => by
    cases h with
    | cons h1 h2 =>
      rw [List.reverse_cons, List.reverse_cons]
      exact (DtA.rev h2).app (.one h1)
theorem DtA.dP {K : PySem.W.Frag} {B : List Addr} {H : Hp} {vs : List V} {ds : List PyData} (h : DtA B H vs ds) : DpAll K H vs ds := DtA.dp ds vs h
/-- a comprehension of drawn data -/
theorem lc_dtsB {J : It} {n : Nat} {G : Hp → Prop} {Y : Nat → Hp → V → Hp → Prop} (w : Walk J n G Y) {g : TG} {tt : TT} {te : TE} {vs : List Nat} {σ : L2.St} {H1 : Hp} {D L : Addr} {B : List Addr} {Qd : Hp → Prop} (N u : Nat) (Pd : PyData → Prop)
    (hD : H1 D = none) (hL : Lf L H1 N) (LB : L ∈ B) (hB : Bk B H1) (hG : ∀ H', Go [L] H1 H' → G H') (hn : n ≤ 100000)
    (hs : ∀ (i : Nat) (x : V) (H' H'' : Hp) (Ny : V → Hp → Prop) (Nn : Hp → Prop), i < n → Go [L] H1 H' → Lf L H' (N + u * i) → Bk (D :: B) H' → Y i H' x H'' → (∀ (v : V) (d : PyData) H4, Go [L] H' H4 → Lf L H4 (N + u * i + u) → Dt (D :: B) H4 v d → Pd d → Ny v H4) →
      g x (wipe σ vs) H'' fun σ2 H2 => wipe σ2 vs = wipe σ vs ∧ tt σ2 H2 fun b H3 => if b = true then te σ2 H3 Ny else Nn H3)
    (hd : ∀ (H' : Hp) (ws : List V) (ds : List PyData), Go [L] H1 H' → Lf L H' (N + u * n) → H' D = some (.lst ws) → DtA (D :: B) H' ws ds → ds.length = n → (∀ d ∈ ds, Pd d) → Qd H') :
    ∃ W : Nat → Nat → Hp → Prop, (∃ m, W 0 m (upd H1 D (.lst []))) ∧ ∀ i m H, W i m H →
      (J.stop i H ∧ Qd H) ∨ (J.go i H ∧ ∃ Nx : Hp → Prop, (∀ H', Nx H' → ∃ m', m' < m ∧ W (i + 1) m' H') ∧ ∀ x H', J.yld i H x H' → g x (wipe σ vs) H' fun σ2 H2 => wipe σ2 vs = wipe σ vs ∧ tt σ2 H2 fun b H3 =>
        if b = true then te σ2 H3 fun y H4 => ∃ acc, H4 D = some (.lst acc) ∧ acc.length < sizeLine ∧ Nx (upd H4 D (.lst (acc ++ [y]))) else Nx H3) := by
  have nD : D ∉ [L] := hL.bk.ne hD
  refine lc_it w (fun i H' => Go [L] H1 H' ∧ Lf L H' (N + u * i) ∧ ∃ ws ds, H' D = some (.lst ws) ∧ DtA (D :: B) H' ws ds ∧ ds.length = i ∧ ∀ d ∈ ds, Pd d) ⟨Go.new hD, hL.new hD, [], [], upd_same, .nil, rfl, fun _ h => (nomatch h)⟩ (fun i H' _ h => hG H' h.1) (fun i x H' H'' hi h y => ?_) (fun H' h => ?_)
  · obtain ⟨g1, l1, ws, ds, eD, hA, en, hp⟩ := h
    refine hs i x H' H'' _ _ hi g1 l1 ((hB.go g1).cons eD) y (fun z d H4 g4 l4 dz pd => ?_)
    have gm : Go (D :: B) H4 (upd H4 D (.lst (ws ++ [z]))) := Go.refl.at (List.mem_cons_self ..)
    have lw := hA.len
    refine ⟨ws, g4.k D _ nD eD, sz (by omega), (g1.trans g4).mut hD, (l4.up (hL.ne hD)).mono (by rw [Nat.mul_succ]; omega), ws ++ [z], ds ++ [d], upd_same, ((hA.g (g4.w1 (List.mem_cons_of_mem _ LB))).g gm).app (.one (dz.g gm)), by simp; omega, fun e he => ?_⟩
    rcases List.mem_append.mp he with he | he
    · exact hp e he
    · rw [List.mem_singleton.mp he]
      exact pd
  · obtain ⟨g1, l1, ws, ds, eD, hA, en, hp⟩ := h
    exact hd H' ws ds g1 l1 eD hA en hp
/-- a part of a list -/
def cutL {α : Type} (xs : List α) (lo hi : Option Int) : List α := (xs.drop (HT.sIx xs.length 0 lo)).take (HT.sIx xs.length xs.length hi - HT.sIx xs.length 0 lo)
theorem cutL_sub {α : Type} {xs : List α} {lo hi : Option Int} {x : α} (h : x ∈ cutL xs lo hi) : x ∈ xs := List.mem_of_mem_drop (List.mem_of_mem_take h)
theorem cutL_len {α : Type} (xs : List α) (lo hi : Option Int) : (cutL xs lo hi).length ≤ xs.length := by
  unfold cutL
  rw [List.length_take, List.length_drop]
  omega
theorem DtA.drop {B : List Addr} {H : Hp} : ∀ (n : Nat) {vs : List V} {ds : List PyData}, DtA B H vs ds → DtA B H (vs.drop n) (ds.drop n)
  | 0, _, _, h => h
  | n + 1, [], _, h => by cases h; exact .nil
  | n + 1, v :: vs, _, h => by
    cases h with
    | cons h1 h2 => exact DtA.drop n h2
theorem DtA.take {B : List Addr} {H : Hp} : ∀ (n : Nat) {vs : List V} {ds : List PyData}, DtA B H vs ds → DtA B H (vs.take n) (ds.take n)
  | 0, _, _, h => .nil
  | n + 1, [], _, h => by cases h; exact .nil
  | n + 1, v :: vs, _, h => by
    cases h with
    | cons h1 h2 => exact .cons h1 (DtA.take n h2)
theorem DtA.cut {B : List Addr} {H : Hp} {vs : List V} {ds : List PyData} (h : DtA B H vs ds) (lo hi : Option Int) : DtA B H (cutV vs lo hi) (cutL ds lo hi) := by
  unfold cutV cutL
  rw [h.len]
  exact DtA.take _ (DtA.drop _ h)
theorem slice_dt {K : PySem.W.Frag} {B : List Addr} {H : Hp} {x : V} {ds : List PyData} {lo hi : Option Int} {Q : VK} (hx : Dt B H x (.tuple ds)) (hB : Bk B H) (q : ∀ v H', Same H H' → Dt B H' v (.tuple (cutL ds lo hi)) → Q v H') : rSlA K x lo hi H Q := by
  obtain ⟨a, vs, rfl, na, ha, hA⟩ := hx.tupI
  refine ⟨a, vs, rfl, SqT.of ha, fun h => q _ H (Same.refl _) ?_, fun _ p hp => q _ _ (sm_new hp) (.tup (hB.ne hp) upd_same ((hA.cut lo hi).s (sm_new hp)))⟩
  have e : cutL ds lo hi = ds := by
    unfold cutL
    rw [← hA.len, h.1, h.2, List.drop_zero, Nat.sub_zero, hA.len, List.take_length]
  rw [e]
  exact hx
theorem cat_dt {K : PySem.W.Frag} {B : List Addr} {H : Hp} {x y : V} {xs ys : List PyData} {Q : VK} (hx : Dt B H x (.tuple xs)) (hy : Dt B H y (.tuple ys)) (hB : Bk B H) (l : xs.length + ys.length ≤ 100000) (q : ∀ v H', Same H H' → Dt B H' v (.tuple (xs ++ ys)) → Q v H') : rCatA K x y H Q := by
  obtain ⟨a, vs, rfl, na, ha, hA⟩ := hx.tupI
  obtain ⟨b, ws, rfl, nb, hb, hC⟩ := hy.tupI
  have l1 := hA.len
  have l2 := hC.len
  refine ⟨a, b, vs, ws, rfl, rfl, SqT.of ha, SqT.of hb, Nat.le_of_lt (sz (by omega)), fun e => ?_, fun _ e => ?_, fun _ _ p hp => q _ _ (sm_new hp) (.tup (hB.ne hp) upd_same ((hA.app hC).s (sm_new hp)))⟩
  · subst e
    have : xs = [] := List.eq_nil_of_length_eq_zero (by rw [← l1]; rfl)
    subst this
    exact q _ H (Same.refl _) hy
  · subst e
    have : ys = [] := List.eq_nil_of_length_eq_zero (by rw [← l2]; rfl)
    subst this
    exact q _ H (Same.refl _) (by rw [List.append_nil]; exact hx)
theorem sh_cut {ds : List PyData} {k : Nat} {lo hi : Option Int} (h : Sh (.tuple ds) k) : Sh (.tuple (cutL ds lo hi)) k := by
  obtain ⟨j, rfl, h1, h2⟩ := h.tupI
  exact sh_tup (Nat.le_trans (cutL_len _ _ _) h2) fun d hd => h1 d (cutL_sub hd)
theorem sh_cat {xs ys : List PyData} {k : Nat} (h1 : Sh (.tuple xs) k) (h2 : Sh (.tuple ys) k) (l : xs.length + ys.length ≤ 100000) : Sh (.tuple (xs ++ ys)) k := by
  obtain ⟨j, rfl, a1, a2⟩ := h1.tupI
  obtain ⟨j', e, b1, b2⟩ := h2.tupI
  have : j = j' := by omega
  subst this
  exact sh_tup (by simpa using l) fun d hd => by
    rcases List.mem_append.mp hd with h | h
    · exact a1 d h
    · exact b1 d h
/-! ### a comprehension in another one -/
def FrAll (sc : Scope) : List Str → Prop
  | [] => True
  | x :: xs => (sc.names.lookup x = some .cell ∨ sc.names.lookup x = some .free) ∧ FrAll sc xs
theorem FrAll.mem {sc : Scope} : ∀ {xs : List Str}, FrAll sc xs → ∀ x ∈ xs, sc.names.lookup x = some .cell ∨ sc.names.lookup x = some .free
  | [], _, _, h => nomatch h
  | y :: ys, h, x, hx => by
    rcases List.mem_cons.mp hx with e | e
    · rw [e]; exact h.1
    · exact FrAll.mem h.2 x e
def frC (fr : List Str) (scope : Scope) : Bool := scope.names.all fun y => match y.2 with
  | .free => decide (y.1 ∈ fr)
  | _ => true
theorem blkOk_in {N : List Str} {sc scope : Scope} {own : List (Str × Nat)} (fr : List Str) (h : blkC N { kind := .function, names := fr.map fun x => (x, .free), isGenerator := false, isCoroutine := false } scope own = true) (h2 : frC fr scope = true) (hf : FrAll sc fr) : BlkOk N sc scope own := by
  have b := blkOk_by h
  refine ⟨b.kind, b.uniq, b.ix, fun y hy e => ?_, b.own⟩
  have := List.all_eq_true.mp h2 y hy
  rw [e] at this
  exact hf.mem _ (of_decide_eq_true this)
end Z

set_option Elab.async false
set_option linter.all false
set_option maxRecDepth 100000
set_option maxHeartbeats 400000
namespace Z
open PySem PySem.Spec PyProof.Rows L2
/-! ### lists of lists -/
def eN (ns : List (List Int)) : PyData := .list (ns.map eI)
def eG (ps : List (List (List Int))) : PyData := .list (ps.map eP)
theorem sh_eN {ns : List (List Int)} (l : ns.length ≤ 100000) (h : ∀ c ∈ ns, c.length ≤ 100000) : Sh (eN ns) 2 := sh_lst (by simpa using l) fun d hd => by
  obtain ⟨n, m, rfl⟩ := List.mem_map.mp hd
  exact sh_eI (h n m)
theorem sh_eG {ps : List (List (List Int))} (l : ps.length ≤ 100000) (h : ∀ p ∈ ps, p.length ≤ 100000 ∧ ∀ c ∈ p, c.length ≤ 100000) : Sh (eG ps) 3 := sh_lst (by simpa using l) fun d hd => by
  obtain ⟨n, m, rfl⟩ := List.mem_map.mp hd
  exact sh_eP (h n m).1 (h n m).2
theorem DtA.mk {B : List Addr} {H : Hp} : ∀ {vs : List V} {ds : List PyData}, vs.length = ds.length → (∀ (i : Nat) v d, vs[i]? = some v → ds[i]? = some d → Dt B H v d) → DtA B H vs ds
  | [], [], _, _ => .nil
  | [], _ :: _, h, _ => nomatch h
  | _ :: _, [], h, _ => nomatch h
  | v :: vs, d :: ds, h, f => .cons (f 0 v d rfl rfl) (DtA.mk (by simpa using h) fun i v d h1 h2 => f (i + 1) v d h1 h2)
theorem DtA.two {B : List Addr} {H : Hp} {vs : List V} {ds : List PyData} {i : Nat} {v : V} {d : PyData} (h : DtA B H vs ds) (h1 : vs[i]? = some v) (h2 : ds[i]? = some d) : Dt B H v d := by
  obtain ⟨d', e, h3⟩ := h.getV h1
  rw [h2] at e
  cases e
  exact h3
theorem at2i (x y : Int) (b : Bool) : ∃ z : Int, atI [V.int x, V.int y] (if b = true then 1 else 0) = some (.int z) ∧ (z = x ∨ z = y) := by
  cases b
  · exact ⟨x, rfl, .inl rfl⟩
  · exact ⟨y, rfl, .inr rfl⟩
theorem ixN_last {n : Nat} (h : 0 < n) : ixN n (-1) = some (n - 1) := by
  unfold ixN
  rw [if_neg (by omega), if_pos (by omega)]
  congr 1
  omega
theorem DtA.set {B : List Addr} {H : Hp} {v : V} {d : PyData} : ∀ {vs : List V} {ds : List PyData} (j : Nat), DtA B H vs ds → Dt B H v d → DtA B H (vs.set j v) (ds.set j d)
  | [], _, _, h, _ => by cases h; exact .nil
  | _ :: _, _, 0, h, hv => by cases h with | cons h1 h2 => exact .cons hv h2
  | _ :: _, _, j + 1, h, hv => by cases h with | cons h1 h2 => exact .cons h1 (DtA.set j h2 hv)
theorem Dt.lst2 {B : List Addr} {H : Hp} {v : V} {ds : List PyData} (h : Dt B H v (.list ds)) : ∃ a vs, v = .ref a ∧ a ∉ B ∧ H a = some (.lst vs) ∧ DtA B H vs ds := by
  cases h with
  | lst n hs ha => exact ⟨_, _, rfl, n, hs, ha⟩
theorem cut_fromV {α : Type} (xs : List α) {n : Int} (h0 : 0 ≤ n) : cutL xs (some n) none = xs.drop n.toNat := by
  unfold cutL
  have e : HT.sIx xs.length 0 (some n) = min n.toNat xs.length := by
    show (if n < 0 then (n + (xs.length : Int)).toNat else min n.toNat xs.length) = _
    rw [if_neg (by omega)]
  have e2 : HT.sIx xs.length xs.length none = xs.length := rfl
  rw [e, e2]
  rcases Nat.le_total n.toNat xs.length with h | h
  · rw [Nat.min_eq_left h, List.take_of_length_le (by rw [List.length_drop]; omega)]
  · rw [Nat.min_eq_right h, List.drop_of_length_le (Nat.le_refl _), List.drop_of_length_le h, List.take_nil]
theorem cut_toV {α : Type} (xs : List α) {n : Int} (h0 : 0 ≤ n) : cutL xs none (some n) = xs.take n.toNat := by
  unfold cutL
  have e : HT.sIx xs.length xs.length (some n) = min n.toNat xs.length := by
    show (if n < 0 then (n + (xs.length : Int)).toNat else min n.toNat xs.length) = _
    rw [if_neg (by omega)]
  have e2 : HT.sIx xs.length 0 none = 0 := rfl
  rw [e, e2, List.drop_zero, Nat.sub_zero]
  rcases Nat.le_total n.toNat xs.length with h | h
  · rw [Nat.min_eq_left h]
  · rw [Nat.min_eq_right h, List.take_length, List.take_of_length_le h]
theorem pg_lstK {X : Cx} (K : PySem.W.Frag) {pos : Pos} {es : List Expr} {kk : Nat} {t : TGs} {n : Nat} (hc : X.calm = true) (h : PGs X es t) (hn : (assignEach es X.env).length = n := by rfl) (hst : (assignEach es X.env).findIdx? (·.1) = none := by rfl) (h2 : X.K = K := by rfl) : PG X (.Tuple es kk pos) (gLst K n t) :=
  h2 ▸ pg_lst hc h hn hst
theorem pi_zipAK {X : Cx} (K : PySem.W.Frag) {e e2 : Expr} {ta : TA} {p pos tpos : Pos} {elts : List Expr} {kk : Nat} (hg : Gl X "zip") (hm : X.mg "zip" = none) (ha : PA X [e, e2] ta)
    (hs : starEach [e, e2] X.env = (false, eval e X.env) :: starEach [e2] X.env := by rfl) (hpl : (backTo pos (starEach [e2] X.env)).any (·.1) = false := by rfl) (hK : X.K = K := by rfl) :
    PI X (.Tuple elts kk tpos) (.Call (.Name "zip" p) [e, e2] [] pos) (RZ.iZipA K ta) := by
  subst hK
  exact RZ.pi_zipA hg hm ha hs hpl
theorem yesT {σ : L2.St} {H : Hp} {A N : Hp → Prop} (h : A H) : tYes σ H (fun b H3 => if b = true then A H3 else N H3) := by
  show if true = true then A H else N H
  rw [if_pos rfl]
  exact h
/-- any walk -/
theorem walk_W {J : It} {n : Nat} {G : Hp → Prop} {Y : Nat → Hp → V → Hp → Prop} (w : Walk J n G Y) {R : (Hp → Prop) → V → Hp → Prop} {Qd : Hp → Prop} {H0 : Hp} (Pv : Nat → Hp → Prop) (h0 : Pv 0 H0) (hG : ∀ i H, i ≤ n → Pv i H → G H) (hs : ∀ i x H H', i < n → Pv i H → Y i H x H' → R (Pv (i + 1)) x H') (hd : ∀ H, Pv n H → Qd H) :
    ∃ W : Nat → Nat → Hp → Prop, (∃ m, W 0 m H0) ∧ ∀ i m H, W i m H → (J.stop i H ∧ Qd H) ∨ (J.go i H ∧ ∃ Nx : Hp → Prop, (∀ H', Nx H' → ∃ m', m' < m ∧ W (i + 1) m' H') ∧ ∀ x H', J.yld i H x H' → R Nx x H') := by
  obtain ⟨w1, w2, w3⟩ := w
  refine ⟨fun i m H => i ≤ n ∧ m = n - i ∧ Pv i H, ⟨n, Nat.zero_le _, rfl, h0⟩, fun i m H h => ?_⟩
  obtain ⟨hi, hm, hp⟩ := h
  have g := hG i H hi hp
  by_cases e : i = n
  · subst e
    exact .inl ⟨w2 _ g, hd _ hp⟩
  · refine .inr ⟨w1 i H (by omega) g, Pv (i + 1), fun H' h' => ⟨n - (i + 1), by omega, by omega, rfl, h'⟩, fun x H' y => ?_⟩
    exact hs i x H H' (by omega) hp (w3 i H x H' (by omega) g y)
theorem colsOf {Pc : List Int → Prop} : ∀ {ds : List PyData}, (∀ d ∈ ds, ∃ c, d = eC c ∧ Pc c) → ∃ cs : List (List Int), ds = cs.map eC ∧ ∀ c ∈ cs, Pc c
  | [], _ => ⟨[], rfl, fun _ h => nomatch h⟩
  | d :: ds, h => by
    obtain ⟨m, e, hm⟩ := colsOf (ds := ds) fun x hx => h x (List.mem_cons_of_mem _ hx)
    obtain ⟨z, ez, hz⟩ := h d (List.mem_cons_self ..)
    refine ⟨z :: m, by rw [e, ez]; rfl, fun y hy => ?_⟩
    rcases List.mem_cons.mp hy with q | q
    · rw [q]; exact hz
    · exact hm y q
/-- a list whose items are new lists, each another one; what is in these was there ahead -/
structure Rws (B : List Addr) (H H' : Hp) (D : Addr) (rs : List Addr) (dss : List (List PyData)) : Prop where
  len : rs.length = dss.length
  nd : rs.Nodup
  nD : D ∉ rs
  fr : ∀ r ∈ rs, H r = none
  row : ∀ (i : Nat) r ds, rs[i]? = some r → dss[i]? = some ds → ∃ ws, H' r = some (.lst ws) ∧ DtA B H ws ds
section
variable {B C : List Addr} {H H' H2 : Hp} {D p : Addr} {rs : List Addr} {dss : List (List PyData)}
theorem Rws.s (h : Rws B H H' D rs dss) (s : Same H' H2) : Rws B H H2 D rs dss := ⟨h.len, h.nd, h.nD, h.fr, fun i r ds h1 h2 => by
  obtain ⟨ws, e, a⟩ := h.row i r ds h1 h2
  exact ⟨ws, s _ _ e, a⟩⟩
theorem Rws.up {o : HO} (h : Rws B H H' D rs dss) (n : p ∉ rs) : Rws B H (upd H' p o) D rs dss := ⟨h.len, h.nd, h.nD, h.fr, fun i r ds h1 h2 => by
  obtain ⟨ws, e, a⟩ := h.row i r ds h1 h2
  refine ⟨ws, ?_, a⟩
  rw [upd_ne (fun z => n (by rw [← z]; exact List.mem_of_getElem? h1))]
  exact e⟩
theorem Rws.go (h : Rws B H H' D rs dss) (g : Go C H' H2) (n : ∀ r ∈ rs, r ∉ C) : Rws B H H2 D rs dss := ⟨h.len, h.nd, h.nD, h.fr, fun i r ds h1 h2 => by
  obtain ⟨ws, e, a⟩ := h.row i r ds h1 h2
  exact ⟨ws, g.k _ _ (n r (List.mem_of_getElem? h1)) e, a⟩⟩
theorem Rws.tail {r : Addr} {ds : List PyData} (h : Rws B H H' D (r :: rs) (ds :: dss)) : Rws B H H' D rs dss := ⟨by simpa using h.len, (List.nodup_cons.mp h.nd).2, fun z => h.nD (List.mem_cons_of_mem _ z), fun x hx => h.fr x (List.mem_cons_of_mem _ hx), fun i x ds h1 h2 => h.row (i + 1) x ds h1 h2⟩
theorem Rws.dt (h : Rws B H H' D rs dss) (b : Bk B H) (s : Go B H H') : DtA B H' (rs.map V.ref) (dss.map PyData.list) := by
  refine DtA.mk (by rw [List.length_map, List.length_map]; exact h.len) fun i v d h1 h2 => ?_
  rw [List.getElem?_map] at h1 h2
  cases e1 : rs[i]? with
  | none => rw [e1] at h1; cases h1
  | some r =>
    cases e2 : dss[i]? with
    | none => rw [e2] at h2; cases h2
    | some ds =>
      rw [e1] at h1
      rw [e2] at h2
      cases h1
      cases h2
      obtain ⟨ws, e, a⟩ := h.row i r ds e1 e2
      exact .lst (b.ne (h.fr r (List.mem_of_getElem? e1))) e (a.g s)
end
/-- a comprehension of known values -/
theorem lc_vals {J : It} {n : Nat} {G : Hp → Prop} {Y : Nat → Hp → V → Hp → Prop} (w : Walk J n G Y) {g : TG} {tt : TT} {te : TE} {vs : List Nat} {σ : L2.St} {H1 : Hp} {D : Addr} {Qd : Hp → Prop}
    (hD : H1 D = none) (hG : ∀ H', Same H1 H' → G H') (hn : n ≤ 100000) (f : Nat → V)
    (hs : ∀ (i : Nat) (x : V) (H' H'' : Hp) (Ny : V → Hp → Prop) (Nn : Hp → Prop), i < n → Same H1 H' → Y i H' x H'' → (∀ H4, Same H' H4 → Ny (f i) H4) →
      g x (wipe σ vs) H'' fun σ2 H2 => wipe σ2 vs = wipe σ vs ∧ tt σ2 H2 fun b H3 => if b = true then te σ2 H3 Ny else Nn H3)
    (hd : ∀ (H' : Hp), Same H1 H' → H' D = some (.lst ((List.range n).map f)) → Qd H') :
    ∃ W : Nat → Nat → Hp → Prop, (∃ m, W 0 m (upd H1 D (.lst []))) ∧ ∀ i m H, W i m H →
      (J.stop i H ∧ Qd H) ∨ (J.go i H ∧ ∃ Nx : Hp → Prop, (∀ H', Nx H' → ∃ m', m' < m ∧ W (i + 1) m' H') ∧ ∀ x H', J.yld i H x H' → g x (wipe σ vs) H' fun σ2 H2 => wipe σ2 vs = wipe σ vs ∧ tt σ2 H2 fun b H3 =>
        if b = true then te σ2 H3 fun y H4 => ∃ acc, H4 D = some (.lst acc) ∧ acc.length < sizeLine ∧ Nx (upd H4 D (.lst (acc ++ [y]))) else Nx H3) := by
  refine lc_it w (fun i H' => Same H1 H' ∧ H' D = some (.lst ((List.range i).map f))) ⟨sm_new hD, upd_same⟩ (fun i H' _ h => hG H' h.1) (fun i x H' H'' hi h y => ?_) (fun H' h => hd H' h.1 h.2)
  obtain ⟨s1, eD⟩ := h
  refine hs i x H' H'' _ _ hi s1 y (fun H4 s4 => ?_)
  refine ⟨_, s4 _ _ eD, sz (by rw [List.length_map, List.length_range]; omega), sm_mut (s1.trans s4) hD, ?_⟩
  rw [upd_same, List.range_succ, List.map_append]
  rfl
/-- a comprehension of new lists -/
theorem lc_rows {J : It} {n : Nat} {G : Hp → Prop} {Y : Nat → Hp → V → Hp → Prop} (w : Walk J n G Y) {g : TG} {tt : TT} {te : TE} {vs : List Nat} {σ : L2.St} {H1 : Hp} {D : Addr} {Qd : Hp → Prop} (B : List Addr)
    (hD : H1 D = none) (hG : ∀ H', Same H1 H' → G H') (hn : n ≤ 100000) (e : Nat → List PyData)
    (hs : ∀ (i : Nat) (x : V) (H' H'' : Hp) (Ny : V → Hp → Prop) (Nn : Hp → Prop), i < n → Same H1 H' → Y i H' x H'' → (∀ r ws H4, Same H' H4 → H' r = none → H4 r = some (.lst ws) → DtA B H1 ws (e i) → Ny (.ref r) H4) →
      g x (wipe σ vs) H'' fun σ2 H2 => wipe σ2 vs = wipe σ vs ∧ tt σ2 H2 fun b H3 => if b = true then te σ2 H3 Ny else Nn H3)
    (hd : ∀ (H' : Hp) (rs : List Addr), Same H1 H' → H' D = some (.lst (rs.map V.ref)) → Rws B H1 H' D rs ((List.range n).map e) → Qd H') :
    ∃ W : Nat → Nat → Hp → Prop, (∃ m, W 0 m (upd H1 D (.lst []))) ∧ ∀ i m H, W i m H →
      (J.stop i H ∧ Qd H) ∨ (J.go i H ∧ ∃ Nx : Hp → Prop, (∀ H', Nx H' → ∃ m', m' < m ∧ W (i + 1) m' H') ∧ ∀ x H', J.yld i H x H' → g x (wipe σ vs) H' fun σ2 H2 => wipe σ2 vs = wipe σ vs ∧ tt σ2 H2 fun b H3 =>
        if b = true then te σ2 H3 fun y H4 => ∃ acc, H4 D = some (.lst acc) ∧ acc.length < sizeLine ∧ Nx (upd H4 D (.lst (acc ++ [y]))) else Nx H3) := by
  refine lc_it w (fun i H' => Same H1 H' ∧ ∃ rs, H' D = some (.lst (rs.map V.ref)) ∧ Rws B H1 H' D rs ((List.range i).map e)) ⟨sm_new hD, [], upd_same, ⟨rfl, List.nodup_nil, (fun h => nomatch h), (fun _ h => nomatch h), (fun i r ds h => by simp at h)⟩⟩ (fun i H' _ h => hG H' h.1) (fun i x H' H'' hi h y => ?_) (fun H' h => ?_)
  · obtain ⟨s1, rs, eD, R⟩ := h
    have hl : rs.length = i := by rw [R.len, List.length_map, List.length_range]
    refine hs i x H' H'' _ _ hi s1 y (fun r ws H4 s4 hr er ha => ?_)
    have nr : r ≠ D := fun z => by rw [z, eD] at hr; cases hr
    have nrs : r ∉ rs := fun z => by
      obtain ⟨j, hj, ej⟩ := List.getElem_of_mem z
      obtain ⟨ws', e', _⟩ := R.row j r (e j) (by rw [List.getElem?_eq_getElem hj, ej]) (by rw [List.getElem?_map, List.getElem?_range (by omega)]; rfl)
      rw [e'] at hr
      cases hr
    refine ⟨_, s4 _ _ eD, sz (by rw [List.length_map]; omega), sm_mut (s1.trans s4) hD, rs ++ [r], by rw [upd_same, List.map_append]; rfl, ?_⟩
    have R4 := (R.s s4).up (o := .lst (rs.map V.ref ++ [.ref r])) (R.nD)
    refine ⟨by simp [hl], ?_, ?_, fun z hz => ?_, fun j z ds h1 h2 => ?_⟩
    · rw [List.nodup_append]
      refine ⟨R.nd, by simp, fun a ha b hb => ?_⟩
      rw [List.mem_singleton.mp hb]
      exact fun q => nrs (by rw [← q]; exact ha)
    · intro q
      rcases List.mem_append.mp q with q | q
      · exact R.nD q
      · exact nr (List.mem_singleton.mp q).symm
    · rcases List.mem_append.mp hz with q | q
      · exact R.fr z q
      · rw [List.mem_singleton.mp q]
        exact s1.free hr
    · rw [List.getElem?_append] at h1
      rw [List.range_succ, List.map_append, List.getElem?_append, List.length_map, List.length_range] at h2
      by_cases c : j < rs.length
      · rw [if_pos c] at h1
        rw [if_pos (by omega)] at h2
        exact R4.row j z ds h1 h2
      · rw [if_neg c] at h1
        rw [if_neg (by omega)] at h2
        have j0 : j - rs.length = 0 := by
          cases q : j - rs.length with
          | zero => rfl
          | succ m => rw [q] at h1; simp at h1
        rw [j0] at h1
        rw [show j - i = 0 by omega] at h2
        cases h1
        cases h2
        refine ⟨ws, ?_, ha⟩
        rw [upd_ne nr]
        exact er
  · obtain ⟨s1, rs, eD, R⟩ := h
    exact hd H' rs s1 eD R
end Z

set_option Elab.async false
set_option linter.all false
set_option maxRecDepth 100000
set_option maxHeartbeats 400000
namespace Z
open PySem PySem.Spec PyProof.Rows L2
/-! ### a def that is called where nothing is being shown -/
structure FnG (P : Program) (w : World) (K : PySem.W.Frag) (mg : Str → Option Value) (base : Heap) (k : Nat) (f : Addr) (fd : FuncData) (ps : List Str) (sp : Sp) : Prop where
  run : ∀ (A : Around) (outer : List Env) (s : Shared) (H : Hp) (args : Args) (us : List Value) (vs : List V) (Q : VK) (E : XK), A.guards = some [] → Room k A → Env0 P w K mg base A outer s H → BindsTo s fd args (ps.zip us) → Vals vs us → sp vs H Q E → codeAny (model P w) A (Code.call (Value.ref f) args) (CR CX0 outer P w H s Q E) s
theorem fn_g {P : Program} {w : World} {K : PySem.W.Frag} {mg : Str → Option Value} {base : Heap} {x qual : Str} {st : Stmt} {f : Addr} {fd : FuncData} {N ps : List Str} {k : Nat} {sp : Sp} (F : Fun K x qual st f fd) (S : FnScope N ps (defScope st))
    (len : ∀ (vs : List V) (H : Hp) (Q : VK) (E : XK), sp vs H Q E → vs.length = ps.length)
    (hbody : ∀ (cdv : Value) (A : Around) (outer : List Env) (s : Shared) (H : Hp) (vs : List V) (Q : VK) (E : XK), A.guards = some [] → Room k (A.deeper (envOfC qual (defScope st) s.heap.objs.size f cdv)) → sp vs H Q E →
      ∃ t, PSs (cxOf CX0 P w K mg base N qual (defScope st) f cdv A outer s H E).nox (defBody st) t ∧ t { nx := fun _ H' => Q V.non H', rt := Q } (L2.start N vs) H) : FnG P w K mg base (k + 1) f fd ps sp := by
  obtain ⟨oc, od, kV, doc, pm, an, cdv, ct, osl, rfl, lk, hcd⟩ := F.ex
  refine ⟨fun A outer s H args us vs Q E hA hr e0 hb r hsp => ?_⟩
  have hl := len vs H Q E hsp
  have KX := PySem.W.Frag.In.keeps e0.mod.kin fun b o e => (e0.bs b o e).left
  have lim := Heap.NoLimit.keeps e0.mod.nolimit fun b o e => (e0.bs b o e).left
  refine codeAny_call_function (Room.depth hr) (KX f _ lk) rfl S.co S.gen rfl (PySem.W.codeRec_of KX hcd) (hb (model P w) A.in1 (fun e s' => CR CX0 outer P w H s Q E (Except.error e) s') _ (wpAny_newFunctionEnv_cells S.kind ?hk fun env he s1 x => ?_))
  case hk =>
    rintro ⟨n, v⟩ hy
    rcases S.par n (List.of_mem_zip hy).left with q | q
    · exact Or.inl q
    · exact Or.inr ⟨q, PySem.W.cellsFrom_some (defScope st).names (s.heap.objs.size + 1) [] (Or.inl q)⟩
  subst he
  refine ⟨Heap.NoLimit.keeps lim x.toInCall.keep, codeAny_func ?_⟩
  obtain ⟨t, ht, hq⟩ := hbody cdv A outer s H vs Q E hA (Room.deeper hr (envOfC qual (defScope st) s.heap.objs.size f cdv)) hsp
  have I := inv_start (CX := CX0) (E := E) S hr.hd e0 hl r x
  refine wpAny_mono ((PSs.nox ht).run [] s1 (L2.start N vs) H { nx := fun _ H' => Q V.non H', rt := Q } I hq) (fun fl s' hs => ?_) (fun e s' hs => hs)
  cases fl with
  | next =>
    obtain ⟨σ', H', J, q⟩ := hs
    exact ⟨V.non, H', J.os, J.bare, J.base, J.hok, rfl, q⟩
  | brk =>
    obtain ⟨_, _, _, q⟩ := hs
    exact q.elim
  | cont =>
    obtain ⟨_, _, _, q⟩ := hs
    exact q.elim
  | ret u =>
    obtain ⟨v, σ', H', J, rv, q⟩ := hs
    exact ⟨v, H', J.os, J.bare, J.base, J.hok, rv, q⟩
theorem law_call2 {P : Program} {w : World} {K : PySem.W.Frag} {mg mb : Str → Option Value} {k : Nat} {fa a : Addr} {fd : FuncData} {x : Str} {sp : Sp} {s₁ : Shared} {vs : List Value} {ns : List Int} (KX : K.In s₁.heap) (hns : s₁.heap.Ns mainGlobals mg) (hb : s₁.heap.Ns builtinsNs mb)
    (hbb : ∀ x : Str, x ≠ Str.ofString "__name__" → mb x = bootBuiltins x) (hlim : s₁.heap.NoLimit) (hg : s₁.gens = #[]) (ha : s₁.heap.get? a = some { cls := Value.type "list", data := Data.seq vs.toArray }) (hi : IntsAre vs ns) (hl : ns.length ≤ sizeLine) (hr : Room k callerA)
    (F : ∀ base : Heap, K.In base → base.Ns mainGlobals mg → FnG P w K mg base k fa fd [x] sp) (hbind : ∀ (s : Shared) (u : Value), BindsTo s fd { pos := [u] } [(x, u)])
    (hsp : ∀ H : Hp, Only H → SqL K H a (ns.map V.int) → sp [V.ref a] H (fun v _ => v = V.bl true) fun _ _ _ => False) :
    codeAny (model P w) callerA (Code.call (Value.ref fa) { pos := [Value.ref a] }) (fun r s' => r = Except.ok (Flow.ret (Value.bool true)) ∧ OldK s₁.heap s'.heap ∧ s'.os = s₁.os ∧ AllBare s'.gens) s₁ := by
  have rv := vals_ints hi
  have lenV := hi.length
  have core : ∀ H : Hp, Only H → SqL K H a (ns.map V.int) → HOk P w H s₁.heap → (∀ b, H b ≠ none → b = a) → (H a ≠ none → List.lookup a K = none) →
      codeAny (model P w) callerA (Code.call (Value.ref fa) { pos := [Value.ref a] }) (fun r s' => r = Except.ok (Flow.ret (Value.bool true)) ∧ OldK s₁.heap s'.heap ∧ s'.os = s₁.os ∧ AllBare s'.gens) s₁ := by
    intro H hO hS hok hA hK
    have noA : ∀ {b : Addr} {o : Obj} {es ep}, s₁.heap.get? b = some o → o.data = Data.dict es ep → H b = none := by
      intro b o es ep e d
      cases q : H b with
      | none => rfl
      | some u =>
        have e' := hA b (by rw [q]; exact fun z => nomatch z)
        subst e'
        rw [ha] at e
        cases e
        cases d
    have nsK : ∀ {b : Addr} {m : Str → Option Value}, s₁.heap.Ns b m → (hidT s₁.heap H).Ns b m := by
      rintro b m ⟨o, es, ep, e, d, r⟩
      exact ⟨o, es, ep, hidT_get e (noA e d), d, r⟩
    have hKb : K.In (hidT s₁.heap H) := by
      intro b o e
      refine hidT_get (KX b o e) ?_
      cases q : H b with
      | none => rfl
      | some u =>
        have e' := hA b (by rw [q]; exact fun z => nomatch z)
        subst e'
        rw [hK (by rw [q]; exact fun z => nomatch z)] at e
        cases e
    have hM : L2.Mod K mg (hidT s₁.heap H) := ⟨hKb, nsK hns, ⟨mb, nsK hb, hbb⟩, by
      obtain ⟨mc, h1, h2⟩ := hlim
      exact ⟨mc, nsK h1, h2⟩⟩
    have e0 : Env0 P w K mg (hidT s₁.heap H) callerA [] s₁ H := ⟨rfl, hM, fun b o e => of_hidT e, Nat.le_of_eq (hidT_size s₁.heap H), trivial, fun b hb => absurd (show b ∈ ([] : List Addr) from hb) (by simp), hok, AllBare.of_eq hg⟩
    refine codeAny_mono ((F _ hKb (nsK hns)).run callerA [] s₁ H { pos := [Value.ref a] } [Value.ref a] [V.ref a] (fun v _ => v = V.bl true) (fun _ _ _ => False) rfl hr e0 (hbind s₁ (Value.ref a)) (Paired.cons rfl Paired.nil) (hsp H hO hS)) fun r s' h => ?_
    cases r with
    | error e => exact False.elim h
    | ok fl =>
      cases fl with
      | next => exact False.elim h
      | brk => exact False.elim h
      | cont => exact False.elim h
      | ret u =>
        obtain ⟨v, H', os, bare, un, hok', r', q⟩ := h
        subst q
        have eu : u = Value.bool true := r'
        subst eu
        refine ⟨rfl, OldK.of_keep fun b o e => ?_, os, bare⟩
        cases q : H b with
        | none => exact un.keep b o e q (fun z => absurd (show b ∈ ([] : List Addr) from z) (by simp)) (by simp)
        | some u =>
          rcases hO b with z | ⟨ob, xs, z⟩
          · rw [q] at z
            cases z
          · have z2 := un.frzs b ob (HO.lst xs) z
            obtain ⟨e1, _⟩ := hok b (HO.frz ob (HO.lst xs)) z
            obtain ⟨e2, _⟩ := hok' b (HO.frz ob (HO.lst xs)) z2
            rw [e] at e1
            cases e1
            exact e2
  cases hk : List.lookup a K with
  | none =>
    refine core (fun b => if b = a then some (HO.frz { cls := Value.type "list", data := Data.seq vs.toArray } (HO.lst (ns.map V.int))) else none) (fun b => ?_) (Or.inl (Or.inr ⟨_, if_pos rfl⟩)) (fun b u z => ?_) (fun b z => ?_) (fun _ => hk)
    · by_cases hb : b = a
      · exact .inr ⟨_, _, if_pos hb⟩
      · exact .inl (if_neg hb)
    · by_cases hb : b = a
      · have z' := (if_pos hb).symm.trans z
        cases z'
        subst hb
        exact ⟨ha, by rw [List.length_map]; exact hl, vs, 0, rv, ha⟩
      · have z' := (if_neg hb).symm.trans z
        cases z'
    · by_cases hb : b = a
      · exact hb
      · exact absurd (if_neg hb) z
  | some o =>
    have e := KX a o hk
    rw [ha] at e
    cases e
    refine core (fun _ => none) (fun _ => .inl rfl) (Or.inr ⟨_, vs.toArray, 0, hk, rfl, rfl, rfl, by rw [List.size_toArray, lenV]; exact hl, rv⟩) (fun b u z => ?_) (fun b z => absurd rfl z) (fun z => absurd rfl z)
    cases z
theorem walk_of2 {l : PySem.W.OpenLaw} {n k : Nat} {q : Program} {loose : List Str} {XP : (Str → Option Value) → Heap → Prop} {YP : World → Heap → Prop} {d : DefRec} {K : Params → PySem.W.Frag} {sp : World → Sp} {x : Str} (hn : l.most = some n) (hn2 : n ≤ sizeLine) (hdf : d.params.defaults = []) (hr : Room k callerA)
    (hY : ∀ (w : World) (h : Heap), YP w h → (K w.params).In h)
    (F : ∀ (w : World) (mg : Str → Option Value) (fa : Addr) (h : Heap), (K w.params).In h → h.Ns mainGlobals mg → mg d.name = some (Value.ref fa) → ∃ fd, (∀ (s : Shared) (u : Value), BindsTo s fd { pos := [u] } [(x, u)]) ∧ ∀ base : Heap, (K w.params).In base → base.Ns mainGlobals mg → FnG l.prog w (K w.params) mg base k fa fd [x] (sp w))
    (hsp : ∀ (w : World) (H : Hp) (a : Addr) (ns : List Int), ns.length ≤ n → Only H → SqL (K w.params) H a (ns.map V.int) → sp w [V.ref a] H (fun v _ => v = V.bl true) fun _ _ _ => False) :
    PySem.W.WalkO q loose XP YP l.row.toRowW d [] fun f vs => call f vs :=
  Att.attach_call hn hdf fun w s₀ s₁ mg mb fa o pm cd doc a vs ns G Y ho hd hcd hmg hobj hints hlen hg => by
    have KX := hY w s₁.heap Y
    obtain ⟨fd, hb, hF⟩ := F w mg fa s₁.heap KX G.T.g hmg
    exact law_call2 KX G.T.g G.T.b G.T.builtins G.T.nolimit hg hobj hints (Nat.le_trans hlen hn2) hr hF hb (fun H hO hS => hsp w H a ns hlen hO hS)
/-! ### str of data -/
def rStrD (K : PySem.W.Frag) : List V → Hp → VK → Prop := fun xs H Q => ∃ (a : Addr) (d : PyData), xs = [.ref a] ∧ Dp K H (.ref a) d ∧ d.showable = true ∧ d.hasDict = false ∧ d.depth ≤ 40 ∧ d.shown.length ≤ sizeLine ∧ Q (.str d.shown) H
theorem cr_strD (K : PySem.W.Frag) {X : Cx} (hg : X.A.guards = some []) (hu : X.A.units + 64 < cLine) (hK : X.K = K := by rfl) : CallR X (.type "str") (rStrD K) := by
  subst hK
  intro pins s σ H xs us Q I r h
  obtain ⟨a, d, rfl, hd, h1, h2, h3, h4, q⟩ := h
  obtain ⟨u, rfl, ru⟩ := vals1 r
  have ru2 := ru
  obtain rfl : u = Value.ref a := ru
  obtain ⟨as, hr⟩ := Dp.reads I d _ _ hd ru2
  exact str_of_reads hr h1 (fun z => by rw [h2] at z; cases z) hg (by omega) (fun _ _ e => e) (fun h' u tk hk => ⟨.str d.shown, H, I.kept hk, ⟨u, rfl⟩, q⟩) h4
/-! ### how long a text is -/
structure Shw (d : PyData) (n : Nat) : Prop where
  a : d.showable = true
  b : d.hasDict = false
  c : d.shown.length ≤ n
theorem Shw.mono {d : PyData} {n m : Nat} (h : Shw d n) (l : n ≤ m) : Shw d m := ⟨h.a, h.b, Nat.le_trans h.c l⟩
theorem shw_all {n : Nat} : ∀ {ds : List PyData}, (∀ d ∈ ds, Shw d n) → PyData.showableAll ds = true ∧ PyData.hasDictAll ds = false ∧ ((PyData.shownAll ds).map (fun x => x.length)).sum ≤ n * ds.length ∧ (PyData.shownAll ds).length = ds.length
  | [], _ => ⟨by rw [PyData.showableAll], by rw [PyData.hasDictAll], by rw [PyData.shownAll]; simp, by rw [PyData.shownAll]; rfl⟩
  | d :: ds, h => by
    obtain ⟨h1, h2, h3, h4⟩ := shw_all (ds := ds) (n := n) fun x hx => h x (List.mem_cons_of_mem _ hx)
    have h0 := h d (List.mem_cons_self ..)
    refine ⟨?_, ?_, ?_, ?_⟩
    · rw [PyData.showableAll, h1, h0.a]; rfl
    · rw [PyData.hasDictAll, h2, h0.b]; rfl
    · rw [PyData.shownAll, List.map_cons, List.sum_cons, List.length_cons, Nat.mul_succ]
      have := h0.c
      omega
    · rw [PyData.shownAll, List.length_cons, List.length_cons, h4]
theorem shw_lst {ds : List PyData} {n : Nat} (h : ∀ d ∈ ds, Shw d n) : Shw (.list ds) (n * ds.length + 2 * ds.length + 3) := by
  obtain ⟨h1, h2, h3, h4⟩ := shw_all h
  refine ⟨by rw [PyData.showable]; exact h1, by rw [PyData.hasDict]; exact h2, ?_⟩
  rw [PyData.shown]
  have := listText_len_le (PyData.shownAll ds)
  rw [h4] at this
  omega
theorem shw_tup {ds : List PyData} {n : Nat} (h : ∀ d ∈ ds, Shw d n) : Shw (.tuple ds) (n * ds.length + 2 * ds.length + 3) := by
  obtain ⟨h1, h2, h3, h4⟩ := shw_all h
  refine ⟨by rw [PyData.showable]; exact h1, by rw [PyData.hasDict]; exact h2, ?_⟩
  rw [PyData.shown]
  have := tupleText_len_le (PyData.shownAll ds)
  rw [h4] at this
  omega
theorem shw_int {i : Int} (h : i.natAbs < 2 ^ 40) : Shw (.int i) 60 := by
  refine ⟨?_, by rw [PyData.hasDict], ?_⟩
  · rw [PyData.showable]
    refine decide_eq_true ?_
    rcases Nat.eq_zero_or_pos i.natAbs with z | z
    · rw [z]; decide
    · have := (Nat.log2_lt (by omega)).mpr h
      omega
  · rw [PyData.shown]
    have h2 := nat_repr_length_le (n := i.natAbs) (k := 40) (by decide) h
    rw [PySem.ofString_length]
    cases i with
    | ofNat m =>
      have e : toString (Int.ofNat m) = m.repr := rfl
      rw [e]
      have e : (Int.ofNat m).natAbs = m := rfl
      rw [e] at h2
      omega
    | negSucc m =>
      have e : toString (Int.negSucc m) = "-" ++ (m + 1).repr := rfl
      rw [e, String.length_append]
      have e : (Int.negSucc m).natAbs = m + 1 := rfl
      rw [e] at h2
      have : "-".length = 1 := rfl
      omega
theorem shw_eC {ns : List Int} (h : cIn (-1000000000) 1000000000 ns) (l : ns.length ≤ 10) : Shw (eC ns) 700 := by
  refine (shw_tup (n := 60) fun d hd => ?_).mono (by rw [List.length_map]; omega)
  obtain ⟨x, hx, rfl⟩ := List.mem_map.mp hd
  have := h x hx
  exact shw_int (by omega)
theorem shw_eI {ns : List Int} (h : cIn (-1000000000) 1000000000 ns) (l : ns.length ≤ 100) : Shw (eI ns) 7000 := by
  refine (shw_lst (n := 60) fun d hd => ?_).mono (by rw [List.length_map]; omega)
  obtain ⟨x, hx, rfl⟩ := List.mem_map.mp hd
  have := h x hx
  exact shw_int (by omega)
theorem shw_eP {cs : List (List Int)} (h : ∀ c ∈ cs, c.length ≤ 10 ∧ cIn (-1000000000) 1000000000 c) (l : cs.length ≤ 100) : Shw (eP cs) 71000 := by
  refine (shw_lst (n := 700) fun d hd => ?_).mono (by rw [List.length_map]; omega)
  obtain ⟨x, hx, rfl⟩ := List.mem_map.mp hd
  exact shw_eC (h x hx).2 (h x hx).1
theorem shw_eG {ps : List (List (List Int))} (h : ∀ p ∈ ps, p.length ≤ 100 ∧ ∀ c ∈ p, c.length ≤ 10 ∧ cIn (-1000000000) 1000000000 c) (l : ps.length ≤ 50) : Shw (eG ps) 4000000 := by
  refine (shw_lst (n := 71000) fun d hd => ?_).mono (by rw [List.length_map]; omega)
  obtain ⟨x, hx, rfl⟩ := List.mem_map.mp hd
  exact shw_eP (h x hx).2 (h x hx).1
end Z

set_option Elab.async false
set_option linter.all false
set_option maxRecDepth 100000
namespace Z
open PySem PySem.Spec PyProof.Rows L2
def topS (i : Nat) : Stmt := PySem.Challenge.pw_fewcolours_k29_numbers_by.main.body.getD i (.Pass ⟨0, 0, 0, 0⟩)
abbrev s_apart : Stmt := topS 1
abbrev N_apart : List Str := ["one", "other", "a", "b"]
theorem sc_apart : FnScope N_apart ["one", "other"] (defScope s_apart) := ⟨rfl, rfl, rfl, by decide +kernel, rfl, by decide +kernel, by decide +kernel⟩
abbrev s_nearest : Stmt := topS 3
abbrev N_nearest : List Str := ["palette", "colour", "squares", "one"]
theorem sc_nearest : FnScope N_nearest ["palette", "colour"] (defScope s_nearest) := ⟨rfl, rfl, rfl, by decide +kernel, rfl, by decide +kernel, by decide +kernel⟩
abbrev s_numbers_by : Stmt := topS 5
abbrev N_numbers_by : List Str := ["picture", "palette", "row", "colour"]
theorem sc_numbers_by : FnScope N_numbers_by ["picture", "palette"] (defScope s_numbers_by) := ⟨rfl, rfl, rfl, by decide +kernel, rfl, by decide +kernel, by decide +kernel⟩
abbrev s_l_mix : Stmt := topS 7
abbrev N_l_mix : List Str := ["_law_cell", "_law_k", "_law_m"]
theorem sc_l_mix : FnScope N_l_mix ["_law_cell", "_law_k"] (defScope s_l_mix) := ⟨rfl, rfl, rfl, by decide +kernel, rfl, by decide +kernel, by decide +kernel⟩
abbrev s_l_left : Stmt := topS 8
abbrev N_l_left : List Str := ["_law_script", "_law_k", "_law_cell"]
theorem sc_l_left : FnScope N_l_left ["_law_script", "_law_k"] (defScope s_l_left) := ⟨rfl, rfl, rfl, by decide +kernel, rfl, by decide +kernel, by decide +kernel⟩
abbrev s_l_pick : Stmt := topS 9
abbrev N_l_pick : List Str := ["_law_left_here", "_law_many", "_law_digit"]
theorem sc_l_pick : FnScope N_l_pick ["_law_left_here", "_law_many"] (defScope s_l_pick) := ⟨rfl, rfl, rfl, by decide +kernel, rfl, by decide +kernel, by decide +kernel⟩
abbrev s_l_kind : Stmt := topS 10
abbrev N_l_kind : List Str := ["_law_left_here"]
theorem sc_l_kind : FnScope N_l_kind ["_law_left_here"] (defScope s_l_kind) := ⟨rfl, rfl, rfl, by decide +kernel, rfl, by decide +kernel, by decide +kernel⟩
abbrev s_l_colour : Stmt := topS 11
abbrev N_l_colour : List Str := ["_law_left_here", "_law_kind_here", "_law_wide", "_law_span", "_law_place"]
theorem sc_l_colour : FnScope N_l_colour ["_law_left_here", "_law_kind_here"] (defScope s_l_colour) := ⟨rfl, rfl, rfl, by decide +kernel, rfl, by decide +kernel, by decide +kernel⟩
abbrev s_l_palette : Stmt := topS 12
abbrev N_l_palette : List Str := ["_law_left_here", "_law_kind_here", "_law_many", "_law_found", "_law_k", "_law_colour_here"]
theorem sc_l_palette : FnScope N_l_palette ["_law_left_here", "_law_kind_here"] (defScope s_l_palette) := ⟨rfl, rfl, rfl, by decide +kernel, rfl, by decide +kernel, by decide +kernel⟩
abbrev s_l_picture : Stmt := topS 13
abbrev N_l_picture : List Str := ["_law_left_here", "_law_kind_here", "_law_high", "_law_wide", "_law_some", "_law_found", "_law_row", "_law_spots", "_law_column", "_law_colour_here", "_law_side", "_law_k"]
theorem sc_l_picture : FnScope N_l_picture ["_law_left_here", "_law_kind_here"] (defScope s_l_picture) := ⟨rfl, rfl, rfl, by decide +kernel, rfl, by decide +kernel, by decide +kernel⟩
abbrev s_l_apart : Stmt := topS 14
abbrev N_l_apart : List Str := ["_law_one", "_law_other", "_law_a", "_law_b"]
theorem sc_l_apart : FnScope N_l_apart ["_law_one", "_law_other"] (defScope s_l_apart) := ⟨rfl, rfl, rfl, by decide +kernel, rfl, by decide +kernel, by decide +kernel⟩
abbrev s_l_nearest : Stmt := topS 15
abbrev N_l_nearest : List Str := ["_law_palette_here", "_law_colour_here", "_law_k", "_law_one"]
theorem sc_l_nearest : FnScope N_l_nearest ["_law_palette_here", "_law_colour_here"] (defScope s_l_nearest) := ⟨rfl, rfl, rfl, by decide +kernel, rfl, by decide +kernel, by decide +kernel⟩
abbrev s_l_same : Stmt := topS 16
abbrev N_l_same : List Str := ["_law_found", "_law_due_here", "_law_one", "_law_other"]
theorem sc_l_same : FnScope N_l_same ["_law_found", "_law_due_here"] (defScope s_l_same) := ⟨rfl, rfl, rfl, by decide +kernel, rfl, by decide +kernel, by decide +kernel⟩
abbrev s_l_due : Stmt := topS 17
abbrev N_l_due : List Str := ["_law_picture_here", "_law_palette_here", "_law_row", "_law_colour_here"]
theorem sc_l_due : FnScope N_l_due ["_law_picture_here", "_law_palette_here"] (defScope s_l_due) := ⟨rfl, rfl, rfl, by decide +kernel, rfl, by decide +kernel, by decide +kernel⟩
abbrev s_law : Stmt := topS 18
abbrev N_law : List Str := ["_law_script", "_law_k", "_law_left_here", "_law_kind_here", "_law_picture_here", "_law_palette_here", "_law_other", "_law_kept", "_law_some", "_law_found", "_law_due_here", "_law_colour_here"]
theorem sc_law : FnScope N_law ["_law_script"] (defScope s_law) := ⟨rfl, rfl, rfl, by decide +kernel, rfl, by decide +kernel, by decide +kernel⟩
structure Tx (K : PySem.W.Frag) (mg : Str → Option Value) where
  f_apart : Addr
  d_apart : FuncData
  F_apart : Fun K "apart" "apart" s_apart f_apart d_apart
  b_apart : Binds K d_apart ["one", "other"] []
  g_apart : mg "apart" = some (.ref f_apart)
  f_nearest : Addr
  d_nearest : FuncData
  F_nearest : Fun K "nearest" "nearest" s_nearest f_nearest d_nearest
  b_nearest : Binds K d_nearest ["palette", "colour"] []
  g_nearest : mg "nearest" = some (.ref f_nearest)
  f_numbers_by : Addr
  d_numbers_by : FuncData
  F_numbers_by : Fun K "numbers_by" "numbers_by" s_numbers_by f_numbers_by d_numbers_by
  b_numbers_by : Binds K d_numbers_by ["picture", "palette"] []
  g_numbers_by : mg "numbers_by" = some (.ref f_numbers_by)
  f_l_mix : Addr
  d_l_mix : FuncData
  F_l_mix : Fun K "_law_mix" "_law_mix" s_l_mix f_l_mix d_l_mix
  b_l_mix : Binds K d_l_mix ["_law_cell", "_law_k"] []
  g_l_mix : mg "_law_mix" = some (.ref f_l_mix)
  f_l_left : Addr
  d_l_left : FuncData
  F_l_left : Fun K "_law_left" "_law_left" s_l_left f_l_left d_l_left
  b_l_left : Binds K d_l_left ["_law_script", "_law_k"] []
  g_l_left : mg "_law_left" = some (.ref f_l_left)
  f_l_pick : Addr
  d_l_pick : FuncData
  F_l_pick : Fun K "_law_pick" "_law_pick" s_l_pick f_l_pick d_l_pick
  b_l_pick : Binds K d_l_pick ["_law_left_here", "_law_many"] []
  g_l_pick : mg "_law_pick" = some (.ref f_l_pick)
  f_l_kind : Addr
  d_l_kind : FuncData
  F_l_kind : Fun K "_law_kind" "_law_kind" s_l_kind f_l_kind d_l_kind
  b_l_kind : Binds K d_l_kind ["_law_left_here"] []
  g_l_kind : mg "_law_kind" = some (.ref f_l_kind)
  f_l_colour : Addr
  d_l_colour : FuncData
  F_l_colour : Fun K "_law_colour" "_law_colour" s_l_colour f_l_colour d_l_colour
  b_l_colour : Binds K d_l_colour ["_law_left_here", "_law_kind_here"] []
  g_l_colour : mg "_law_colour" = some (.ref f_l_colour)
  f_l_palette : Addr
  d_l_palette : FuncData
  F_l_palette : Fun K "_law_palette" "_law_palette" s_l_palette f_l_palette d_l_palette
  b_l_palette : Binds K d_l_palette ["_law_left_here", "_law_kind_here"] []
  g_l_palette : mg "_law_palette" = some (.ref f_l_palette)
  f_l_picture : Addr
  d_l_picture : FuncData
  F_l_picture : Fun K "_law_picture" "_law_picture" s_l_picture f_l_picture d_l_picture
  b_l_picture : Binds K d_l_picture ["_law_left_here", "_law_kind_here"] []
  g_l_picture : mg "_law_picture" = some (.ref f_l_picture)
  f_l_apart : Addr
  d_l_apart : FuncData
  F_l_apart : Fun K "_law_apart" "_law_apart" s_l_apart f_l_apart d_l_apart
  b_l_apart : Binds K d_l_apart ["_law_one", "_law_other"] []
  g_l_apart : mg "_law_apart" = some (.ref f_l_apart)
  f_l_nearest : Addr
  d_l_nearest : FuncData
  F_l_nearest : Fun K "_law_nearest" "_law_nearest" s_l_nearest f_l_nearest d_l_nearest
  b_l_nearest : Binds K d_l_nearest ["_law_palette_here", "_law_colour_here"] []
  g_l_nearest : mg "_law_nearest" = some (.ref f_l_nearest)
  f_l_same : Addr
  d_l_same : FuncData
  F_l_same : Fun K "_law_same" "_law_same" s_l_same f_l_same d_l_same
  b_l_same : Binds K d_l_same ["_law_found", "_law_due_here"] []
  g_l_same : mg "_law_same" = some (.ref f_l_same)
  f_l_due : Addr
  d_l_due : FuncData
  F_l_due : Fun K "_law_due" "_law_due" s_l_due f_l_due d_l_due
  b_l_due : Binds K d_l_due ["_law_picture_here", "_law_palette_here"] []
  g_l_due : mg "_law_due" = some (.ref f_l_due)
  z_abs : mg "abs" = none
  z_all : mg "all" = none
  z_bool : mg "bool" = none
  z_enumerate : mg "enumerate" = none
  z_int : mg "int" = none
  z_isinstance : mg "isinstance" = none
  z_len : mg "len" = none
  z_list : mg "list" = none
  z_min : mg "min" = none
  z_range : mg "range" = none
  z_str : mg "str" = none
  z_sum : mg "sum" = none
  z_tuple : mg "tuple" = none
  z_zip : mg "zip" = none
section
variable {P : Program} {w : World} {K : PySem.W.Frag} {mg : Str → Option Value} {base : Heap}
/-! ### mix -/
def spMix : Sp := fun vs H Q _ => ∃ c n : Int, vs = [.int c, .int n] ∧ 0 ≤ n ∧ n < 2000000000 ∧ ∀ r : Int, 0 ≤ r → r < 1999999973 → Q (.int r) H
theorem ok_l_mix (T : Tx K mg) {k : Nat} : FnOk P w K mg base CX0 (k + 1) T.f_l_mix T.d_l_mix ["_law_cell", "_law_k"] spMix := by
  refine T.F_l_mix.ok sc_l_mix (fun vs H Q E h => ?_) (fun cdv A outer s H vs Q E hr h => ?_)
  · obtain ⟨c, n, rfl, _⟩ := h
    rfl
  · obtain ⟨c, n, rfl, h1, h2, q⟩ := h
    refine ⟨_, (pss_cons (ps_set (i := 2) sc_l_mix.nd rfl (.inl rfl) (pe_op op_mod (pe_op op_mul (pe_op op_add (pe_op op_add (pe_op op_mod (pv 0) pe_int) (pe_op op_mul (pe_op op_mul (pv 1) (pv 1)) pe_int)) pe_int) pe_int) pe_int))
      (pss_one (ps_ret (pe_op op_mod (pe_op op_mul (pv 2) (pv 2)) pe_int)))), ?_⟩
    refine ⟨.int c, rfl, _, _, rfl, rfl, md (by decide), .int n, rfl, .int n, rfl, _, _, rfl, rfl, .inl ⟨by omega, by omega⟩, _, _, rfl, rfl, .inr ⟨by decide, by decide⟩, _, _, rfl, rfl, _, _, rfl, rfl, _, _, rfl, rfl, .inr ⟨by decide, by decide⟩, _, _, rfl, rfl, md (by decide), ?_⟩
    refine ⟨_, rfl, _, rfl, _, _, rfl, rfl, .inl ⟨?_, ?_⟩, _, _, rfl, rfl, md (by decide), ?_⟩
    · omega
    · omega
    · exact q _ (Int.emod_nonneg _ (by decide)) (Int.emod_lt_of_pos _ (by decide))
/-! ### left -/
def spLeft (K : PySem.W.Frag) : Sp := fun vs H Q _ => ∃ (a : Addr) (ns : List Int) (n : Int), vs = [.ref a, .int n] ∧ SqL K H a (ns.map V.int) ∧ 0 ≤ n ∧ ∀ (p : Addr) (x y : Int), H p = none → 0 ≤ x → Q (.ref p) (upd H p (.lst [.int x, .int y, .int 0]))
theorem left_end {c n : Int} {H : Hp} {Q : VK} (q : ∀ (p : Addr) (x y : Int), H p = none → 0 ≤ x → Q (.ref p) (upd H p (.lst [.int x, .int y, .int 0]))) (p : Addr) (hp : H p = none) (b : Bool) :
    Q (.ref p) (upd H p (.lst [.int ((if c < 0 then -c else c) * (if b = true then 1 else 0)), .int (c + 1000003 * n), .int 0])) := by
  refine q p _ _ hp ?_
  cases b <;> simp <;> split <;> omega
theorem ok_l_left (T : Tx K mg) {k : Nat} : FnOk P w K mg base CX0 (k + 1) T.f_l_left T.d_l_left ["_law_script", "_law_k"] (spLeft K) := by
  refine T.F_l_left.ok sc_l_left (fun vs H Q E h => ?_) (fun cdv A outer s H vs Q E hr h => ?_)
  · obtain ⟨a, ns, n, rfl, _⟩ := h
    rfl
  · obtain ⟨a, ns, n, rfl, hS, h1, q⟩ := h
    refine ⟨_, (pss_cons (ps_set (i := 2) sc_l_left.nd rfl (.inl rfl) (pe_ifExp (pt_cmpR op_lt (pv 1) (pe_callB (len_K K) (by rfl) T.z_len PySem.boot_len (pa_cons (pv 0) pa_nil)) (nomark _)) (pe_ix (ix_listK K) (pv 0) (pv 1) (fun _ _ => rfl)) pe_int))
      (pss_one (ps_ret (pe_lst (pa_cons (pe_op op_mul (pe_callB call_abs (by rfl) T.z_abs (by decide +kernel) (pa_cons (pv 2) pa_nil)) (pe_callTy call_int1 (by rfl) T.z_int (by decide +kernel) (pa_cons (pe_cmpR op_ge (pe_callB call_abs (by rfl) T.z_abs (by decide +kernel) (pa_cons (pv 2) pa_nil)) (pe_op op_pow pe_int pe_int) (nomark _)) pa_nil))) (pa_cons (pe_op op_add (pv 2) (pe_op op_mul pe_int (pv 1))) (pa_cons pe_int pa_nil))))))), ?_⟩
    refine ⟨_, rfl, _, rfl, a, _, rfl, .inl hS, _, _, rfl, rfl, _, rfl, ite2 (fun e => ?_) (fun e => ?_)⟩
    · have e1 : n < (ns.map V.int).length := of_decide_eq_true e
      rw [List.length_map] at e1
      have g : atI (ns.map V.int) n = some (.int (ns[n.toNat]'(by omega))) := at0 h1 (by rw [List.getElem?_map, List.getElem?_eq_getElem]; rfl)
      refine ⟨_, rfl, _, rfl, a, _, _, _, rfl, rfl, hS, g, ?_⟩
      exact ⟨_, rfl, _, rfl, _, rfl, _, rfl, _, _, rfl, rfl, ⟨by decide, by decide, by decide⟩, _, _, rfl, rfl, .inr ⟨_, rfl, _, _, rfl, rfl, .inr (bit_ok _), _, rfl, _, rfl, _, _, rfl, rfl, .inl ⟨by decide, by decide⟩, _, _, rfl, rfl, (by show 3 ≤ sizeLine; decide), fun p hp => left_end q p hp _⟩⟩
    · exact ⟨_, rfl, _, rfl, _, rfl, _, rfl, _, _, rfl, rfl, ⟨by decide, by decide, by decide⟩, _, _, rfl, rfl, .inr ⟨_, rfl, _, _, rfl, rfl, .inr (bit_ok _), _, rfl, _, rfl, _, _, rfl, rfl, .inl ⟨by decide, by decide⟩, _, _, rfl, rfl, (by show 3 ≤ sizeLine; decide), fun p hp => left_end q p hp _⟩⟩
/-! ### pick -/
def spPick : Sp := fun vs H Q _ => ∃ (L : Addr) (m : Int) (n : Nat), vs = [.ref L, .int m] ∧ Lf L H n ∧ n < 1000000000 ∧ 0 < m ∧ m < 1073741824 ∧ ∀ (r : Int) (H' : Hp), Go [L] H H' → Lf L H' (n + 1) → 0 ≤ r → r < m → Q (.int r) H'
theorem ok_l_pick (T : Tx K mg) {k : Nat} : FnOk P w K mg base CX0 (k + 2) T.f_l_pick T.d_l_pick ["_law_left_here", "_law_many"] spPick := by
  refine T.F_l_pick.ok sc_l_pick (fun vs H Q E h => ?_) (fun cdv A outer s H vs Q E hr h => ?_)
  · obtain ⟨L, m, n, rfl, _⟩ := h
    rfl
  · obtain ⟨L, m, n, rfl, ⟨a, b, c, hL, a0, c0, cn⟩, hn, m0, m1, q⟩ := h
    refine ⟨_, (pss_cons (ps_asg (pe_op op_add (pe_ix (ix_listK K) (pv 0) pe_int (fun _ _ => rfl)) pe_int) (pg_sub (pv 0) pe_int set_list))
      (pss_cons (ps_if (pt_cmpR op_gt (pe_ix (ix_listK K) (pv 0) pe_int (fun _ _ => rfl)) pe_int (nomark _)) (pss_cons (ps_set (i := 2) sc_l_pick.nd rfl (.inl rfl) (pe_op op_mod (pe_ix (ix_listK K) (pv 0) pe_int (fun _ _ => rfl)) (pv 1)))
      (pss_cons (ps_asg (pe_op op_fdiv (pe_ix (ix_listK K) (pv 0) pe_int (fun _ _ => rfl)) (pv 1)) (pg_sub (pv 0) pe_int set_list))
      (pss_one (ps_ret (pv 2))))) pss_nil)
      (pss_one (ps_ret (pe_op op_mod (pe_op op_fdiv (pe_call (ok_l_mix T (k := k)) hr (by rfl) T.g_l_mix T.F_l_mix.kp T.b_l_mix .nil pass0 (pa_cons (pe_call (ok_l_mix T (k := k)) hr (by rfl) T.g_l_mix T.F_l_mix.kp T.b_l_mix .nil pass0 (pa_cons (pe_ix (ix_listK K) (pv 0) pe_int (fun _ _ => rfl)) (pa_cons (pe_ix (ix_listK K) (pv 0) pe_int (fun _ _ => rfl)) pa_nil))) (pa_cons (pe_op op_add (pe_ix (ix_listK K) (pv 0) pe_int (fun _ _ => rfl)) pe_int) pa_nil))) pe_int) (pv 1)))))), ?_⟩
    refine ⟨_, rfl, L, _, 2, .int c, rfl, rfl, SqL.of hL, rfl, _, _, rfl, rfl, _, rfl, L, _, _, 2, rfl, rfl, hL, rfl, ?_⟩
    generalize hH : upd H L (.lst (List.set [V.int a, V.int b, V.int c] 2 (V.int (c + 1)))) = H1
    have hL1 : H1 L = some (.lst [.int a, .int b, .int (c + 1)]) := by rw [← hH]; exact upd_same
    have g1 : Go [L] H H1 := by rw [← hH]; exact Go.refl.at (List.mem_singleton.mpr rfl)
    refine ⟨_, rfl, L, _, 0, .int a, rfl, rfl, SqL.of hL1, rfl, _, _, rfl, rfl, _, rfl, ite2 (fun e => ?_) (fun e => ?_)⟩
    · have e1 : 0 < a := of_decide_eq_true e
      refine ⟨_, rfl, L, _, 0, .int a, rfl, rfl, SqL.of hL1, rfl, _, rfl, _, _, rfl, rfl, md m0, ?_⟩
      refine ⟨_, rfl, L, _, 0, .int a, rfl, rfl, SqL.of hL1, rfl, _, rfl, _, _, rfl, rfl, ⟨m0, m1⟩, _, rfl, L, _, _, 0, rfl, rfl, hL1, rfl, ?_⟩
      refine ⟨_, rfl, ?_⟩
      exact q _ _ (g1.at (List.mem_singleton.mpr rfl)) ⟨a / m, b, c + 1, upd_same, Int.ediv_nonneg a0 (by omega), by omega, by omega⟩ (Int.emod_nonneg _ (by omega)) (Int.emod_lt_of_pos _ m0)
    · refine ⟨_, rfl, L, _, 1, .int b, rfl, rfl, SqL.of hL1, rfl, _, rfl, L, _, 2, .int (c + 1), rfl, rfl, SqL.of hL1, rfl, _, _, rfl, by omega, by omega, fun r1 _ _ => ?_⟩
      refine ⟨_, rfl, L, _, 2, .int (c + 1), rfl, rfl, SqL.of hL1, rfl, _, _, rfl, rfl, _, _, rfl, by omega, by omega, fun r2 _ _ => ?_⟩
      refine ⟨_, _, rfl, rfl, ⟨by decide, by decide⟩, _, rfl, _, _, rfl, rfl, md m0, ?_⟩
      exact q _ _ g1 ⟨a, b, c + 1, hL1, a0, by omega, by omega⟩ (Int.emod_nonneg _ (by omega)) (Int.emod_lt_of_pos _ m0)
/-! ### kind -/
def spKind : Sp := fun vs H Q _ => ∃ (L : Addr) (n : Nat), vs = [.ref L] ∧ Lf L H n ∧ n < 100000000 ∧ ∀ (v : V) (H' : Hp) (wd sp : Int), Go [L] H H' → Lf L H' (n + 2) → 1 ≤ wd → wd ≤ 5 → 3 ≤ sp → sp ≤ 1000 → Dt [L] H' v (eC [wd, sp]) → Q v H'
theorem ok_l_kind (T : Tx K mg) {k : Nat} : FnOk P w K mg base CX0 (k + 3) T.f_l_kind T.d_l_kind ["_law_left_here"] spKind := by
  refine T.F_l_kind.ok sc_l_kind (fun vs H Q E h => ?_) (fun cdv A outer s H vs Q E hr h => ?_)
  · obtain ⟨L, n, rfl, _⟩ := h
    rfl
  · obtain ⟨L, n, rfl, hL, hn, q⟩ := h
    refine ⟨_, (pss_one (ps_ret (pe_tup (pa_cons (pe_ix (ix_listK K) (pe_lst (pa_cons pe_int (pa_cons pe_int (pa_cons pe_int (pa_cons pe_int (pa_cons pe_int (pa_cons pe_int (pa_cons pe_int (pa_cons pe_int pa_nil))))))))) (pe_call (ok_l_pick T (k := k)) hr (by rfl) T.g_l_pick T.F_l_pick.kp T.b_l_pick .nil pass0 (pa_cons (pv 0) (pa_cons pe_int pa_nil))) (fun _ _ => rfl)) (pa_cons (pe_ix (ix_listK K) (pe_lst (pa_cons pe_int (pa_cons pe_int (pa_cons pe_int (pa_cons pe_int (pa_cons pe_int (pa_cons pe_int pa_nil))))))) (pe_call (ok_l_pick T (k := k)) hr (by rfl) T.g_l_pick T.F_l_pick.kp T.b_l_pick .nil pass0 (pa_cons (pv 0) (pa_cons pe_int pa_nil))) (fun _ _ => rfl)) pa_nil))))), ?_⟩
    refine ⟨(by show 8 ≤ sizeLine; decide), fun p hp => ?_⟩
    refine ⟨_, rfl, L, 8, n, rfl, hL.new hp, by omega, by decide, by decide, fun r1 H1 g1 l1 a1 b1 => ?_⟩
    have e1 : H1 p = some (.lst ([1, 2, 3, 3, 3, 4, 5, 2].map V.int)) := g1.k p _ (hL.bk.ne hp) upd_same
    obtain ⟨wd, mw, ew⟩ := at_int (ns := [1, 2, 3, 3, 3, 4, 5, 2]) a1 b1
    refine ⟨p, _, r1, .int wd, rfl, rfl, SqL.of e1, ew, (by show 6 ≤ sizeLine; decide), fun p2 hp2 => ?_⟩
    refine ⟨_, rfl, L, 6, n + 1, rfl, l1.new hp2, by omega, by decide, by decide, fun r2 H2 g2 l2 a2 b2 => ?_⟩
    have e2 : H2 p2 = some (.lst ([3, 6, 20, 256, 1000, 10].map V.int)) := g2.k p2 _ (l1.bk.ne hp2) upd_same
    obtain ⟨sp, ms, es⟩ := at_int (ns := [3, 6, 20, 256, 1000, 10]) a2 b2
    refine ⟨p2, _, r2, .int sp, rfl, rfl, SqL.of e2, es, (by show 2 ≤ sizeLine; decide), fun p3 hp3 => ?_⟩
    simp at mw ms
    refine q _ _ wd sp (((((Go.new hp).trans g1).trans (Go.new hp2)).trans g2).trans (Go.new hp3)) (l2.new hp3) (by omega) (by omega) (by omega) (by omega) (Dt.ofCol (l2.bk.ne hp3) upd_same)
/-! ### colour -/
def spColour : Sp := fun vs H Q _ => ∃ (L : Addr) (B : List Addr) (n : Nat) (kv : V) (wd sp : Int), vs = [.ref L, kv] ∧ Lf L H n ∧ L ∈ B ∧ Bk B H ∧ n < 100000000 ∧ Dt [L] H kv (eC [wd, sp]) ∧ 0 ≤ wd ∧ wd ≤ 5 ∧ 1 ≤ sp ∧ sp ≤ 1000 ∧
  ∀ (v : V) (H' : Hp) (ns : List Int), Go [L] H H' → Lf L H' (n + 10) → Dt B H' v (eC ns) → (ns.length : Int) = wd → cIn 0 999 ns → Q v H'
theorem ok_l_colour (T : Tx K mg) {k : Nat} : FnOk P w K mg base CX0 (k + 3) T.f_l_colour T.d_l_colour ["_law_left_here", "_law_kind_here"] spColour := by
  refine T.F_l_colour.ok sc_l_colour (fun vs H Q E h => ?_) (fun cdv A outer s H vs Q E hr h => ?_)
  · obtain ⟨L, B, n, kv, wd, sp, rfl, _⟩ := h
    rfl
  · obtain ⟨L, B, n, kv, wd, sp, rfl, hL, LB, hB, hn, hk, w0, w1, s0, s1, q⟩ := h
    obtain ⟨ka, rfl, nk, hkT⟩ := hk.col
    refine ⟨_, (pss_cons (ps_asg (pv 1) (pg_tupK K (n := 2) rfl (pgs_cons (pg_name (i := 2) sc_l_colour.nd rfl (.inl rfl)) (pgs_cons (pg_name (i := 3) sc_l_colour.nd rfl (.inr rfl)) pgs_nil))))
      (pss_one (ps_ret (pe_callTy (tuple_K K) (by rfl) T.z_tuple (by decide +kernel) (pa_cons (pe_lc (own := [("_law_place", 4)]) (by rfl) sc_l_colour.nd (pi_range1 (by rfl) T.z_range (pa_cons (pv 2) pa_nil)) (blkOk_by (own := [("_law_place", 4)]) (N := N_l_colour) (sc := defScope s_l_colour) (by decide +kernel)) (fun _ _ _ _ _ => (pg_name (i := 4) sc_l_colour.nd rfl (.inl rfl))) (fun _ _ _ _ _ => pts_nil) (fun _ _ _ _ _ => (pe_ix (ix_listK K) (pe_lst (pa_cons (pe_call (ok_l_pick T (k := k)) hr (by rfl) T.g_l_pick T.F_l_pick.kp T.b_l_pick .nil pass0 (pa_cons (pv 0) (pa_cons (pv 3) pa_nil))) (pa_cons pe_int pa_nil))) (pe_callTy call_int1 (by rfl) T.z_int (by decide +kernel) (pa_cons (pe_cmpR op_eq (pe_call (ok_l_pick T (k := k)) hr (by rfl) T.g_l_pick T.F_l_pick.kp T.b_l_pick .nil pass0 (pa_cons (pv 0) (pa_cons pe_int pa_nil))) pe_int (nomark _)) pa_nil)) (fun _ _ => rfl)))) pa_nil))))), ?_⟩
    refine ⟨_, rfl, ka, [.int wd, .int sp], rfl, SqT.of hkT, rfl, .int wd, _, rfl, .int sp, _, rfl, rfl, ?_⟩
    refine ⟨_, rfl, wd, rfl, by omega, by omega, fun D hD => ?_⟩
    refine lc_range (lo := 0) (n := wd.toNat) (fun i H' => ∃ ns : List Int, ns.length = i ∧ cIn 0 999 ns ∧ Go [L] H H' ∧ Lf L H' (n + 2 * i) ∧ H' D = some (.lst (ns.map V.int)))
      ⟨[], rfl, cIn.nil, Go.new hD, hL.new hD, upd_same⟩ (fun i H1 hi h1 => ?_) (fun H1 h1 => ?_)
    · obtain ⟨ns, en, cn, g, l, eD⟩ := h1
      have nD : D ∉ [L] := hL.bk.ne hD
      refine ⟨rfl, lc_yes ?_⟩
      refine ⟨_, rfl, _, rfl, L, sp, n + 2 * i, rfl, l, by omega, by omega, by omega, fun r1 H2 g2 l2 a1 b1 => ?_⟩
      refine ⟨(by show 2 ≤ sizeLine; decide), fun p hp => ?_⟩
      refine ⟨_, rfl, L, 8, n + 2 * i + 1, rfl, l2.new hp, by omega, by decide, by decide, fun r2 H3 g3 l3 a2 b2 => ?_⟩
      have e3 : H3 p = some (.lst [.int r1, .int 999]) := g3.k p _ (l2.bk.ne hp) upd_same
      refine ⟨rfl, .inr ⟨_, rfl, p, _, _, _, rfl, rfl, SqL.of e3, at2 _ _ _, ns.map V.int, ?_⟩⟩
      have gg : Go [L] H1 H3 := (g2.trans (Go.new hp)).trans g3
      obtain ⟨x, ex, x0, x1⟩ : ∃ x : Int, (if decide (V.int r2 = V.int 0) = true then V.int 999 else V.int r1) = .int x ∧ 0 ≤ x ∧ x ≤ 999 := by
        by_cases hb : decide (V.int r2 = V.int 0) = true
        · rw [if_pos hb]
          exact ⟨999, rfl, by decide, by decide⟩
        · rw [if_neg hb]
          exact ⟨r1, rfl, by omega, by omega⟩
      refine ⟨gg.k D _ nD eD, sz (by rw [List.length_map]; omega), ns ++ [x], ?_, cn.app x0 x1, (g.trans gg).mut hD, (l3.up (hL.ne hD)).mono (by omega), ?_⟩
      · rw [List.length_append]
        simp
        omega
      · rw [upd_same, List.map_append, ex]
        rfl
    · obtain ⟨ns, en, cn, g, l, eD⟩ := h1
      refine ⟨D, _, rfl, .inl ⟨SqL.of eD, fun t ht => ?_⟩⟩
      exact q _ _ ns (g.trans (Go.new ht)) ((l.new ht).mono (by omega)) (Dt.ofCol ((hB.go g).ne ht) upd_same) (by omega) cn
/-! ### same -/
def spSame : Nat → Sp
  | 0 => fun _ _ _ _ => False
  | k + 1 => fun vs H Q _ => ∃ (B : List Addr) (x y : V) (d : PyData), vs = [x, y] ∧ Dt B H x d ∧ Dt B H y d ∧ Sh d k ∧ k ≤ 60 ∧ ∀ H', Same H H' → Q (.bl true) H'
theorem kT {K : PySem.W.Frag} : PySem.W.kitAny K (.type "tuple") [.type "list", .type "tuple"] = some true := kitAny_cons (b := false) (kit_ty (by decide +kernel)) (fun _ => kitAny_cons (b := true) (kit_ty (by decide +kernel)) (fun h => Bool.noConfusion h) (fun _ => rfl)) (fun h => Bool.noConfusion h)
theorem kL {K : PySem.W.Frag} : PySem.W.kitAny K (.type "list") [.type "list", .type "tuple"] = some true := kitAny_cons (b := true) (kit_ty (by decide +kernel)) (fun h => Bool.noConfusion h) (fun _ => rfl)
theorem kF {K : PySem.W.Frag} {t : String} (h1 : kitB t "list" = some false) (h2 : kitB t "tuple" = some false) : PySem.W.kitAny K (.type t) [.type "list", .type "tuple"] = some false :=
  kitAny_cons (kit_ty (b := "list") h1) (fun _ => kitAny_cons (kit_ty (b := "tuple") h2) (fun _ => kitAny_nil) (fun h => nomatch h)) (fun h => nomatch h)
theorem eqv_sh {d : PyData} {k : Nat} (h : Sh d k) : PyData.eqv d d = true := SeqAt.eqv_refl d h.1
theorem allT : ∀ n : Nat, (List.range n).filterMap (fun _ => some (PyData.bool true)) = (List.replicate n true).map PyData.bool
  | 0 => rfl
  | n + 1 => by
    rw [List.range_succ, List.filterMap_append, allT n, List.replicate_succ', List.map_append]
    rfl
theorem same_all (T : Tx K mg) (k : Nat) : FnOk P w K mg base CX0 k T.f_l_same T.d_l_same ["_law_found", "_law_due_here"] (spSame k) := by
  induction k with
  | zero => exact ⟨fun _ _ _ _ h => h.elim, fun _ _ _ _ _ _ _ _ _ _ _ _ _ h => h.elim⟩
  | succ k GS =>
    refine T.F_l_same.ok sc_l_same (fun vs H Q E h => ?_) (fun cdv A outer s H vs Q E hr h => ?_)
    · obtain ⟨B, x, y, d, rfl, _⟩ := h
      rfl
    · obtain ⟨B, x, y, d, rfl, hx, hy, hd, k60, q⟩ := h
      have hrS := hr
      refine ⟨_, (pss_cons (ps_if (pt_val (pe_callB (call_isiTK K) (by rfl) T.z_isinstance (by decide +kernel) (pa_cons (pv 1) (pa_cons (pe_tup (pa_cons (pe_bltn (v := .ty "list") (by rfl) T.z_list (by decide +kernel) rfl) (pa_cons (pe_bltn (v := .ty "tuple") (by rfl) T.z_tuple (by decide +kernel) rfl) pa_nil))) pa_nil)))) (pss_cons (ps_if (PW.pt (pw_or (pt_cmpR op_ne (pe_callB (call_isiK1 K) (by rfl) T.z_isinstance (by decide +kernel) (pa_cons (pv 0) (pa_cons (pe_bltn (v := .ty "list") (by rfl) T.z_list (by decide +kernel) rfl) pa_nil))) (pe_callB (call_isiK1 K) (by rfl) T.z_isinstance (by decide +kernel) (pa_cons (pv 1) (pa_cons (pe_bltn (v := .ty "list") (by rfl) T.z_list (by decide +kernel) rfl) pa_nil))) (nomark _)) (pw_or1 (pt_cmpR op_ne (pe_callB (call_isiK1 K) (by rfl) T.z_isinstance (by decide +kernel) (pa_cons (pv 0) (pa_cons (pe_bltn (v := .ty "tuple") (by rfl) T.z_tuple (by decide +kernel) rfl) pa_nil))) (pe_callB (call_isiK1 K) (by rfl) T.z_isinstance (by decide +kernel) (pa_cons (pv 1) (pa_cons (pe_bltn (v := .ty "tuple") (by rfl) T.z_tuple (by decide +kernel) rfl) pa_nil))) (nomark _))))) (pss_one (ps_ret pe_bl)) pss_nil)
      (pss_one (ps_ret (pe_and (pe_cmpR op_eq (pe_callB (len_K K) (by rfl) T.z_len PySem.boot_len (pa_cons (pv 0) pa_nil)) (pe_callB (len_K K) (by rfl) T.z_len PySem.boot_len (pa_cons (pv 1) pa_nil)) (nomark _)) (pe_one (pe_callB (cr_allK K rfl) (by rfl) T.z_all (by decide +kernel) (pa_cons (pe_lc (own := [("_law_one", 2), ("_law_other", 3)]) (by rfl) sc_l_same.nd (RZ.pi_zipA (by rfl) T.z_zip (pa_cons (pv 0) (pa_cons (pv 1) pa_nil))) (blkOk_by (own := [("_law_one", 2), ("_law_other", 3)]) (N := N_l_same) (sc := defScope s_l_same) (by decide +kernel)) (fun _ _ _ _ _ => (pg_tupK K (n := 2) rfl (pgs_cons (pg_name (i := 2) sc_l_same.nd rfl (.inl rfl)) (pgs_cons (pg_name (i := 3) sc_l_same.nd rfl (.inl rfl)) pgs_nil)))) (fun _ _ _ _ _ => pts_nil) (fun _ _ _ _ _ => (pe_call GS hrS (by rfl) T.g_l_same T.F_l_same.kp T.b_l_same .nil pass0 (pa_cons (pv 2) (pa_cons (pv 3) pa_nil))))) pa_nil))))))) pss_nil)
      (pss_cons (ps_if (PW.pt (pw_or (pt_cmpR op_isN (pv 1) pe_non (nomark _)) (pw_or1 (pt_val (pe_callB (call_isiK1 K) (by rfl) T.z_isinstance (by decide +kernel) (pa_cons (pv 1) (pa_cons (pe_bltn (v := .ty "str") (by rfl) T.z_str (by decide +kernel) rfl) pa_nil))))))) (pss_one (ps_ret (pe_and (pe_cmpR (op_eqDK K hr.units) (pv 0) (pv 1) (nomark _)) (pe_one (pe_cmpR op_eq (pe_callB (call_isiK1 K) (by rfl) T.z_isinstance (by decide +kernel) (pa_cons (pv 0) (pa_cons (pe_bltn (v := .ty "str") (by rfl) T.z_str (by decide +kernel) rfl) pa_nil))) (pe_callB (call_isiK1 K) (by rfl) T.z_isinstance (by decide +kernel) (pa_cons (pv 1) (pa_cons (pe_bltn (v := .ty "str") (by rfl) T.z_str (by decide +kernel) rfl) pa_nil))) (nomark _)))))) pss_nil)
      (pss_cons (ps_if (pt_val (pe_callB (call_isiK1 K) (by rfl) T.z_isinstance (by decide +kernel) (pa_cons (pv 1) (pa_cons (pe_bltn (v := .ty "bool") (by rfl) T.z_bool (by decide +kernel) rfl) pa_nil)))) (pss_one (ps_ret (pe_and (pe_callB (call_isiK1 K) (by rfl) T.z_isinstance (by decide +kernel) (pa_cons (pv 0) (pa_cons (pe_bltn (v := .ty "bool") (by rfl) T.z_bool (by decide +kernel) rfl) pa_nil))) (pe_one (pe_cmpR (op_eqDK K hr.units) (pv 0) (pv 1) (nomark _)))))) pss_nil)
      (pss_one (ps_ret (pe_and (pe_callB (call_isiK1 K) (by rfl) T.z_isinstance (by decide +kernel) (pa_cons (pv 0) (pa_cons (pe_bltn (v := .ty "int") (by rfl) T.z_int (by decide +kernel) rfl) pa_nil))) (pe_and (pe_not (pe_callB (call_isiK1 K) (by rfl) T.z_isinstance (by decide +kernel) (pa_cons (pv 0) (pa_cons (pe_bltn (v := .ty "bool") (by rfl) T.z_bool (by decide +kernel) rfl) pa_nil)))) (pe_one (pe_cmpR (op_eqDK K hr.units) (pv 0) (pv 1) (nomark _)))))))))), ?_⟩
      refine ⟨_, rfl, (by show 2 ≤ sizeLine; decide), fun tp htp => ?_⟩
      have s1 : Same H (upd H tp (.tup [.ty "list", .ty "tuple"])) := sm_new htp
      have hx1 := hx.s s1
      have hy1 := hy.s s1
      have hT : (upd H tp (.tup [.ty "list", .ty "tuple"])) tp = some (.tup [.ty "list", .ty "tuple"]) := upd_same
      generalize upd H tp (.tup [.ty "list", .ty "tuple"]) = H1 at *
      cases d with
      | list ds =>
        have tx : TyX K H1 x (.type "list") := hx1.ty
        have ty : TyX K H1 y (.type "list") := hy1.ty
        refine ⟨y, tp, _, _, [.type "list", .type "tuple"], true, rfl, hT, .cons (.ty _) (.cons (.ty _) .nil), ty, kL, true, rfl, iteT ?_⟩
        refine ⟨_, rfl, _, _, _, _, true, rfl, .ty _, tx, kit_ty (by decide +kernel), _, rfl, _, _, _, _, true, rfl, .ty _, ty, kit_ty (by decide +kernel), rfl, _, rfl, iteNS rfl ?_⟩
        refine ⟨_, rfl, _, _, _, _, false, rfl, .ty _, tx, kit_ty (by decide +kernel), _, rfl, _, _, _, _, false, rfl, .ty _, ty, kit_ty (by decide +kernel), rfl, _, rfl, iteNS rfl ?_⟩
        obtain ⟨a, xs, rfl, na, ha, hA⟩ := hx1.lstI
        obtain ⟨b, ys, rfl, nb, hb, hB⟩ := hy1.lstI
        have l1 := hA.len
        have l2 := hB.len
        refine ⟨_, rfl, a, _, rfl, .inl (SqL.of ha), _, rfl, b, _, rfl, .inl (SqL.of hb), rfl, _, rfl, iteD (by rw [l1, l2]) ?_⟩
        refine ⟨_, rfl, _, rfl, a, b, _, _, rfl, .inl ⟨SqL.of ha, SqL.of hb, fun D hD => ?_⟩⟩
        obtain ⟨j, rfl, hs, hl⟩ := hd.lstI
        refine lc_pure (B := []) (walk_zip (n := ds.length) (xs := xs) (ys := ys) (by rw [l1, l2, Nat.min_self])) hD (fun _ h => nomatch h) (fun H' s' => ⟨SqL.of (s' _ _ ha), SqL.of (s' _ _ hb)⟩) hl
          (fun i => some (.bool true)) (fun i x H' H'' Ny Nn hi s2 bk y ky kn => ?_) (fun H' ws s2 eD hW => ?_)
        · obtain ⟨t, x, y, rfl, ht, rfl, e1, e2⟩ := y
          obtain ⟨d1, f1, g1⟩ := hA.getV e1
          obtain ⟨d2, f2, g2⟩ := hB.getV e2
          have ed : d1 = d2 := Option.some.inj (f1.symm.trans f2)
          subst ed
          refine ⟨t, [x, y], rfl, SqT.of upd_same, rfl, x, _, rfl, y, _, rfl, rfl, rfl, lc_yes ?_⟩
          refine ⟨_, rfl, _, rfl, B, x, y, d1, rfl, (g1.s s2).s (sm_new ht), (g2.s s2).s (sm_new ht), hs _ (List.mem_of_getElem? f1), by omega, fun H3 s3 => ?_⟩
          exact ky _ _ _ rfl ((sm_new ht).trans s3) (.bl _)
        · rw [allT] at hW
          refine ⟨D, _, rfl, SqL.of (by rw [eD, hW.blsV]), ?_⟩
          rw [show (List.replicate ds.length true).all id = true by simp]
          exact q _ (s1.trans s2)
      | tuple ds =>
        have tx : TyX K H1 x (.type "tuple") := hx1.ty
        have ty : TyX K H1 y (.type "tuple") := hy1.ty
        refine ⟨y, tp, _, _, [.type "list", .type "tuple"], true, rfl, hT, .cons (.ty _) (.cons (.ty _) .nil), ty, kT, true, rfl, iteT ?_⟩
        refine ⟨_, rfl, _, _, _, _, false, rfl, .ty _, tx, kit_ty (by decide +kernel), _, rfl, _, _, _, _, false, rfl, .ty _, ty, kit_ty (by decide +kernel), rfl, _, rfl, iteNS rfl ?_⟩
        refine ⟨_, rfl, _, _, _, _, true, rfl, .ty _, tx, kit_ty (by decide +kernel), _, rfl, _, _, _, _, true, rfl, .ty _, ty, kit_ty (by decide +kernel), rfl, _, rfl, iteNS rfl ?_⟩
        obtain ⟨a, xs, rfl, na, ha, hA⟩ := hx1.tupI
        obtain ⟨b, ys, rfl, nb, hb, hB⟩ := hy1.tupI
        have l1 := hA.len
        have l2 := hB.len
        refine ⟨_, rfl, a, _, rfl, .inr (SqT.of ha), _, rfl, b, _, rfl, .inr (SqT.of hb), rfl, _, rfl, iteD (by rw [l1, l2]) ?_⟩
        refine ⟨_, rfl, _, rfl, a, b, _, _, rfl, .inr ⟨SqT.of ha, SqT.of hb, fun D hD => ?_⟩⟩
        obtain ⟨j, rfl, hs, hl⟩ := hd.tupI
        refine lc_pure (B := []) (walk_zipT (n := ds.length) (xs := xs) (ys := ys) (by rw [l1, l2, Nat.min_self])) hD (fun _ h => nomatch h) (fun H' s' => ⟨SqT.of (s' _ _ ha), SqT.of (s' _ _ hb)⟩) hl
          (fun i => some (.bool true)) (fun i x H' H'' Ny Nn hi s2 bk y ky kn => ?_) (fun H' ws s2 eD hW => ?_)
        · obtain ⟨t, x, y, rfl, ht, rfl, e1, e2⟩ := y
          obtain ⟨d1, f1, g1⟩ := hA.getV e1
          obtain ⟨d2, f2, g2⟩ := hB.getV e2
          have ed : d1 = d2 := Option.some.inj (f1.symm.trans f2)
          subst ed
          refine ⟨t, [x, y], rfl, SqT.of upd_same, rfl, x, _, rfl, y, _, rfl, rfl, rfl, lc_yes ?_⟩
          refine ⟨_, rfl, _, rfl, B, x, y, d1, rfl, (g1.s s2).s (sm_new ht), (g2.s s2).s (sm_new ht), hs _ (List.mem_of_getElem? f1), by omega, fun H3 s3 => ?_⟩
          exact ky _ _ _ rfl ((sm_new ht).trans s3) (.bl _)
        · rw [allT] at hW
          refine ⟨D, _, rfl, SqL.of (by rw [eD, hW.blsV]), ?_⟩
          rw [show (List.replicate ds.length true).all id = true by simp]
          exact q _ (s1.trans s2)
      | none =>
        have tx : TyX K H1 x (.type "NoneType") := hx1.ty
        have ty : TyX K H1 y (.type "NoneType") := hy1.ty
        refine ⟨y, tp, _, _, [.type "list", .type "tuple"], false, rfl, hT, .cons (.ty _) (.cons (.ty _) .nil), ty, kF (by decide +kernel) (by decide +kernel), false, rfl, iteF ?_⟩
        have ey : y = .non := by cases hy1; rfl
        subst ey
        refine ⟨_, rfl, rfl, _, rfl, iteD rfl ?_⟩
        refine iteT ?_
        refine ⟨_, rfl, _, rfl, _, _, hx1.dP, hy1.dP, hd.sh (by omega), hd.sh (by omega), _, rfl, iteE (eqv_sh hd) ?_⟩
        refine ⟨_, rfl, _, _, _, _, false, rfl, .ty _, tx, kit_ty (by decide +kernel), _, rfl, _, _, _, _, false, rfl, .ty _, ty, kit_ty (by decide +kernel), rfl, ?_⟩
        exact q _ s1
      | bool b =>
        have tx : TyX K H1 x (.type "bool") := hx1.ty
        have ty : TyX K H1 y (.type "bool") := hy1.ty
        refine ⟨y, tp, _, _, [.type "list", .type "tuple"], false, rfl, hT, .cons (.ty _) (.cons (.ty _) .nil), ty, kF (by decide +kernel) (by decide +kernel), false, rfl, iteF ?_⟩
        have ey : y = .bl b := by cases hy1; rfl
        subst ey
        refine ⟨_, rfl, rfl, _, rfl, iteN (decide_eq_false (fun h => nomatch h)) ?_⟩
        refine ⟨_, rfl, _, _, _, _, false, rfl, .ty _, ty, kit_ty (by decide +kernel), _, rfl, iteF ?_⟩
        refine ⟨_, rfl, _, _, _, _, true, rfl, .ty _, ty, kit_ty (by decide +kernel), _, rfl, iteT ?_⟩
        refine ⟨_, rfl, _, _, _, _, true, rfl, .ty _, tx, kit_ty (by decide +kernel), _, rfl, iteT ?_⟩
        refine ⟨_, rfl, _, rfl, _, _, hx1.dP, hy1.dP, hd.sh (by omega), hd.sh (by omega), ?_⟩
        rw [eqv_sh hd]
        exact q _ s1
      | int i =>
        have tx : TyX K H1 x (.type "int") := hx1.ty
        have ty : TyX K H1 y (.type "int") := hy1.ty
        refine ⟨y, tp, _, _, [.type "list", .type "tuple"], false, rfl, hT, .cons (.ty _) (.cons (.ty _) .nil), ty, kF (by decide +kernel) (by decide +kernel), false, rfl, iteF ?_⟩
        have ey := hy1.intI
        subst ey
        refine ⟨_, rfl, rfl, _, rfl, iteN (decide_eq_false (fun h => nomatch h)) ?_⟩
        refine ⟨_, rfl, _, _, _, _, false, rfl, .ty _, ty, kit_ty (by decide +kernel), _, rfl, iteF ?_⟩
        refine ⟨_, rfl, _, _, _, _, false, rfl, .ty _, ty, kit_ty (by decide +kernel), _, rfl, iteF ?_⟩
        refine ⟨_, rfl, _, _, _, _, true, rfl, .ty _, tx, kit_ty (by decide +kernel), _, rfl, iteT ?_⟩
        refine ⟨_, rfl, _, _, _, _, false, rfl, .ty _, tx, kit_ty (by decide +kernel), _, rfl, _, rfl, iteT ?_⟩
        refine ⟨_, rfl, _, rfl, _, _, hx1.dP, hy1.dP, hd.sh (by omega), hd.sh (by omega), ?_⟩
        rw [eqv_sh hd]
        exact q _ s1
      | str z =>
        have tx : TyX K H1 x (.type "str") := hx1.ty
        have ty : TyX K H1 y (.type "str") := hy1.ty
        refine ⟨y, tp, _, _, [.type "list", .type "tuple"], false, rfl, hT, .cons (.ty _) (.cons (.ty _) .nil), ty, kF (by decide +kernel) (by decide +kernel), false, rfl, iteF ?_⟩
        have ey : y = .str z := by cases hy1; rfl
        subst ey
        refine ⟨_, rfl, rfl, _, rfl, iteN (decide_eq_false (fun h => nomatch h)) ?_⟩
        refine ⟨_, rfl, _, _, _, _, true, rfl, .ty _, ty, kit_ty (by decide +kernel), _, rfl, iteT ?_⟩
        refine ⟨_, rfl, _, rfl, _, _, hx1.dP, hy1.dP, hd.sh (by omega), hd.sh (by omega), _, rfl, iteE (eqv_sh hd) ?_⟩
        refine ⟨_, rfl, _, _, _, _, true, rfl, .ty _, tx, kit_ty (by decide +kernel), _, rfl, _, _, _, _, true, rfl, .ty _, ty, kit_ty (by decide +kernel), rfl, ?_⟩
        exact q _ s1
      | dict kvs => cases hx
theorem ok_l_same (T : Tx K mg) {k : Nat} : FnOk P w K mg base CX0 (k + 1) T.f_l_same T.d_l_same ["_law_found", "_law_due_here"] (spSame (k + 1)) := same_all T (k + 1)
/-! ### palette -/
def cOk (wd : Int) (c : List Int) : Prop := (c.length : Int) = wd ∧ cIn 0 999 c
def spPalette : Sp := fun vs H Q _ => ∃ (L : Addr) (n : Nat) (kv : V) (wd sp : Int), vs = [.ref L, kv] ∧ Lf L H n ∧ n < 10000000 ∧ Dt [L] H kv (eC [wd, sp]) ∧ 0 ≤ wd ∧ wd ≤ 5 ∧ 1 ≤ sp ∧ sp ≤ 1000 ∧
  ∀ (v : V) (H' : Hp) (cs : List (List Int)), Go [L] H H' → Lf L H' (n + 1000) → Dt [L] H' v (eP cs) → 0 < cs.length → cs.length ≤ 40 → (∀ c ∈ cs, cOk wd c) → Q v H'
theorem ok_l_palette (T : Tx K mg) {k : Nat} : FnOk P w K mg base CX0 (k + 4) T.f_l_palette T.d_l_palette ["_law_left_here", "_law_kind_here"] spPalette := by
  refine T.F_l_palette.ok sc_l_palette (fun vs H Q E h => ?_) (fun cdv A outer s H vs Q E hr h => ?_)
  · obtain ⟨L, n, kv, wd, sp, rfl, _⟩ := h
    rfl
  · obtain ⟨L, n, kv, wd, sp, rfl, hL, hn, hk, w0, w1, s0, s1, q⟩ := h
    refine ⟨_, (pss_cons (ps_set (i := 2) sc_l_palette.nd rfl (.inl rfl) (pe_ix (ix_listK K) (pe_lst (pa_cons pe_int (pa_cons pe_int (pa_cons pe_int (pa_cons pe_int (pa_cons pe_int (pa_cons pe_int (pa_cons pe_int (pa_cons (pe_op op_add pe_int (pe_call (ok_l_pick T (k := k + 1)) hr (by rfl) T.g_l_pick T.F_l_pick.kp T.b_l_pick .nil pass0 (pa_cons (pv 0) (pa_cons pe_int pa_nil)))) pa_nil))))))))) (pe_call (ok_l_pick T (k := k + 1)) hr (by rfl) T.g_l_pick T.F_l_pick.kp T.b_l_pick .nil pass0 (pa_cons (pv 0) (pa_cons pe_int pa_nil))) (fun _ _ => rfl)))
      (pss_cons (ps_set (i := 3) sc_l_palette.nd rfl (.inl rfl) (pe_lst pa_nil))
      (pss_cons (ps_for PassesOwn.never rfl (pi_range1 (by rfl) T.z_range (pa_cons (pv 2) pa_nil)) (pg_name (i := 4) sc_l_palette.nd rfl (.inl rfl)) (pss_cons (ps_set (i := 5) sc_l_palette.nd rfl (.inl rfl) (pe_call (ok_l_colour T (k := k)) hr (by rfl) T.g_l_colour T.F_l_colour.kp T.b_l_colour .nil pass0 (pa_cons (pv 0) (pa_cons (pv 1) pa_nil))))
      (Evl.pss_cut (ps_if (PW.pt (pw_and (pt_cmpR (op_neDK K hr.units) (pv 3) (pe_lst pa_nil) (nomark _)) (pw_and1 (pt_cmpR op_eq (pe_call (ok_l_pick T (k := k + 1)) hr (by rfl) T.g_l_pick T.F_l_pick.kp T.b_l_pick .nil pass0 (pa_cons (pv 0) (pa_cons pe_int pa_nil))) pe_int (nomark _))))) (pss_one (ps_set (i := 5) sc_l_palette.nd rfl (.inl rfl) (pe_ix (ix_listK K) (pv 3) (pe_call (ok_l_pick T (k := k + 1)) hr (by rfl) T.g_l_pick T.F_l_pick.kp T.b_l_pick .nil pass0 (pa_cons (pv 0) (pa_cons (pe_callB (len_K K) (by rfl) T.z_len PySem.boot_len (pa_cons (pv 3) pa_nil)) pa_nil))) (fun _ _ => rfl)))) pss_nil)
      (pss_one (ps_expr (pe_bm PySem.F.plainAttrs_list PySem.F.slot_list_append PySem.F.type_list_append mt_append (pv 3) (pa_cons (pv 5) pa_nil)))))))
      (pss_one (ps_ret (pv 3)))))), ?_⟩
    refine ⟨_, rfl, L, 31, n, rfl, hL, by omega, by decide, by decide, fun r1 H1 g1 l1 a1 b1 => ?_⟩
    refine ⟨_, _, rfl, rfl, (by show 8 ≤ sizeLine; decide), fun p hp => ?_⟩
    refine ⟨_, rfl, L, 8, n + 1, rfl, l1.new hp, by omega, by decide, by decide, fun r2 H2 g2 l2 a2 b2 => ?_⟩
    have e2 : H2 p = some (.lst ([1, 2, 3, 4, 5, 7, 9, 10 + r1].map V.int)) := g2.k p _ (l1.bk.ne hp) upd_same
    obtain ⟨m, mm, em⟩ := at_int (ns := [1, 2, 3, 4, 5, 7, 9, 10 + r1]) a2 b2
    refine ⟨p, _, r2, .int m, rfl, rfl, SqL.of e2, em, ?_⟩
    have hm : 1 ≤ m ∧ m ≤ 40 := by
      simp at mm
      omega
    have gH : Go [L] H H2 := (g1.trans (Go.new hp)).trans g2
    refine ⟨Nat.zero_le _, fun D hD => ?_⟩
    have hD0 : H D = none := gH.free hD
    refine ⟨_, rfl, m, rfl, by omega, by omega, for_range (lo := 0) (n := m.toNat) (fun i σ H' => ∃ y4 y5 vs cs, σ = [some (.ref L), some kv, some (.int m), some (.ref D), y4, y5] ∧ Go [L] H H' ∧ Lf L H' (n + 2 + 12 * i) ∧ H' D = some (.lst vs) ∧ DtA [D, L] H' vs (cs.map eC) ∧ cs.length = i ∧ ∀ c ∈ cs, cOk wd c)
      ⟨none, none, [], [], rfl, gH.mut hD0, (l2.new hD).mono (by omega), upd_same, .nil, rfl, fun _ h => nomatch h⟩ (fun i σ H3 hi h3 => ?_) (fun σ H3 h3 => ?_)⟩
    · obtain ⟨y4, y5, vs, cs, rfl, g3, l3, eD, hA, hl, hc⟩ := h3
      have nD : D ∉ [L] := hL.bk.ne hD0
      have bk3 : Bk [D, L] H3 := l3.bk.cons eD
      refine ⟨_, rfl, _, rfl, L, [D, L], n + 2 + 12 * i, kv, wd, sp, rfl, l3, by simp, bk3, by omega, hk.g g3, w0, w1, s0, s1, fun v H4 ns g4 l4 d4 n4 c4 => ?_⟩
      have eD4 := g4.k D _ nD eD
      refine ⟨fun σ' H' => ∃ y4 v c, σ' = [some (.ref L), some kv, some (.int m), some (.ref D), y4, some v] ∧ Go [L] H3 H' ∧ Lf L H' (n + 2 + 12 * i + 12) ∧ Dt [D, L] H' v (eC c) ∧ cOk wd c, ?_, fun σ' H' hM => ?_⟩
      · refine ⟨_, rfl, Nat.zero_le _, fun z hz => ⟨eP cs, .list [], ?_, .lst (SqL.of upd_same) .nil, ?_, rfl, _, rfl, ite2 (fun e => ?_) (fun e => ?_)⟩⟩
        · exact Dt.dP (B := [L]) (.lst nD ((Go.new (B := [L]) hz).k D _ nD eD4) (((hA.g (g4.w1 (by simp))).un).g (Go.new hz)))
        · exact (sh_eP (by omega) fun c h => by have := (hc c h).1; omega).sh (by omega)
        · have hcs : cs ≠ [] := fun z => by
            subst z
            exact absurd e (by decide)
          have hlen : 0 < cs.length := List.length_pos_iff.mpr hcs
          refine ⟨_, rfl, L, 6, n + 2 + 12 * i + 10, rfl, l4.new hz, by omega, by decide, by decide, fun r5 H5 g5 l5 a5 b5 => ?_⟩
          have g45 : Go [L] H4 H5 := (Go.new hz).trans g5
          refine ⟨rfl, _, rfl, ite2 (fun e => ?_) (fun e => ?_)⟩
          · have eD5 := g45.k D _ nD eD4
            have hA5 := hA.g ((g4.trans g45).w1 (B := [D, L]) (by simp))
            have lv := hA5.len
            rw [List.length_map] at lv
            refine ⟨_, rfl, _, rfl, _, rfl, D, _, rfl, .inl (SqL.of eD5), L, _, n + 2 + 12 * i + 11, rfl, l5, by omega, by omega, by omega, fun r6 H6 g6 l6 a6 b6 => ?_⟩
            have eD6 := g6.k D _ nD eD5
            have hr6 : r6.toNat < cs.length := by omega
            obtain ⟨v6, f6, d6⟩ := (hA5.g (g6.w1 (B := [D, L]) (by simp))).get (i := r6.toNat) (d := eC cs[r6.toNat]) (by rw [List.getElem?_map, List.getElem?_eq_getElem hr6]; rfl)
            refine ⟨D, _, _, _, rfl, rfl, SqL.of eD6, at0 a6 f6, ?_⟩
            exact ⟨_, v6, _, rfl, (g4.trans g45).trans g6, l6.mono (by omega), d6, hc _ (List.getElem_mem hr6)⟩
          · exact ⟨_, v, ns, rfl, g4.trans g45, l5.mono (by omega), d4.g (g45.w1 (by simp)), n4, c4⟩
        · exact iteF ⟨_, v, ns, rfl, g4.trans (Go.new hz), (l4.new hz).mono (by omega), d4.g (Go.new hz), n4, c4⟩
      · obtain ⟨z4, v7, c7, rfl, g7, l7, d7, o7⟩ := hM
        have eD7 := g7.k D _ nD eD
        have hA7 := hA.g (g7.w1 (B := [D, L]) (by simp))
        have lv := hA7.len
        rw [List.length_map] at lv
        have gm : Go [D, L] H' (upd H' D (.lst (vs ++ [v7]))) := Go.refl.at (by simp)
        refine ⟨_, rfl, .inl ⟨rfl, _, SqL.of eD7⟩, _, rfl, D, _, _, rfl, rfl, eD7, sz (by omega), ?_⟩
        refine ⟨z4, some v7, vs ++ [v7], cs ++ [c7], rfl, (g3.trans g7).mut hD0, (l7.up (hL.ne hD0)).mono (by omega), upd_same, ?_, by simp; omega, fun c h => ?_⟩
        · rw [List.map_append]
          exact (hA7.g gm).app (.one (d7.g gm))
        · rcases List.mem_append.mp h with h | h
          · exact hc c h
          · rw [List.mem_singleton.mp h]
            exact o7
    · obtain ⟨y4, y5, vs, cs, rfl, g3, l3, eD, hA, hl, hc⟩ := h3
      exact ⟨_, rfl, q _ _ cs g3 (l3.mono (by omega)) (.lst (hL.bk.ne hD0) eD hA.un) (by omega) (by omega) hc⟩
/-! ### apart, both ways -/
def ap (a b : List Int) : Int := ((a.zip b).map fun p => (p.1 - p.2) ^ 2).sum
theorem ap_len (a b : List Int) : ((a.zip b).map fun p => (p.1 - p.2) ^ 2).length = min a.length b.length := by simp
theorem sq_ok {x y : Int} (h1 : -100000000 ≤ x) (h2 : x ≤ 100000000) (h3 : -100000000 ≤ y) (h4 : y ≤ 100000000) : CPow (x - y) 2 := ⟨by decide, by decide, by omega⟩
theorem zat {a b : List Int} {i : Nat} {f : Int × Int → PyData} (h1 : i < a.length) (h2 : i < b.length) : ((a.zip b).map f)[i]? = some (f (a[i], b[i])) := by
  rw [List.getElem?_map, List.getElem?_eq_getElem (by simp; omega)]
  simp
def spApart : Sp := fun vs H Q _ => ∃ (B : List Addr) (x y : V) (a b : List Int), vs = [x, y] ∧ Dt B H x (eC a) ∧ Dt B H y (eC b) ∧ a.length = b.length ∧ b.length ≤ 100 ∧ cIn (-100000000) 100000000 a ∧ cIn (-100000000) 100000000 b ∧ ∀ H', Same H H' → Q (.int (ap a b)) H'
theorem ok_apart (T : Tx K mg) {k : Nat} : FnOk P w K mg base CX0 (k + 1) T.f_apart T.d_apart ["one", "other"] spApart := by
  refine T.F_apart.ok sc_apart (fun vs H Q E h => ?_) (fun cdv A outer s H vs Q E hr h => ?_)
  · obtain ⟨B, x, y, a, b, rfl, _⟩ := h
    rfl
  · obtain ⟨B, x, y, a, b, rfl, ha, hb, hl, hz, ca, cb, q⟩ := h
    obtain ⟨pa, rfl, na, ta⟩ := ha.col
    obtain ⟨pb, rfl, nb, tb⟩ := hb.col
    refine ⟨_, (pss_one (ps_ret (pe_callB (cr_sumK K rfl) (by rfl) T.z_sum (by decide +kernel) (pa_cons (pe_lc (own := [("a", 2), ("b", 3)]) (by rfl) sc_apart.nd (RZ.pi_zipA (by rfl) T.z_zip (pa_cons (pv 0) (pa_cons (pv 1) pa_nil))) (blkOk_by (own := [("a", 2), ("b", 3)]) (N := N_apart) (sc := defScope s_apart) (by decide +kernel)) (fun _ _ _ _ _ => (pg_tupK K (n := 2) rfl (pgs_cons (pg_name (i := 2) sc_apart.nd rfl (.inl rfl)) (pgs_cons (pg_name (i := 3) sc_apart.nd rfl (.inl rfl)) pgs_nil)))) (fun _ _ _ _ _ => pts_nil) (fun _ _ _ _ _ => (pe_op op_pow (pe_op op_sub (pv 2) (pv 3)) pe_int))) pa_nil)))), ?_⟩
    refine ⟨_, rfl, _, rfl, pa, pb, _, _, rfl, .inr ⟨SqT.of ta, SqT.of tb, fun D hD => ?_⟩⟩
    refine lc_pure (B := []) (walk_zipT (n := a.length) (xs := a.map V.int) (ys := b.map V.int) (by simp; omega)) hD (fun _ h => nomatch h) (fun H' s' => ⟨SqT.of (s' _ _ ta), SqT.of (s' _ _ tb)⟩) (by omega)
      (fun i => ((a.zip b).map fun p => PyData.int ((p.1 - p.2) ^ 2))[i]?) (fun i x H' H'' Ny Nn hi s1 bk y ky kn => ?_) (fun H' ws s1 eD hA => ?_)
    · obtain ⟨t, x, y, rfl, ht, rfl, e1, e2⟩ := y
      have i2 : i < b.length := by omega
      have x1 := mat hi e1
      have x2 := mat i2 e2
      have c1 := ca _ (List.getElem_mem hi)
      have c2 := cb _ (List.getElem_mem i2)
      refine ⟨t, [x, y], rfl, SqT.of upd_same, rfl, x, _, rfl, y, _, rfl, rfl, rfl, lc_yes ?_⟩
      refine ⟨_, rfl, _, rfl, _, _, x1, x2, _, _, rfl, rfl, sq_ok c1.1 c1.2 c2.1 c2.2, ?_⟩
      exact ky _ _ _ (zat hi i2) (sm_new ht) (.int _)
    · rw [fm_all (by simp; omega)] at hA
      have hA2 : DtA (D :: []) H' ws (((a.zip b).map fun p => (p.1 - p.2) ^ 2).map PyData.int) := by rw [List.map_map]; exact hA
      refine ⟨D, _, rfl, SqL.of (by rw [eD, hA2.intsV]), ?_⟩
      exact q _ s1
/-! ### the law's own apart -/
theorem ok_l_apart (T : Tx K mg) {k : Nat} : FnOk P w K mg base CX0 (k + 1) T.f_l_apart T.d_l_apart ["_law_one", "_law_other"] spApart := by
  refine T.F_l_apart.ok sc_l_apart (fun vs H Q E h => ?_) (fun cdv A outer s H vs Q E hr h => ?_)
  · obtain ⟨B, x, y, a, b, rfl, _⟩ := h
    rfl
  · obtain ⟨B, x, y, a, b, rfl, ha, hb, hl, hz, ca, cb, q⟩ := h
    obtain ⟨pa, rfl, na, ta⟩ := ha.col
    obtain ⟨pb, rfl, nb, tb⟩ := hb.col
    refine ⟨_, (pss_one (ps_ret (pe_callB (cr_sumK K rfl) (by rfl) T.z_sum (by decide +kernel) (pa_cons (pe_lc (own := [("_law_a", 2), ("_law_b", 3)]) (by rfl) sc_l_apart.nd (RZ.pi_zipA (by rfl) T.z_zip (pa_cons (pv 0) (pa_cons (pv 1) pa_nil))) (blkOk_by (own := [("_law_a", 2), ("_law_b", 3)]) (N := N_l_apart) (sc := defScope s_l_apart) (by decide +kernel)) (fun _ _ _ _ _ => (pg_tupK K (n := 2) rfl (pgs_cons (pg_name (i := 2) sc_l_apart.nd rfl (.inl rfl)) (pgs_cons (pg_name (i := 3) sc_l_apart.nd rfl (.inl rfl)) pgs_nil)))) (fun _ _ _ _ _ => pts_nil) (fun _ _ _ _ _ => (pe_op op_mul (pe_op op_sub (pv 2) (pv 3)) (pe_op op_sub (pv 2) (pv 3))))) pa_nil)))), ?_⟩
    refine ⟨_, rfl, _, rfl, pa, pb, _, _, rfl, .inr ⟨SqT.of ta, SqT.of tb, fun D hD => ?_⟩⟩
    refine lc_pure (B := []) (walk_zipT (n := a.length) (xs := a.map V.int) (ys := b.map V.int) (by simp; omega)) hD (fun _ h => nomatch h) (fun H' s' => ⟨SqT.of (s' _ _ ta), SqT.of (s' _ _ tb)⟩) (by omega)
      (fun i => ((a.zip b).map fun p => PyData.int ((p.1 - p.2) ^ 2))[i]?) (fun i x H' H'' Ny Nn hi s1 bk y ky kn => ?_) (fun H' ws s1 eD hA => ?_)
    · obtain ⟨t, x, y, rfl, ht, rfl, e1, e2⟩ := y
      have i2 : i < b.length := by omega
      have x1 := mat hi e1
      have x2 := mat i2 e2
      have c1 := ca _ (List.getElem_mem hi)
      have c2 := cb _ (List.getElem_mem i2)
      refine ⟨t, [x, y], rfl, SqT.of upd_same, rfl, x, _, rfl, y, _, rfl, rfl, rfl, lc_yes ?_⟩
      refine ⟨_, rfl, _, rfl, _, _, x1, x2, _, rfl, _, rfl, _, _, x1, x2, _, _, rfl, rfl, .inl ⟨by omega, by omega⟩, ?_⟩
      exact ky _ _ _ (zat hi i2) (sm_new ht) (by rw [Int.pow_succ, Int.pow_succ, Int.pow_zero, Int.one_mul]; exact .int _)
    · rw [fm_all (by simp; omega)] at hA
      have hA2 : DtA (D :: []) H' ws (((a.zip b).map fun p => (p.1 - p.2) ^ 2).map PyData.int) := by rw [List.map_map]; exact hA
      refine ⟨D, _, rfl, SqL.of (by rw [eD, hA2.intsV]), ?_⟩
      exact q _ s1
/-! ### the nearest -/
def near (cs : List (List Int)) (c : List Int) (i : Nat) : Prop := ∃ h : i < cs.length, ∀ (j : Nat) (hj : j < cs.length), ap cs[i] c < ap cs[j] c ∨ (ap cs[i] c = ap cs[j] c ∧ i ≤ j)
theorem near_one {cs : List (List Int)} {c : List Int} {i j : Nat} (h1 : near cs c i) (h2 : near cs c j) : i = j := by
  obtain ⟨a, f⟩ := h1
  obtain ⟨b, g⟩ := h2
  have x := f j b
  have y := g i a
  omega
def pOk (cs : List (List Int)) (c : List Int) : Prop := cs.length ≤ 1000 ∧ c.length ≤ 100 ∧ cIn (-100000000) 100000000 c ∧ ∀ x ∈ cs, x.length = c.length ∧ cIn (-100000000) 100000000 x
def spNear : Sp := fun vs H Q _ => ∃ (B : List Addr) (pl cv : V) (cs : List (List Int)) (c : List Int), vs = [pl, cv] ∧ Dt B H pl (eP cs) ∧ Dt B H cv (eC c) ∧ pOk cs c ∧ 0 < cs.length ∧
  ∀ H' (i : Nat), Same H H' → near cs c i → Q (.int i) H'
theorem first_at {ns : List Int} {m : Int} (h : m ∈ ns) : ∃ j : Nat, ns[j]? = some m ∧ ∀ i x, i < j → ns[i]? = some x → x ≠ m := by
  induction ns with
  | nil => cases h
  | cons n ns ih =>
    by_cases e : n = m
    · exact ⟨0, by rw [e]; rfl, fun i x hi => by omega⟩
    · have hm : m ∈ ns := by
        rcases List.mem_cons.mp h with z | z
        · exact absurd z.symm e
        · exact z
      obtain ⟨j, h1, h2⟩ := ih hm
      refine ⟨j + 1, h1, fun i x hi hx => ?_⟩
      cases i with
      | zero =>
        have : n = x := Option.some.inj hx
        rw [← this]; exact e
      | succ i => exact h2 i x (by omega) hx
theorem near_of {cs : List (List Int)} {c : List Int} {j : Nat} {m : Int} (hle : ∀ y ∈ cs.map (fun x => ap x c), m ≤ y) (h1 : (cs.map fun x => ap x c)[j]? = some m) (h2 : ∀ i x, i < j → (cs.map fun x => ap x c)[i]? = some x → x ≠ m) : near cs c j := by
  have hj : j < cs.length := by
    have := (List.getElem?_eq_some_iff.mp h1).1
    rwa [List.length_map] at this
  rw [List.getElem?_map, List.getElem?_eq_getElem hj] at h1
  have e : ap cs[j] c = m := Option.some.inj h1
  refine ⟨hj, fun i hi => ?_⟩
  have l := hle (ap cs[i] c) (List.mem_map.mpr ⟨_, List.getElem_mem hi, rfl⟩)
  by_cases hij : i < j
  · have := h2 i (ap cs[i] c) hij (by rw [List.getElem?_map, List.getElem?_eq_getElem hi]; rfl)
    omega
  · omega
theorem flat_ints (ns : List Int) : (ns.map V.int).all flatV = true := by
  induction ns with
  | nil => rfl
  | cons n ns ih => rw [List.map_cons, List.all_cons, ih]; rfl
theorem ok_nearest (T : Tx K mg) {k : Nat} : FnOk P w K mg base CX0 (k + 2) T.f_nearest T.d_nearest ["palette", "colour"] spNear := by
  refine T.F_nearest.ok sc_nearest (fun vs H Q E h => ?_) (fun cdv A outer s H vs Q E hr h => ?_)
  · obtain ⟨B, pl, cv, cs, c, rfl, _⟩ := h
    rfl
  · obtain ⟨B, pl, cv, cs, c, rfl, hp, hc, ⟨o1, o2, o3, o4⟩, c0, q⟩ := h
    obtain ⟨pa, vs, rfl, np, ep, hA⟩ := hp.pal
    have lv := hA.len
    rw [List.length_map] at lv
    refine ⟨_, (pss_cons (ps_setLc (i := 2) (own := [("one", 3)]) (by rfl) sc_nearest.nd rfl rfl (sw_true rfl rfl rfl (by decide +kernel)) (pi_listK K (pv 0)) (blkOk_by (own := [("one", 3)]) (N := N_nearest) (sc := defScope s_nearest) (by decide +kernel)) (fun _ _ _ _ _ => (pg_name (i := 3) sc_nearest.nd rfl (.inl rfl))) (fun _ _ _ _ _ => pts_nil) (fun _ _ _ _ _ => (pe_call (ok_apart T (k := k)) hr (by rfl) T.g_apart T.F_apart.kp T.b_apart .nil pass0 (pa_cons (pv 3) (pa_cons (pv 1) pa_nil)))))
      (pss_one (ps_ret (pe_bm PySem.F.plainAttrs_list PySem.F.slot_list_index PySem.F.type_list_index (mt_indexK K) (pv 2) (pa_cons (pe_callB (cr_minK K rfl) (by rfl) T.z_min (by decide +kernel) (pa_cons (pv 2) pa_nil)) pa_nil))))), ?_⟩
    refine ⟨_, rfl, pa, rfl, ⟨_, SqL.of ep⟩, fun D hD => ?_⟩
    refine lc_pure (B := []) (walk_list (xs := vs)) hD (fun _ h => nomatch h) (fun H' s' => SqL.of (s' _ _ ep)) (by omega)
      (fun i => (cs.map fun x => PyData.int (ap x c))[i]?) (fun i x H' H'' Ny Nn hi t1 bk y ky kn => ?_) (fun H8 ws s8 eS hW => ?_)
    · obtain ⟨rfl, y⟩ := y
      obtain ⟨d1, f1, h1⟩ := hA.getV y
      have hi2 : i < cs.length := by omega
      rw [List.getElem?_map, List.getElem?_eq_getElem hi2] at f1
      have ed : d1 = eC cs[i] := (Option.some.inj f1).symm
      subst ed
      have oc := o4 _ (List.getElem_mem hi2)
      refine ⟨rfl, lc_yes ⟨_, rfl, _, rfl, B, x, cv, cs[i], c, rfl, h1.s t1, hc.s t1, oc.1, o2, oc.2, o3, fun H3 s3 => ?_⟩⟩
      exact ky _ _ _ (by rw [List.getElem?_map, List.getElem?_eq_getElem hi2]; rfl) s3 (.int _)
    · rw [fm_all (by simp; omega)] at hW
      have hW2 : DtA [D] H8 ws ((cs.map fun x => ap x c).map PyData.int) := by rw [List.map_map]; exact hW
      have ews := hW2.intsV
      subst ews
      refine ⟨_, rfl, .inl ⟨rfl, _, SqL.of eS⟩, _, rfl, D, _, rfl, SqL.of eS, (by rw [List.length_map]; omega), fun m hm hle => ?_⟩
      obtain ⟨j, h1, h2⟩ := first_at hm
      refine ⟨D, _, _, j, .int m, rfl, rfl, SqL.of eS, rfl, flat_ints _, (by rw [List.getElem?_map, h1]; rfl), (by unfold eqV; simp), fun i z hi hz => ?_, ?_⟩
      · rw [List.getElem?_map] at hz
        cases hx : (cs.map fun x => ap x c)[i]? with
        | none => rw [hx] at hz; cases hz
        | some x =>
          rw [hx] at hz
          have ez : V.int x = z := Option.some.inj hz
          rw [← ez]
          have := h2 i x hi hx
          unfold eqV
          simp [this]
      · exact q _ j s8 (near_of hle h1 h2)
/-! ### the law's own nearest -/
def prF (cs : List (List Int)) (c : List Int) (i : Nat) : Option (Int × Int) := (cs[i]?).map fun x => (ap x c, (i : Int))
def prs (cs : List (List Int)) (c : List Int) : List (Int × Int) := (List.range cs.length).filterMap (prF cs c)
theorem prs_map (cs : List (List Int)) (c : List Int) : (List.range cs.length).filterMap (fun i => (prF cs c i).map enc) = (prs cs c).map enc := by
  unfold prs
  rw [List.map_filterMap]
theorem prs_at (cs : List (List Int)) (c : List Int) : prs cs c = cs.zipIdx.map fun x => (ap x.1 c, (x.2 : Int)) := by
  have e : prF cs c = fun i => (cs.zipIdx.map fun x => (ap x.1 c, (x.2 : Int)))[i]? := by
    funext i
    unfold prF
    rw [List.getElem?_map, List.getElem?_zipIdx]
    cases cs[i]? <;> simp
  unfold prs
  rw [e, fm_all (by simp)]
theorem near_min {cs : List (List Int)} {c : List Int} {p : Int × Int} {ps : List (Int × Int)} {i : Nat} (e : prs cs c = p :: ps) (h : (p :: ps)[i]? = some (minP p ps)) : near cs c i ∧ (minP p ps).2 = i := by
  have le := minP_le p ps
  rw [← e, prs_at] at le h
  have hi : i < cs.length := by
    have := (List.getElem?_eq_some_iff.mp h).1
    simpa using this
  rw [List.getElem?_map, List.getElem?_zipIdx, List.getElem?_eq_getElem hi] at h
  have em : (ap cs[i] c, (i : Int)) = minP p ps := by
    have := Option.some.inj h
    simpa using this
  rw [← em] at le
  refine ⟨⟨hi, fun j hj => ?_⟩, by rw [← em]⟩
  have := SrtO.lexB_no.mp (le (ap cs[j] c, (j : Int)) (List.mem_map.mpr ⟨(cs[j], j), by
    rw [List.mem_iff_getElem?]
    exact ⟨j, by rw [List.getElem?_zipIdx, List.getElem?_eq_getElem hj]; simp⟩, rfl⟩))
  simp only at this
  omega
theorem ok_l_nearest (T : Tx K mg) {k : Nat} : FnOk P w K mg base CX0 (k + 2) T.f_l_nearest T.d_l_nearest ["_law_palette_here", "_law_colour_here"] spNear := by
  refine T.F_l_nearest.ok sc_l_nearest (fun vs H Q E h => ?_) (fun cdv A outer s H vs Q E hr h => ?_)
  · obtain ⟨B, pl, cv, cs, c, rfl, _⟩ := h
    rfl
  · obtain ⟨B, pl, cv, cs, c, rfl, hp, hc, ⟨o1, o2, o3, o4⟩, c0, q⟩ := h
    obtain ⟨pa, vs, rfl, np, ep, hA⟩ := hp.pal
    have lv := hA.len
    rw [List.length_map] at lv
    refine ⟨_, (pss_one (ps_ret (pe_ix (ix_tupK K) (pe_callB (cr_minP K rfl hr.units) (by rfl) T.z_min (by decide +kernel) (pa_cons (pe_lc (own := [("_law_k", 2), ("_law_one", 3)]) (by rfl) sc_l_nearest.nd (pi_enum (by rfl) T.z_enumerate (pa_cons (pv 0) pa_nil)) (blkOk_by (own := [("_law_k", 2), ("_law_one", 3)]) (N := N_l_nearest) (sc := defScope s_l_nearest) (by decide +kernel)) (fun _ _ _ _ _ => (pg_tupK K (n := 2) rfl (pgs_cons (pg_name (i := 2) sc_l_nearest.nd rfl (.inl rfl)) (pgs_cons (pg_name (i := 3) sc_l_nearest.nd rfl (.inl rfl)) pgs_nil)))) (fun _ _ _ _ _ => pts_nil) (fun _ _ _ _ _ => (pe_tup (pa_cons (pe_call (ok_l_apart T (k := k)) hr (by rfl) T.g_l_apart T.F_l_apart.kp T.b_l_apart .nil pass0 (pa_cons (pv 3) (pa_cons (pv 1) pa_nil))) (pa_cons (pv 2) pa_nil))))) pa_nil)) pe_int (fun _ _ => rfl)))), ?_⟩
    refine ⟨_, rfl, pa, _, rfl, SqL.of ep, fun D hD => ?_⟩
    refine lc_pure (B := []) (walk_enum (xs := vs)) hD (fun _ h => nomatch h) (fun H' s' => SqL.of (s' _ _ ep)) (by omega)
      (fun i => (prF cs c i).map enc) (fun i x H' H'' Ny Nn hi s1 bk y ky kn => ?_) (fun H1 ws s1 eD hW => ?_)
    · obtain ⟨t, x, y, rfl, ht, rfl, e1, e2⟩ := y
      obtain ⟨d1, f1, g1⟩ := hA.getV e2
      have hi2 : i < cs.length := by omega
      rw [List.getElem?_map, List.getElem?_eq_getElem hi2] at f1
      have ed : d1 = eC cs[i] := (Option.some.inj f1).symm
      subst ed
      have ex : V.int i = x := Option.some.inj e1
      subst ex
      have oc := o4 _ (List.getElem_mem hi2)
      refine ⟨t, _, rfl, SqT.of upd_same, rfl, _, _, rfl, y, _, rfl, rfl, rfl, lc_yes ?_⟩
      refine ⟨_, rfl, _, rfl, B, y, cv, cs[i], c, rfl, (g1.s s1).s (sm_new ht), (hc.s s1).s (sm_new ht), oc.1, o2, oc.2, o3, fun H3 s3 => ?_⟩
      refine ⟨_, rfl, (by show 2 ≤ sizeLine; decide), fun t2 ht2 => ?_⟩
      have s4 := (sm_new ht).trans s3
      refine ky _ _ (enc (ap cs[i] c, (i : Int))) ?_ (s4.trans (sm_new ht2)) (Dt.ofCol ((bk.go (Go.of (B := []) s4)).ne ht2) upd_same)
      unfold prF
      rw [List.getElem?_eq_getElem hi2]
      rfl
    · rw [lv, prs_map] at hW
      have hl : (prs cs c).length = cs.length := by rw [prs_at]; simp
      obtain ⟨p, ps, e⟩ : ∃ p ps, prs cs c = p :: ps := by
        cases h : prs cs c with
        | nil => rw [h] at hl; simp at hl; omega
        | cons p ps => exact ⟨p, ps, rfl⟩
      rw [e] at hW
      refine ⟨D, ws, p, ps, rfl, SqL.of eD, hW.dP, fun i x hx hm => ?_⟩
      obtain ⟨hn, h2⟩ := near_min e hm
      obtain ⟨d, fd', gd⟩ := hW.getV hx
      rw [List.getElem?_map, hm] at fd'
      have ed : d = enc (minP p ps) := (Option.some.inj fd').symm
      subst ed
      obtain ⟨t, rfl, _, et⟩ := gd.col
      refine ⟨t, _, 1, .int (minP p ps).2, rfl, rfl, SqT.of et, rfl, ?_⟩
      rw [h2]
      exact q _ i s1 hn
/-! ### pictures that are drawn -/
def picOk (wd : Int) (ps : List (List (List Int))) : Prop := 0 < ps.length ∧ ps.length ≤ 16 ∧ ∃ wz : Nat, 1 ≤ wz ∧ wz ≤ 16 ∧ ∀ p ∈ ps, p.length = wz ∧ ∀ c ∈ p, cOk wd c
def spPicture : Sp := fun vs H Q _ => ∃ (L : Addr) (n : Nat) (kv : V) (wd sp : Int), vs = [.ref L, kv] ∧ Lf L H n ∧ n < 1000000 ∧ Dt [L] H kv (eC [wd, sp]) ∧ 0 ≤ wd ∧ wd ≤ 5 ∧ 1 ≤ sp ∧ sp ≤ 1000 ∧
  ∀ (a : Addr) (vs : List V) (H' : Hp) (ps : List (List (List Int))), Go [L] H H' → Lf L H' (n + 4000) → H a = none → H' a = some (.lst vs) → DtA [a, L] H' vs (ps.map eP) → picOk wd ps → Q (.ref a) H'
set_option maxHeartbeats 1000000 in
theorem ok_l_picture (T : Tx K mg) {k : Nat} : FnOk P w K mg base CX0 (k + 4) T.f_l_picture T.d_l_picture ["_law_left_here", "_law_kind_here"] spPicture := by
  refine T.F_l_picture.ok sc_l_picture (fun vs H Q E h => ?_) (fun cdv A outer s H vs Q E hr h => ?_)
  · obtain ⟨L, n, kv, wd, sp, rfl, _⟩ := h
    rfl
  · obtain ⟨L, n, kv, wd, sp, rfl, hL, hn, hk, w0, w1, s0, s1, q⟩ := h
    refine ⟨_, (pss_cons (ps_asg (pe_lc (own := [("_law_side", 10)]) (by rfl) sc_l_picture.nd (pi_range1 (by rfl) T.z_range (pa_cons pe_int pa_nil)) (blkOk_by (own := [("_law_side", 10)]) (N := N_l_picture) (sc := defScope s_l_picture) (by decide +kernel)) (fun _ _ _ _ _ => (pg_name (i := 10) sc_l_picture.nd rfl (.inl rfl))) (fun _ _ _ _ _ => pts_nil) (fun _ _ _ _ _ => (pe_ix (ix_listK K) (pe_lst (pa_cons (pe_op op_add pe_int (pe_call (ok_l_pick T (k := k + 1)) hr (by rfl) T.g_l_pick T.F_l_pick.kp T.b_l_pick .nil pass0 (pa_cons (pv 0) (pa_cons pe_int pa_nil)))) (pa_cons (pe_op op_add pe_int (pe_call (ok_l_pick T (k := k + 1)) hr (by rfl) T.g_l_pick T.F_l_pick.kp T.b_l_pick .nil pass0 (pa_cons (pv 0) (pa_cons pe_int pa_nil)))) pa_nil))) (pe_callTy call_int1 (by rfl) T.z_int (by decide +kernel) (pa_cons (pe_cmpR op_eq (pe_call (ok_l_pick T (k := k + 1)) hr (by rfl) T.g_l_pick T.F_l_pick.kp T.b_l_pick .nil pass0 (pa_cons (pv 0) (pa_cons pe_int pa_nil))) pe_int (nomark _)) pa_nil)) (fun _ _ => rfl)))) (pg_lstK K (n := 2) rfl (pgs_cons (pg_name (i := 2) sc_l_picture.nd rfl (.inl rfl)) (pgs_cons (pg_name (i := 3) sc_l_picture.nd rfl (.inl rfl)) pgs_nil))))
      (pss_cons (ps_setLc (i := 4) (own := [("_law_k", 11)]) (by rfl) sc_l_picture.nd rfl rfl (sw_true rfl rfl rfl (by decide +kernel)) (pi_range1 (by rfl) T.z_range (pa_cons (pe_op op_add pe_int (pe_call (ok_l_pick T (k := k + 1)) hr (by rfl) T.g_l_pick T.F_l_pick.kp T.b_l_pick .nil pass0 (pa_cons (pv 0) (pa_cons pe_int pa_nil)))) pa_nil)) (blkOk_by (own := [("_law_k", 11)]) (N := N_l_picture) (sc := defScope s_l_picture) (by decide +kernel)) (fun _ _ _ _ _ => (pg_name (i := 11) sc_l_picture.nd rfl (.inl rfl))) (fun _ _ _ _ _ => pts_nil) (fun _ _ _ _ _ => (pe_call (ok_l_colour T (k := k)) hr (by rfl) T.g_l_colour T.F_l_colour.kp T.b_l_colour .nil pass0 (pa_cons (pv 0) (pa_cons (pv 1) pa_nil)))))
      (pss_cons (ps_set (i := 5) sc_l_picture.nd rfl (.inl rfl) (pe_lst pa_nil))
      (pss_cons (ps_for PassesOwn.never rfl (pi_range1 (by rfl) T.z_range (pa_cons (pv 2) pa_nil)) (pg_name (i := 6) sc_l_picture.nd rfl (.inl rfl)) (pss_cons (ps_set (i := 7) sc_l_picture.nd rfl (.inl rfl) (pe_lst pa_nil))
      (pss_cons (ps_for PassesOwn.never rfl (pi_range1 (by rfl) T.z_range (pa_cons (pv 3) pa_nil)) (pg_name (i := 8) sc_l_picture.nd rfl (.inl rfl)) (pss_cons (ps_set (i := 9) sc_l_picture.nd rfl (.inl rfl) (pe_ix (ix_listK K) (pv 4) (pe_call (ok_l_pick T (k := k + 1)) hr (by rfl) T.g_l_pick T.F_l_pick.kp T.b_l_pick .nil pass0 (pa_cons (pv 0) (pa_cons (pe_callB (len_K K) (by rfl) T.z_len PySem.boot_len (pa_cons (pv 4) pa_nil)) pa_nil))) (fun _ _ => rfl)))
      (Evl.pss_cut (ps_if (pt_cmpR op_eq (pe_call (ok_l_pick T (k := k + 1)) hr (by rfl) T.g_l_pick T.F_l_pick.kp T.b_l_pick .nil pass0 (pa_cons (pv 0) (pa_cons pe_int pa_nil))) pe_int (nomark _)) (pss_one (ps_set (i := 9) sc_l_picture.nd rfl (.inl rfl) (pe_call (ok_l_colour T (k := k)) hr (by rfl) T.g_l_colour T.F_l_colour.kp T.b_l_colour .nil pass0 (pa_cons (pv 0) (pa_cons (pv 1) pa_nil))))) pss_nil)
      (pss_one (ps_expr (pe_bm PySem.F.plainAttrs_list PySem.F.slot_list_append PySem.F.type_list_append mt_append (pv 7) (pa_cons (pv 9) pa_nil)))))))
      (pss_one (ps_expr (pe_bm PySem.F.plainAttrs_list PySem.F.slot_list_append PySem.F.type_list_append mt_append (pv 5) (pa_cons (pv 7) pa_nil)))))))
      (pss_one (ps_ret (pv 5))))))), ?_⟩
    refine ⟨2, rfl, by decide, by decide, fun D hD => ?_⟩
    refine lc_ints (walk_range (lo := 0) (n := 2)) n 3 1 16 hD hL (fun _ _ => True.intro) (by omega) (fun i x H' H'' Ny Nn hi g' l' y ky => ?_) (fun H1 xs g1 l1 eD ln cn => ?_)
    · obtain ⟨rfl, rfl⟩ := y
      refine ⟨rfl, lc_yes ⟨_, rfl, L, 6, _, rfl, l', by omega, by decide, by decide, fun r1 H1 g1 l1 a1 b1 => ?_⟩⟩
      refine ⟨_, _, rfl, rfl, _, rfl, L, 16, _, rfl, l1, by omega, by decide, by decide, fun r2 H2 g2 l2 a2 b2 => ?_⟩
      refine ⟨_, _, rfl, rfl, (by show 2 ≤ sizeLine; decide), fun p hp => ?_⟩
      refine ⟨_, rfl, L, 8, _, rfl, l2.new hp, by omega, by decide, by decide, fun r3 H3 g3 l3 a3 b3 => ?_⟩
      have e3 : H3 p = some (.lst [.int (1 + r1), .int (1 + r2)]) := g3.k p _ (l2.bk.ne hp) upd_same
      obtain ⟨z3, f3, hz3⟩ := at2i (1 + r1) (1 + r2) (decide (V.int r3 = V.int 0))
      refine ⟨rfl, .inr ⟨_, rfl, p, _, _, _, rfl, rfl, SqL.of e3, f3, ?_⟩⟩
      exact ky z3 _ (((g1.trans g2).trans (Go.new hp)).trans g3) (l3.mono (by omega)) (by omega) (by omega)
    obtain ⟨hi, wz, rfl⟩ : ∃ hi wz, xs = [hi, wz] := by
      match xs, ln with
      | [a, b], _ => exact ⟨a, b, rfl⟩
    have chi := cn hi (by simp)
    have cwz := cn wz (by simp)
    refine ⟨D, [.int hi, .int wz], rfl, SqL.of eD, rfl, _, _, rfl, _, _, rfl, rfl, ?_⟩
    refine ⟨_, rfl, L, 8, _, rfl, l1, by omega, by decide, by decide, fun r2 H2 g2 l2 a2 b2 => ?_⟩
    have hk2 := hk.g (g1.trans g2)
    refine ⟨_, _, rfl, rfl, 1 + r2, rfl, by omega, by omega, fun D2 hD2 => ?_⟩
    refine lc_dtsB (walk_range (lo := 0) (n := (1 + r2).toNat)) (B := [L]) (n + 7) 10 (fun d => ∃ c, d = eC c ∧ cOk wd c) hD2 (l2.mono (by omega)) (by simp) l2.bk (fun _ _ => True.intro) (by omega) (fun j x H4 H5 Ny Nn hj g4 l4 bk4 y ky => ?_) (fun H4 ws ds g4 l4 eD4 hW hn4 hp4 => ?_)
    · obtain ⟨rfl, rfl⟩ := y
      refine ⟨rfl, lc_yes ⟨_, rfl, _, rfl, L, [D2, L], n + 7 + 10 * j, kv, wd, sp, rfl, l4, by simp, bk4, by omega, hk2.g g4, w0, w1, s0, s1, fun v H5 c g5 l5 d5 n5 c5 => ?_⟩⟩
      exact ky _ _ _ g5 l5 d5 ⟨c, rfl, n5, c5⟩
    obtain ⟨cs, rfl, hcs⟩ := colsOf hp4
    rw [List.length_map] at hn4
    have lw := hW.len
    rw [List.length_map] at lw
    have hk4 := hk2.g g4
    have gH4 := (g1.trans g2).trans g4
    have nD2 : D2 ∉ [L] := l2.bk.ne hD2
    have hW1 := hW.un
    refine ⟨Nat.zero_le _, fun F hF => ?_⟩
    have hFH : H F = none := gH4.free hF
    have nF : F ∉ [L] := l4.bk.ne hF
    have sF := sm_new (o := .lst []) hF
    have g5 := gH4.trans (Go.new (o := .lst []) hF)
    have l5 := l4.new (o := .lst []) hF
    have eF5 : (upd H4 F (.lst [])) F = some (.lst []) := upd_same
    have eD5 := sF _ _ eD4
    have hW5 := (hW1.fr hF).s sF
    have hk5 := (hk4.fr hF).s sF
    have nDF : D2 ∉ [F, L] := fun z => by
      rcases List.mem_cons.mp z with e | e
      · rw [← e, eD4] at hF
        cases hF
      · exact nD2 e
    generalize upd H4 F (.lst []) = H5 at *
    refine ⟨_, rfl, hi, rfl, by omega, by omega, for_range (lo := 0) (n := hi.toNat) (fun i σ H' => ∃ y6 y7 y8 y9 y10 y11 vs ps, σ = [some (.ref L), some kv, some (.int hi), some (.int wz), some (.ref D2), some (.ref F), y6, y7, y8, y9, y10, y11] ∧ Go [L] H H' ∧ Lf L H' (n + 100 + 200 * i) ∧ H' D2 = some (.lst ws) ∧ DtA [F, L] H' ws (cs.map eC) ∧ Dt [F, L] H' kv (eC [wd, sp]) ∧ H' F = some (.lst vs) ∧ DtA [F, L] H' vs (ps.map eP) ∧ ps.length = i ∧ ∀ p ∈ ps, p.length = wz.toNat ∧ ∀ c ∈ p, cOk wd c)
      ⟨_, _, _, _, _, _, [], [], rfl, g5, l5.mono (by omega), eD5, hW5, hk5, eF5, .nil, rfl, fun _ h => nomatch h⟩ (fun i σ H6 hi6 h6 => ?_) (fun σ H6 h6 => ?_)⟩
    · obtain ⟨y6, y7, y8, y9, y10, y11, vs, ps, rfl, g6, l6, eD6, hW6, hk6, eF6, hA6, lp6, hp6⟩ := h6
      have bk6 : Bk [F, L] H6 := l6.bk.cons eF6
      have lv6 := hA6.len
      rw [List.length_map] at lv6
      refine ⟨Nat.zero_le _, fun S hS => ?_⟩
      have hSH : H S = none := g6.free hS
      have nS : S ∉ [F, L] := bk6.ne hS
      have nSF : F ≠ S := fun z => nS (by rw [z]; exact List.mem_cons_self ..)
      have nSL : S ∉ [L] := fun z => nS (List.mem_cons_of_mem _ z)
      have nDS : D2 ∉ [S, F, L] := fun z => by
        rcases List.mem_cons.mp z with e | e
        · rw [← e, eD6] at hS
          cases hS
        · exact nDF e
      have s7 := sm_new (o := .lst []) hS
      have eS7 : (upd H6 S (.lst [])) S = some (.lst []) := upd_same
      have g7 := g6.trans (Go.of s7)
      have l7 := l6.same s7
      have eD7 := s7 _ _ eD6
      have hW7 := (hW6.fr hS).s s7
      have hk7 := (hk6.fr hS).s s7
      have eF7 := s7 _ _ eF6
      have hA7 := (hA6.fr hS).s s7
      generalize upd H6 S (.lst []) = H7 at *
      refine ⟨_, rfl, wz, rfl, by omega, by omega, for_range (lo := 0) (n := wz.toNat) (fun j σ H' => ∃ y6 y8 y9 y10 y11 us qs, σ = [some (.ref L), some kv, some (.int hi), some (.int wz), some (.ref D2), some (.ref F), y6, some (.ref S), y8, y9, y10, y11] ∧ Go [S, L] H7 H' ∧ Lf L H' (n + 100 + 200 * i + 12 * j) ∧ H' S = some (.lst us) ∧ DtA [S, F, L] H' us (qs.map eC) ∧ qs.length = j ∧ ∀ c ∈ qs, cOk wd c)
        ⟨_, _, _, _, _, [], [], rfl, Go.refl, l7.mono (by omega), eS7, .nil, rfl, fun _ h => nomatch h⟩ (fun j σ H8 hj h8 => ?_) (fun σ H8 h8 => ?_)⟩
      · obtain ⟨y6, y8, y9, y10, y11, us, qs, rfl, g8, l8, eS8, hU, lq, hq⟩ := h8
        have g8' : Go [S, F, L] H7 H8 := g8.w (by simp)
        have eD8 := g8'.k D2 _ nDS eD7
        have hW8 := hW7.g g8'
        have hk8 := hk7.g g8'
        have bk8 : Bk [S, F, L] H8 := ((bk6.go (Go.of (B := []) s7)).go g8).cons eS8
        have lu := hU.len
        rw [List.length_map] at lu
        refine ⟨_, rfl, _, rfl, _, rfl, D2, _, rfl, .inl (SqL.of eD8), L, _, _, rfl, l8, by omega, by omega, by omega, fun r9 H9 g9 l9 a9 b9 => ?_⟩
        have g9' : Go [S, F, L] H8 H9 := g9.w1 (by simp)
        have eD9 := g9'.k D2 _ nDS eD8
        have hr9 : r9.toNat < cs.length := by omega
        obtain ⟨v9, f9, d9⟩ := (hW8.g g9').get (i := r9.toNat) (d := eC cs[r9.toNat]) (by rw [List.getElem?_map, List.getElem?_eq_getElem hr9]; rfl)
        have o9 := hcs _ (List.getElem_mem hr9)
        refine ⟨D2, _, _, _, rfl, rfl, SqL.of eD9, at0 a9 f9, ?_⟩
        refine ⟨fun σ' H' => ∃ y6 y8 y10 y11 v c, σ' = [some (.ref L), some kv, some (.int hi), some (.int wz), some (.ref D2), some (.ref F), y6, some (.ref S), y8, some v, y10, y11] ∧ Go [L] H8 H' ∧ Lf L H' (n + 100 + 200 * i + 12 * j + 12) ∧ Dt [S, F, L] H' v (eC c) ∧ cOk wd c, ?_, fun σ' H' hM => ?_⟩
        · refine ⟨_, rfl, L, 4, _, rfl, l9, by omega, by decide, by decide, fun r10 H10 g10 l10 a10 b10 => ?_⟩
          have g10' : Go [S, F, L] H9 H10 := g10.w1 (by simp)
          refine ⟨rfl, _, rfl, ite2 (fun e => ?_) (fun e => ?_)⟩
          · refine ⟨_, rfl, _, rfl, L, [S, F, L], _, kv, wd, sp, rfl, l10, by simp, (bk8.go g9).go g10, by omega, ((hk8.g g9').g g10').sub (by simp), w0, w1, s0, s1, fun v H11 c g11 l11 d11 n11 c11 => ?_⟩
            exact ⟨_, _, _, _, v, c, rfl, (g9.trans g10).trans g11, l11.mono (by omega), d11, n11, c11⟩
          · exact ⟨_, _, _, _, v9, _, rfl, g9.trans g10, l10.mono (by omega), d9.g g10', o9⟩
        · obtain ⟨y6, y8, y10, y11, v, c, rfl, gM, lM, dM, oM⟩ := hM
          have eSM := gM.k S _ nSL eS8
          have gm : Go [S, F, L] H' (upd H' S (.lst (us ++ [v]))) := Go.refl.at (by simp)
          refine ⟨_, rfl, .inl ⟨rfl, _, SqL.of eSM⟩, _, rfl, S, _, _, rfl, rfl, eSM, sz (by omega), ?_⟩
          refine ⟨_, _, _, _, _, us ++ [v], qs ++ [c], rfl, (g8.trans (gM.w1 (by simp))).at (by simp), (lM.up (show S ≠ L by simpa using nSL)).mono (by omega), upd_same, ?_, by simp; omega, fun c' h => ?_⟩
          · rw [List.map_append]
            exact ((hU.g (gM.w1 (by simp))).g gm).app (.one (dM.g gm))
          · rcases List.mem_append.mp h with h | h
            · exact hq c' h
            · rw [List.mem_singleton.mp h]
              exact oM
      · obtain ⟨y6, y8, y9, y10, y11, us, qs, rfl, g8, l8, eS8, hU, lq, hq⟩ := h8
        have g8' : Go [S, F, L] H7 H8 := g8.w (by simp)
        have nFS : F ∉ [S, L] := fun z => by
          rcases List.mem_cons.mp z with e | e
          · exact nSF e
          · exact nF e
        have eF8 := g8.k F _ nFS eF7
        have gm : Go [F, L] H8 (upd H8 F (.lst (vs ++ [.ref S]))) := Go.refl.at (by simp)
        refine ⟨_, rfl, .inl ⟨rfl, _, SqL.of eF8⟩, _, rfl, F, _, _, rfl, rfl, eF8, sz (by omega), ?_⟩
        refine ⟨_, _, _, _, _, _, vs ++ [.ref S], ps ++ [qs], rfl, ((g8.cons g7 hSH).mut hFH), (l8.up (show F ≠ L by simpa using nF)).mono (by omega), gm.k D2 _ nDF (g8'.k D2 _ nDS eD7), ((hW7.g g8').un).g gm, ((hk7.g g8').un).g gm, upd_same, ?_, by simp; omega, fun p h => ?_⟩
        · rw [List.map_append]
          exact (((hA7.g g8').un).g gm).app (.one (Dt.g (.lst nS eS8 hU.un) gm))
        · rcases List.mem_append.mp h with h | h
          · exact hp6 p h
          · rw [List.mem_singleton.mp h]
            exact ⟨by omega, hq⟩
    · obtain ⟨y6, y7, y8, y9, y10, y11, vs, ps, rfl, g6, l6, eD6, hW6, hk6, eF6, hA6, lp6, hp6⟩ := h6
      exact ⟨_, rfl, q F vs H6 ps g6 (l6.mono (by omega)) hFH eF6 hA6 ⟨by omega, by omega, wz.toNat, by omega, by omega, hp6⟩⟩
/-! ### numbers of the nearest -/
open Classical in
noncomputable def nrI (cs : List (List Int)) (c : List Int) : Nat := if h : ∃ i, near cs c i then h.choose else 0
theorem nr_of {cs : List (List Int)} {c : List Int} {i : Nat} (h : near cs c i) : nrI cs c = i := by
  unfold nrI
  rw [dif_pos ⟨i, h⟩]
  exact near_one (Exists.choose_spec (⟨i, h⟩ : ∃ i, near cs c i)) h
noncomputable def nums (cs : List (List Int)) (ps : List (List (List Int))) : List (List PyData) := ps.map fun p => p.map fun c => PyData.int (nrI cs c)
def spNumby : Sp := fun vs H Q _ => ∃ (pa ca : Addr) (pvs cvs : List V) (ps : List (List (List Int))) (cs : List (List Int)), vs = [.ref pa, .ref ca] ∧ H pa = some (.lst pvs) ∧ DtA [] H pvs (ps.map eP) ∧ H ca = some (.lst cvs) ∧ DtA [] H cvs (cs.map eC) ∧ 0 < cs.length ∧ ps.length ≤ 1000 ∧ (∀ p ∈ ps, p.length ≤ 1000 ∧ ∀ c ∈ p, pOk cs c) ∧
  ∀ (D : Addr) (rs : List Addr) (H' : Hp), Same H H' → H D = none → H' D = some (.lst (rs.map V.ref)) → Rws [] H H' D rs (nums cs ps) → Q (.ref D) H'
theorem palAt' {B : List Addr} {H : Hp} {vs : List V} {ps : List (List (List Int))} (h : DtA B H vs (ps.map eP)) {i : Nat} {v : V} (hv : vs[i]? = some v) : ∃ (hi : i < ps.length) (a : Addr) (us : List V), v = .ref a ∧ a ∉ B ∧ H a = some (.lst us) ∧ DtA B H us (ps[i].map eC) := by
  obtain ⟨d, f, g⟩ := h.getV hv
  rw [List.getElem?_map] at f
  by_cases hi : i < ps.length
  · rw [List.getElem?_eq_getElem hi] at f
    have ed : d = eP ps[i] := (Option.some.inj f).symm
    subst ed
    obtain ⟨a, us, h1, h2, h3, h4⟩ := g.lst2
    exact ⟨hi, a, us, h1, h2, h3, h4⟩
  · rw [List.getElem?_eq_none (by omega)] at f
    cases f
theorem colAt' {B : List Addr} {H : Hp} {vs : List V} {cs : List (List Int)} (h : DtA B H vs (cs.map eC)) {i : Nat} {v : V} (hv : vs[i]? = some v) : ∃ (hi : i < cs.length), Dt B H v (eC cs[i]) := by
  obtain ⟨d, f, g⟩ := h.getV hv
  rw [List.getElem?_map] at f
  by_cases hi : i < cs.length
  · rw [List.getElem?_eq_getElem hi] at f
    have ed : d = eC cs[i] := (Option.some.inj f).symm
    subst ed
    exact ⟨hi, g⟩
  · rw [List.getElem?_eq_none (by omega)] at f
    cases f
theorem mp_range {α β : Type} (f : α → β) (d : α) (xs : List α) : (List.range xs.length).map (fun i => f (xs.getD i d)) = xs.map f := by
  refine List.ext_getElem (by simp) fun i h1 h2 => ?_
  have hi : i < xs.length := by simpa using h1
  simp [List.getD_eq_getElem?_getD, List.getElem?_eq_getElem hi]
theorem ok_numbers_by (T : Tx K mg) {k : Nat} : FnOk P w K mg base CX0 (k + 3) T.f_numbers_by T.d_numbers_by ["picture", "palette"] spNumby := by
  refine T.F_numbers_by.ok sc_numbers_by (fun vs H Q E h => ?_) (fun cdv A outer s H vs Q E hr h => ?_)
  · obtain ⟨pa, ca, pvs, cvs, ps, cs, rfl, _⟩ := h
    rfl
  · obtain ⟨pa, ca, pvs, cvs, ps, cs, rfl, epa, hP, eca, hC, c0, lp, ok, q⟩ := h
    have lpv := hP.len
    rw [List.length_map] at lpv
    refine ⟨_, (pss_one (ps_ret (pe_lc (own := [("row", 2)]) (by rfl) sc_numbers_by.nd (pi_listK K (pv 0)) (blkOk_by (own := [("row", 2)]) (N := N_numbers_by) (sc := defScope s_numbers_by) (by decide +kernel)) (fun _ _ _ _ _ => (pg_name (i := 2) sc_numbers_by.nd rfl (.inl rfl))) (fun _ _ _ _ _ => pts_nil) (fun _ _ _ _ _ => (pe_lc (own := [("colour", 3)]) (by rfl) sc_numbers_by.nd (pi_listK K (pv 2)) (blkOk_in (own := [("colour", 3)]) (N := N_numbers_by) ["palette"] (by decide +kernel) (by decide +kernel) ⟨.inl rfl, trivial⟩) (fun _ _ _ _ _ => (pg_name (i := 3) sc_numbers_by.nd rfl (.inl rfl))) (fun _ _ _ _ _ => pts_nil) (fun _ _ _ _ _ => (pe_call (ok_nearest T (k := k)) hr (by rfl) T.g_nearest T.F_nearest.kp T.b_nearest .nil pass0 (pa_cons (pv 1) (pa_cons (pv 3) pa_nil))))))))), ?_⟩
    refine ⟨_, rfl, pa, rfl, ⟨_, SqL.of epa⟩, fun D hD => ?_⟩
    refine lc_rows (walk_list (xs := pvs)) [] hD (fun H' s' => SqL.of (s' _ _ epa)) (by omega) (fun i => (ps.getD i []).map fun c => PyData.int (nrI cs c)) (fun i x H' H'' Ny Nn hi t1 y ky => ?_) (fun H8 rs s8 eS R => ?_)
    · obtain ⟨rfl, y⟩ := y
      obtain ⟨hi1, ra, us, rfl, _, er, hU⟩ := palAt' hP y
      have gd : ps.getD i [] = ps[i] := by rw [List.getD_eq_getElem?_getD, List.getElem?_eq_getElem hi1]; rfl
      rw [gd] at ky
      have ok1 := ok _ (List.getElem_mem hi1)
      have lu := hU.len
      rw [List.length_map] at lu
      refine ⟨rfl, lc_yes ⟨_, rfl, ra, rfl, ⟨_, SqL.of (t1 _ _ er)⟩, fun E hE => ?_⟩⟩
      refine lc_vals (walk_list (xs := us)) hE (fun H' s' => SqL.of (s' _ _ (t1 _ _ er))) (by omega) (fun j => V.int (nrI cs (ps[i].getD j []))) (fun j x H2 H3 Ny2 Nn2 hj t2 y2 ky2 => ?_) (fun H7 s7 eE => ?_)
      · obtain ⟨rfl, y2⟩ := y2
        obtain ⟨hj1, dj⟩ := colAt' hU y2
        have gj : ps[i].getD j [] = ps[i][j] := by rw [List.getD_eq_getElem?_getD, List.getElem?_eq_getElem hj1]; rfl
        rw [gj] at ky2
        have t12 := t1.trans t2
        refine ⟨rfl, lc_yes ⟨_, rfl, _, rfl, [], .ref ca, x, cs, ps[i][j], rfl, .lst (fun h => nomatch h) (t12 _ _ eca) (hC.s t12), dj.s t12, ok1.2 _ (List.getElem_mem hj1), c0, fun H4 m s4 nm => ?_⟩⟩
        rw [← nr_of nm]
        exact ky2 _ s4
      · rw [lu, mp_range (fun c => V.int (nrI cs c))] at eE
        refine ky E _ H7 s7 hE eE ?_
        have := DtA.ints (B := []) (H := H) (ps[i].map fun c => (nrI cs c : Int))
        rw [List.map_map, List.map_map] at this
        exact this
    · rw [lpv, mp_range (fun p : List (List Int) => p.map fun c => PyData.int (nrI cs c))] at R
      exact q D rs H8 s8 hD eS R
theorem ok_l_due (T : Tx K mg) {k : Nat} : FnOk P w K mg base CX0 (k + 3) T.f_l_due T.d_l_due ["_law_picture_here", "_law_palette_here"] spNumby := by
  refine T.F_l_due.ok sc_l_due (fun vs H Q E h => ?_) (fun cdv A outer s H vs Q E hr h => ?_)
  · obtain ⟨pa, ca, pvs, cvs, ps, cs, rfl, _⟩ := h
    rfl
  · obtain ⟨pa, ca, pvs, cvs, ps, cs, rfl, epa, hP, eca, hC, c0, lp, ok, q⟩ := h
    have lpv := hP.len
    rw [List.length_map] at lpv
    refine ⟨_, (pss_one (ps_ret (pe_lc (own := [("_law_row", 2)]) (by rfl) sc_l_due.nd (pi_listK K (pv 0)) (blkOk_by (own := [("_law_row", 2)]) (N := N_l_due) (sc := defScope s_l_due) (by decide +kernel)) (fun _ _ _ _ _ => (pg_name (i := 2) sc_l_due.nd rfl (.inl rfl))) (fun _ _ _ _ _ => pts_nil) (fun _ _ _ _ _ => (pe_lc (own := [("_law_colour_here", 3)]) (by rfl) sc_l_due.nd (pi_listK K (pv 2)) (blkOk_in (own := [("_law_colour_here", 3)]) (N := N_l_due) ["_law_palette_here"] (by decide +kernel) (by decide +kernel) ⟨.inl rfl, trivial⟩) (fun _ _ _ _ _ => (pg_name (i := 3) sc_l_due.nd rfl (.inl rfl))) (fun _ _ _ _ _ => pts_nil) (fun _ _ _ _ _ => (pe_call (ok_l_nearest T (k := k)) hr (by rfl) T.g_l_nearest T.F_l_nearest.kp T.b_l_nearest .nil pass0 (pa_cons (pv 1) (pa_cons (pv 3) pa_nil))))))))), ?_⟩
    refine ⟨_, rfl, pa, rfl, ⟨_, SqL.of epa⟩, fun D hD => ?_⟩
    refine lc_rows (walk_list (xs := pvs)) [] hD (fun H' s' => SqL.of (s' _ _ epa)) (by omega) (fun i => (ps.getD i []).map fun c => PyData.int (nrI cs c)) (fun i x H' H'' Ny Nn hi t1 y ky => ?_) (fun H8 rs s8 eS R => ?_)
    · obtain ⟨rfl, y⟩ := y
      obtain ⟨hi1, ra, us, rfl, _, er, hU⟩ := palAt' hP y
      have gd : ps.getD i [] = ps[i] := by rw [List.getD_eq_getElem?_getD, List.getElem?_eq_getElem hi1]; rfl
      rw [gd] at ky
      have ok1 := ok _ (List.getElem_mem hi1)
      have lu := hU.len
      rw [List.length_map] at lu
      refine ⟨rfl, lc_yes ⟨_, rfl, ra, rfl, ⟨_, SqL.of (t1 _ _ er)⟩, fun E hE => ?_⟩⟩
      refine lc_vals (walk_list (xs := us)) hE (fun H' s' => SqL.of (s' _ _ (t1 _ _ er))) (by omega) (fun j => V.int (nrI cs (ps[i].getD j []))) (fun j x H2 H3 Ny2 Nn2 hj t2 y2 ky2 => ?_) (fun H7 s7 eE => ?_)
      · obtain ⟨rfl, y2⟩ := y2
        obtain ⟨hj1, dj⟩ := colAt' hU y2
        have gj : ps[i].getD j [] = ps[i][j] := by rw [List.getD_eq_getElem?_getD, List.getElem?_eq_getElem hj1]; rfl
        rw [gj] at ky2
        have t12 := t1.trans t2
        refine ⟨rfl, lc_yes ⟨_, rfl, _, rfl, [], .ref ca, x, cs, ps[i][j], rfl, .lst (fun h => nomatch h) (t12 _ _ eca) (hC.s t12), dj.s t12, ok1.2 _ (List.getElem_mem hj1), c0, fun H4 m s4 nm => ?_⟩⟩
        rw [← nr_of nm]
        exact ky2 _ s4
      · rw [lu, mp_range (fun c => V.int (nrI cs c))] at eE
        refine ky E _ H7 s7 hE eE ?_
        have := DtA.ints (B := []) (H := H) (ps[i].map fun c => (nrI cs c : Int))
        rw [List.map_map, List.map_map] at this
        exact this
    · rw [lpv, mp_range (fun p : List (List Int) => p.map fun c => PyData.int (nrI cs c))] at R
      exact q D rs H8 s8 hD eS R
/-! ### what the law promises -/
def spLaw (K : PySem.W.Frag) : Sp := fun vs H Q _ => ∃ (a : Addr) (ns : List Int), vs = [.ref a] ∧ SqL K H a (ns.map V.int) ∧ ns.length ≤ 63 ∧ ∀ H', Q (.bl true) H'
/-! ### the law -/
theorem nums_len (cs : List (List Int)) (ps : List (List (List Int))) : (nums cs ps).length = ps.length := by unfold nums; rw [List.length_map]
theorem sh_nums {cs : List (List Int)} {ps : List (List (List Int))} (hb : ∀ p ∈ ps, p.length ≤ 1000) : ∀ d ∈ (nums cs ps).map PyData.list, Sh d 1 := fun d hd => by
  obtain ⟨ds, hds, rfl⟩ := List.mem_map.mp hd
  obtain ⟨r, hr, rfl⟩ := List.mem_map.mp hds
  have b := hb r hr
  refine sh_lst (by rw [List.length_map]; omega) fun d hd => ?_
  obtain ⟨x, hx, rfl⟩ := List.mem_map.mp hd
  exact sh_int _ 0
def rowsOk (wd : Int) (ps : List (List (List Int))) : Prop := 0 < ps.length ∧ ps.length ≤ 16 ∧ ∀ p ∈ ps, p.length ≤ 16 ∧ ∀ c ∈ p, cOk wd c
set_option maxHeartbeats 2000000 in
theorem ok_law (T : Tx K mg) {f : Addr} {fd : FuncData} (F : Fun K "law" "law" s_law f fd) {k : Nat} (hk : k ≤ 10) : FnG P w K mg base (k + 5) f fd ["_law_script"] (spLaw K) := by
  refine fn_g F sc_law (fun vs H Q E h => ?_) (fun cdv A outer s H vs Q E hA hr h => ?_)
  · obtain ⟨a, ns, rfl, _⟩ := h
    rfl
  · obtain ⟨a, ns0, rfl, hS, hlen, q⟩ := h
    refine ⟨_, (pss_cons (ps_for PassesOwn.never rfl (pi_range1 (by rfl) T.z_range (pa_cons (pe_op op_add (pe_callB (call_min2 rfl) (by rfl) T.z_min (by decide +kernel) (pa_cons pe_int (pa_cons (pe_callB (len_K K) (by rfl) T.z_len PySem.boot_len (pa_cons (pv 0) pa_nil)) pa_nil))) pe_int) pa_nil)) (pg_name (i := 1) sc_law.nd rfl (.inl rfl)) (pss_cons (ps_set (i := 2) sc_law.nd rfl (.inr rfl) (pe_call (ok_l_left T (k := k + 3)) hr (by rfl) T.g_l_left T.F_l_left.kp T.b_l_left .nil pass0 (pa_cons (pv 0) (pa_cons (pv 1) pa_nil))))
      (pss_cons (ps_asg (pe_op op_add (pe_ix (ix_listK K) (pv 2) pe_int (fun _ _ => rfl)) pe_int) (pg_sub (pv 2) pe_int set_list))
      (pss_cons (ps_set (i := 3) sc_law.nd rfl (.inr rfl) (pe_call (ok_l_kind T (k := k + 1)) hr (by rfl) T.g_l_kind T.F_l_kind.kp T.b_l_kind .nil pass0 (pa_cons (pv 2) pa_nil)))
      (pss_cons (ps_set (i := 4) sc_law.nd rfl (.inl rfl) (pe_call (ok_l_picture T (k := k)) hr (by rfl) T.g_l_picture T.F_l_picture.kp T.b_l_picture .nil pass0 (pa_cons (pv 2) (pa_cons (pv 3) pa_nil))))
      (Evl.pss_cut (ps_if (PW.pt (pw_and (pt_cmpR op_lt (pe_callB (len_K K) (by rfl) T.z_len PySem.boot_len (pa_cons (pv 4) pa_nil)) pe_int (nomark _)) (pw_and1 (pt_cmpR op_eq (pe_call (ok_l_pick T (k := k + 2)) hr (by rfl) T.g_l_pick T.F_l_pick.kp T.b_l_pick .nil pass0 (pa_cons (pv 2) (pa_cons pe_int pa_nil))) pe_int (nomark _))))) (pss_one (ps_expr (pe_bm PySem.F.plainAttrs_list PySem.F.slot_list_append PySem.F.type_list_append mt_append (pv 4) (pa_cons (pe_callTy (list_K K) (by rfl) T.z_list (by decide +kernel) (pa_cons (pe_ix (ix_listK K) (pv 4) pe_int (fun _ _ => rfl)) pa_nil)) pa_nil)))) pss_nil)
      (pss_cons (ps_set (i := 5) sc_law.nd rfl (.inl rfl) (pe_call (ok_l_palette T (k := k)) hr (by rfl) T.g_l_palette T.F_l_palette.kp T.b_l_palette .nil pass0 (pa_cons (pv 2) (pa_cons (pv 3) pa_nil))))
      (pss_cons (ps_setLc (i := 6) (own := [("_law_colour_here", 11)]) (by rfl) sc_law.nd rfl rfl (sw_true rfl rfl rfl (by decide +kernel)) (pi_listK K (pv 5)) (blkOk_by (own := [("_law_colour_here", 11)]) (N := N_law) (sc := defScope s_law) (by decide +kernel)) (fun _ _ _ _ _ => (pg_name (i := 11) sc_law.nd rfl (.inl rfl))) (fun _ _ _ _ _ => pts_nil) (fun _ _ _ _ _ => (pe_call (ok_l_colour T (k := k + 1)) hr (by rfl) T.g_l_colour T.F_l_colour.kp T.b_l_colour .nil pass0 (pa_cons (pv 2) (pa_cons (pv 3) pa_nil)))))
      (pss_cons (ps_set (i := 7) sc_law.nd rfl (.inl rfl) (pe_callTy (cr_strD K hA hr.units) (by rfl) T.z_str (by decide +kernel) (pa_cons (pe_lst (pa_cons (pv 4) (pa_cons (pv 5) pa_nil))) pa_nil)))
      (pss_cons (ps_for PassesOwn.never rfl (pi_tupK K (pe_tup (pa_cons (pv 5) (pa_cons (pv 6) (pa_cons (pv 5) pa_nil))))) (pg_name (i := 8) sc_law.nd rfl (.inl rfl)) (pss_cons (ps_set (i := 9) sc_law.nd rfl (.inl rfl) (pe_call (ok_numbers_by T (k := k + 1)) hr (by rfl) T.g_numbers_by T.F_numbers_by.kp T.b_numbers_by .nil pass0 (pa_cons (pv 4) (pa_cons (pv 8) pa_nil))))
      (pss_cons (ps_set (i := 10) sc_law.nd rfl (.inl rfl) (pe_call (ok_l_due T (k := k + 1)) hr (by rfl) T.g_l_due T.F_l_due.kp T.b_l_due .nil pass0 (pa_cons (pv 4) (pa_cons (pv 8) pa_nil))))
      (pss_cons (ps_if (pt_not (pt_val (pe_call (ok_l_same T (k := k + 3)) hr (by rfl) T.g_l_same T.F_l_same.kp T.b_l_same .nil pass0 (pa_cons (pv 9) (pa_cons (pv 10) pa_nil))))) (pss_one (ps_ret pe_bl)) pss_nil)
      (pss_cons (ps_expr (pe_bm PySem.F.plainAttrs_list PySem.F.slot_list_append PySem.F.type_list_append mt_append (pe_ix (ix_listK K) (pv 9) pe_int (fun _ _ => rfl)) (pa_cons pe_int pa_nil)))
      (pss_cons (ps_if (pt_not (pt_val (pe_call (ok_l_same T (k := k + 3)) hr (by rfl) T.g_l_same T.F_l_same.kp T.b_l_same .nil pass0 (pa_cons (pe_slice (sl_listK K) (pv 9) (po_some pe_int) po_none) (pa_cons (pe_slice (sl_listK K) (pv 10) (po_some pe_int) po_none) pa_nil))))) (pss_one (ps_ret pe_bl)) pss_nil)
      (pss_one (ps_expr (pe_bm0 PySem.F.plainAttrs_list PySem.F.slot_list_clear PySem.F.type_list_clear mt_clear (pv 9))))))))))
      (pss_one (ps_if (pt_cmpR op_ne (pe_callTy (cr_strD K hA hr.units) (by rfl) T.z_str (by decide +kernel) (pa_cons (pe_lst (pa_cons (pv 4) (pa_cons (pv 5) pa_nil))) pa_nil)) (pv 7) (nomark _)) (pss_one (ps_ret pe_bl)) pss_nil))))))))))))
      (pss_one (ps_ret pe_bl))), ?_⟩
    refine ⟨_, rfl, a, _, rfl, .inl hS, _, _, rfl, _, _, rfl, rfl, ?_⟩
    obtain ⟨m, hm⟩ : ∃ m : Int, m = (if ((ns0.map V.int).length : Int) < 4 then ((ns0.map V.int).length : Int) else (4 : Int)) + 1 := ⟨_, rfl⟩
    have m0 : 0 ≤ m ∧ m ≤ 7 := by
      rw [hm]
      split <;> omega
    refine ⟨m, by rw [hm], by omega, by omega, for_range (lo := 0) (n := m.toNat) (fun i σ H' => ∃ y1 y2 y3 y4 y5 y6 y7 y8 y9 y10 y11, σ = [some (.ref a), y1, y2, y3, y4, y5, y6, y7, y8, y9, y10, y11] ∧ Same H H')
      ⟨none, none, none, none, none, none, none, none, none, none, none, rfl, Same.refl H⟩ (fun i σ H1 hi h1 => ?_) (fun σ H1 h1 => ?_)⟩
    · obtain ⟨y1, y2, y3, y4, y5, y6, y7, y8, y9, y10, y11, rfl, s1⟩ := h1
      refine ⟨_, rfl, _, rfl, a, ns0, _, rfl, s1.seq hS, by omega, fun L x0 y0 hL0 x0n => ?_⟩
      have hLH : H L = none := s1.free hL0
      have eL1 : (upd H1 L (.lst [.int x0, .int y0, .int 0])) L = some (.lst [.int x0, .int y0, .int 0]) := upd_same
      have s2 := sm_mut (o := .lst [.int x0, .int y0, .int 0]) s1 hLH
      generalize upd H1 L (.lst [.int x0, .int y0, .int 0]) = H2 at *
      refine ⟨_, rfl, L, _, 1, .int y0, rfl, rfl, SqL.of eL1, rfl, _, _, rfl, rfl, _, rfl, L, _, _, 1, rfl, rfl, eL1, rfl, ?_⟩
      generalize hH : upd H2 L (.lst (List.set [V.int x0, V.int y0, V.int 0] 1 (V.int (y0 + 100)))) = H3
      have lf3 : Lf L H3 0 := ⟨x0, y0 + 100, 0, by rw [← hH]; exact upd_same, x0n, by omega, by omega⟩
      have s3 : Same H H3 := by rw [← hH]; exact sm_mut s2 hLH
      clear hH eL1
      have nB : ∀ b ∈ [L], H b = none := fun b hb => by rw [List.mem_singleton.mp hb]; exact hLH
      refine ⟨_, rfl, L, 0, rfl, lf3, by omega, fun kv H4 wd sp g4 l4 w0 w1 p0 p1 d4 => ?_⟩
      refine ⟨_, rfl, _, rfl, L, _, kv, wd, sp, rfl, l4, by omega, d4, by omega, w1, by omega, p1, fun pa pvs H5 ps g5 l5 hpa epa hP picok => ?_⟩
      have npa : pa ∉ [L] := l4.bk.ne hpa
      obtain ⟨op1, op2, wz, wz0, wz1, op3⟩ := picok
      have ro5 : rowsOk wd ps := ⟨op1, op2, fun p hp => ⟨by have := (op3 p hp).1; omega, (op3 p hp).2⟩⟩
      have lv5 := hP.len
      rw [List.length_map] at lv5
      have s4 : Same H H4 := g4.sm s3 nB
      refine ⟨fun σ' H' => ∃ y1 y5 y6 y7 y8 y9 y10 y11 pvs ps, σ' = [some (.ref a), y1, some (.ref L), some kv, some (.ref pa), y5, y6, y7, y8, y9, y10, y11] ∧ Go [L] H4 H' ∧ Lf L H' 4003 ∧ H' pa = some (.lst pvs) ∧ DtA [pa, L] H' pvs (ps.map eP) ∧ rowsOk wd ps, ?_, fun σ' H6 hM => ?_⟩
      · refine ⟨_, rfl, pa, _, rfl, .inl (SqL.of epa), _, _, rfl, rfl, _, rfl, ite2 (fun e => ?_) (fun e => ?_)⟩
        · have e16 : ((pvs.length : Nat) : Int) < 16 := of_decide_eq_true e
          refine ⟨_, rfl, L, 2, _, rfl, l5, by omega, by decide, by decide, fun r6 H6 g6 l6 a6 b6 => ?_⟩
          have epa6 := g6.k pa _ npa epa
          have hP6 := hP.g (g6.w1 (by simp))
          refine ⟨rfl, _, rfl, ite2 (fun e => ?_) (fun e => ?_)⟩
          · obtain ⟨v0, f0, d0⟩ := hP6.get (i := 0) (d := eP ps[0]) (by rw [List.getElem?_map, List.getElem?_eq_getElem op1]; rfl)
            have m0 := List.getElem_mem (l := ps) (n := 0) op1
            generalize ps[0] = row0 at *
            obtain ⟨ra, us, rfl, nra, era, hU⟩ := d0.lst2
            refine ⟨_, rfl, .inl ⟨rfl, _, SqL.of epa6⟩, _, rfl, pa, _, 0, .ref ra, rfl, rfl, SqL.of epa6, atI_nat (j := 0) f0, ra, _, rfl, .inl (SqL.of era), fun z hz => ?_⟩
            have s7 := sm_new (o := .lst us) hz
            have ez : (upd H6 z (.lst us)) z = some (.lst us) := upd_same
            have bk6 : Bk [pa, L] H6 := l6.bk.cons epa6
            generalize upd H6 z (.lst us) = H7 at *
            have epa7 := s7 _ _ epa6
            refine ⟨pa, _, _, rfl, rfl, epa7, sz (by omega), ?_⟩
            have gm : Go [pa, L] H7 (upd H7 pa (.lst (pvs ++ [.ref z]))) := Go.refl.at (by simp)
            refine ⟨_, _, _, _, _, _, _, _, pvs ++ [.ref z], ps ++ [row0], rfl, ((g5.trans g6).trans (Go.of s7)).mut hpa, ((l6.same s7).up (show pa ≠ L by simpa using npa)).mono (by omega), upd_same, ?_, ?_⟩
            · rw [List.map_append]
              exact ((hP6.s s7).g gm).app (.one (Dt.g (.lst (bk6.ne hz) ez (hU.s s7)) gm))
            · refine ⟨by simp, by simp; omega, fun p hp => ?_⟩
              rcases List.mem_append.mp hp with y | y
              · exact ro5.2.2 p y
              · rw [List.mem_singleton.mp y]
                exact ro5.2.2 _ m0
          · exact ⟨_, _, _, _, _, _, _, _, _, _, rfl, g5.trans g6, l6.mono (by omega), epa6, hP6, ro5⟩
        · exact iteF ⟨_, _, _, _, _, _, _, _, _, _, rfl, g5, l5.mono (by omega), epa, hP, ro5⟩
      clear hP epa lv5 ro5 op1 op2 op3
      obtain ⟨y1, y5, y6, y7, y8, y9, y10, y11, pvs, ps, rfl, g46, l6, epa6, hP6, op1, op2, op3⟩ := hM
      have hP0 := hP6.un
      refine ⟨_, rfl, _, rfl, L, _, kv, wd, sp, rfl, l6, by omega, d4.g g46, by omega, w1, by omega, p1, fun cl H7 cs g7 l7 d7 c0 c1 cok => ?_⟩
      obtain ⟨ca, cvs, rfl, nca, eca, hC⟩ := d7.pal
      have lcv := hC.len
      rw [List.length_map] at lcv
      refine ⟨_, rfl, ca, rfl, ⟨_, SqL.of eca⟩, fun O hO => ?_⟩
      refine lc_dtsB (walk_list (xs := cvs)) (B := [L]) 5003 10 (fun d => ∃ c, d = eC c ∧ cOk wd c) hO (l7.mono (by omega)) (by simp) l7.bk (fun H' g => SqL.of (g.k ca _ nca eca)) (by omega) (fun j x H8 H9 Ny Nn hj g8 l8 bk8 y ky => ?_) (fun H8 ovs ds g8 l8 eO hW hn8 hp8 => ?_)
      · obtain ⟨rfl, y⟩ := y
        refine ⟨rfl, lc_yes ⟨_, rfl, _, rfl, L, [O, L], _, kv, wd, sp, rfl, l8, by simp, bk8, by omega, (d4.g g46).g (g7.trans g8), by omega, w1, by omega, p1, fun v H5 c g5 l5 d5 n5 c5 => ?_⟩⟩
        exact ky _ _ _ g5 l5 d5 ⟨c, rfl, n5, c5⟩
      obtain ⟨os, rfl, hos⟩ := colsOf hp8
      rw [List.length_map] at hn8
      have g78 := g7.trans g8
      have epa8 := g78.k pa _ npa epa6
      have dP8 : DtA [] H8 pvs (ps.map eP) := (hP0.g g78).sub (fun _ h => nomatch h)
      have eca8 := g8.k ca _ nca eca
      have dC8 : DtA [] H8 cvs (cs.map eC) := (hC.g g8).sub (fun _ h => nomatch h)
      have dO8 : DtA [] H8 ovs (os.map eC) := hW.sub (fun _ h => nomatch h)
      have s8 : Same H H8 := (g46.trans g78).sm s4 nB
      have pal : ∀ xs : List (List Int), xs.length ≤ 40 → (∀ c ∈ xs, cOk wd c) → ∀ p ∈ ps, p.length ≤ 1000 ∧ ∀ c ∈ p, pOk xs c := fun xs lx hx p hp => ⟨by have := (op3 p hp).1; omega, fun c hc => by
        have oc := (op3 p hp).2 c hc
        refine ⟨by omega, by have := oc.1; omega, oc.2.mono (by decide) (by decide), fun y hy => ?_⟩
        have := hx y hy
        exact ⟨by have := this.1; have := oc.1; omega, this.2.mono (by decide) (by decide)⟩⟩
      have wdN : ∀ c : List Int, cOk wd c → c.length ≤ 10 ∧ cIn (-1000000000) 1000000000 c := fun c hc => ⟨by have := hc.1; omega, hc.2.mono (by decide) (by decide)⟩
      have shwG : Shw (eG ps) 4000000 := shw_eG (fun p hp => ⟨by have := (op3 p hp).1; omega, fun c hc => wdN c ((op3 p hp).2 c hc)⟩) (by omega)
      have shwP : Shw (eP cs) 71000 := shw_eP (fun c hc => wdN c (cok c hc)) (by omega)
      have shw : Shw (.list [eG ps, eP cs]) 8000007 := shw_lst (n := 4000000) fun d hd => by
        simp only [List.mem_cons, List.not_mem_nil, or_false] at hd
        rcases hd with rfl | rfl
        · exact shwG
        · exact shwP.mono (by omega)
      have shG : Sh (eG ps) 3 := sh_eG (by omega) fun p hp => ⟨by have := (op3 p hp).1; omega, fun c hc => by have := ((op3 p hp).2 c hc).1; omega⟩
      have shP : Sh (eP cs) 2 := sh_eP (by omega) fun x hx => by have := (cok x hx).1; omega
      have sh : Sh (.list [eG ps, eP cs]) 4 := sh_lst (by simp) fun d hd => by
        simp only [List.mem_cons, List.not_mem_nil, or_false] at hd
        rcases hd with rfl | rfl
        · exact shG
        · exact shP.mono (by omega)
      have dep : (PyData.list [eG ps, eP cs]).depth ≤ 40 := Nat.le_trans sh.2.1 (by decide)
      have slen : (PyData.list [eG ps, eP cs]).shown.length ≤ sizeLine := Nat.le_trans shw.c (by decide)
      refine ⟨_, rfl, _, rfl, (by show 2 ≤ sizeLine; decide), fun kl hkl => ?_⟩
      have s9 := sm_new (o := .lst [.ref pa, .ref ca]) hkl
      have dK : Dt [] (upd H8 kl (.lst [.ref pa, .ref ca])) (.ref kl) (.list [eG ps, eP cs]) := .lst (fun h => nomatch h) upd_same (.cons (.lst (fun h => nomatch h) (s9 _ _ epa8) (dP8.s s9)) (.one (.lst (fun h => nomatch h) (s9 _ _ eca8) (dC8.s s9))))
      generalize upd H8 kl (.lst [.ref pa, .ref ca]) = H9 at *
      refine ⟨kl, _, rfl, dK.dP, shw.a, shw.b, dep, slen, ?_⟩
      refine ⟨_, rfl, _, rfl, _, rfl, (by show 3 ≤ sizeLine; decide), fun tp htp => ?_⟩
      have s10 := sm_new (o := .tup [.ref ca, .ref O, .ref ca]) htp
      have etp : (upd H9 tp (.tup [.ref ca, .ref O, .ref ca])) tp = some (.tup [.ref ca, .ref O, .ref ca]) := upd_same
      generalize upd H9 tp (.tup [.ref ca, .ref O, .ref ca]) = H10 at *
      have t10 := s9.trans s10
      have epa10 := t10 _ _ epa8
      have eca10 := t10 _ _ eca8
      have dP10 := dP8.s t10
      have dC10 := dC8.s t10
      refine ⟨tp, rfl, ⟨_, SqT.of etp⟩, for_it (walk_tup (xs := [.ref ca, .ref O, .ref ca])) (fun i σ H' => ∃ y1 y8 y9 y10 y11, σ = [some (.ref a), y1, some (.ref L), some kv, some (.ref pa), some (.ref ca), some (.ref O), some (.str (PyData.list [eG ps, eP cs]).shown), y8, y9, y10, y11] ∧ Same H10 H')
        ⟨_, _, _, _, _, rfl, Same.refl _⟩ (fun i σ H' _ h => ?_) (fun i x σ H12 H11 hi h y => ?_) (fun σ H11 h => ?_)⟩
      · obtain ⟨y1, y8, y9, y10, y11, rfl, s11⟩ := h
        exact SqT.of (s11 _ _ etp)
      · obtain ⟨y1, y8, y9, y10, y11, rfl, s11⟩ := h
        obtain ⟨rfl, y⟩ := y
        obtain ⟨da, dvs, ds, rfl, eda, dD, dd0, dok⟩ : ∃ da dvs ds, x = .ref da ∧ H10 da = some (.lst dvs) ∧ DtA [] H10 dvs (ds.map eC) ∧ 0 < ds.length ∧ (∀ p ∈ ps, p.length ≤ 1000 ∧ ∀ c ∈ p, pOk ds c) := by
          have c3 : x = .ref ca ∨ x = .ref O := by
            have := List.mem_of_getElem? y
            simp only [List.mem_cons, List.not_mem_nil, or_false] at this
            rcases this with z | z | z
            · exact .inl z
            · exact .inr z
            · exact .inl z
          rcases c3 with z | z
          · exact ⟨ca, cvs, cs, z, eca10, dC10, c0, pal cs (by omega) cok⟩
          · exact ⟨O, ovs, os, z, t10 _ _ eO, dO8.s t10, by omega, pal os (by omega) hos⟩
        refine ⟨_, rfl, _, rfl, pa, da, _, _, ps, ds, rfl, s11 _ _ epa10, dP10.s s11, s11 _ _ eda, dD.s s11, dd0, by omega, dok, fun F fs H13 s13 hF eF RF => ?_⟩
        have t13 := s11.trans s13
        refine ⟨_, rfl, _, rfl, pa, da, _, _, ps, ds, rfl, t13 _ _ epa10, dP10.s t13, t13 _ _ eda, dD.s t13, dd0, by omega, dok, fun D rs H14 s14 hD eD RD => ?_⟩
        have eF14 := s14 _ _ eF
        have RF14 := RF.s s14
        have lnum := nums_len ds ps
        have shF : ∀ d ∈ (nums ds ps).map PyData.list, Sh d 1 := sh_nums fun p hp => (dok p hp).1
        have shL : Sh (.list ((nums ds ps).map PyData.list)) 2 := sh_lst (by rw [List.length_map, nums_len]; omega) shF
        have bk0 : ∀ X : Hp, Bk [] X := fun X _ h => nomatch h
        have hF14 := RF14.dt (bk0 _) (Go.of (s13.trans s14))
        have hD14 := RD.dt (bk0 _) (Go.of s14)
        refine ⟨_, rfl, _, rfl, [], .ref F, .ref D, _, rfl, .lst (fun h => nomatch h) eF14 hF14, .lst (fun h => nomatch h) eD hD14, shL.mono (by omega), by omega, fun H15 s15 => ?_⟩
        refine ⟨_, rfl, iteF ?_⟩
        obtain ⟨ds0, dss, epn⟩ : ∃ ds0 dss, nums ds ps = ds0 :: dss := by
          cases z : nums ds ps with
          | nil => rw [z] at lnum; simp at lnum; omega
          | cons x y => exact ⟨x, y, rfl⟩
        have lds0 : ds0.length ≤ 1000 := by
          have : ds0 ∈ nums ds ps := by rw [epn]; exact List.mem_cons_self ..
          obtain ⟨r, hr, rfl⟩ := List.mem_map.mp this
          rw [List.length_map]
          exact (dok r hr).1
        obtain ⟨f0, fs', rfl⟩ : ∃ f0 fs', fs = f0 :: fs' := by
          have := RF.len
          rw [epn] at this
          cases fs with
          | nil => simp at this
          | cons x y => exact ⟨x, y, rfl⟩
        have RF15 := RF14.s s15
        have eF15 := s15 _ _ eF14
        rw [epn] at RF15
        obtain ⟨ws0, ef0, hw0⟩ := RF15.row 0 f0 ds0 rfl rfl
        have lw0 := hw0.len
        refine ⟨_, rfl, F, _, 0, .ref f0, rfl, rfl, SqL.of eF15, atI_nat (j := 0) rfl, .inl ⟨rfl, _, SqL.of ef0⟩, f0, _, _, rfl, rfl, ef0, sz (by omega), ?_⟩
        have RT := RF15.tail.up (o := .lst (ws0 ++ [.int 7])) (List.nodup_cons.mp RF15.nd).1
        have hf0 : H11 f0 = none := RF15.fr f0 (List.mem_cons_self ..)
        have nF0 : F ≠ f0 := fun z => RF15.nD (by rw [z]; exact List.mem_cons_self ..)
        have s1315 := (s13.trans s14).trans s15
        have nfD : ∀ r ∈ rs, f0 ≠ r := fun r hr z => by
          have := RD.fr r hr
          obtain ⟨w', e', _⟩ := RF.row 0 f0 ds0 rfl (by rw [epn]; rfl)
          rw [← z, e'] at this
          cases this
        have nfD0 : D ≠ f0 := fun z => by
          obtain ⟨w', e', _⟩ := RF.row 0 f0 ds0 rfl (by rw [epn]; rfl)
          rw [z, e'] at hD
          cases hD
        have s16 : Same H11 (upd H15 f0 (.lst (ws0 ++ [.int 7]))) := sm_mut s1315 hf0
        have ef16 : (upd H15 f0 (.lst (ws0 ++ [.int 7]))) f0 = some (.lst (ws0 ++ [.int 7])) := upd_same
        have eF16 : (upd H15 f0 (.lst (ws0 ++ [.int 7]))) F = some (.lst ((f0 :: fs').map V.ref)) := by rw [upd_ne nF0]; exact eF15
        have eD16 : (upd H15 f0 (.lst (ws0 ++ [.int 7]))) D = some (.lst (rs.map V.ref)) := by rw [upd_ne nfD0]; exact s15 _ _ eD
        have RD16 : Rws [] H13 (upd H15 f0 (.lst (ws0 ++ [.int 7]))) D rs (nums ds ps) := (RD.s s15).up (fun z => nfD f0 z rfl)
        generalize upd H15 f0 (.lst (ws0 ++ [.int 7])) = H16 at *
        have intsOf : ∀ {X Y : Hp} {vs : List V} {p : List (List Int)}, DtA [] X vs (p.map fun c => PyData.int (nrI ds c)) → DtA [] Y vs (p.map fun c => PyData.int (nrI ds c)) := fun {X Y vs p} h => by
          have e : (p.map fun c => PyData.int (nrI ds c)) = (p.map fun c => (nrI ds c : Int)).map PyData.int := by rw [List.map_map]; rfl
          rw [e] at h ⊢
          rw [h.intsV]
          exact DtA.ints _
        have dtD16 : DtA [] H16 (rs.map V.ref) ((nums ds ps).map PyData.list) := by
          refine DtA.mk (by rw [List.length_map, List.length_map, RD16.len]) fun i v d h1 h2 => ?_
          rw [List.getElem?_map] at h1 h2
          cases e1 : rs[i]? with
          | none => rw [e1] at h1; cases h1
          | some r =>
            cases e2 : (nums ds ps)[i]? with
            | none => rw [e2] at h2; cases h2
            | some dd =>
              rw [e1] at h1
              rw [e2] at h2
              cases h1
              cases h2
              obtain ⟨ws, e, hh⟩ := RD16.row i r dd e1 e2
              obtain ⟨p, hp, rfl⟩ := List.mem_map.mp (List.mem_of_getElem? e2)
              exact .lst (fun h => nomatch h) e (intsOf hh)
        have hT : DtA [] H16 ((f0 :: fs').map V.ref) ((.list (ds0 ++ [.int 7])) :: dss.map PyData.list) := .cons (.lst (fun h => nomatch h) ef16 ((hw0.s s16).app (.one (.int _)))) (RT.dt (bk0 _) (Go.of s16))
        refine ⟨_, rfl, 1, rfl, F, _, rfl, SqL.of eF16, fun c21 hc21 => ?_⟩
        have s21 := sm_new (o := .lst (cutV ((f0 :: fs').map V.ref) (some 1) none)) hc21
        have ec21 : (upd H16 c21 (.lst (cutV ((f0 :: fs').map V.ref) (some 1) none))) c21 = some (.lst (cutV ((f0 :: fs').map V.ref) (some 1) none)) := upd_same
        generalize upd H16 c21 (.lst (cutV ((f0 :: fs').map V.ref) (some 1) none)) = H21 at *
        refine ⟨_, rfl, 1, rfl, D, _, rfl, SqL.of (s21 _ _ eD16), fun c22 hc22 => ?_⟩
        have s22 := sm_new (o := .lst (cutV (rs.map V.ref) (some 1) none)) hc22
        have ec22 : (upd H21 c22 (.lst (cutV (rs.map V.ref) (some 1) none))) c22 = some (.lst (cutV (rs.map V.ref) (some 1) none)) := upd_same
        generalize upd H21 c22 (.lst (cutV (rs.map V.ref) (some 1) none)) = H22 at *
        have k1 := ((hT.s s21).s s22).cut (some 1) none
        have k2 := ((dtD16.s s21).s s22).cut (some 1) none
        rw [cut_fromV _ (by decide)] at k1 k2
        rw [epn] at k2
        have shT : Sh (.list (dss.map PyData.list)) 2 := sh_lst (by rw [List.length_map]; rw [epn] at lnum; simp at lnum; omega) fun d hd => shF d (by rw [epn]; exact List.mem_cons_of_mem _ hd)
        refine ⟨[], .ref c21, .ref c22, .list (dss.map PyData.list), rfl, .lst (fun h => nomatch h) (s22 _ _ ec21) k1, .lst (fun h => nomatch h) ec22 k2, shT.mono (by omega), by omega, fun H23 s23 => ?_⟩
        refine ⟨_, rfl, iteF ?_⟩
        have t23 := ((s16.trans s21).trans s22).trans s23
        have eF23 := s23 _ _ (s22 _ _ (s21 _ _ eF16))
        refine ⟨_, rfl, .inl ⟨rfl, _, SqL.of eF23⟩, F, _, rfl, rfl, eF23, ?_⟩
        exact ⟨_, _, _, _, _, rfl, sm_mut (s11.trans t23) (s11.free hF)⟩
      obtain ⟨y1, y8, y9, y10, y11, rfl, s11⟩ := h
      have t11 := t10.trans s11
      refine ⟨_, rfl, _, rfl, (by show 2 ≤ sizeLine; decide), fun k2 hk2 => ?_⟩
      have s12 := sm_new (o := .lst [.ref pa, .ref ca]) hk2
      have t12 := t11.trans s12
      have dK2 : Dt [] (upd H11 k2 (.lst [.ref pa, .ref ca])) (.ref k2) (.list [eG ps, eP cs]) := .lst (fun h => nomatch h) upd_same (.cons (.lst (fun h => nomatch h) (t12 _ _ epa8) (dP8.s t12)) (.one (.lst (fun h => nomatch h) (t12 _ _ eca8) (dC8.s t12))))
      generalize upd H11 k2 (.lst [.ref pa, .ref ca]) = H12 at *
      refine ⟨k2, _, rfl, dK2.dP, shw.a, shw.b, dep, slen, ?_⟩
      refine ⟨_, rfl, rfl, _, rfl, iteN (by simp) ?_⟩
      exact ⟨_, _, _, _, _, _, _, _, _, _, _, rfl, s8.trans t12⟩
    · obtain ⟨y1, y2, y3, y4, y5, y6, y7, y8, y9, y10, y11, rfl, s1⟩ := h1
      exact q _

end
theorem all_mk {l : PySem.W.OpenLaw} {w : World} {K : PySem.W.Frag} {h : Heap} {mg : Str → Option Value} {fa : Addr} (X : K.In h) (G : h.Ns mainGlobals mg) (hfa : mg "law" = some (.ref fa))
    {f0 : Addr} {od0 an0 : Option Addr} {sl0 : Array (Option Value)} {oc0 kV0 dc0 pm0 cd0 ct0 : Value}
    (a0 : PySem.W.nsIn K mainGlobals "apart" = some (some (.ref f0))) (l0 : K.lookup f0 = some ⟨oc0, od0, .func (PySem.W.fnOf "apart" "apart" (defArgs s_apart) (defBody s_apart) (defScope s_apart) .none kV0 dc0 pm0 an0 cd0 ct0), sl0⟩) (c0 : PySem.W.codeIn K cd0 "apart" = true) (k0 : PySem.W.keepIn K (.ref f0) = true)
    {f1 : Addr} {od1 an1 : Option Addr} {sl1 : Array (Option Value)} {oc1 kV1 dc1 pm1 cd1 ct1 : Value}
    (a1 : PySem.W.nsIn K mainGlobals "nearest" = some (some (.ref f1))) (l1 : K.lookup f1 = some ⟨oc1, od1, .func (PySem.W.fnOf "nearest" "nearest" (defArgs s_nearest) (defBody s_nearest) (defScope s_nearest) .none kV1 dc1 pm1 an1 cd1 ct1), sl1⟩) (c1 : PySem.W.codeIn K cd1 "nearest" = true) (k1 : PySem.W.keepIn K (.ref f1) = true)
    {f2 : Addr} {od2 an2 : Option Addr} {sl2 : Array (Option Value)} {oc2 kV2 dc2 pm2 cd2 ct2 : Value}
    (a2 : PySem.W.nsIn K mainGlobals "numbers_by" = some (some (.ref f2))) (l2 : K.lookup f2 = some ⟨oc2, od2, .func (PySem.W.fnOf "numbers_by" "numbers_by" (defArgs s_numbers_by) (defBody s_numbers_by) (defScope s_numbers_by) .none kV2 dc2 pm2 an2 cd2 ct2), sl2⟩) (c2 : PySem.W.codeIn K cd2 "numbers_by" = true) (k2 : PySem.W.keepIn K (.ref f2) = true)
    {f3 : Addr} {od3 an3 : Option Addr} {sl3 : Array (Option Value)} {oc3 kV3 dc3 pm3 cd3 ct3 : Value}
    (a3 : PySem.W.nsIn K mainGlobals "_law_mix" = some (some (.ref f3))) (l3 : K.lookup f3 = some ⟨oc3, od3, .func (PySem.W.fnOf "_law_mix" "_law_mix" (defArgs s_l_mix) (defBody s_l_mix) (defScope s_l_mix) .none kV3 dc3 pm3 an3 cd3 ct3), sl3⟩) (c3 : PySem.W.codeIn K cd3 "_law_mix" = true) (k3 : PySem.W.keepIn K (.ref f3) = true)
    {f4 : Addr} {od4 an4 : Option Addr} {sl4 : Array (Option Value)} {oc4 kV4 dc4 pm4 cd4 ct4 : Value}
    (a4 : PySem.W.nsIn K mainGlobals "_law_left" = some (some (.ref f4))) (l4 : K.lookup f4 = some ⟨oc4, od4, .func (PySem.W.fnOf "_law_left" "_law_left" (defArgs s_l_left) (defBody s_l_left) (defScope s_l_left) .none kV4 dc4 pm4 an4 cd4 ct4), sl4⟩) (c4 : PySem.W.codeIn K cd4 "_law_left" = true) (k4 : PySem.W.keepIn K (.ref f4) = true)
    {f5 : Addr} {od5 an5 : Option Addr} {sl5 : Array (Option Value)} {oc5 kV5 dc5 pm5 cd5 ct5 : Value}
    (a5 : PySem.W.nsIn K mainGlobals "_law_pick" = some (some (.ref f5))) (l5 : K.lookup f5 = some ⟨oc5, od5, .func (PySem.W.fnOf "_law_pick" "_law_pick" (defArgs s_l_pick) (defBody s_l_pick) (defScope s_l_pick) .none kV5 dc5 pm5 an5 cd5 ct5), sl5⟩) (c5 : PySem.W.codeIn K cd5 "_law_pick" = true) (k5 : PySem.W.keepIn K (.ref f5) = true)
    {f6 : Addr} {od6 an6 : Option Addr} {sl6 : Array (Option Value)} {oc6 kV6 dc6 pm6 cd6 ct6 : Value}
    (a6 : PySem.W.nsIn K mainGlobals "_law_kind" = some (some (.ref f6))) (l6 : K.lookup f6 = some ⟨oc6, od6, .func (PySem.W.fnOf "_law_kind" "_law_kind" (defArgs s_l_kind) (defBody s_l_kind) (defScope s_l_kind) .none kV6 dc6 pm6 an6 cd6 ct6), sl6⟩) (c6 : PySem.W.codeIn K cd6 "_law_kind" = true) (k6 : PySem.W.keepIn K (.ref f6) = true)
    {f7 : Addr} {od7 an7 : Option Addr} {sl7 : Array (Option Value)} {oc7 kV7 dc7 pm7 cd7 ct7 : Value}
    (a7 : PySem.W.nsIn K mainGlobals "_law_colour" = some (some (.ref f7))) (l7 : K.lookup f7 = some ⟨oc7, od7, .func (PySem.W.fnOf "_law_colour" "_law_colour" (defArgs s_l_colour) (defBody s_l_colour) (defScope s_l_colour) .none kV7 dc7 pm7 an7 cd7 ct7), sl7⟩) (c7 : PySem.W.codeIn K cd7 "_law_colour" = true) (k7 : PySem.W.keepIn K (.ref f7) = true)
    {f8 : Addr} {od8 an8 : Option Addr} {sl8 : Array (Option Value)} {oc8 kV8 dc8 pm8 cd8 ct8 : Value}
    (a8 : PySem.W.nsIn K mainGlobals "_law_palette" = some (some (.ref f8))) (l8 : K.lookup f8 = some ⟨oc8, od8, .func (PySem.W.fnOf "_law_palette" "_law_palette" (defArgs s_l_palette) (defBody s_l_palette) (defScope s_l_palette) .none kV8 dc8 pm8 an8 cd8 ct8), sl8⟩) (c8 : PySem.W.codeIn K cd8 "_law_palette" = true) (k8 : PySem.W.keepIn K (.ref f8) = true)
    {f9 : Addr} {od9 an9 : Option Addr} {sl9 : Array (Option Value)} {oc9 kV9 dc9 pm9 cd9 ct9 : Value}
    (a9 : PySem.W.nsIn K mainGlobals "_law_picture" = some (some (.ref f9))) (l9 : K.lookup f9 = some ⟨oc9, od9, .func (PySem.W.fnOf "_law_picture" "_law_picture" (defArgs s_l_picture) (defBody s_l_picture) (defScope s_l_picture) .none kV9 dc9 pm9 an9 cd9 ct9), sl9⟩) (c9 : PySem.W.codeIn K cd9 "_law_picture" = true) (k9 : PySem.W.keepIn K (.ref f9) = true)
    {f10 : Addr} {od10 an10 : Option Addr} {sl10 : Array (Option Value)} {oc10 kV10 dc10 pm10 cd10 ct10 : Value}
    (a10 : PySem.W.nsIn K mainGlobals "_law_apart" = some (some (.ref f10))) (l10 : K.lookup f10 = some ⟨oc10, od10, .func (PySem.W.fnOf "_law_apart" "_law_apart" (defArgs s_l_apart) (defBody s_l_apart) (defScope s_l_apart) .none kV10 dc10 pm10 an10 cd10 ct10), sl10⟩) (c10 : PySem.W.codeIn K cd10 "_law_apart" = true) (k10 : PySem.W.keepIn K (.ref f10) = true)
    {f11 : Addr} {od11 an11 : Option Addr} {sl11 : Array (Option Value)} {oc11 kV11 dc11 pm11 cd11 ct11 : Value}
    (a11 : PySem.W.nsIn K mainGlobals "_law_nearest" = some (some (.ref f11))) (l11 : K.lookup f11 = some ⟨oc11, od11, .func (PySem.W.fnOf "_law_nearest" "_law_nearest" (defArgs s_l_nearest) (defBody s_l_nearest) (defScope s_l_nearest) .none kV11 dc11 pm11 an11 cd11 ct11), sl11⟩) (c11 : PySem.W.codeIn K cd11 "_law_nearest" = true) (k11 : PySem.W.keepIn K (.ref f11) = true)
    {f12 : Addr} {od12 an12 : Option Addr} {sl12 : Array (Option Value)} {oc12 kV12 dc12 pm12 cd12 ct12 : Value}
    (a12 : PySem.W.nsIn K mainGlobals "_law_same" = some (some (.ref f12))) (l12 : K.lookup f12 = some ⟨oc12, od12, .func (PySem.W.fnOf "_law_same" "_law_same" (defArgs s_l_same) (defBody s_l_same) (defScope s_l_same) .none kV12 dc12 pm12 an12 cd12 ct12), sl12⟩) (c12 : PySem.W.codeIn K cd12 "_law_same" = true) (k12 : PySem.W.keepIn K (.ref f12) = true)
    {f13 : Addr} {od13 an13 : Option Addr} {sl13 : Array (Option Value)} {oc13 kV13 dc13 pm13 cd13 ct13 : Value}
    (a13 : PySem.W.nsIn K mainGlobals "_law_due" = some (some (.ref f13))) (l13 : K.lookup f13 = some ⟨oc13, od13, .func (PySem.W.fnOf "_law_due" "_law_due" (defArgs s_l_due) (defBody s_l_due) (defScope s_l_due) .none kV13 dc13 pm13 an13 cd13 ct13), sl13⟩) (c13 : PySem.W.codeIn K cd13 "_law_due" = true) (k13 : PySem.W.keepIn K (.ref f13) = true)
    {f14 : Addr} {od14 an14 : Option Addr} {sl14 : Array (Option Value)} {oc14 kV14 dc14 pm14 cd14 ct14 : Value}
    (a14 : PySem.W.nsIn K mainGlobals "law" = some (some (.ref f14))) (l14 : K.lookup f14 = some ⟨oc14, od14, .func (PySem.W.fnOf "law" "law" (defArgs s_law) (defBody s_law) (defScope s_law) .none kV14 dc14 pm14 an14 cd14 ct14), sl14⟩) (c14 : PySem.W.codeIn K cd14 "law" = true) (k14 : PySem.W.keepIn K (.ref f14) = true)
    (z_abs : PySem.W.nsIn K mainGlobals "abs" = some none)
    (z_all : PySem.W.nsIn K mainGlobals "all" = some none)
    (z_bool : PySem.W.nsIn K mainGlobals "bool" = some none)
    (z_enumerate : PySem.W.nsIn K mainGlobals "enumerate" = some none)
    (z_int : PySem.W.nsIn K mainGlobals "int" = some none)
    (z_isinstance : PySem.W.nsIn K mainGlobals "isinstance" = some none)
    (z_len : PySem.W.nsIn K mainGlobals "len" = some none)
    (z_list : PySem.W.nsIn K mainGlobals "list" = some none)
    (z_min : PySem.W.nsIn K mainGlobals "min" = some none)
    (z_range : PySem.W.nsIn K mainGlobals "range" = some none)
    (z_str : PySem.W.nsIn K mainGlobals "str" = some none)
    (z_sum : PySem.W.nsIn K mainGlobals "sum" = some none)
    (z_tuple : PySem.W.nsIn K mainGlobals "tuple" = some none)
    (z_zip : PySem.W.nsIn K mainGlobals "zip" = some none)
    : ∃ fd : FuncData, (∀ (s : Shared) (v : Value), BindsTo s fd ⟨[v], []⟩ [("_law_script", v)]) ∧ ∀ base : Heap, K.In base → base.Ns mainGlobals mg → FnG l.prog w K mg base 5 fa fd ["_law_script"] (spLaw K) := by
  have e := hfa.symm.trans (PySem.W.mg_of X G a14)
  cases e
  exact ⟨_, fun s v => .of_eq rfl, fun base _ _ => ok_law (k := 0) {
      f_apart := f0, d_apart := _, F_apart := fun_mk (st := s_apart) l0 c0 k0, b_apart := (fun_mk (st := s_apart) l0 c0 k0).binds (ps := ["one", "other"]) fun _ _ _ _ _ _ us hl => match us, hl with | [_, _], _ => rfl, g_apart := PySem.W.mg_of X G a0,
      f_nearest := f1, d_nearest := _, F_nearest := fun_mk (st := s_nearest) l1 c1 k1, b_nearest := (fun_mk (st := s_nearest) l1 c1 k1).binds (ps := ["palette", "colour"]) fun _ _ _ _ _ _ us hl => match us, hl with | [_, _], _ => rfl, g_nearest := PySem.W.mg_of X G a1,
      f_numbers_by := f2, d_numbers_by := _, F_numbers_by := fun_mk (st := s_numbers_by) l2 c2 k2, b_numbers_by := (fun_mk (st := s_numbers_by) l2 c2 k2).binds (ps := ["picture", "palette"]) fun _ _ _ _ _ _ us hl => match us, hl with | [_, _], _ => rfl, g_numbers_by := PySem.W.mg_of X G a2,
      f_l_mix := f3, d_l_mix := _, F_l_mix := fun_mk (st := s_l_mix) l3 c3 k3, b_l_mix := (fun_mk (st := s_l_mix) l3 c3 k3).binds (ps := ["_law_cell", "_law_k"]) fun _ _ _ _ _ _ us hl => match us, hl with | [_, _], _ => rfl, g_l_mix := PySem.W.mg_of X G a3,
      f_l_left := f4, d_l_left := _, F_l_left := fun_mk (st := s_l_left) l4 c4 k4, b_l_left := (fun_mk (st := s_l_left) l4 c4 k4).binds (ps := ["_law_script", "_law_k"]) fun _ _ _ _ _ _ us hl => match us, hl with | [_, _], _ => rfl, g_l_left := PySem.W.mg_of X G a4,
      f_l_pick := f5, d_l_pick := _, F_l_pick := fun_mk (st := s_l_pick) l5 c5 k5, b_l_pick := (fun_mk (st := s_l_pick) l5 c5 k5).binds (ps := ["_law_left_here", "_law_many"]) fun _ _ _ _ _ _ us hl => match us, hl with | [_, _], _ => rfl, g_l_pick := PySem.W.mg_of X G a5,
      f_l_kind := f6, d_l_kind := _, F_l_kind := fun_mk (st := s_l_kind) l6 c6 k6, b_l_kind := (fun_mk (st := s_l_kind) l6 c6 k6).binds (ps := ["_law_left_here"]) fun _ _ _ _ _ _ us hl => match us, hl with | [_], _ => rfl, g_l_kind := PySem.W.mg_of X G a6,
      f_l_colour := f7, d_l_colour := _, F_l_colour := fun_mk (st := s_l_colour) l7 c7 k7, b_l_colour := (fun_mk (st := s_l_colour) l7 c7 k7).binds (ps := ["_law_left_here", "_law_kind_here"]) fun _ _ _ _ _ _ us hl => match us, hl with | [_, _], _ => rfl, g_l_colour := PySem.W.mg_of X G a7,
      f_l_palette := f8, d_l_palette := _, F_l_palette := fun_mk (st := s_l_palette) l8 c8 k8, b_l_palette := (fun_mk (st := s_l_palette) l8 c8 k8).binds (ps := ["_law_left_here", "_law_kind_here"]) fun _ _ _ _ _ _ us hl => match us, hl with | [_, _], _ => rfl, g_l_palette := PySem.W.mg_of X G a8,
      f_l_picture := f9, d_l_picture := _, F_l_picture := fun_mk (st := s_l_picture) l9 c9 k9, b_l_picture := (fun_mk (st := s_l_picture) l9 c9 k9).binds (ps := ["_law_left_here", "_law_kind_here"]) fun _ _ _ _ _ _ us hl => match us, hl with | [_, _], _ => rfl, g_l_picture := PySem.W.mg_of X G a9,
      f_l_apart := f10, d_l_apart := _, F_l_apart := fun_mk (st := s_l_apart) l10 c10 k10, b_l_apart := (fun_mk (st := s_l_apart) l10 c10 k10).binds (ps := ["_law_one", "_law_other"]) fun _ _ _ _ _ _ us hl => match us, hl with | [_, _], _ => rfl, g_l_apart := PySem.W.mg_of X G a10,
      f_l_nearest := f11, d_l_nearest := _, F_l_nearest := fun_mk (st := s_l_nearest) l11 c11 k11, b_l_nearest := (fun_mk (st := s_l_nearest) l11 c11 k11).binds (ps := ["_law_palette_here", "_law_colour_here"]) fun _ _ _ _ _ _ us hl => match us, hl with | [_, _], _ => rfl, g_l_nearest := PySem.W.mg_of X G a11,
      f_l_same := f12, d_l_same := _, F_l_same := fun_mk (st := s_l_same) l12 c12 k12, b_l_same := (fun_mk (st := s_l_same) l12 c12 k12).binds (ps := ["_law_found", "_law_due_here"]) fun _ _ _ _ _ _ us hl => match us, hl with | [_, _], _ => rfl, g_l_same := PySem.W.mg_of X G a12,
      f_l_due := f13, d_l_due := _, F_l_due := fun_mk (st := s_l_due) l13 c13 k13, b_l_due := (fun_mk (st := s_l_due) l13 c13 k13).binds (ps := ["_law_picture_here", "_law_palette_here"]) fun _ _ _ _ _ _ us hl => match us, hl with | [_, _], _ => rfl, g_l_due := PySem.W.mg_of X G a13,
      z_abs := PySem.W.mg_none_of X G z_abs,
      z_all := PySem.W.mg_none_of X G z_all,
      z_bool := PySem.W.mg_none_of X G z_bool,
      z_enumerate := PySem.W.mg_none_of X G z_enumerate,
      z_int := PySem.W.mg_none_of X G z_int,
      z_isinstance := PySem.W.mg_none_of X G z_isinstance,
      z_len := PySem.W.mg_none_of X G z_len,
      z_list := PySem.W.mg_none_of X G z_list,
      z_min := PySem.W.mg_none_of X G z_min,
      z_range := PySem.W.mg_none_of X G z_range,
      z_str := PySem.W.mg_none_of X G z_str,
      z_sum := PySem.W.mg_none_of X G z_sum,
      z_tuple := PySem.W.mg_none_of X G z_tuple,
      z_zip := PySem.W.mg_none_of X G z_zip } (fun_mk (st := s_law) l14 c14 k14) (by decide)⟩
end Z
open PySem PySem.W PyProof.Rows
set_option maxHeartbeats 0 in
theorem PySem.Challenge.cw_fewcolours_k29_numbers_by_holds : PySem.Challenge.rw_fewcolours_k29_numbers_by.Holds := by
  w_on; o_law; k_head; (case hw => w_witness2)
  k_fill
  refine Z.walk_of2 (l := PySem.Challenge.rw_fewcolours_k29_numbers_by) (n := 63) (k := 5) (x := "_law_script") (sp := fun w => Z.spLaw _) rfl (by decide) rfl ⟨rfl, by decide, by decide⟩ (fun w h Y => PySem.W.kIn_of Y) ?F (fun _ _ a ns hl _ hS => ⟨a, ns, rfl, hS, hl, fun _ => rfl⟩)
  case F =>
    intro w mg fa h KX G hmg
    refine' Z.all_mk KX G hmg ?a0 ?l0 ?c0 ?k0 ?a1 ?l1 ?c1 ?k1 ?a2 ?l2 ?c2 ?k2 ?a3 ?l3 ?c3 ?k3 ?a4 ?l4 ?c4 ?k4 ?a5 ?l5 ?c5 ?k5 ?a6 ?l6 ?c6 ?k6 ?a7 ?l7 ?c7 ?k7 ?a8 ?l8 ?c8 ?k8 ?a9 ?l9 ?c9 ?k9 ?a10 ?l10 ?c10 ?k10 ?a11 ?l11 ?c11 ?k11 ?a12 ?l12 ?c12 ?k12 ?a13 ?l13 ?c13 ?k13 ?a14 ?l14 ?c14 ?k14 ?z_abs ?z_all ?z_bool ?z_enumerate ?z_int ?z_isinstance ?z_len ?z_list ?z_min ?z_range ?z_str ?z_sum ?z_tuple ?z_zip
    case a0 => k_is
    case l0 => k_is
    case c0 => k_is
    case k0 => k_is
    case a1 => k_is
    case l1 => k_is
    case c1 => k_is
    case k1 => k_is
    case a2 => k_is
    case l2 => k_is
    case c2 => k_is
    case k2 => k_is
    case a3 => k_is
    case l3 => k_is
    case c3 => k_is
    case k3 => k_is
    case a4 => k_is
    case l4 => k_is
    case c4 => k_is
    case k4 => k_is
    case a5 => k_is
    case l5 => k_is
    case c5 => k_is
    case k5 => k_is
    case a6 => k_is
    case l6 => k_is
    case c6 => k_is
    case k6 => k_is
    case a7 => k_is
    case l7 => k_is
    case c7 => k_is
    case k7 => k_is
    case a8 => k_is
    case l8 => k_is
    case c8 => k_is
    case k8 => k_is
    case a9 => k_is
    case l9 => k_is
    case c9 => k_is
    case k9 => k_is
    case a10 => k_is
    case l10 => k_is
    case c10 => k_is
    case k10 => k_is
    case a11 => k_is
    case l11 => k_is
    case c11 => k_is
    case k11 => k_is
    case a12 => k_is
    case l12 => k_is
    case c12 => k_is
    case k12 => k_is
    case a13 => k_is
    case l13 => k_is
    case c13 => k_is
    case k13 => k_is
    case a14 => k_is
    case l14 => k_is
    case c14 => k_is
    case k14 => k_is
    case z_abs => k_is
    case z_all => k_is
    case z_bool => k_is
    case z_enumerate => k_is
    case z_int => k_is
    case z_isinstance => k_is
    case z_len => k_is
    case z_list => k_is
    case z_min => k_is
    case z_range => k_is
    case z_str => k_is
    case z_sum => k_is
    case z_tuple => k_is
    case z_zip => k_is

