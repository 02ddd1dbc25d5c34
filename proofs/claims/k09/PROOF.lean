import PyProof.Rows.All
import Wide.All
import OpenK.AllK
import Wide.FinOn
import HandS.ForMost
import HandS.Zip
import HandS.IsInst
import HandS.TupAny
import HandS.SortRule
import HandS.Style
import HandS.Walk
import HandS.Evl
import KE.DataMinMax
import HandS.Wide
import HandS.DictTup
import HandS.Small
import KE.SortData
import KE.GoesEnum
import KE.GoesMore
import HandS.Conv
import HandS.Star
import KE.KDictZip
import PySem.Challenge.RW_fewcolours_k09_asked_by_turns
set_option Elab.async false
set_option linter.all false
set_option maxRecDepth 100000
namespace Z
open PySem PySem.Spec PyProof.Rows L2
/-! ### heaps but for some addresses -/
def Dom (H H' : Hp) : Prop := ∀ a, H a ≠ none → H' a ≠ none
structure Go (B : List Addr) (H H' : Hp) : Prop where
  k : ∀ a o, a ∉ B → H a = some o → H' a = some o
  d : Dom H H'
def Bk (B : List Addr) (H : Hp) : Prop := ∀ a ∈ B, H a ≠ none
section
variable {B C : List Addr} {H H' H1 H2 : Hp} {p L : Addr} {o : HO}
theorem dom_new : Dom H (upd H p o) := fun a h => by
  by_cases e : a = p
  · subst e
    rw [upd_same]
    exact fun z => nomatch z
  · rw [upd_ne e]
    exact h
theorem dom_mut (d : Dom H H') : Dom H (upd H' p o) := fun a h => dom_new a (d a h)
theorem Go.refl : Go B H H := ⟨fun _ _ _ h => h, fun _ h => h⟩
theorem Go.trans (a : Go B H H1) (b : Go B H1 H2) : Go B H H2 := ⟨fun c o n h => b.k c o n (a.k c o n h), fun c h => b.d c (a.d c h)⟩
theorem same_dom (s : Same H H') : Dom H H' := fun a h => by
  cases q : H a with
  | none => exact absurd q h
  | some o => rw [s a o q]; exact fun z => nomatch z
theorem Go.of (s : Same H H') : Go B H H' := ⟨fun a o _ h => s a o h, same_dom s⟩
theorem Go.new (h : H p = none) : Go B H (upd H p o) := ⟨fun a u _ e => by
  rw [upd_ne (ne_of_none e h)]
  exact e, dom_new⟩
theorem Go.mut (g : Go B H H') (h : H p = none) : Go B H (upd H' p o) := ⟨fun a u n e => by
  rw [upd_ne (ne_of_none e h)]
  exact g.k a u n e, dom_mut g.d⟩
theorem Go.at (g : Go B H H') (h : p ∈ B) : Go B H (upd H' p o) := ⟨fun a u n e => by
  rw [upd_ne (show a ≠ p from fun z => n (by rw [z]; exact h))]
  exact g.k a u n e, dom_mut g.d⟩
theorem Go.w (g : Go C H H') (s : ∀ a ∈ C, a ∈ B) : Go B H H' := ⟨fun a o n h => g.k a o (fun q => n (s a q)) h, g.d⟩
theorem Go.w1 (g : Go [L] H H') (s : L ∈ B) : Go B H H' := g.w fun a h => by rw [List.mem_singleton.mp h]; exact s
theorem Go.free (g : Go B H H') (h : H' p = none) : H p = none := by
  cases q : H p with
  | none => rfl
  | some o => exact absurd h (g.d p (by rw [q]; exact fun z => nomatch z))
theorem Bk.go (b : Bk B H) (g : Go C H H') : Bk B H' := fun a h => g.d a (b a h)
theorem Bk.ne (b : Bk B H) (h : H p = none) : p ∉ B := fun q => b p q h
theorem Bk.cons (b : Bk B H) (h : H p = some o) : Bk (p :: B) H := fun a q => by
  rcases List.mem_cons.mp q with e | e
  · subst e
    rw [h]
    exact fun z => nomatch z
  · exact b a e
theorem Bk.up (b : Bk B H) : Bk B (upd H p o) := fun a h => dom_new a (b a h)
theorem sm_new (h : H p = none) : Same H (upd H p o) := fun b x e => by
  rw [upd_ne (ne_of_none e h)]
  exact e
theorem sm_mut (s : Same H H') (h : H p = none) : Same H (upd H' p o) := fun b x e => by
  rw [upd_ne (ne_of_none e h)]
  exact s b x e
/-- what was new behind H, and is in B, may change -/
theorem Go.sm (g : Go B H1 H2) (s : Same H H1) (n : ∀ a ∈ B, H a = none) : Same H H2 := fun a o h => g.k a o (fun q => by rw [n a q] at h; cases h) (s a o h)
theorem Go.cons (g : Go (p :: B) H1 H2) (s : Go B H H1) (h : H p = none) : Go B H H2 := ⟨fun a o n e => g.k a o (fun q => by
  rcases List.mem_cons.mp q with z | z
  · rw [z, h] at e
    cases e
  · exact n z) (s.k a o n e), fun a e => g.d a (s.d a e)⟩
end
/-! ### the list that is drawn from -/
def Lf (L : Addr) (H : Hp) (n : Nat) : Prop := ∃ a b c : Int, H L = some (.lst [.int a, .int b, .int c]) ∧ 0 ≤ a ∧ 0 ≤ c ∧ c ≤ (n : Int)
section
variable {L p : Addr} {H H' : Hp} {n m : Nat} {o : HO} {B : List Addr}
theorem Lf.mono (h : Lf L H n) (l : n ≤ m) : Lf L H m := by
  obtain ⟨a, b, c, e, h1, h2, h3⟩ := h
  exact ⟨a, b, c, e, h1, h2, by omega⟩
theorem Lf.same (h : Lf L H n) (s : Same H H') : Lf L H' n := by
  obtain ⟨a, b, c, e, h1, h2, h3⟩ := h
  exact ⟨a, b, c, s _ _ e, h1, h2, h3⟩
theorem Lf.go (h : Lf L H n) (g : Go B H H') (i : L ∉ B) : Lf L H' n := by
  obtain ⟨a, b, c, e, h1, h2, h3⟩ := h
  exact ⟨a, b, c, g.k _ _ i e, h1, h2, h3⟩
theorem Lf.ne (h : Lf L H n) (e : H p = none) : p ≠ L := fun q => by
  obtain ⟨a, b, c, e', _⟩ := h
  rw [q, e'] at e
  cases e
theorem Lf.up (h : Lf L H n) (e : p ≠ L) : Lf L (upd H p o) n := by
  obtain ⟨a, b, c, e', h1, h2, h3⟩ := h
  refine ⟨a, b, c, ?_, h1, h2, h3⟩
  rw [upd_ne (Ne.symm e)]
  exact e'
theorem Lf.new (h : Lf L H n) (e : H p = none) : Lf L (upd H p o) n := h.up (h.ne e)
theorem Lf.bk (h : Lf L H n) : Bk [L] H := fun a q => by
  obtain ⟨_, _, _, e, _⟩ := h
  rw [List.mem_singleton.mp q, e]
  exact fun z => nomatch z
end
/-! ### data apart from some addresses -/
mutual
inductive Dt (B : List Addr) (H : Hp) : V → PyData → Prop
  | non : Dt B H .non .none
  | bl (b : Bool) : Dt B H (.bl b) (.bool b)
  | int (i : Int) : Dt B H (.int i) (.int i)
  | str (x : Str) : Dt B H (.str x) (.str x)
  | lst {a : Addr} {xs : List V} {ds : List PyData} : a ∉ B → H a = some (.lst xs) → DtA B H xs ds → Dt B H (.ref a) (.list ds)
  | tup {a : Addr} {xs : List V} {ds : List PyData} : a ∉ B → H a = some (.tup xs) → DtA B H xs ds → Dt B H (.ref a) (.tuple ds)
inductive DtA (B : List Addr) (H : Hp) : List V → List PyData → Prop
  | nil : DtA B H [] []
  | cons {v : V} {vs : List V} {d : PyData} {ds : List PyData} : Dt B H v d → DtA B H vs ds → DtA B H (v :: vs) (d :: ds)
end
section
variable {B C : List Addr} {H H' : Hp} {p L : Addr}
mutual
/-- the general way from one to another -/
theorem Dt.to (f : ∀ a o, a ∉ B → H a = some o → a ∉ C ∧ H' a = some o) : ∀ (d : PyData) (v : V), Dt B H v d → Dt C H' v d
  | .none, _, h => by cases h; exact .non
  | .bool b, _, h => by cases h; exact .bl b
  | .int i, _, h => by cases h; exact .int i
  | .str x, _, h => by cases h; exact .str x
  | .list ds, _, h => by
    cases h with
    | lst n hs ha => exact .lst (f _ _ n hs).1 (f _ _ n hs).2 (DtA.to f ds _ ha)
  | .tuple ds, _, h => by
    cases h with
    | tup n hs ha => exact .tup (f _ _ n hs).1 (f _ _ n hs).2 (DtA.to f ds _ ha)
  | .dict _, _, h => by cases h
theorem DtA.to (f : ∀ a o, a ∉ B → H a = some o → a ∉ C ∧ H' a = some o) : ∀ (ds : List PyData) (vs : List V), DtA B H vs ds → DtA C H' vs ds
  | [], _, h => by cases h; exact .nil
  | d :: ds, _, h => by
    cases h with
    | cons h1 h2 => exact .cons (Dt.to f d _ h1) (DtA.to f ds _ h2)
end
mutual
theorem Dt.dp {K : PySem.W.Frag} : ∀ (d : PyData) (v : V), Dt B H v d → Dp K H v d
  | .none, _, h => by cases h; exact .non
  | .bool b, _, h => by cases h; exact .bl b
  | .int i, _, h => by cases h; exact .int i
  | .str x, _, h => by cases h; exact .str x
  | .list ds, _, h => by
    cases h with
    | lst n hs ha => exact .lst (SqL.of hs) (DtA.dp ds _ ha)
  | .tuple ds, _, h => by
    cases h with
    | tup n hs ha => exact .tup (SqT.of hs) (DtA.dp ds _ ha)
  | .dict _, _, h => by cases h
theorem DtA.dp {K : PySem.W.Frag} : ∀ (ds : List PyData) (vs : List V), DtA B H vs ds → DpAll K H vs ds
  | [], _, h => by cases h; exact .nil
  | d :: ds, _, h => by
    cases h with
    | cons h1 h2 => exact .cons (Dt.dp d _ h1) (DtA.dp ds _ h2)
end
variable {d : PyData} {v : V} {ds : List PyData} {vs ws : List V}
theorem Dt.g (h : Dt B H v d) (g : Go B H H') : Dt B H' v d := Dt.to (fun a o n e => ⟨n, g.k a o n e⟩) d v h
theorem DtA.g (h : DtA B H vs ds) (g : Go B H H') : DtA B H' vs ds := DtA.to (fun a o n e => ⟨n, g.k a o n e⟩) ds vs h
theorem Dt.s (h : Dt B H v d) (s : Same H H') : Dt B H' v d := h.g (Go.of s)
theorem DtA.s (h : DtA B H vs ds) (s : Same H H') : DtA B H' vs ds := h.g (Go.of s)
/-- a new address may change, too -/
theorem Dt.fr (h : Dt B H v d) (e : H p = none) : Dt (p :: B) H v d := Dt.to (fun a o n q => ⟨fun z => by
  rcases List.mem_cons.mp z with y | y
  · rw [y, e] at q
    cases q
  · exact n y, q⟩) d v h
theorem DtA.fr (h : DtA B H vs ds) (e : H p = none) : DtA (p :: B) H vs ds := DtA.to (fun a o n q => ⟨fun z => by
  rcases List.mem_cons.mp z with y | y
  · rw [y, e] at q
    cases q
  · exact n y, q⟩) ds vs h
theorem Dt.un (h : Dt (p :: B) H v d) : Dt B H v d := Dt.to (fun a o n q => ⟨fun z => n (List.mem_cons_of_mem _ z), q⟩) d v h
theorem DtA.un (h : DtA (p :: B) H vs ds) : DtA B H vs ds := DtA.to (fun a o n q => ⟨fun z => n (List.mem_cons_of_mem _ z), q⟩) ds vs h
theorem Dt.sub (h : Dt B H v d) (s : ∀ a ∈ C, a ∈ B) : Dt C H v d := Dt.to (fun a o n q => ⟨fun z => n (s a z), q⟩) d v h
theorem DtA.sub (h : DtA B H vs ds) (s : ∀ a ∈ C, a ∈ B) : DtA C H vs ds := DtA.to (fun a o n q => ⟨fun z => n (s a z), q⟩) ds vs h
theorem Dt.dP {K : PySem.W.Frag} (h : Dt B H v d) : Dp K H v d := Dt.dp d v h
theorem DtA.len {vs : List V} : ∀ {ds : List PyData}, DtA B H vs ds → vs.length = ds.length := by
  induction vs with
  | nil => intro ds h; cases h; rfl
  | cons v vs ih => intro ds h; cases h with | cons h1 h2 => rw [List.length_cons, List.length_cons, ih h2]
theorem DtA.get {vs : List V} : ∀ {ds : List PyData} {i : Nat} {d : PyData}, DtA B H vs ds → ds[i]? = some d → ∃ v, vs[i]? = some v ∧ Dt B H v d := by
  induction vs with
  | nil => intro ds i d h e; cases h; simp at e
  | cons v vs ih =>
    intro ds i d h e
    cases h with
    | cons h1 h2 =>
      cases i with
      | zero => cases e; exact ⟨v, rfl, h1⟩
      | succ i => exact ih (i := i) h2 (by simpa using e)
theorem DtA.getV {vs : List V} : ∀ {ds : List PyData} {i : Nat} {v : V}, DtA B H vs ds → vs[i]? = some v → ∃ d, ds[i]? = some d ∧ Dt B H v d := by
  induction vs with
  | nil => intro ds i d h e; simp at e
  | cons v vs ih =>
    intro ds i d h e
    cases h with
    | cons h1 h2 =>
      cases i with
      | zero => cases e; exact ⟨_, rfl, h1⟩
      | succ i => exact ih (i := i) h2 (by simpa using e)
theorem DtA.app {vs ws : List V} : ∀ {ds es : List PyData}, DtA B H vs ds → DtA B H ws es → DtA B H (vs ++ ws) (ds ++ es) := by
  induction vs with
  | nil => intro ds es h h2; cases h; exact h2
  | cons v vs ih =>
    intro ds es h h2
    cases h with
    | cons h1 h3 => exact .cons h1 (ih h3 h2)
theorem DtA.one (h : Dt B H v d) : DtA B H [v] [d] := .cons h .nil
theorem DtA.ints : ∀ ns : List Int, DtA B H (ns.map V.int) (ns.map PyData.int)
  | [] => .nil
  | n :: ns => .cons (.int n) (DtA.ints ns)
theorem DtA.intsV : ∀ {ns : List Int} {vs : List V}, DtA B H vs (ns.map PyData.int) → vs = ns.map V.int
  | [], _, h => by cases h; rfl
  | n :: ns, _, h => by
    cases h with
    | cons h1 h2 =>
      cases h1
      rw [DtA.intsV h2]
      rfl
theorem DtA.blsV : ∀ {ns : List Bool} {vs : List V}, DtA B H vs (ns.map PyData.bool) → vs = ns.map V.bl
  | [], _, h => by cases h; rfl
  | n :: ns, _, h => by
    cases h with
    | cons h1 h2 =>
      cases h1
      rw [DtA.blsV h2]
      rfl
/-- a colour; a list of ints; a palette -/
def eC (ns : List Int) : PyData := .tuple (ns.map .int)
def eI (ns : List Int) : PyData := .list (ns.map .int)
def eP (cs : List (List Int)) : PyData := .list (cs.map eC)
theorem Dt.col {v : V} {ns : List Int} (h : Dt B H v (eC ns)) : ∃ a, v = .ref a ∧ a ∉ B ∧ H a = some (.tup (ns.map V.int)) := by
  cases h with
  | tup n hs ha =>
    have e := DtA.intsV ha
    subst e
    exact ⟨_, rfl, n, hs⟩
theorem Dt.ofCol {a : Addr} {ns : List Int} (n : a ∉ B) (h : H a = some (.tup (ns.map V.int))) : Dt B H (.ref a) (eC ns) := .tup n h (DtA.ints ns)
theorem Dt.ofInts {a : Addr} {ns : List Int} (n : a ∉ B) (h : H a = some (.lst (ns.map V.int))) : Dt B H (.ref a) (eI ns) := .lst n h (DtA.ints ns)
theorem Dt.ints {v : V} {ns : List Int} (h : Dt B H v (eI ns)) : ∃ a, v = .ref a ∧ a ∉ B ∧ H a = some (.lst (ns.map V.int)) := by
  cases h with
  | lst n hs ha =>
    have e := DtA.intsV ha
    subst e
    exact ⟨_, rfl, n, hs⟩
theorem Dt.tupI {v : V} {ds : List PyData} (h : Dt B H v (.tuple ds)) : ∃ a vs, v = .ref a ∧ a ∉ B ∧ H a = some (.tup vs) ∧ DtA B H vs ds := by
  cases h with
  | tup n hs ha => exact ⟨_, _, rfl, n, hs, ha⟩
theorem Dt.lstI {v : V} {ds : List PyData} (h : Dt B H v (.list ds)) : ∃ a vs, v = .ref a ∧ a ∉ B ∧ H a = some (.lst vs) ∧ DtA B H vs ds := by
  cases h with
  | lst n hs ha => exact ⟨_, _, rfl, n, hs, ha⟩
theorem Dt.pal {v : V} {cs : List (List Int)} (h : Dt B H v (eP cs)) : ∃ a vs, v = .ref a ∧ a ∉ B ∧ H a = some (.lst vs) ∧ DtA B H vs (cs.map eC) := Dt.lstI h
theorem Dt.intI {v : V} {i : Int} (h : Dt B H v (.int i)) : v = .int i := by
  cases h
  rfl
end
/-! ### the rules that speak of the written part, with it named -/
def rLenS (K : PySem.W.Frag) : List V → Hp → VK → Prop := fun xs H Q => ∃ p ys, xs = [.ref p] ∧ (SqL K H p ys ∨ SqT K H p ys) ∧ Q (.int ys.length) H
def rListOf (K : PySem.W.Frag) : List V → Hp → VK → Prop := fun xs H Q => ∃ p ys, xs = [.ref p] ∧ (SqL K H p ys ∨ SqT K H p ys) ∧ ∀ l, H l = none → Q (.ref l) (upd H l (.lst ys))
def rTupOf (K : PySem.W.Frag) : List V → Hp → VK → Prop := fun xs H Q => ∃ p ys, xs = [.ref p] ∧ ((SqL K H p ys ∧ ∀ l, H l = none → Q (.ref l) (upd H l (.tup ys))) ∨ (SqT K H p ys ∧ Q (.ref p) H))
section
variable (K : PySem.W.Frag) {X : Cx}
theorem ix_listK (h : X.K = K := by rfl) : IxR X (rIxL K) := h ▸ ix_list
theorem ix_tupK (h : X.K = K := by rfl) : IxR X (rIxT K) := h ▸ ix_tup
theorem sl_listK (h : X.K = K := by rfl) : SlR X (rSlL K) := h ▸ sl_list
theorem sl_tupAK (h : X.K = K := by rfl) : SlR X (rSlA K) := h ▸ sl_tupA
theorem op_catAK (h : X.K = K := by rfl) : OpR X (binaryOp .Add) (rCatA K) := h ▸ op_catA
theorem op_eqDK (hu : X.A.units + 64 < cLine) (h : X.K = K := by rfl) : OpR X (compareOp .Eq) (rEqD K) := h ▸ op_eqD hu
theorem op_neDK (hu : X.A.units + 64 < cLine) (h : X.K = K := by rfl) : OpR X (compareOp .NotEq) (rNeD K) := h ▸ op_neD hu
theorem len_K (h : X.K = K := by rfl) : CallR X (.builtin "len") (rLenS K) := h ▸ call_len_seq
theorem list_K (h : X.K = K := by rfl) : CallR X (.type "list") (rListOf K) := h ▸ call_list_of
theorem tuple_K (h : X.K = K := by rfl) : CallR X (.type "tuple") (rTupOf K) := h ▸ call_tuple_of
theorem cr_sumK (hc : X.calm = true) (h : X.K = K := by rfl) : CallR X (.builtin "sum") (rSum K) := h ▸ cr_sum hc
theorem cr_maxK (hc : X.calm = true) (h : X.K = K := by rfl) : CallR X (.builtin "max") (rMax K) := h ▸ cr_max hc
theorem cr_minK (hc : X.calm = true) (h : X.K = K := by rfl) : CallR X (.builtin "min") (rMin K) := h ▸ cr_min hc
theorem cr_anyK (hc : X.calm = true) (h : X.K = K := by rfl) : CallR X (.builtin "any") (rAny K) := h ▸ cr_any hc
theorem cr_allK (hc : X.calm = true) (h : X.K = K := by rfl) : CallR X (.builtin "all") (rAll K) := h ▸ cr_all hc
theorem call_isiK1 (h : X.K = K := by rfl) : CallR X (.builtin "isinstance") (rIsi K) := h ▸ call_isi
theorem call_isiTK (h : X.K = K := by rfl) : CallR X (.builtin "isinstance") (rIsiT K) := h ▸ call_isiT
theorem cr_sortedK (h : X.K = K := by rfl) : CallR X (.builtin "sorted") (rSortedPO K) := h ▸ cr_sortedPO
theorem mt_indexK (h : X.K = K := by rfl) : MtR X "list.index" (rIndex K) := h ▸ mt_index
theorem pi_listK {tg l : Expr} {tl : TE} (hl : PE X l tl) (h : X.K = K := by rfl) : PI X tg l (iList K tl) := h ▸ pi_list hl
theorem pg_tupK {pos : Pos} {es : List Expr} {kk : Nat} {t : TGs} {n : Nat} (hc : X.calm = true) (h : PGs X es t) (hn : (assignEach es X.env).length = n := by rfl) (hst : (assignEach es X.env).findIdx? (·.1) = none := by rfl) (h2 : X.K = K := by rfl) : PG X (.Tuple es kk pos) (gTup K n t) :=
  h2 ▸ pg_tup hc h hn hst
theorem pi_tupK {tg l : Expr} {tl : TE} (hl : PE X l tl) (h : X.K = K := by rfl) : PI X tg l (iTup K tl) := h ▸ pi_tup hl
end
/-! ### shapes -/
mutual
def wide : PyData → Bool
  | .none | .bool _ | .int _ | .str _ => true
  | .list xs | .tuple xs => decide (xs.length ≤ 100000) && wideAll xs
  | .dict _ => false
def wideAll : List PyData → Bool
  | [] => true
  | x :: xs => wide x && wideAll xs
end
def Sh (d : PyData) (k : Nat) : Prop := d.canLay0 = true ∧ d.depth ≤ k ∧ wide d = true
theorem sh_all : ∀ {ds : List PyData} {k : Nat}, (∀ d ∈ ds, Sh d k) → PyData.canLayAll0 ds = true ∧ PyData.depthAll ds ≤ k ∧ wideAll ds = true
  | [], _, _ => ⟨rfl, Nat.zero_le _, by rw [wideAll]⟩
  | d :: ds, k, h => by
    obtain ⟨h1, h2, h4⟩ := sh_all (ds := ds) (k := k) fun x hx => h x (List.mem_cons_of_mem _ hx)
    have h3 := h d (List.mem_cons_self ..)
    refine ⟨?_, ?_, ?_⟩
    · rw [PyData.canLayAll0, h1, h3.1]; rfl
    · rw [PyData.depthAll]
      exact Nat.max_le.mpr ⟨h3.2.1, h2⟩
    · rw [wideAll, h4, h3.2.2]; rfl
theorem sh_mem : ∀ {ds : List PyData} {k : Nat}, PyData.canLayAll0 ds = true → PyData.depthAll ds ≤ k → wideAll ds = true → ∀ d ∈ ds, Sh d k
  | [], _, _, _, _, _, h => nomatch h
  | d :: ds, k, h1, h2, h3, x, hx => by
    rw [PyData.canLayAll0] at h1
    rw [PyData.depthAll] at h2
    rw [wideAll] at h3
    have a := Bool.and_eq_true_iff.mp h1
    have b := Nat.max_le.mp h2
    have c := Bool.and_eq_true_iff.mp h3
    rcases List.mem_cons.mp hx with e | e
    · rw [e]; exact ⟨a.1, b.1, c.1⟩
    · exact sh_mem a.2 b.2 c.2 x e
theorem sh_tup {ds : List PyData} {k : Nat} (l : ds.length ≤ 100000) (h : ∀ d ∈ ds, Sh d k) : Sh (.tuple ds) (k + 1) := by
  obtain ⟨h1, h2, h3⟩ := sh_all h
  exact ⟨by rw [PyData.canLay0]; exact h1, by rw [PyData.depth]; omega, by rw [wide, h3, decide_eq_true l]; rfl⟩
theorem sh_lst {ds : List PyData} {k : Nat} (l : ds.length ≤ 100000) (h : ∀ d ∈ ds, Sh d k) : Sh (.list ds) (k + 1) := by
  obtain ⟨h1, h2, h3⟩ := sh_all h
  exact ⟨by rw [PyData.canLay0]; exact h1, by rw [PyData.depth]; omega, by rw [wide, h3, decide_eq_true l]; rfl⟩
theorem sh_int (i : Int) (k : Nat) : Sh (.int i) k := ⟨rfl, by rw [PyData.depth]; omega, by rw [wide]⟩
theorem sh_bool (i : Bool) (k : Nat) : Sh (.bool i) k := ⟨rfl, by rw [PyData.depth]; omega, by rw [wide]⟩
theorem sh_none (k : Nat) : Sh .none k := ⟨rfl, by rw [PyData.depth]; omega, by rw [wide]⟩
theorem sh_eC {ns : List Int} (l : ns.length ≤ 100000) : Sh (eC ns) 1 := sh_tup (by simpa using l) fun d hd => by
  obtain ⟨n, _, rfl⟩ := List.mem_map.mp hd
  exact sh_int n 0
theorem sh_eI {ns : List Int} (l : ns.length ≤ 100000) : Sh (eI ns) 1 := sh_lst (by simpa using l) fun d hd => by
  obtain ⟨n, _, rfl⟩ := List.mem_map.mp hd
  exact sh_int n 0
theorem sh_eP {cs : List (List Int)} (l : cs.length ≤ 100000) (h : ∀ c ∈ cs, c.length ≤ 100000) : Sh (eP cs) 2 := sh_lst (by simpa using l) fun d hd => by
  obtain ⟨n, m, rfl⟩ := List.mem_map.mp hd
  exact sh_eC (h n m)
theorem Sh.mono {d : PyData} {j k : Nat} (h : Sh d j) (l : j ≤ k) : Sh d k := ⟨h.1, Nat.le_trans h.2.1 l, h.2.2⟩
theorem Sh.sh {d : PyData} {k : Nat} (h : Sh d k) (l : k ≤ 64) : SeqAt.shaped d = true := by
  unfold SeqAt.shaped
  rw [h.1, decide_eq_true (Nat.le_trans h.2.1 l)]
  rfl
theorem Sh.tupI {ds : List PyData} {k : Nat} (h : Sh (.tuple ds) k) : ∃ j, k = j + 1 ∧ (∀ d ∈ ds, Sh d j) ∧ ds.length ≤ 100000 := by
  obtain ⟨h1, h2, h3⟩ := h
  rw [PyData.canLay0] at h1
  rw [PyData.depth] at h2
  rw [wide] at h3
  have c := Bool.and_eq_true_iff.mp h3
  exact ⟨k - 1, by omega, sh_mem h1 (by omega) c.2, of_decide_eq_true c.1⟩
theorem Sh.lstI {ds : List PyData} {k : Nat} (h : Sh (.list ds) k) : ∃ j, k = j + 1 ∧ (∀ d ∈ ds, Sh d j) ∧ ds.length ≤ 100000 := by
  obtain ⟨h1, h2, h3⟩ := h
  rw [PyData.canLay0] at h1
  rw [PyData.depth] at h2
  rw [wide] at h3
  have c := Bool.and_eq_true_iff.mp h3
  exact ⟨k - 1, by omega, sh_mem h1 (by omega) c.2, of_decide_eq_true c.1⟩
/-! ### isinstance -/
def tyn : PyData → String
  | .none => "NoneType" | .bool _ => "bool" | .int _ => "int" | .str _ => "str" | .list _ => "list" | .tuple _ => "tuple" | .dict _ => "dict"
theorem Dt.ty {K : PySem.W.Frag} {B : List Addr} {H : Hp} {v : V} {d : PyData} (h : Dt B H v d) : TyX K H v (.type (tyn d)) := by
  cases h with
  | non => exact .base .non
  | bl b => exact .base (.bl b)
  | int i => exact .base (.int i)
  | str x => exact .base (.str x)
  | lst n hs ha => exact .base (.lst hs)
  | tup n hs ha => exact .base (.tup hs)
theorem r_isi {K : PySem.W.Frag} {H : Hp} {Q : VK} {x : V} {t n : String} {b : Bool} (h : TyX K H x (.type t)) (e : kitB t n = some b) (q : Q (.bl b) H) : rIsi K [x, .ty n] H Q := ⟨x, .ty n, _, _, b, rfl, .ty n, h, kit_ty e, q⟩
theorem iteD {c A B : Prop} [Decidable c] (hc : c) (h : A) : if decide c = true then A else B := by
  rw [if_pos (decide_eq_true hc)]
  exact h
theorem iteE {A B : Prop} {c : Bool} (hc : c = true) (h : A) : if c = true then A else B := by
  rw [if_pos hc]
  exact h
theorem iteN {A B : Prop} {c : Bool} (hc : c = false) (h : B) : if c = true then A else B := by
  rw [hc, if_neg Bool.false_ne_true]
  exact h
/-! ### comprehensions -/
theorem lc_yes {te : TE} {σ : L2.St} {H : Hp} {Qy : VK} {N : Hp → Prop} (h : te σ H Qy) : tYes σ H (fun b H3 => if b = true then te σ H3 Qy else N H3) := by
  show if true = true then te σ H Qy else N H
  rw [if_pos rfl]
  exact h
theorem walk_zipT {K : PySem.W.Frag} {a b : Addr} {xs ys : List V} {n : Nat} (hn : n = min xs.length ys.length) : Walk (RZ.ItzT K a b) n (fun H => SqT K H a xs ∧ SqT K H b ys) (YPair (fun i => xs[i]?) (fun i => ys[i]?)) := by
  subst hn
  refine ⟨fun i _ hi q => ?_, fun _ q => ⟨xs, ys, q.1, q.2, by omega⟩, fun i H v H' _ q y => ?_⟩
  · have h1 : i < xs.length := by omega
    have h2 : i < ys.length := by omega
    exact ⟨xs, ys, xs[i], ys[i], q.1, q.2, by simp [h1], by simp [h2]⟩
  · obtain ⟨T, x, z, h1, h2, h3, h4, h5⟩ := y
    exact ⟨T, x, z, h1, h2, h3, h4 xs q.1, h5 ys q.2⟩
theorem sz {n : Nat} (h : n ≤ 100000) : n < sizeLine := Nat.lt_of_le_of_lt h (by decide)
/-- a comprehension that leaves all as it was: what it makes, item by item -/
theorem lc_pure {J : It} {n : Nat} {G : Hp → Prop} {Y : Nat → Hp → V → Hp → Prop} (w : Walk J n G Y) {g : TG} {tt : TT} {te : TE} {vs : List Nat} {σ : L2.St} {H1 : Hp} {D : Addr} {Qd : Hp → Prop} {B : List Addr}
    (hD : H1 D = none) (hB : Bk B H1) (hG : ∀ H', Same H1 H' → G H') (hn : n ≤ 100000) (e : Nat → Option PyData)
    (hs : ∀ (i : Nat) (x : V) (H' H'' : Hp) (Ny : V → Hp → Prop) (Nn : Hp → Prop), i < n → Same H1 H' → Bk (D :: B) H' → Y i H' x H'' → (∀ y H4 d, e i = some d → Same H' H4 → Dt (D :: B) H4 y d → Ny y H4) → (∀ H3, e i = none → Same H' H3 → Nn H3) →
      g x (wipe σ vs) H'' fun σ2 H2 => wipe σ2 vs = wipe σ vs ∧ tt σ2 H2 fun b H3 => if b = true then te σ2 H3 Ny else Nn H3)
    (hd : ∀ (H' : Hp) (ws : List V), Same H1 H' → H' D = some (.lst ws) → DtA (D :: B) H' ws ((List.range n).filterMap e) → Qd H') :
    ∃ W : Nat → Nat → Hp → Prop, (∃ m, W 0 m (upd H1 D (.lst []))) ∧ ∀ i m H, W i m H →
      (J.stop i H ∧ Qd H) ∨ (J.go i H ∧ ∃ Nx : Hp → Prop, (∀ H', Nx H' → ∃ m', m' < m ∧ W (i + 1) m' H') ∧ ∀ x H', J.yld i H x H' → g x (wipe σ vs) H' fun σ2 H2 => wipe σ2 vs = wipe σ vs ∧ tt σ2 H2 fun b H3 =>
        if b = true then te σ2 H3 fun y H4 => ∃ acc, H4 D = some (.lst acc) ∧ acc.length < sizeLine ∧ Nx (upd H4 D (.lst (acc ++ [y]))) else Nx H3) := by
  refine lc_it w (fun i H' => Same H1 H' ∧ ∃ ws, H' D = some (.lst ws) ∧ DtA (D :: B) H' ws ((List.range i).filterMap e) ∧ ws.length ≤ i) ⟨sm_new hD, [], upd_same, .nil, Nat.le_refl _⟩ (fun i H' _ h => hG H' h.1) (fun i x H' H'' hi h y => ?_) (fun H' h => ?_)
  · obtain ⟨s1, ws, eD, hA, hl⟩ := h
    have hb : Bk (D :: B) H' := (hB.go (Go.of (B := B) s1)).cons eD
    refine hs i x H' H'' _ _ hi s1 hb y (fun y H4 d ed s4 hy => ?_) (fun H3 ed s3 => ?_)
    · refine ⟨ws, s4 _ _ eD, sz (by omega), sm_mut (s1.trans s4) hD, ws ++ [y], upd_same, ?_, by simp; omega⟩
      rw [List.range_succ, List.filterMap_append]
      have g4 : Go (D :: B) H4 (upd H4 D (.lst (ws ++ [y]))) := Go.refl.at (List.mem_cons_self ..)
      refine DtA.app ((hA.s s4).g g4) ?_
      simp only [List.filterMap_cons, List.filterMap_nil, ed]
      exact .one (hy.g g4)
    · refine ⟨s1.trans s3, ws, s3 _ _ eD, ?_, by omega⟩
      rw [List.range_succ, List.filterMap_append]
      simp only [List.filterMap_cons, List.filterMap_nil, ed, List.append_nil]
      exact hA.s s3
  · obtain ⟨s1, ws, eD, hA, hl⟩ := h
    exact hd H' ws s1 eD hA
theorem fm_take {α : Type} (ys : List α) : ∀ n, (List.range n).filterMap (fun i => ys[i]?) = ys.take n
  | 0 => by simp
  | n + 1 => by
    rw [List.range_succ, List.filterMap_append, fm_take ys n, List.take_add_one]
    cases h : ys[n]? <;> simp [h]
theorem fm_all {α : Type} {ys : List α} {n : Nat} (h : ys.length = n) : (List.range n).filterMap (fun i => ys[i]?) = ys := by
  rw [fm_take, ← h, List.take_length]
theorem at0 {α : Type} {xs : List α} {i : Int} {v : α} (h : 0 ≤ i) (e : xs[i.toNat]? = some v) : atI xs i = some v := by
  have := atI_nat e
  rw [Int.toNat_of_nonneg h] at this
  exact this
theorem bit_ok (b : Bool) : (-(2 ^ 64) : Int) < (if b = true then 1 else 0) ∧ (if b = true then 1 else 0 : Int) < 2 ^ 64 := by cases b <;> decide
theorem md {j : Int} (h : 0 < j) : 0 < j := h
theorem at_in {xs : List V} {r : Int} (h0 : 0 ≤ r) (h1 : r < xs.length) : ∃ v, v ∈ xs ∧ atI xs r = some v := by
  have h : r.toNat < xs.length := by omega
  exact ⟨xs[r.toNat], List.getElem_mem h, at0 h0 (List.getElem?_eq_getElem h)⟩
theorem at_int {ns : List Int} {r : Int} (h0 : 0 ≤ r) (h1 : r < ns.length) : ∃ z, z ∈ ns ∧ atI (ns.map V.int) r = some (.int z) := by
  have h : r.toNat < ns.length := by omega
  exact ⟨ns[r.toNat], List.getElem_mem h, at0 h0 (by rw [List.getElem?_map, List.getElem?_eq_getElem h]; rfl)⟩
theorem at2 (x y : V) (b : Bool) : atI [x, y] (if b = true then 1 else 0) = some (if b = true then y else x) := by cases b <;> rfl
/-- numbers within bounds -/
def cIn (lo hi : Int) (ns : List Int) : Prop := ∀ x ∈ ns, lo ≤ x ∧ x ≤ hi
theorem cIn.app {lo hi x : Int} {ns : List Int} (h : cIn lo hi ns) (h1 : lo ≤ x) (h2 : x ≤ hi) : cIn lo hi (ns ++ [x]) := fun y hy => by
  rcases List.mem_append.mp hy with q | q
  · exact h y q
  · rw [List.mem_singleton.mp q]
    exact ⟨h1, h2⟩
theorem cIn.nil {lo hi : Int} : cIn lo hi [] := fun _ h => nomatch h
theorem cIn.mono {lo hi lo' hi' : Int} {ns : List Int} (h : cIn lo hi ns) (h1 : lo' ≤ lo) (h2 : hi ≤ hi') : cIn lo' hi' ns := fun x hx => by
  have := h x hx
  omega
/-- a comprehension of drawn numbers -/
theorem lc_ints {J : It} {n : Nat} {G : Hp → Prop} {Y : Nat → Hp → V → Hp → Prop} (w : Walk J n G Y) {g : TG} {tt : TT} {te : TE} {vs : List Nat} {σ : L2.St} {H1 : Hp} {D L : Addr} {Qd : Hp → Prop} (N u : Nat) (lo hi : Int)
    (hD : H1 D = none) (hL : Lf L H1 N) (hG : ∀ H', Go [L] H1 H' → G H') (hn : n ≤ 100000)
    (hs : ∀ (i : Nat) (x : V) (H' H'' : Hp) (Ny : V → Hp → Prop) (Nn : Hp → Prop), i < n → Go [L] H1 H' → Lf L H' (N + u * i) → Y i H' x H'' → (∀ (z : Int) H4, Go [L] H' H4 → Lf L H4 (N + u * i + u) → lo ≤ z → z ≤ hi → Ny (.int z) H4) →
      g x (wipe σ vs) H'' fun σ2 H2 => wipe σ2 vs = wipe σ vs ∧ tt σ2 H2 fun b H3 => if b = true then te σ2 H3 Ny else Nn H3)
    (hd : ∀ (H' : Hp) (ns : List Int), Go [L] H1 H' → Lf L H' (N + u * n) → H' D = some (.lst (ns.map V.int)) → ns.length = n → cIn lo hi ns → Qd H') :
    ∃ W : Nat → Nat → Hp → Prop, (∃ m, W 0 m (upd H1 D (.lst []))) ∧ ∀ i m H, W i m H →
      (J.stop i H ∧ Qd H) ∨ (J.go i H ∧ ∃ Nx : Hp → Prop, (∀ H', Nx H' → ∃ m', m' < m ∧ W (i + 1) m' H') ∧ ∀ x H', J.yld i H x H' → g x (wipe σ vs) H' fun σ2 H2 => wipe σ2 vs = wipe σ vs ∧ tt σ2 H2 fun b H3 =>
        if b = true then te σ2 H3 fun y H4 => ∃ acc, H4 D = some (.lst acc) ∧ acc.length < sizeLine ∧ Nx (upd H4 D (.lst (acc ++ [y]))) else Nx H3) := by
  have nD : D ∉ [L] := hL.bk.ne hD
  refine lc_it w (fun i H' => Go [L] H1 H' ∧ Lf L H' (N + u * i) ∧ ∃ ns : List Int, H' D = some (.lst (ns.map V.int)) ∧ ns.length = i ∧ cIn lo hi ns) ⟨Go.new hD, hL.new hD, [], upd_same, rfl, cIn.nil⟩ (fun i H' _ h => hG H' h.1) (fun i x H' H'' hi h y => ?_) (fun H' h => ?_)
  · obtain ⟨g1, l1, ns, eD, en, cn⟩ := h
    refine hs i x H' H'' _ _ hi g1 l1 y (fun z H4 g4 l4 z0 z1 => ?_)
    refine ⟨ns.map V.int, g4.k D _ nD eD, sz (by rw [List.length_map]; omega), (g1.trans g4).mut hD, (l4.up (hL.ne hD)).mono (by rw [Nat.mul_succ]; omega), ns ++ [z], ?_, by simp; omega, cn.app z0 z1⟩
    rw [upd_same, List.map_append]
    rfl
  · obtain ⟨g1, l1, ns, eD, en, cn⟩ := h
    exact hd H' ns g1 l1 eD en cn
theorem mat {a : List Int} {i : Nat} {x : V} (h : i < a.length) (e : (a.map V.int)[i]? = some x) : x = .int a[i] := by
  rw [List.getElem?_map, List.getElem?_eq_getElem h] at e
  exact (Option.some.inj e).symm
end Z

set_option Elab.async false
set_option linter.all false
set_option maxRecDepth 100000
namespace Z
open PySem PySem.Spec PyProof.Rows L2
open PySem.W (dataLt minD alike alikeAll dataLt_tuple dataLt_all_yes dataLt_all_no dataLt_int min_list_data readsAll_at reads_keeps AlikeAll)
/-! ### the least of pairs -/
def enc (p : Int × Int) : PyData := eC [p.1, p.2]
theorem enc_inj {p q : Int × Int} (h : enc p = enc q) : p = q := by
  have h1 : [PyData.int p.1, PyData.int p.2] = [PyData.int q.1, PyData.int q.2] := by
    unfold enc eC at h
    exact PyData.tuple.inj h
  have h2 := (List.cons.inj h1)
  have h3 := (List.cons.inj h2.2)
  exact Prod.ext (PyData.int.inj h2.1) (PyData.int.inj h3.1)
theorem lt_enc (p q : Int × Int) : dataLt (enc p) (enc q) = SrtO.lexB p q := by
  unfold enc eC
  rw [dataLt_tuple]
  simp only [List.map_cons, List.map_nil]
  unfold SrtO.lexB
  by_cases h : p.1 = q.1
  · rw [if_pos h, dataLt_all_yes (by rfl) (by simp [PyData.eqv, h])]
    by_cases h2 : p.2 = q.2
    · rw [dataLt_all_yes (by rfl) (by simp [PyData.eqv, h2]), decide_eq_false (by omega)]
      rfl
    · rw [dataLt_all_no (by rfl) (by simp [PyData.eqv, h2]), dataLt_int]
  · rw [if_neg h, dataLt_all_no (by rfl) (by simp [PyData.eqv, h]), dataLt_int]
def minP (p : Int × Int) (ps : List (Int × Int)) : Int × Int := ps.foldl (fun a y => if SrtO.lexB y a then y else a) p
theorem minD_enc (p : Int × Int) (ps : List (Int × Int)) : minD (enc p) (ps.map enc) = enc (minP p ps) := by
  unfold minD minP
  induction ps generalizing p with
  | nil => rfl
  | cons x r ih =>
    rw [List.map_cons, List.foldl_cons, List.foldl_cons, lt_enc]
    by_cases h : SrtO.lexB x p = true
    · rw [if_pos h, if_pos h]; exact ih x
    · rw [if_neg h, if_neg h]; exact ih p
theorem minP_le (p : Int × Int) (ps : List (Int × Int)) : ∀ q ∈ p :: ps, SrtO.lexB q (minP p ps) = false := by
  unfold minP
  induction ps generalizing p with
  | nil =>
    intro q hq
    rw [List.mem_singleton.mp hq]
    exact SrtO.lexB_no.mpr (by simp only [List.foldl_nil]; omega)
  | cons x r ih =>
    intro q hq
    rw [List.foldl_cons]
    by_cases h : SrtO.lexB x p = true
    · rw [if_pos h]
      rcases List.mem_cons.mp hq with e | e
      · have i1 := SrtO.lexB_no.mp (ih x x (List.mem_cons_self ..))
        have i2 := SrtO.lexB_iff.mp h
        rw [e]
        exact SrtO.lexB_no.mpr (by omega)
      · exact ih x q e
    · rw [if_neg h]
      rcases List.mem_cons.mp hq with e | e
      · exact ih p q (by rw [e]; exact List.mem_cons_self ..)
      · rcases List.mem_cons.mp e with e | e
        · have i1 := SrtO.lexB_no.mp (ih p p (List.mem_cons_self ..))
          have i2 := SrtO.lexB_no.mp (Bool.eq_false_iff.mpr h)
          rw [e]
          exact SrtO.lexB_no.mpr (by omega)
        · exact ih p q (List.mem_cons_of_mem _ e)
theorem alike_enc (p q : Int × Int) : alike (enc p) (enc q) = true := by
  unfold enc eC
  simp [alike, alikeAll]
theorem dep_enc : ∀ ps : List (Int × Int), PyData.depthAll (ps.map enc) ≤ 1
  | [] => Nat.zero_le _
  | p :: ps => by
    rw [List.map_cons, PyData.depthAll]
    exact Nat.max_le.mpr ⟨(sh_eC (ns := [p.1, p.2]) (by simp)).2.1, dep_enc ps⟩
/-- min(xs), xs a list of pairs of ints: one of the least -/
def rMinP (K : PySem.W.Frag) : List V → Hp → VK → Prop := fun vs H Q => ∃ (a : Addr) (xs : List V) (p : Int × Int) (ps : List (Int × Int)), vs = [V.ref a] ∧ SqL K H a xs ∧ DpAll K H xs ((p :: ps).map enc) ∧
  ∀ (i : Nat) (x : V), xs[i]? = some x → (p :: ps)[i]? = some (minP p ps) → Q x H
theorem cr_minP (K : PySem.W.Frag) {X : Cx} (hc : X.calm = true) (hu : X.A.units + 64 < cLine) (hK : X.K = K := by rfl) : CallR X (.builtin "min") (rMinP K) := by
  subst hK
  intro pins s σ H vs us Q I r h
  obtain ⟨a, xs, p, ps, rfl, hs, hd, q⟩ := h
  obtain ⟨its, rv, hl, hz⟩ := I.list hs
  obtain ⟨u, rfl, ru⟩ := vals1 r
  obtain rfl : u = Value.ref a := ru
  obtain ⟨as, hr⟩ := Dp.readsAll I _ xs its hd rv
  rw [List.map_cons] at hr
  have hdep := dep_enc (p :: ps)
  rw [List.map_cons] at hdep
  refine min_list_data (x := enc p) (xs := ps.map enc) (I.ok.hd hc) hl.isList (by simpa using hr) ⟨fun x hx y hy => ?_, fun x hx => ?_⟩ (by omega) fun i v h' tk bs hv rd hk => ?_
  · rw [← List.map_cons] at hx hy
    obtain ⟨x, _, rfl⟩ := List.mem_map.mp hx
    obtain ⟨y, _, rfl⟩ := List.mem_map.mp hy
    exact alike_enc x y
  · rw [← List.map_cons] at hx
    obtain ⟨x, _, rfl⟩ := List.mem_map.mp hx
    intro z
    unfold enc eC at z
    cases z
  · have hv2 : its[i]? = some v := by simpa using hv
    have hi : i < its.length := (List.getElem?_eq_some_iff.mp hv2).1
    have hi2 : i < xs.length := by rw [rv.length]; exact hi
    obtain ⟨w, hw, rw1⟩ := rv.get (List.getElem?_eq_getElem hi2)
    have ew : w = v := Option.some.inj (hw.symm.trans hv2)
    subst ew
    obtain ⟨cs, r1, l1, m1, _⟩ := readsAll_at hr i w hv2
    rw [← List.map_cons] at l1 m1 r1
    rw [List.length_map] at l1
    have eg : ((p :: ps).map enc).getD i .none = enc (p :: ps)[i] := by
      rw [List.getD_eq_getElem?_getD, List.getElem?_map, List.getElem?_eq_getElem l1]
      rfl
    rw [eg] at r1
    rw [minD_enc] at rd
    have ee := SeqAt.Reads.unique _ _ _ _ _ (sh_eC (ns := [((p :: ps)[i]).1, ((p :: ps)[i]).2]) (by simp)).1 (reads_keeps hk r1) rd
    have ep : (p :: ps)[i] = minP p ps := enc_inj ee
    exact ⟨xs[i], H, I.kept (t' := tk) hk, rw1, q i _ (List.getElem?_eq_getElem hi2) (by rw [List.getElem?_eq_getElem l1, ep])⟩
theorem DtA.rev {B : List Addr} {H : Hp} : ∀ {vs : List V} {ds : List PyData}, DtA B H vs ds → DtA B H vs.reverse ds.reverse
  | [], _, h => by
    cases h
    exact .nil
  | v :: vs, _, h => by
    cases h with
    | cons h1 h2 =>
      rw [List.reverse_cons, List.reverse_cons]
      exact (DtA.rev h2).app (.one h1)
theorem DtA.dP {K : PySem.W.Frag} {B : List Addr} {H : Hp} {vs : List V} {ds : List PyData} (h : DtA B H vs ds) : DpAll K H vs ds := DtA.dp ds vs h
/-- a comprehension of drawn data -/
theorem lc_dtsB {J : It} {n : Nat} {G : Hp → Prop} {Y : Nat → Hp → V → Hp → Prop} (w : Walk J n G Y) {g : TG} {tt : TT} {te : TE} {vs : List Nat} {σ : L2.St} {H1 : Hp} {D L : Addr} {B : List Addr} {Qd : Hp → Prop} (N u : Nat) (Pd : PyData → Prop)
    (hD : H1 D = none) (hL : Lf L H1 N) (LB : L ∈ B) (hB : Bk B H1) (hG : ∀ H', Go [L] H1 H' → G H') (hn : n ≤ 100000)
    (hs : ∀ (i : Nat) (x : V) (H' H'' : Hp) (Ny : V → Hp → Prop) (Nn : Hp → Prop), i < n → Go [L] H1 H' → Lf L H' (N + u * i) → Bk (D :: B) H' → Y i H' x H'' → (∀ (v : V) (d : PyData) H4, Go [L] H' H4 → Lf L H4 (N + u * i + u) → Dt (D :: B) H4 v d → Pd d → Ny v H4) →
      g x (wipe σ vs) H'' fun σ2 H2 => wipe σ2 vs = wipe σ vs ∧ tt σ2 H2 fun b H3 => if b = true then te σ2 H3 Ny else Nn H3)
    (hd : ∀ (H' : Hp) (ws : List V) (ds : List PyData), Go [L] H1 H' → Lf L H' (N + u * n) → H' D = some (.lst ws) → DtA (D :: B) H' ws ds → ds.length = n → (∀ d ∈ ds, Pd d) → Qd H') :
    ∃ W : Nat → Nat → Hp → Prop, (∃ m, W 0 m (upd H1 D (.lst []))) ∧ ∀ i m H, W i m H →
      (J.stop i H ∧ Qd H) ∨ (J.go i H ∧ ∃ Nx : Hp → Prop, (∀ H', Nx H' → ∃ m', m' < m ∧ W (i + 1) m' H') ∧ ∀ x H', J.yld i H x H' → g x (wipe σ vs) H' fun σ2 H2 => wipe σ2 vs = wipe σ vs ∧ tt σ2 H2 fun b H3 =>
        if b = true then te σ2 H3 fun y H4 => ∃ acc, H4 D = some (.lst acc) ∧ acc.length < sizeLine ∧ Nx (upd H4 D (.lst (acc ++ [y]))) else Nx H3) := by
  have nD : D ∉ [L] := hL.bk.ne hD
  refine lc_it w (fun i H' => Go [L] H1 H' ∧ Lf L H' (N + u * i) ∧ ∃ ws ds, H' D = some (.lst ws) ∧ DtA (D :: B) H' ws ds ∧ ds.length = i ∧ ∀ d ∈ ds, Pd d) ⟨Go.new hD, hL.new hD, [], [], upd_same, .nil, rfl, fun _ h => (nomatch h)⟩ (fun i H' _ h => hG H' h.1) (fun i x H' H'' hi h y => ?_) (fun H' h => ?_)
  · obtain ⟨g1, l1, ws, ds, eD, hA, en, hp⟩ := h
    refine hs i x H' H'' _ _ hi g1 l1 ((hB.go g1).cons eD) y (fun z d H4 g4 l4 dz pd => ?_)
    have gm : Go (D :: B) H4 (upd H4 D (.lst (ws ++ [z]))) := Go.refl.at (List.mem_cons_self ..)
    have lw := hA.len
    refine ⟨ws, g4.k D _ nD eD, sz (by omega), (g1.trans g4).mut hD, (l4.up (hL.ne hD)).mono (by rw [Nat.mul_succ]; omega), ws ++ [z], ds ++ [d], upd_same, ((hA.g (g4.w1 (List.mem_cons_of_mem _ LB))).g gm).app (.one (dz.g gm)), by simp; omega, fun e he => ?_⟩
    rcases List.mem_append.mp he with he | he
    · exact hp e he
    · rw [List.mem_singleton.mp he]
      exact pd
  · obtain ⟨g1, l1, ws, ds, eD, hA, en, hp⟩ := h
    exact hd H' ws ds g1 l1 eD hA en hp
/-- a part of a list -/
def cutL {α : Type} (xs : List α) (lo hi : Option Int) : List α := (xs.drop (HT.sIx xs.length 0 lo)).take (HT.sIx xs.length xs.length hi - HT.sIx xs.length 0 lo)
theorem cutL_sub {α : Type} {xs : List α} {lo hi : Option Int} {x : α} (h : x ∈ cutL xs lo hi) : x ∈ xs := List.mem_of_mem_drop (List.mem_of_mem_take h)
theorem cutL_len {α : Type} (xs : List α) (lo hi : Option Int) : (cutL xs lo hi).length ≤ xs.length := by
  unfold cutL
  rw [List.length_take, List.length_drop]
  omega
theorem DtA.drop {B : List Addr} {H : Hp} : ∀ (n : Nat) {vs : List V} {ds : List PyData}, DtA B H vs ds → DtA B H (vs.drop n) (ds.drop n)
  | 0, _, _, h => h
  | n + 1, [], _, h => by cases h; exact .nil
  | n + 1, v :: vs, _, h => by
    cases h with
    | cons h1 h2 => exact DtA.drop n h2
theorem DtA.take {B : List Addr} {H : Hp} : ∀ (n : Nat) {vs : List V} {ds : List PyData}, DtA B H vs ds → DtA B H (vs.take n) (ds.take n)
  | 0, _, _, h => .nil
  | n + 1, [], _, h => by cases h; exact .nil
  | n + 1, v :: vs, _, h => by
    cases h with
    | cons h1 h2 => exact .cons h1 (DtA.take n h2)
theorem DtA.cut {B : List Addr} {H : Hp} {vs : List V} {ds : List PyData} (h : DtA B H vs ds) (lo hi : Option Int) : DtA B H (cutV vs lo hi) (cutL ds lo hi) := by
  unfold cutV cutL
  rw [h.len]
  exact DtA.take _ (DtA.drop _ h)
theorem slice_dt {K : PySem.W.Frag} {B : List Addr} {H : Hp} {x : V} {ds : List PyData} {lo hi : Option Int} {Q : VK} (hx : Dt B H x (.tuple ds)) (hB : Bk B H) (q : ∀ v H', Same H H' → Dt B H' v (.tuple (cutL ds lo hi)) → Q v H') : rSlA K x lo hi H Q := by
  obtain ⟨a, vs, rfl, na, ha, hA⟩ := hx.tupI
  refine ⟨a, vs, rfl, SqT.of ha, fun h => q _ H (Same.refl _) ?_, fun _ p hp => q _ _ (sm_new hp) (.tup (hB.ne hp) upd_same ((hA.cut lo hi).s (sm_new hp)))⟩
  have e : cutL ds lo hi = ds := by
    unfold cutL
    rw [← hA.len, h.1, h.2, List.drop_zero, Nat.sub_zero, hA.len, List.take_length]
  rw [e]
  exact hx
theorem cat_dt {K : PySem.W.Frag} {B : List Addr} {H : Hp} {x y : V} {xs ys : List PyData} {Q : VK} (hx : Dt B H x (.tuple xs)) (hy : Dt B H y (.tuple ys)) (hB : Bk B H) (l : xs.length + ys.length ≤ 100000) (q : ∀ v H', Same H H' → Dt B H' v (.tuple (xs ++ ys)) → Q v H') : rCatA K x y H Q := by
  obtain ⟨a, vs, rfl, na, ha, hA⟩ := hx.tupI
  obtain ⟨b, ws, rfl, nb, hb, hC⟩ := hy.tupI
  have l1 := hA.len
  have l2 := hC.len
  refine ⟨a, b, vs, ws, rfl, rfl, SqT.of ha, SqT.of hb, Nat.le_of_lt (sz (by omega)), fun e => ?_, fun _ e => ?_, fun _ _ p hp => q _ _ (sm_new hp) (.tup (hB.ne hp) upd_same ((hA.app hC).s (sm_new hp)))⟩
  · subst e
    have : xs = [] := List.eq_nil_of_length_eq_zero (by rw [← l1]; rfl)
    subst this
    exact q _ H (Same.refl _) hy
  · subst e
    have : ys = [] := List.eq_nil_of_length_eq_zero (by rw [← l2]; rfl)
    subst this
    exact q _ H (Same.refl _) (by rw [List.append_nil]; exact hx)
theorem sh_cut {ds : List PyData} {k : Nat} {lo hi : Option Int} (h : Sh (.tuple ds) k) : Sh (.tuple (cutL ds lo hi)) k := by
  obtain ⟨j, rfl, h1, h2⟩ := h.tupI
  exact sh_tup (Nat.le_trans (cutL_len _ _ _) h2) fun d hd => h1 d (cutL_sub hd)
theorem sh_cat {xs ys : List PyData} {k : Nat} (h1 : Sh (.tuple xs) k) (h2 : Sh (.tuple ys) k) (l : xs.length + ys.length ≤ 100000) : Sh (.tuple (xs ++ ys)) k := by
  obtain ⟨j, rfl, a1, a2⟩ := h1.tupI
  obtain ⟨j', e, b1, b2⟩ := h2.tupI
  have : j = j' := by omega
  subst this
  exact sh_tup (by simpa using l) fun d hd => by
    rcases List.mem_append.mp hd with h | h
    · exact a1 d h
    · exact b1 d h
/-! ### a comprehension in another one -/
def FrAll (sc : Scope) : List Str → Prop
  | [] => True
  | x :: xs => (sc.names.lookup x = some .cell ∨ sc.names.lookup x = some .free) ∧ FrAll sc xs
theorem FrAll.mem {sc : Scope} : ∀ {xs : List Str}, FrAll sc xs → ∀ x ∈ xs, sc.names.lookup x = some .cell ∨ sc.names.lookup x = some .free
  | [], _, _, h => nomatch h
  | y :: ys, h, x, hx => by
    rcases List.mem_cons.mp hx with e | e
    · rw [e]; exact h.1
    · exact FrAll.mem h.2 x e
def frC (fr : List Str) (scope : Scope) : Bool := scope.names.all fun y => match y.2 with
  | .free => decide (y.1 ∈ fr)
  | _ => true
theorem blkOk_in {N : List Str} {sc scope : Scope} {own : List (Str × Nat)} (fr : List Str) (h : blkC N { kind := .function, names := fr.map fun x => (x, .free), isGenerator := false, isCoroutine := false } scope own = true) (h2 : frC fr scope = true) (hf : FrAll sc fr) : BlkOk N sc scope own := by
  have b := blkOk_by h
  refine ⟨b.kind, b.uniq, b.ix, fun y hy e => ?_, b.own⟩
  have := List.all_eq_true.mp h2 y hy
  rw [e] at this
  exact hf.mem _ (of_decide_eq_true this)
end Z

set_option Elab.async false
set_option linter.all false
set_option maxRecDepth 100000
set_option maxHeartbeats 400000
namespace Z
open PySem PySem.Spec PyProof.Rows L2
/-! ### '9' * n, and its number -/
def nines (n : Nat) : Str := ⟨(List.replicate n (Str.ofString "9").cps).foldl (· ++ ·) #[]⟩
theorem nines_int : ∀ i : Fin 41, 1 ≤ i.val → PySem.intText? (nines i.val) = some ((10 : Int) ^ i.val - 1) ∧ (nines i.val).length ≤ 640 := by decide +kernel
def rRep9 : R2 := fun x y H Q => ∃ n : Int, x = .str "9" ∧ y = .int n ∧ 1 ≤ n ∧ n ≤ 40 ∧ Q (.str (nines n.toNat)) H
theorem op_rep9 {X : Cx} : OpR X (binaryOp .Mult) rRep9 := by
  intro pins s σ H x y v u Q I rx ry h
  obtain ⟨n, rfl, rfl, n1, n2, q⟩ := h
  obtain ⟨t, rfl⟩ := rx
  obtain ⟨t', rfl⟩ := ry
  have l9 : (Str.ofString "9").length = 1 := by decide
  refine P.mul_str ?_ (fun _ _ => ?_) (fun _ _ => ?_) ?_
  · rw [decide_eq_false (by omega), decide_eq_false (by omega)]; rfl
  · rw [l9]
    have : (1 : Int) ≤ (2 ^ 63 - 1) / n := Int.le_ediv_of_mul_le (by omega) (by omega)
    omega
  · rw [l9, Nat.one_mul]
    have : n.toNat ≤ 40 := by omega
    show decide (n.toNat > sizeLine) = false
    exact decide_eq_false (fun h => absurd (Nat.lt_of_lt_of_le h this) (by decide))
  · rw [if_neg (by omega)]
    by_cases e : n = 1
    · subst e
      exact ⟨.str (nines 1), H, I, ⟨t, rfl⟩, q⟩
    · have e2 : ((n == 1) || (Str.ofString "9").length == 0) = false := by
        rw [l9]
        simp [e]
      rw [e2, if_neg Bool.false_ne_true]
      refine ⟨?_, .str (nines n.toNat), H, I.tok _, ⟨_, rfl⟩, q⟩
      exact Nat.le_trans (nines_int ⟨n.toNat, by omega⟩ (by show 1 ≤ n.toNat; omega)).2 (by decide)
/-! ### fractions: the greatest measure -/
def ab (t : Int) : Nat := t.natAbs
def gm (t b : Int) : Nat := Nat.gcd t.natAbs b.natAbs
def pn (t b : Int) : Int := (if b < 0 then -t else t) / (gm t b : Int)
def pd (t b : Int) : Int := (if b < 0 then -b else b) / (gm t b : Int)
theorem gm_pos {t b : Int} (h : b ≠ 0) : 0 < gm t b := Nat.gcd_pos_of_pos_right _ (by omega)
theorem gm_le {t b : Int} (h : b ≠ 0) : gm t b ≤ b.natAbs := Nat.gcd_le_right _ (by omega)
theorem pd_pos {t b : Int} (h : b ≠ 0) : 0 < pd t b := by
  have h1 := gm_pos (t := t) h
  have h2 := gm_le (t := t) h
  unfold pd
  have : (1 : Int) ≤ (if b < 0 then -b else b) / (gm t b : Int) := Int.le_ediv_of_mul_le (by omega) (by split <;> omega)
  omega
theorem pd_le {t b : Int} (h : b ≠ 0) : pd t b ≤ (b.natAbs : Int) := by
  have h1 := gm_pos (t := t) h
  unfold pd
  have h2 : (if b < 0 then -b else b) = (b.natAbs : Int) := by split <;> omega
  rw [h2]
  exact Int.ediv_le_self _ (by omega)
theorem ediv_natAbs {x g : Int} (h : 0 < g) : (x / g).natAbs ≤ x.natAbs := by
  rcases Int.le_total 0 x with h1 | h1
  · have a := Int.ediv_nonneg h1 (Int.le_of_lt h)
    have b := Int.ediv_le_self g h1
    omega
  · have a : x ≤ x / g := Int.le_ediv_of_mul_le h (by
      have : x * g ≤ x * 1 := Int.mul_le_mul_of_nonpos_left h1 (by omega)
      omega)
    have b : x / g < 1 := Int.ediv_lt_of_lt_mul h (by omega)
    omega
theorem pn_le {t b : Int} (h : b ≠ 0) : (pn t b).natAbs ≤ t.natAbs := by
  have h1 := gm_pos (t := t) h
  unfold pn
  refine Nat.le_trans (ediv_natAbs (by omega)) ?_
  split <;> omega
/-! ### // by a great number of either sign -/
def CDivN2 (_ j : Int) : Prop := j ≠ 0 ∧ j.natAbs.log2 < 9000
theorem op_fdivM {X : Cx} : OpR X (binaryOp .FloorDiv) (rI CDivN2 fun i j => .int (i.fdiv j)) := opI fun _ _ _ _ _ _ _ hc q => floordiv_int hc.1 q (.inl (PyProof.noPylong_of_log2 hc.2))
theorem fdiv_neg' {t g : Int} (h : 0 < g) : t.fdiv (-g) = (-t) / g := by
  have e : t.fdiv (-g) = (-t).fdiv g := by
    rw [← Int.neg_fdiv_neg (-t) g, Int.neg_neg]
  rw [e, Int.fdiv_eq_ediv_of_nonneg _ (by omega)]
theorem gm_dvd_l (t b : Int) : (gm t b : Int) ∣ t := Int.ofNat_dvd_left.mpr (Nat.gcd_dvd_left _ _)
theorem gm_dvd_r (t b : Int) : (gm t b : Int) ∣ b := Int.ofNat_dvd_left.mpr (Nat.gcd_dvd_right _ _)
theorem pn_mul {t b : Int} (h : b ≠ 0) : pn t b * (gm t b : Int) = if b < 0 then -t else t := by
  unfold pn
  refine Int.ediv_mul_cancel ?_
  split
  · exact Int.dvd_neg.mpr (gm_dvd_l t b)
  · exact gm_dvd_l t b
theorem pd_mul {t b : Int} (h : b ≠ 0) : pd t b * (gm t b : Int) = if b < 0 then -b else b := by
  unfold pd
  refine Int.ediv_mul_cancel ?_
  split
  · exact Int.dvd_neg.mpr (gm_dvd_r t b)
  · exact gm_dvd_r t b
theorem cross {t b : Int} (h : b ≠ 0) : pn t b * b = t * pd t b := by
  have g0 : (gm t b : Int) ≠ 0 := by have := gm_pos (t := t) h; omega
  have e1 := pn_mul (t := t) h
  have e2 := pd_mul (t := t) h
  refine Int.eq_of_mul_eq_mul_right g0 ?_
  have a1 : pn t b * b * (gm t b : Int) = (pn t b * (gm t b : Int)) * b := by rw [Int.mul_assoc, Int.mul_comm b, ← Int.mul_assoc]
  have a2 : t * pd t b * (gm t b : Int) = t * (pd t b * (gm t b : Int)) := Int.mul_assoc ..
  rw [a1, a2, e1, e2]
  split
  · rw [Int.neg_mul, Int.mul_neg]
  · rfl
theorem gm_low {t b : Int} (h : b ≠ 0) : gm (pn t b) (pd t b) = 1 := by
  have gp := gm_pos (t := t) h
  have e1 := pn_mul (t := t) h
  have e2 := pd_mul (t := t) h
  have n1 : (pn t b).natAbs * gm t b = t.natAbs := by
    have := congrArg Int.natAbs e1
    rw [Int.natAbs_mul, Int.natAbs_natCast] at this
    rw [this]
    split <;> omega
  have n2 : (pd t b).natAbs * gm t b = b.natAbs := by
    have := congrArg Int.natAbs e2
    rw [Int.natAbs_mul, Int.natAbs_natCast] at this
    rw [this]
    split <;> omega
  have h3 : gm (pn t b) (pd t b) * gm t b = gm t b := by
    show Nat.gcd (pn t b).natAbs (pd t b).natAbs * gm t b = gm t b
    rw [← Nat.gcd_mul_right, n1, n2]
    rfl
  exact Nat.eq_of_mul_eq_mul_right gp (by rw [h3, Nat.one_mul])
theorem pn_low {t b : Int} (h : b ≠ 0) : pn (pn t b) (pd t b) = pn t b := by
  have hp := pd_pos (t := t) h
  show (if pd t b < 0 then -(pn t b) else pn t b) / (gm (pn t b) (pd t b) : Int) = pn t b
  rw [gm_low h, if_neg (by omega)]
  exact Int.ediv_one _
theorem pd_low {t b : Int} (h : b ≠ 0) : pd (pn t b) (pd t b) = pd t b := by
  have hp := pd_pos (t := t) h
  show (if pd t b < 0 then -(pd t b) else pd t b) / (gm (pn t b) (pd t b) : Int) = pd t b
  rw [gm_low h, if_neg (by omega)]
  exact Int.ediv_one _
end Z

set_option Elab.async false
set_option linter.all false
set_option maxRecDepth 100000
namespace Z
open PySem PySem.Spec PyProof.Rows L2 L2.DX
/-! ### sorted(d.items()), keys tuples of ints, values ints -/
def entI (e : List Int × Int) : List L2.Key × V := (e.1.map Sum.inl, V.int e.2)
def eRow (e : List Int × Int) : PyData := .tuple [eC e.1, .int e.2]
theorem kV_ints (ns : List Int) : (ns.map Sum.inl).map kV = ns.map V.int := by
  rw [List.map_map]
  rfl
theorem reads_ints {h : Heap} : ∀ {ns : List Int} {us : List Value}, Vals (ns.map V.int) us → ReadsAll h us (ns.map .int) []
  | [], _, r => by
    cases r
    exact .nil
  | n :: ns, _, r => by
    cases r with
    | cons r1 r2 =>
      obtain ⟨t, rfl⟩ := r1
      exact ReadsAll.cons (as := []) (bs := []) (.int n t) (reads_ints r2)
theorem zipped {α β : Type} {R : α → β → Prop} : ∀ {as : List α} {bs : List β}, PySem.W.EachIs R as bs → ∃ zs : List (α × β), zs.map Prod.fst = as ∧ zs.map Prod.snd = bs ∧ ∀ z ∈ zs, R z.1 z.2
  | _, _, .nil => ⟨[], rfl, rfl, fun _ h => nomatch h⟩
  | a :: as, b :: bs, .cons h t => by
    obtain ⟨zs, e1, e2, h3⟩ := zipped t
    refine ⟨(a, b) :: zs, by rw [List.map_cons, e1], by rw [List.map_cons, e2], fun z hz => ?_⟩
    rcases List.mem_cons.mp hz with e | e
    · rw [e]; exact h
    · exact h3 z e
theorem fm_some {α : Type} (f : Nat → α) : ∀ n : Nat, (List.range n).filterMap (fun i => some (f i)) = (List.range n).map f := fun n => by
  rw [← List.filterMap_eq_map]
  rfl
def rSortII : List V → Hp → VK → Prop := fun vs H Q => ∃ (p a : Addr) (ks : List (List Int × Int)), vs = [.ref p] ∧ H p = some (itemsO p a) ∧ H a = some (.dT (ks.map entI)) ∧ ks.length ≤ 1000 ∧
  ∀ (H' : Hp) (l : Addr) (ps : List (Addr × List Int × Int)), Same H H' → H l = none → (ps.map (·.2)).Perm ks → H' l = some (.lst (ps.map fun z => V.ref z.1)) →
    (∀ z ∈ ps, ∃ q, H z.1 = none ∧ H' z.1 = some (.tup [.ref q, .int z.2.2]) ∧ H q = some (.tup (z.2.1.map V.int))) → Q (.ref l) H'
section
variable {X : Cx}
theorem set_dictU (hu : X.A.units + 64 < cLine) : PSet X rSetD := set_dict (by omega)
theorem cr_sortedII (hc : X.calm = true) (hu : X.A.units + 64 < cLine) : CallR X (.builtin "sorted") rSortII := by
  intro pins s σ H xs us Q I r h
  obtain ⟨p, a, ks, rfl, hp, ha, h64, q⟩ := h
  obtain rfl := Vals.ref1 r
  have view : s.heap.IsItemsView p a := (show ObjOk X.prog X.w H s.heap p (itemsO p a) from I.hok p _ hp).1
  obtain ⟨z, hd, xs', rel, o, es, ep, ho, hx, hdat, hes, his, hn⟩ := dt_of I.hok ha
  have l1 : (ks.map entI).length = xs'.length := Paired.length rel
  rw [List.length_map] at l1
  have l2 : es.size = xs'.length := size_of_entries hes
  have hh : X.A.handled = none := I.ok.hd hc
  refine DT.sortedI (es := es) (ep := ep) hh view ⟨o, ho, hx, hdat⟩ (by rw [sizeLine_eq]; omega) fun h' tk as hk hlt hl hG => ?_
  have lak : as.length = ks.length := by omega
  have nd : as.Nodup := List.Pairwise.imp (fun h => Nat.ne_of_lt h) hG.rise
  have pr : ∀ (j : Nat) (b : Addr), as[j]? = some b → ∃ (e : List Int × Int) (kq : Addr) (t : Tok), ks[j]? = some e ∧ H kq = some (.tup (e.1.map V.int)) ∧ h'.get? b = some { cls := .type "tuple", data := .seq #[Value.ref kq, Value.int e.2 t] } := by
    intro j b hj
    obtain ⟨en, he, hg⟩ := hG.pairs j b hj
    rw [entry_at hes j] at he
    cases hxj : xs'[j]? with
    | none =>
      rw [hxj] at he
      exact nomatch (show (none : Option DictEntry) = some en from he)
    | some x =>
      rw [hxj] at he
      have een : entryOfKey (tupleKind (mixKind X.prog X.w)) x = en := Option.some.inj he
      obtain ⟨e0, he0, r1, r2, r3⟩ := pget rel hxj
      rw [List.getElem?_map] at he0
      cases hkj : ks[j]? with
      | none =>
        rw [hkj] at he0
        exact nomatch (show (none : Option (List L2.Key × V)) = some e0 from he0)
      | some e =>
        rw [hkj] at he0
        have ee : entI e = e0 := Option.some.inj he0
        rw [← ee] at r2 r3
        obtain ⟨t, r3'⟩ : ∃ t, x.2.2 = Value.int e.2 t := r3
        refine ⟨e, x.2.1, t, rfl, ?_, ?_⟩
        · have r2' : H x.2.1 = some (.tup ((e.1.map Sum.inl).map kV)) := r2
          rw [kV_ints] at r2'
          exact r2'
        · rw [hg, ← een, ← r3']
          all_goals rfl
  have hob : (h'.push { cls := .type "list", data := .seq (as.map Value.ref).toArray }).get? h'.objs.size = some (seqObj "list" (as.map Value.ref).toArray 0) := Heap.get?_push_size _ rfl
  have kb : ∀ b o, s.heap.get? b = some o → (h'.push { cls := .type "list", data := .seq (as.map Value.ref).toArray }).get? b = some o := fun b o e => Heap.get?_push_of_some _ (hk b o e)
  have ne0 : ∀ b o, h'.get? b = some o → b ≠ h'.objs.size := fun b o e => Nat.ne_of_lt (Heap.lt_size e)
  generalize hh2 : h'.push { cls := .type "list", data := .seq (as.map Value.ref).toArray } = h2 at hob kb ⊢
  have ka : ∀ b o, h'.get? b = some o → h2.get? b = some o := fun b o e => by rw [← hh2]; exact Heap.get?_push_of_some _ e
  have rd : ∀ (j : Nat) (b : Addr) (e : List Int × Int), as[j]? = some b → ks[j]? = some e → Reads h2 (.ref b) (eRow e) [] := by
    intro j b e hj he
    obtain ⟨e', kq, t, he', hkq, hg⟩ := pr j b hj
    have ee : e' = e := Option.some.inj (he'.symm.trans he)
    subst ee
    obtain ⟨_, its, rv, ot, hot, hct, nt, hdt⟩ := (show ObjOk X.prog X.w H s.heap kq (.tup (e'.1.map V.int)) from I.hok kq _ hkq)
    refine .tuple (ka _ _ hg) rfl rfl ?_
    refine ReadsAll.cons (as := []) (bs := []) (Reads.tuple (kb _ _ hot) hct hdt ?_) (ReadsAll.cons (as := []) (bs := []) (.int _ t) .nil)
    have := reads_ints (h := h2) rv
    simpa using this
  have lens : (as.map Value.ref).length = ks.length := by rw [List.length_map, lak]
  have zidx : ∀ pz ∈ (as.map Value.ref).zip ks, ∃ (j : Nat) (b : Addr), pz.1 = .ref b ∧ as[j]? = some b ∧ ks[j]? = some pz.2 := by
    intro pz hpz
    obtain ⟨j, hj⟩ := List.mem_iff_getElem?.mp hpz
    obtain ⟨h1, h2'⟩ := List.getElem?_zip_eq_some.mp hj
    rw [List.getElem?_map] at h1
    cases e : as[j]? with
    | none => rw [e] at h1; cases h1
    | some b =>
      rw [e] at h1
      exact ⟨j, b, (Option.some.inj h1).symm, e, h2'⟩
  refine PySem.W.list_sort_data (s := { s with heap := h2, toks := tk }) (A := X.A.in1) (n := 0) (vs := as.map Value.ref) (bs := ks) (enc := eRow) (R := fun v e => ∃ (j : Nat) (b : Addr), v = .ref b ∧ as[j]? = some b ∧ ks[j]? = some e) hob
    (PySem.W.EachIs.of_zip lens zidx) (PySem.W.EachIs.of_zip lens fun pz hpz => ?_) (PySem.W.AllAlike.of fun b b' => ?_) (PySem.W.Sortable.tuples fun b => ⟨_, _, rfl⟩) (by rw [sizeLine_eq]; omega) (fun b _ => ?_) fun out lo eo => ?_
  · obtain ⟨j, b, e1, e2, e3⟩ := zidx pz hpz
    rw [e1]
    exact ⟨[], rd j b _ e2 e3, fun h => nomatch h⟩
  · unfold eRow eC
    simp [PySem.W.alike, PySem.W.alikeAll, PySem.W.alike_ints]
  · have : (eRow b).depth = 2 := by
      unfold eRow eC
      simp [PyData.depth, PyData.depthAll, PySem.W.depth_ints]
    show X.A.units + 1 + 1 + (eRow b).depth < cLine
    omega
  · show EP X pins σ Q (.ref h'.objs.size) { s with heap := sortedHeap h2 h'.objs.size (as.map Value.ref) out.toArray, toks := tk }
    obtain ⟨zs0, z1, z2, z3⟩ := zipped eo
    -- the addresses
    obtain ⟨zs, w1, w2, w3⟩ : ∃ zs : List (Addr × List Int × Int), zs.map (fun z => Value.ref z.1) = out ∧ zs.map (·.2) = ks.mergeSort (PySem.W.dataLe false eRow) ∧ ∀ z ∈ zs, ∃ j : Nat, as[j]? = some z.1 ∧ ks[j]? = some z.2 := by
      rw [← z1, ← z2]
      clear z1 z2 eo lo
      induction zs0 with
      | nil => exact ⟨[], rfl, rfl, fun _ h => nomatch h⟩
      | cons y ys ih =>
        obtain ⟨zs, w1, w2, w3⟩ := ih fun z hz => z3 z (List.mem_cons_of_mem _ hz)
        obtain ⟨j, b, e1, e2, e3⟩ := z3 y (List.mem_cons_self ..)
        refine ⟨(b, y.2) :: zs, by rw [List.map_cons, List.map_cons, w1, e1], by rw [List.map_cons, List.map_cons, w2], fun z hz => ?_⟩
        rcases List.mem_cons.mp hz with e | e
        · rw [e]; exact ⟨j, e2, e3⟩
        · exact w3 z e
    have hperm : (zs.map (·.2)).Perm ks := by
      rw [w2]
      exact List.mergeSort_perm _ _
    have kF : ∀ b o, b ≠ h'.objs.size → h2.get? b = some o → (sortedHeap h2 h'.objs.size (as.map Value.ref) out.toArray).get? b = some o := fun b o hb e => (PyProof.Rows.sortedHeap_old hb (Heap.lt_size e)).trans e
    have kS : ∀ b o, s.heap.get? b = some o → (sortedHeap h2 h'.objs.size (as.map Value.ref) out.toArray).get? b = some o := fun b o e => kF b o (ne0 _ _ (hk b o e)) (kb b o e)
    obtain ⟨eF, heF⟩ := PyProof.Rows.sortedHeap_at (vs := as.map Value.ref) (out := out.toArray) hob
    have I1 : Inv X pins σ H { s with heap := sortedHeap h2 h'.objs.size (as.map Value.ref) out.toArray, toks := tk } := I.kept (t' := tk) kS
    have hn0 : H h'.objs.size = none := I.hok.fresh (Nat.le_of_lt hlt)
    have hlen : (zs.map fun z => V.ref z.1).length ≤ sizeLine := by
      have e := hperm.length_eq
      rw [List.length_map] at e
      rw [List.length_map, sizeLine_eq]
      omega
    have rv : Vals (zs.map fun z => V.ref z.1) out.toArray.toList := by
      show Vals _ out
      rw [← w1]
      exact vals_maps (fun z : Addr × List Int × Int => V.ref z.1) (fun z => Value.ref z.1) zs fun _ _ => rfl
    have I2 : Inv X pins σ (upd H h'.objs.size (.lst (zs.map fun z => V.ref z.1))) { s with heap := sortedHeap h2 h'.objs.size (as.map Value.ref) out.toArray, toks := tk } :=
      I1.take (h' := sortedHeap h2 h'.objs.size (as.map Value.ref) out.toArray) (t' := tk) (fun b ob _ e => e) (I.fpOk (Nat.le_of_lt hlt) hn0) ⟨hlen, out.toArray.toList, eF, rv, heF⟩
    obtain ⟨H2, I3, g, qt⟩ := takeT (P := fun b vs => ∃ (j : Nat) (e : List Int × Int) (kq : Addr), as[j]? = some b ∧ ks[j]? = some e ∧ vs = [.ref kq, .int e.2] ∧ H kq = some (.tup (e.1.map V.int))) I as _ I2 nd fun b hb => by
      obtain ⟨j, hj⟩ := List.mem_iff_getElem?.mp hb
      obtain ⟨e, kq, t, he, hkq, hg⟩ := pr j b hj
      have hbl : s.heap.objs.size ≤ b := Nat.le_of_lt (hG.above b hb)
      refine ⟨hbl, ?_, [.ref kq, .int e.2], ⟨j, e, kq, hj, he, rfl, hkq⟩, fun H3 => ⟨(by rw [sizeLine_eq]; show 2 ≤ 16777216; omega), [Value.ref kq, Value.int e.2 t], .cons rfl (.cons ⟨t, rfl⟩ .nil), ⟨_, kF _ _ (ne0 _ _ hg) (ka _ _ hg), rfl, 0, rfl⟩⟩⟩
      rw [upd_ne (ne0 _ _ hg)]
      exact I.hok.fresh hbl
    have gr : ∀ b o, H b = some o → H2 b = some o := fun b o e => g b o (by rw [upd_ne (ne_of_none e hn0)]; exact e)
    refine ⟨.ref h'.objs.size, H2, I3, rfl, q H2 h'.objs.size zs gr hn0 hperm (g _ _ upd_same) fun z' hz' => ?_⟩
    obtain ⟨i, i1, i2⟩ := w3 z' hz'
    obtain ⟨vs, ⟨j, e, kq, j1, j2, ev, hkq⟩, hH⟩ := qt z'.1 (List.mem_of_getElem? i1)
    have eij : i = j := (List.getElem?_inj (List.getElem?_eq_some_iff.mp i1).1 nd).mp (i1.trans j1.symm)
    subst eij
    have ee : e = z'.2 := Option.some.inj (j2.symm.trans i2)
    rw [ev, ee] at hH
    rw [ee] at hkq
    exact ⟨kq, I.hok.fresh (Nat.le_of_lt (hG.above _ (List.mem_of_getElem? i1))), hH, hkq⟩
end
end Z

set_option Elab.async false
set_option linter.all false
set_option maxRecDepth 100000
set_option maxHeartbeats 400000
namespace Z
open PySem PySem.Spec PyProof.Rows L2
/-! ### fractions as numbers -/
theorem pn_q {t b : Int} (h : b ≠ 0) : pn t b = (Rat.divInt t b).num := by
  rw [Rat.num_divInt]
  unfold pn gm
  rw [show Int.gcd b t = Nat.gcd t.natAbs b.natAbs from Nat.gcd_comm _ _]
  congr 1
  by_cases h0 : b < 0
  · rw [if_pos h0, Int.sign_eq_neg_one_of_neg h0]; omega
  · rw [if_neg h0, Int.sign_eq_one_of_pos (by omega)]; omega
theorem pd_q {t b : Int} (h : b ≠ 0) : pd t b = ((Rat.divInt t b).den : Int) := by
  rw [Rat.den_divInt, if_neg h]
  unfold pd gm
  rw [show Int.gcd b t = Nat.gcd t.natAbs b.natAbs from Nat.gcd_comm _ _, Int.natCast_ediv]
  congr 1
  split <;> omega
/-- x over M, its top at most A -/
def Fr (M A : Nat) (x : Rat) : Prop := ∃ a : Int, x = Rat.divInt a M ∧ a.natAbs ≤ A
theorem Fr.den {M A : Nat} {x : Rat} (h : Fr M A x) (hM : 0 < M) : x.den ≤ M := by
  obtain ⟨a, rfl, _⟩ := h
  rw [Rat.den_divInt, if_neg (by omega)]
  exact Nat.le_trans (Nat.div_le_self _ _) (by omega)
theorem ediv_nat {x : Int} (g : Nat) : (x / (g : Int)).natAbs ≤ x.natAbs := by
  rcases Nat.eq_zero_or_pos g with h | h
  · subst h; simp
  rcases Int.le_total 0 x with h1 | h1
  · have a := Int.ediv_nonneg h1 (Int.natCast_nonneg g)
    have b := Int.ediv_le_self (g : Int) h1
    omega
  · have a : x ≤ x / (g : Int) := Int.le_ediv_of_mul_le (by omega) (by
      have : x * (g : Int) ≤ x * 1 := Int.mul_le_mul_of_nonpos_left h1 (by omega)
      omega)
    have b : x / (g : Int) < 1 := Int.ediv_lt_of_lt_mul (by omega) (by omega)
    omega
theorem Fr.num {M A : Nat} {x : Rat} (h : Fr M A x) (hM : 0 < M) : x.num.natAbs ≤ A := by
  obtain ⟨a, rfl, ha⟩ := h
  rw [Rat.num_divInt, Int.sign_eq_one_of_pos (by omega), Int.one_mul]
  exact Nat.le_trans (ediv_nat _) ha
theorem Fr.add {M A B : Nat} {x y : Rat} (hM : 0 < M) (h : Fr M A x) (h2 : Fr M B y) : Fr M (A + B) (x + y) := by
  obtain ⟨a, rfl, ha⟩ := h
  obtain ⟨b, rfl, hb⟩ := h2
  refine ⟨a + b, ?_, by omega⟩
  have hm : (M : Int) ≠ 0 := by omega
  rw [Rat.divInt_add_divInt _ _ hm hm, ← Int.add_mul, Rat.divInt_mul_right hm]
theorem Fr.mul {M N A B : Nat} {x y : Rat} (h : Fr M A x) (h2 : Fr N B y) : Fr (M * N) (A * B) (x * y) := by
  obtain ⟨a, rfl, ha⟩ := h
  obtain ⟨b, rfl, hb⟩ := h2
  refine ⟨a * b, by rw [Rat.divInt_mul_divInt, Int.natCast_mul], ?_⟩
  rw [Int.natAbs_mul]
  exact Nat.mul_le_mul ha hb
theorem Fr.neg {M A : Nat} {x : Rat} (h : Fr M A x) : Fr M A (-x) := by
  obtain ⟨a, rfl, ha⟩ := h
  exact ⟨-a, by rw [Rat.neg_divInt], by omega⟩
theorem Fr.mono {M A B : Nat} {x : Rat} (h : Fr M A x) (l : A ≤ B) : Fr M B x := by
  obtain ⟨a, e, ha⟩ := h
  exact ⟨a, e, by omega⟩
theorem Fr.int {M A : Nat} {n : Int} (hM : 0 < M) (h : n.natAbs ≤ A) : Fr M (A * M) (n : Rat) := by
  refine ⟨n * M, ?_, ?_⟩
  · have hm : (M : Int) ≠ 0 := by omega
    have : Rat.divInt (n * M) (1 * M) = Rat.divInt n 1 := Rat.divInt_mul_right hm
    rw [Int.one_mul] at this
    rw [this, ← Rat.num_divInt_den (n : Rat)]
    rfl
  · rw [Int.natAbs_mul, Int.natAbs_natCast]
    exact Nat.mul_le_mul_right _ h
theorem Fr.of {t b : Int} {M A : Nat} (hb : 0 < b) (hd : b ∣ (M : Int)) (hM : 0 < M) (hA : t.natAbs * M ≤ A) : Fr M A (Rat.divInt t b) := by
  obtain ⟨k, hk⟩ := hd
  have k0 : 0 < k := by
    have h0 : 0 < b * k := by omega
    rcases Int.lt_or_le 0 k with z | z
    · exact z
    · have := Int.mul_nonpos_of_nonneg_of_nonpos (Int.le_of_lt hb) z
      omega
  refine ⟨t * k, ?_, ?_⟩
  · rw [hk, Rat.divInt_mul_right (by omega)]
  · refine Nat.le_trans ?_ hA
    rw [Int.natAbs_mul]
    refine Nat.mul_le_mul_left _ ?_
    have : k ≤ b * k := by
      have : 1 * k ≤ b * k := Int.mul_le_mul_of_nonneg_right (by omega) (by omega)
      omega
    omega
/-- how far a colour is from a middle, by places -/
def sq (x : Rat) : Rat := x * x
def farN (c : List Int) (m : List Rat) : Nat → Rat
  | 0 => 0
  | i + 1 => farN c m i + sq ((c.getD i 0 : Rat) - m.getD i 0)
theorem Fr.sub {M A B : Nat} {x y : Rat} (hM : 0 < M) (h : Fr M A x) (h2 : Fr M B y) : Fr M (A + B) (x - y) := by
  rw [Rat.sub_eq_add_neg]
  exact h.add hM h2.neg
theorem Fr.zero {M A : Nat} (hM : 0 < M) : Fr M A 0 := by
  refine ⟨0, ?_, by simp⟩
  rw [Rat.zero_divInt]
theorem farN_fr {c : List Int} {m : List Rat} {M A C : Nat} (hM : 0 < M) (hc : ∀ i, (c.getD i 0).natAbs ≤ C) (hm : ∀ z ∈ m, Fr M A z) : ∀ i, Fr (M * M) (i * ((C * M + A) * (C * M + A))) (farN c m i)
  | 0 => Fr.zero (Nat.mul_pos hM hM)
  | i + 1 => by
    rw [Nat.succ_mul]
    have hz : Fr M A (m.getD i 0) := by
      rw [List.getD_eq_getElem?_getD]
      cases e : m[i]? with
      | none => exact Fr.zero hM
      | some z => exact hm z (List.mem_of_getElem? e)
    have g := (Fr.int hM (hc i)).sub hM hz
    exact (farN_fr hM hc hm i).add (Nat.mul_pos hM hM) (g.mul g)
theorem farN_nonneg (c : List Int) (m : List Rat) : ∀ i, 0 ≤ farN c m i
  | 0 => Rat.le_refl
  | i + 1 => Rat.add_nonneg (farN_nonneg c m i) (by
    unfold sq
    rcases Rat.nonneg_total ((c.getD i 0 : Rat) - m.getD i 0) with h | h
    · exact Rat.mul_nonneg h h
    · have := Rat.mul_nonneg h h
      rw [Rat.neg_mul, Rat.mul_neg, Rat.neg_neg] at this
      exact this)
/-- the first of the least -/
def argF (f : Nat → Rat) : Nat → Nat
  | 0 => 0
  | i + 1 => if f i < f (argF f i) then i else argF f i
theorem argF_lt (f : Nat → Rat) : ∀ n, 0 < n → argF f n < n
  | 0, h => absurd h (by omega)
  | n + 1, _ => by
    rw [argF]
    split
    · omega
    · rcases Nat.eq_zero_or_pos n with e | e
      · subst e; exact Nat.zero_lt_one
      · have := argF_lt f n e; omega
/-- small enough to reckon with -/
def lim : Nat := 2 ^ 2000
def lim2 : Nat := 2 ^ 4000
def Qb (x : Rat) : Prop := x.den < lim ∧ x.num.natAbs < lim
theorem Fr.qb {M A : Nat} {x : Rat} (h : Fr M A x) (hM : 0 < M) (h1 : M < lim) (h2 : A < lim) : Qb x := ⟨Nat.lt_of_le_of_lt (h.den hM) h1, Nat.lt_of_le_of_lt (h.num hM) h2⟩
theorem qq (x : Rat) : Rat.divInt x.num (x.den : Int) = x := Rat.num_divInt_den x
theorem add_q (p r : Rat) : Rat.divInt (p.num * r.den + r.num * p.den) (p.den * r.den) = p + r := by
  have h1 : (p.den : Int) ≠ 0 := by have := p.den_nz; omega
  have h2 : (r.den : Int) ≠ 0 := by have := r.den_nz; omega
  rw [← Rat.divInt_add_divInt _ _ h1 h2, qq, qq]
theorem mul_q (p r : Rat) : Rat.divInt (p.num * r.num) (p.den * r.den) = p * r := by
  rw [← Rat.divInt_mul_divInt, qq, qq]
theorem lt_q (p r : Rat) : decide (p.num * r.den < r.num * p.den) = decide (p < r) := decide_eq_decide.mpr (Rat.lt_iff p r).symm
def qp (x : Rat) : Int × Int := (x.num, (x.den : Int))
theorem lim_lim : lim * lim ≤ lim2 := by unfold lim lim2; rw [← Nat.pow_add]; exact Nat.le_refl _
theorem mul_lim {a b : Nat} (h1 : a < lim) (h2 : b < lim) : a * b < lim2 := Nat.lt_of_lt_of_le (Nat.mul_lt_mul'' h1 h2) lim_lim
theorem lim_mul {i j : Int} (h1 : i.natAbs < lim2) (h2 : j.natAbs < lim2) : CMulW i j := wide_mul (a := 4000) (b := 4000) h1 h2 (by decide) (by decide) (by decide)
theorem lim_le : lim ≤ lim2 := Nat.pow_le_pow_right (by decide) (by decide)
theorem to_lim {a b : Nat} (h : a ≤ b) (hb : b < lim := by decide +kernel) : a < lim := Nat.lt_of_le_of_lt h hb
theorem to_lim2 {a b : Nat} (h : a ≤ b) (hb : b < lim2 := by decide +kernel) : a < lim2 := Nat.lt_of_le_of_lt h hb
theorem lim_div {i j : Int} (h : 0 < j) (hb : j.natAbs < lim2) : CDivW i j := wide_div (b := 4000) h hb (by decide) (by decide)
theorem lim_divN {i j : Int} (h : j ≠ 0) (hb : j.natAbs < lim2) : CDivN2 i j := ⟨h, Nat.lt_of_lt_of_le (PySem.Flt.log2_lt_of (k := 4000) (by decide) hb) (by decide)⟩
end Z

set_option Elab.async false
set_option linter.all false
set_option maxRecDepth 100000
namespace Z
open PySem PySem.Spec PyProof.Rows L2
/-! ### zip of a tuple and a list -/
def ItTL (K : PySem.W.Frag) (a b : Addr) : It where
  go := fun i H => ∃ (xs ys : List V) (x y : V), (SqT K H a xs ∧ SqL K H b ys) ∧ xs[i]? = some x ∧ ys[i]? = some y
  yld := fun i H v H' => ∃ (T : Addr) (x y : V), v = .ref T ∧ H T = none ∧ H' = upd H T (.tup [x, y]) ∧ (∀ l, SqT K H a l → l[i]? = some x) ∧ (∀ l, SqL K H b l → l[i]? = some y)
  stop := fun i H => ∃ xs ys : List V, (SqT K H a xs ∧ SqL K H b ys) ∧ i ≤ xs.length ∧ i ≤ ys.length ∧ (i = xs.length ∨ i = ys.length)
def own2 (z TI TO i1 i2 : Addr) : List Addr := [z, TI, TO, i1, i2]
def atTL (a b z TI TO i1 i2 : Addr) (i : Nat) (h : Heap) : Prop :=
  IsZip h z TI TO .none ∧ IsTupOf2 h TI (.ref i1) (.ref i2) ∧ (∃ x y, IsTupOf2 h TO x y) ∧ h.IsTupleIter i1 a i ∧ h.IsListIter i2 b i
theorem five {z TI TO i1 i2 q : Addr} (h : q ∈ own2 z TI TO i1 i2) : q = z ∨ q = TI ∨ q = TO ∨ q = i1 ∨ q = i2 := by
  simpa [own2] using h
theorem ne_itT {h : Heap} {t it l : Addr} {items : Array Value} {i : Nat} (p : h.IsTuple t items) (q : h.IsTupleIter it l i) : t ≠ it := fun e => by
  obtain ⟨o, ho, hcl, _⟩ := p
  obtain ⟨o', ho', hcl', _⟩ := q
  rw [e, ho'] at ho
  have eo := Option.some.inj ho
  rw [eo, hcl] at hcl'
  exact absurd (Value.type.inj hcl') (by decide)
theorem ne_itL {h : Heap} {t it l : Addr} {items : Array Value} {i : Nat} (p : h.IsList t items) (q : h.IsListIter it l i) : t ≠ it := fun e => by
  obtain ⟨o, ho, hcl, _⟩ := p
  obtain ⟨o', ho', hcl', _⟩ := q
  rw [e, ho'] at ho
  have eo := Option.some.inj ho
  rw [eo, hcl] at hcl'
  exact absurd (Value.type.inj hcl') (by decide)
set_option maxHeartbeats 1000000 in
theorem turnTL {P : Program} {w : World} {K : PySem.W.Frag} {elts : List Expr} {kk : Nat} {tpos : Pos} {a b z TI TO i1 i2 : Addr} (D : ZipSep2 z TI TO i1 i2 [i1, a] [i2, b]) :
    Turn P w K (.Tuple elts kk tpos) (ItTL K a b) (own2 z TI TO i1 i2) z (atTL a b z TI TO i1 i2) := by
  refine ⟨by simp [own2], fun i h st q hq => ?_, fun i h h' st k => ?_, ?_, ?_, fun A i s Q E st h => wpAny_pyIter_zip st.1 h⟩
  · obtain ⟨hz, hTI, ⟨x, y, hTO⟩, ⟨o1, e1, _, d1⟩, ⟨o2, e2, _, d2⟩⟩ := st
    rcases five hq with rfl | rfl | rfl | rfl | rfl
    · exact ⟨_, hz, fun v q => nomatch q⟩
    · exact ⟨_, hTI, fun v q => nomatch q⟩
    · exact ⟨_, hTO, fun v q => nomatch q⟩
    · exact ⟨o1, e1, fun v q => by rw [d1] at q; cases q⟩
    · exact ⟨o2, e2, fun v q => by rw [d2] at q; cases q⟩
  · obtain ⟨hz, hTI, ⟨x, y, hTO⟩, h1, h2⟩ := st
    exact ⟨k z (by simp [own2]) _ hz, k TI (by simp [own2]) _ hTI, ⟨x, y, k TO (by simp [own2]) _ hTO⟩, h1.at fun o q => k i1 (by simp [own2]) o q, h2.at fun o q => k i2 (by simp [own2]) o q⟩
  · intro X hP hw hK hc i pins s σ H E I hf st hg
    subst hP hw hK
    obtain ⟨hz, hTI, ⟨x0, y0, hTO⟩, h1, h2⟩ := st
    obtain ⟨xs, ys, x, y, ⟨qx, qy⟩, fx, fy⟩ := hg
    obtain ⟨js1, r1, p1, _⟩ := I.tuple qx
    obtain ⟨js2, r2, p2, _⟩ := I.list qy
    obtain ⟨u1, f1, m1⟩ := r1.get fx
    obtain ⟨u2, f2, m2⟩ := r2.get fy
    have lz : z < s.heap.objs.size := Heap.lt_size hz
    have hd := I.ok.hd hc
    have n1 : a ≠ i1 := ne_itT p1 h1
    have n2 : b ≠ i2 := ne_itL p2.isList h2
    have k1 : i < js1.toArray.size := by have := (List.getElem?_eq_some_iff.mp f1).1; simpa using this
    have k2 : i < js2.toArray.size := by have := (List.getElem?_eq_some_iff.mp f2).1; simpa using this
    refine wpAny_pyNext_zipD2_item D (Draws.tuple (A := X.A.in1) hd i1 a n1 js1.toArray) (Draws.list (A := X.A.in1) hd i2 b n2 js2.toArray) hz hTI hTO ⟨h1, p1⟩ ⟨h2, p2.isList⟩ k1 k2 fun x1 x2 h' tk e1 e2 z' TO' st1 st2 hT hsz hk => ?_
    have w1 : x1 = u1 := Option.some.inj (e1.symm.trans (by simpa using f1))
    have w2 : x2 = u2 := Option.some.inj (e2.symm.trans (by simpa using f2))
    subst w1 w2
    refine ⟨_, rfl, wpAny_letOwnedTupleGo_zip (s := { s with heap := h', toks := tk }) z' fun h'' z'' sb => ?_⟩
    have up : ∀ q o, q ≠ z → h'.get? q = some o → h''.get? q = some o := fun q o n e => (sb.2 q n).trans e
    have hT2 := up _ _ (Nat.ne_of_gt lz) hT
    have fresh : H s.heap.objs.size = none := I.hok.fresh (Nat.le_refl _)
    have new : ObjOk X.prog X.w (upd H s.heap.objs.size (.tup [x, y])) h'' s.heap.objs.size (.tup [x, y]) :=
      ⟨by show 2 ≤ sizeLine; decide, [x1, x2], .cons m1 (.cons m2 .nil), ⟨_, hT2, rfl, _, rfl⟩⟩
    have kp : ∀ q o, q ∉ own2 z TI TO i1 i2 → s.heap.get? q = some o → h''.get? q = some o := fun q o nq e => by
      have nz : q ≠ z := fun y => nq (by simp [own2, y])
      refine up q o nz (hk q o nz (fun y => nq (by simp [own2, y])) (fun y => nq (by simp [own2, y])) (fun y => nq (by simp [own2, y])) e)
    have zi : ∀ {j : Addr} {fp : List Addr}, j ∈ fp → z ∉ fp → j ≠ z := fun hj hz e => hz (by rw [← e]; exact hj)
    refine ⟨.ref s.heap.objs.size, _, I.turnedNew (t' := tk) (ch := own2 z TI TO i1 i2) kp hf (Nat.le_refl _) new, rfl, ⟨_, x, y, rfl, fresh, rfl, fun l hl => by rw [I.tuple_inj hl qx]; exact fx, fun l hl => by rw [I.list_inj hl qy]; exact fy⟩, ⟨z'', ?_, ⟨x1, x2, up _ _ D.TOz TO'⟩, ?_, ?_⟩, fun q hq => ?_⟩
    · exact up _ _ D.TIz (hk _ _ D.TIz D.TITO D.TIi1 D.TIi2 hTI)
    · exact st1.1.at fun o e => up _ _ (zi D.mem1 D.zf1) e
    · exact st2.1.at fun o e => up _ _ (zi D.mem2 D.zf2) e
    · have lq : q < s.heap.objs.size := by
        rcases five hq with rfl | rfl | rfl | rfl | rfl
        · exact lz
        · exact Heap.lt_size hTI
        · exact Heap.lt_size hTO
        · obtain ⟨_, e, _⟩ := h1; exact Heap.lt_size e
        · obtain ⟨_, e, _⟩ := h2; exact Heap.lt_size e
      rw [upd_ne (Nat.ne_of_lt lq)]
      exact (hf q hq).1
  · intro X hP hw hK hc i pins s σ H E I hf st hg
    subst hP hw hK
    obtain ⟨hz, hTI, ⟨x0, y0, hTO⟩, h1, h2⟩ := st
    obtain ⟨xs, ys, ⟨qx, qy⟩, b1, b2, hend⟩ := hg
    obtain ⟨js1, r1, p1, _⟩ := I.tuple qx
    obtain ⟨js2, r2, p2, _⟩ := I.list qy
    have hd := I.ok.hd hc
    have l1 := r1.length
    have l2 := r2.length
    have n1 : a ≠ i1 := ne_itT p1 h1
    have n2 : b ≠ i2 := ne_itL p2.isList h2
    refine wpAny_pyNext_zipD2_end D (Draws.tuple (A := X.A.in1) hd i1 a n1 js1.toArray) (Draws.list (A := X.A.in1) hd i2 b n2 js2.toArray) hz hTI hTO ⟨h1, p1⟩ ⟨h2, p2.isList⟩ (by simp; omega) (by simp; omega) (by simp; omega) fun h' tk hk => ?_
    exact ⟨rfl, I.turnedL (t' := tk) (ch := own2 z TI TO i1 i2) (fun q o nq e => hk q o (fun y => nq (by simp [own2, y])) (fun y => nq (by simp [own2, y])) (fun y => nq (by simp [own2, y])) (fun y => nq (by simp [own2, y])) e) hf⟩
set_option maxHeartbeats 400000
def iZipTX (K : PySem.W.Frag) (ta : TA) : TI := fun σ H R => ta σ H fun vs H1 => ∃ a b xs ys, vs = [.ref a, .ref b] ∧ ((SqT K H1 a xs ∧ SqL K H1 b ys ∧ R (ItTL K a b) H1) ∨ (SqT K H1 a xs ∧ SqT K H1 b ys ∧ R (RZ.ItzT K a b) H1))
theorem own2_le {N y : Nat} (hy : y ∈ own2 (N + 4) (N + 2) (N + 3) N (N + 1)) : N ≤ y := by
  rcases five hy with z | z | z | z | z <;> rw [z]
  · exact Nat.le_add_right _ _
  · exact Nat.le_add_right _ _
  · exact Nat.le_add_right _ _
  · exact Nat.le_refl _
  · exact Nat.le_add_right _ _
theorem zipTL_end {X : Cx} {pins : List (Addr × Obj)} {σ : L2.St} {H1 : Hp} {s1 : Shared} {R : It → Hp → Prop} {a b : Addr} {xs ys : List V} {elts : List Expr} {kk : Nat} {tpos : Pos} (I1 : Inv X pins σ H1 s1) (qx : SqT X.K H1 a xs) (qy : SqL X.K H1 b ys) (q : R (ItTL X.K a b) H1) :
    wpAny (model X.prog X.w) X.A (call (.type "zip") [.ref a, .ref b]) (fun v s2 => wpAny (model X.prog X.w) X.A (pyIter v) (PIE X pins σ (.Tuple elts kk tpos) R) X.xe s2) X.xe s1 := by
  obtain ⟨js1, m1, p1, _⟩ := I1.tuple qx
  obtain ⟨js2, m2, p2, _⟩ := I1.list qy
  have la : a < s1.heap.objs.size := by obtain ⟨_, o, _⟩ := p1; exact Heap.lt_size o
  have lb : b < s1.heap.objs.size := by obtain ⟨_, o, _⟩ := p2.isList; exact Heap.lt_size o
  refine zip_begins2 (begins_tuple a js1.toArray) (begins_list b js2.toArray) p1 p2.isList fun h' hz hTI hTO g1 g2 hsz hk => wpAny_pyIter_zip hz ?_
  have one : ∀ {x : Addr}, x < s1.heap.objs.size → ∀ y ∈ [x], y < s1.heap.objs.size := fun hx y hy => by rw [List.mem_singleton.mp hy]; exact hx
  have I2 : Inv X pins σ H1 { s1 with heap := h' } := I1.kept (t' := s1.toks) hk
  have fr : ∀ y, s1.heap.objs.size ≤ y → FpOk X pins H1 y := fun y hle => I1.fpOk hle (I1.hok.fresh hle)
  have sp := zip_sep2 (one la) (one lb)
  generalize s1.heap.objs.size = N at *
  exact ⟨N + 4, own2 (N + 4) (N + 2) (N + 3) N (N + 1), atTL a b (N + 4) (N + 2) (N + 3) N (N + 1), ItTL X.K a b, H1, rfl, I2, turnTL sp, ⟨hz, hTI, ⟨_, _, hTO⟩, ⟨_, g1, rfl, rfl⟩, ⟨_, g2, rfl, rfl⟩⟩, fun y hy => fr y (own2_le hy), q⟩
theorem pi_zipTX (K : PySem.W.Frag) {X : Cx} {e e2 : Expr} {ta : TA} {p pos tpos : Pos} {elts : List Expr} {kk : Nat} (hg : Gl X "zip") (hm : X.mg "zip" = none) (ha : PA X [e, e2] ta)
    (hs : starEach [e, e2] X.env = (false, eval e X.env) :: starEach [e2] X.env := by rfl) (hpl : (backTo pos (starEach [e2] X.env)).any (·.1) = false := by rfl) (hK : X.K = K := by rfl) :
    PI X (.Tuple elts kk tpos) (.Call (.Name "zip" p) [e, e2] [] pos) (iZipTX K ta) := by
  subst hK
  refine ⟨fun pins s σ H R I h => ?_⟩
  refine Call_ (ld_blt I hg hm PyProof.Rows.boot_zip (PyProof.Rows.callWith_type1 (thn (ha.run pos pins s σ H _ I h) fun us s1 ⟨vs, H1, I1, r1, q1⟩ => ?_) hs hpl))
  obtain ⟨a, b, xs, ys, rfl, q1⟩ := q1
  obtain ⟨u1, us, rfl, ra, r1⟩ : ∃ u1 vs', us = u1 :: vs' ∧ RelV (.ref a) u1 ∧ Vals [.ref b] vs' := by
    cases r1 with
    | cons x y => exact ⟨_, _, rfl, x, y⟩
  obtain ⟨u2, rfl, rb⟩ := vals1 r1
  cases (show u1 = Value.ref a from ra)
  cases (show u2 = Value.ref b from rb)
  rcases q1 with ⟨qx, qy, q⟩ | ⟨hqx, hqy, q⟩
  · exact zipTL_end I1 qx qy q
  · obtain ⟨its, rv, p1, _⟩ := I1.tuple hqx
    obtain ⟨its2, rv2, p2, _⟩ := I1.tuple hqy
    obtain ⟨o1, ho1, _⟩ := id p1
    obtain ⟨o2, ho2, _⟩ := id p2
    refine RZ.call_zipT (show s1.heap.IsTuple a its.toArray from p1) (show s1.heap.IsTuple b its2.toArray from p2) fun h' hz hTI hTO h1 h2 hsz hk => wpAny_pyIter_zip hz ?_
    have I2 : Inv X pins σ H1 { s1 with heap := h' } := I1.kept (t' := s1.toks) hk
    refine ⟨s1.heap.objs.size + 4, own2 (s1.heap.objs.size + 4) (s1.heap.objs.size + 2) (s1.heap.objs.size + 3) s1.heap.objs.size (s1.heap.objs.size + 1), _, _, H1, rfl, I2, RZ.turn_zipT (PySem.W.ktu_apart s1.heap.objs.size a b (Heap.lt_size ho1) (Heap.lt_size ho2)), ⟨hz, hTI, ⟨_, _, hTO⟩, h1, h2⟩, fun y hy => ?_, q⟩
    have hle := own2_le hy
    exact I1.fpOk hle (I1.hok.fresh hle)
theorem walk_zipTL {K : PySem.W.Frag} {a b : Addr} {xs ys : List V} {n : Nat} (h1 : xs.length = n) (h2 : ys.length = n) : Walk (ItTL K a b) n (fun H => SqT K H a xs ∧ SqL K H b ys) (YPair (fun i => xs[i]?) (fun i => ys[i]?)) := by
  refine ⟨fun i H hi q => ⟨xs, ys, xs[i]'(by omega), ys[i]'(by omega), q, by simp, by simp⟩, fun H q => ⟨xs, ys, q, by omega, by omega, .inl (by omega)⟩, fun i H v H' _ q y => ?_⟩
  obtain ⟨T, x, z, e1, e2, e3, e4, e5⟩ := y
  exact ⟨T, x, z, e1, e2, e3, e4 xs q.1, e5 ys q.2⟩
end Z

set_option Elab.async false
set_option linter.all false
set_option maxRecDepth 100000
namespace Z
open PySem PySem.Spec PyProof.Rows L2
/-! ### zip of three tuples -/
def It3 (K : PySem.W.Frag) (a b c : Addr) : It where
  go := fun i H => ∃ (xs ys ts : List V) (x y t : V), (SqT K H a xs ∧ SqT K H b ys ∧ SqT K H c ts) ∧ xs[i]? = some x ∧ ys[i]? = some y ∧ ts[i]? = some t
  yld := fun i H v H' => ∃ (T : Addr) (x y t : V), v = .ref T ∧ H T = none ∧ H' = upd H T (.tup [x, y, t]) ∧ (∀ l, SqT K H a l → l[i]? = some x) ∧ (∀ l, SqT K H b l → l[i]? = some y) ∧ ∀ l, SqT K H c l → l[i]? = some t
  stop := fun i H => ∃ xs ys ts : List V, (SqT K H a xs ∧ SqT K H b ys ∧ SqT K H c ts) ∧ i ≤ xs.length ∧ i ≤ ys.length ∧ i ≤ ts.length ∧ (i = xs.length ∨ i = ys.length ∨ i = ts.length)
def own3 (z TI TO i1 i2 i3 : Addr) : List Addr := [z, TI, TO, i1, i2, i3]
def at3 (a b c z TI TO i1 i2 i3 : Addr) (i : Nat) (h : Heap) : Prop :=
  IsZip h z TI TO .none ∧ IsTupOf3 h TI (.ref i1) (.ref i2) (.ref i3) ∧ (∃ x y t, IsTupOf3 h TO x y t) ∧ h.IsTupleIter i1 a i ∧ h.IsTupleIter i2 b i ∧ h.IsTupleIter i3 c i
theorem six {z TI TO i1 i2 i3 q : Addr} (h : q ∈ own3 z TI TO i1 i2 i3) : q = z ∨ q = TI ∨ q = TO ∨ q = i1 ∨ q = i2 ∨ q = i3 := by
  simpa [own3] using h
theorem ne_it {h : Heap} {t it l : Addr} {items : Array Value} {i : Nat} (p : h.IsTuple t items) (q : h.IsTupleIter it l i) : t ≠ it := fun e => by
  obtain ⟨o, ho, hcl, _⟩ := p
  obtain ⟨o', ho', hcl', _⟩ := q
  rw [e, ho'] at ho
  have eo := Option.some.inj ho
  rw [eo, hcl] at hcl'
  exact absurd (Value.type.inj hcl') (by decide)
set_option maxHeartbeats 1000000 in
theorem turn3 {P : Program} {w : World} {K : PySem.W.Frag} {elts : List Expr} {kk : Nat} {tpos : Pos} {a b c z TI TO i1 i2 i3 : Addr} (D : ZipSep3 z TI TO i1 i2 i3 [i1, a] [i2, b] [i3, c]) :
    Turn P w K (.Tuple elts kk tpos) (It3 K a b c) (own3 z TI TO i1 i2 i3) z (at3 a b c z TI TO i1 i2 i3) := by
  refine ⟨by simp [own3], fun i h st q hq => ?_, fun i h h' st k => ?_, ?_, ?_, fun A i s Q E st h => wpAny_pyIter_zip st.1 h⟩
  · obtain ⟨hz, hTI, ⟨x, y, t, hTO⟩, ⟨o1, e1, _, d1⟩, ⟨o2, e2, _, d2⟩, ⟨o3, e3, _, d3⟩⟩ := st
    rcases six hq with rfl | rfl | rfl | rfl | rfl | rfl
    · exact ⟨_, hz, fun v q => nomatch q⟩
    · exact ⟨_, hTI, fun v q => nomatch q⟩
    · exact ⟨_, hTO, fun v q => nomatch q⟩
    · exact ⟨o1, e1, fun v q => by rw [d1] at q; cases q⟩
    · exact ⟨o2, e2, fun v q => by rw [d2] at q; cases q⟩
    · exact ⟨o3, e3, fun v q => by rw [d3] at q; cases q⟩
  · obtain ⟨hz, hTI, ⟨x, y, t, hTO⟩, h1, h2, h3⟩ := st
    exact ⟨k z (by simp [own3]) _ hz, k TI (by simp [own3]) _ hTI, ⟨x, y, t, k TO (by simp [own3]) _ hTO⟩, h1.at fun o q => k i1 (by simp [own3]) o q, h2.at fun o q => k i2 (by simp [own3]) o q, h3.at fun o q => k i3 (by simp [own3]) o q⟩
  · intro X hP hw hK hc i pins s σ H E I hf st hg
    subst hP hw hK
    obtain ⟨hz, hTI, ⟨x0, y0, t0, hTO⟩, h1, h2, h3⟩ := st
    obtain ⟨xs, ys, ts, x, y, t, ⟨qx, qy, qt⟩, fx, fy, ft⟩ := hg
    obtain ⟨js1, r1, p1, _⟩ := I.tuple qx
    obtain ⟨js2, r2, p2, _⟩ := I.tuple qy
    obtain ⟨js3, r3, p3, _⟩ := I.tuple qt
    obtain ⟨u1, f1, m1⟩ := r1.get fx
    obtain ⟨u2, f2, m2⟩ := r2.get fy
    obtain ⟨u3, f3, m3⟩ := r3.get ft
    have lz : z < s.heap.objs.size := Heap.lt_size hz
    have hd := I.ok.hd hc
    have n1 : a ≠ i1 := ne_it p1 h1
    have n2 : b ≠ i2 := ne_it p2 h2
    have n3 : c ≠ i3 := ne_it p3 h3
    have k1 : i < js1.toArray.size := by have := (List.getElem?_eq_some_iff.mp f1).1; simpa using this
    have k2 : i < js2.toArray.size := by have := (List.getElem?_eq_some_iff.mp f2).1; simpa using this
    have k3 : i < js3.toArray.size := by have := (List.getElem?_eq_some_iff.mp f3).1; simpa using this
    refine wpAny_pyNext_zipD3_item D (Draws.tuple (A := X.A.in1) hd i1 a n1 js1.toArray) (Draws.tuple (A := X.A.in1) hd i2 b n2 js2.toArray) (Draws.tuple (A := X.A.in1) hd i3 c n3 js3.toArray) hz hTI hTO ⟨h1, p1⟩ ⟨h2, p2⟩ ⟨h3, p3⟩ k1 k2 k3 fun x1 x2 x3 h' tk e1 e2 e3 z' TO' st1 st2 st3 hT hsz hk => ?_
    have w1 : x1 = u1 := Option.some.inj (e1.symm.trans (by simpa using f1))
    have w2 : x2 = u2 := Option.some.inj (e2.symm.trans (by simpa using f2))
    have w3 : x3 = u3 := Option.some.inj (e3.symm.trans (by simpa using f3))
    subst w1 w2 w3
    refine ⟨_, rfl, wpAny_letOwnedTupleGo_zip (s := { s with heap := h', toks := tk }) z' fun h'' z'' sb => ?_⟩
    have up : ∀ q o, q ≠ z → h'.get? q = some o → h''.get? q = some o := fun q o n e => (sb.2 q n).trans e
    have hT2 := up _ _ (Nat.ne_of_gt lz) hT
    have fresh : H s.heap.objs.size = none := I.hok.fresh (Nat.le_refl _)
    have new : ObjOk X.prog X.w (upd H s.heap.objs.size (.tup [x, y, t])) h'' s.heap.objs.size (.tup [x, y, t]) :=
      ⟨by show 3 ≤ sizeLine; decide, [x1, x2, x3], .cons m1 (.cons m2 (.cons m3 .nil)), ⟨_, hT2, rfl, _, rfl⟩⟩
    have kp : ∀ q o, q ∉ own3 z TI TO i1 i2 i3 → s.heap.get? q = some o → h''.get? q = some o := fun q o nq e => by
      have nz : q ≠ z := fun y => nq (by simp [own3, y])
      refine up q o nz (hk q o nz (fun y => nq (by simp [own3, y])) (fun y => nq (by simp [own3, y])) (fun y => nq (by simp [own3, y])) (fun y => nq (by simp [own3, y])) e)
    have zi : ∀ {j : Addr} {fp : List Addr}, j ∈ fp → z ∉ fp → j ≠ z := fun hj hz e => hz (by rw [← e]; exact hj)
    refine ⟨.ref s.heap.objs.size, _, I.turnedNew (t' := tk) (ch := own3 z TI TO i1 i2 i3) kp hf (Nat.le_refl _) new, rfl, ⟨_, x, y, t, rfl, fresh, rfl, fun l hl => by rw [I.tuple_inj hl qx]; exact fx, fun l hl => by rw [I.tuple_inj hl qy]; exact fy, fun l hl => by rw [I.tuple_inj hl qt]; exact ft⟩, ⟨z'', ?_, ⟨x1, x2, x3, up _ _ D.TOz TO'⟩, ?_, ?_, ?_⟩, fun q hq => ?_⟩
    · exact up _ _ D.TIz (hk _ _ D.TIz D.TITO D.TIi1 D.TIi2 D.TIi3 hTI)
    · exact st1.1.at fun o e => up _ _ (zi D.mem1 D.zf1) e
    · exact st2.1.at fun o e => up _ _ (zi D.mem2 D.zf2) e
    · exact st3.1.at fun o e => up _ _ (zi D.mem3 D.zf3) e
    · have lq : q < s.heap.objs.size := by
        rcases six hq with rfl | rfl | rfl | rfl | rfl | rfl
        · exact lz
        · exact Heap.lt_size hTI
        · exact Heap.lt_size hTO
        · obtain ⟨_, e, _⟩ := h1; exact Heap.lt_size e
        · obtain ⟨_, e, _⟩ := h2; exact Heap.lt_size e
        · obtain ⟨_, e, _⟩ := h3; exact Heap.lt_size e
      rw [upd_ne (Nat.ne_of_lt lq)]
      exact (hf q hq).1
  · intro X hP hw hK hc i pins s σ H E I hf st hg
    subst hP hw hK
    obtain ⟨hz, hTI, ⟨x0, y0, t0, hTO⟩, h1, h2, h3⟩ := st
    obtain ⟨xs, ys, ts, ⟨qx, qy, qt⟩, b1, b2, b3, hend⟩ := hg
    obtain ⟨js1, r1, p1, _⟩ := I.tuple qx
    obtain ⟨js2, r2, p2, _⟩ := I.tuple qy
    obtain ⟨js3, r3, p3, _⟩ := I.tuple qt
    have hd := I.ok.hd hc
    have l1 := r1.length
    have l2 := r2.length
    have l3 := r3.length
    have n1 : a ≠ i1 := ne_it p1 h1
    have n2 : b ≠ i2 := ne_it p2 h2
    have n3 : c ≠ i3 := ne_it p3 h3
    refine wpAny_pyNext_zipD3_end D (Draws.tuple (A := X.A.in1) hd i1 a n1 js1.toArray) (Draws.tuple (A := X.A.in1) hd i2 b n2 js2.toArray) (Draws.tuple (A := X.A.in1) hd i3 c n3 js3.toArray) hz hTI hTO ⟨h1, p1⟩ ⟨h2, p2⟩ ⟨h3, p3⟩ (by simp; omega) (by simp; omega) (by simp; omega) (by simp; omega) fun h' tk hk => ?_
    exact ⟨rfl, I.turnedL (t' := tk) (ch := own3 z TI TO i1 i2 i3) (fun q o nq e => hk q o (fun y => nq (by simp [own3, y])) (fun y => nq (by simp [own3, y])) (fun y => nq (by simp [own3, y])) (fun y => nq (by simp [own3, y])) (fun y => nq (by simp [own3, y])) e) hf⟩
set_option maxHeartbeats 400000
def iZip3 (K : PySem.W.Frag) (ta : TA) : TI := fun σ H R => ta σ H fun vs H1 => ∃ a b c xs ys ts, vs = [.ref a, .ref b, .ref c] ∧ SqT K H1 a xs ∧ SqT K H1 b ys ∧ SqT K H1 c ts ∧ R (It3 K a b c) H1
theorem own_le {N y : Nat} (hy : y ∈ own3 (N + 5) (N + 3) (N + 4) N (N + 1) (N + 2)) : N ≤ y := by
  rcases six hy with z | z | z | z | z | z <;> rw [z]
  · exact Nat.le_add_right _ _
  · exact Nat.le_add_right _ _
  · exact Nat.le_add_right _ _
  · exact Nat.le_refl _
  · exact Nat.le_add_right _ _
  · exact Nat.le_add_right _ _
theorem zip3_end {X : Cx} {pins : List (Addr × Obj)} {σ : L2.St} {H1 : Hp} {s1 : Shared} {R : It → Hp → Prop} {a b c : Addr} {xs ys ts : List V} {elts : List Expr} {kk : Nat} {tpos : Pos} (I1 : Inv X pins σ H1 s1) (qx : SqT X.K H1 a xs) (qy : SqT X.K H1 b ys) (qt : SqT X.K H1 c ts) (q : R (It3 X.K a b c) H1) :
    wpAny (model X.prog X.w) X.A (call (.type "zip") [.ref a, .ref b, .ref c]) (fun v s2 => wpAny (model X.prog X.w) X.A (pyIter v) (PIE X pins σ (.Tuple elts kk tpos) R) X.xe s2) X.xe s1 := by
  obtain ⟨js1, m1, p1, _⟩ := I1.tuple qx
  obtain ⟨js2, m2, p2, _⟩ := I1.tuple qy
  obtain ⟨js3, m3, p3, _⟩ := I1.tuple qt
  have la : a < s1.heap.objs.size := by obtain ⟨_, o, _⟩ := p1; exact Heap.lt_size o
  have lb : b < s1.heap.objs.size := by obtain ⟨_, o, _⟩ := p2; exact Heap.lt_size o
  have lc : c < s1.heap.objs.size := by obtain ⟨_, o, _⟩ := p3; exact Heap.lt_size o
  refine zip_begins3 (begins_tuple a js1.toArray) (begins_tuple b js2.toArray) (begins_tuple c js3.toArray) p1 p2 p3 fun h' hz hTI hTO g1 g2 g3 hsz hk => wpAny_pyIter_zip hz ?_
  have one : ∀ {x : Addr}, x < s1.heap.objs.size → ∀ y ∈ [x], y < s1.heap.objs.size := fun hx y hy => by rw [List.mem_singleton.mp hy]; exact hx
  have I2 : Inv X pins σ H1 { s1 with heap := h' } := I1.kept (t' := s1.toks) hk
  have fr : ∀ y, s1.heap.objs.size ≤ y → FpOk X pins H1 y := fun y hle => I1.fpOk hle (I1.hok.fresh hle)
  have sp := zip_sep3 (one la) (one lb) (one lc)
  generalize s1.heap.objs.size = N at *
  exact ⟨N + 5, own3 (N + 5) (N + 3) (N + 4) N (N + 1) (N + 2), at3 a b c (N + 5) (N + 3) (N + 4) N (N + 1) (N + 2), It3 X.K a b c, H1, rfl, I2, turn3 sp, ⟨hz, hTI, ⟨_, _, _, hTO⟩, ⟨_, g1, rfl, rfl⟩, ⟨_, g2, rfl, rfl⟩, ⟨_, g3, rfl, rfl⟩⟩, fun y hy => fr y (own_le hy), q⟩
theorem pi_zip3 (K : PySem.W.Frag) {X : Cx} {e e2 e3 : Expr} {ta : TA} {p pos tpos : Pos} {elts : List Expr} {kk : Nat} (hg : Gl X "zip") (hm : X.mg "zip" = none) (ha : PA X [e, e2, e3] ta)
    (hs : starEach [e, e2, e3] X.env = (false, eval e X.env) :: starEach [e2, e3] X.env := by rfl) (hpl : (backTo pos (starEach [e2, e3] X.env)).any (·.1) = false := by rfl) (hK : X.K = K := by rfl) :
    PI X (.Tuple elts kk tpos) (.Call (.Name "zip" p) [e, e2, e3] [] pos) (iZip3 K ta) := by
  subst hK
  refine ⟨fun pins s σ H R I h => ?_⟩
  refine Call_ (ld_blt I hg hm PyProof.Rows.boot_zip (PyProof.Rows.callWith_type1 (thn (ha.run pos pins s σ H _ I h) fun us s1 ⟨vs, H1, I1, r1, q1⟩ => ?_) hs hpl))
  obtain ⟨a, b, c, xs, ys, ts, rfl, qx, qy, qt, q⟩ := q1
  obtain ⟨u1, us, rfl, ra, r1⟩ : ∃ u1 vs', us = u1 :: vs' ∧ RelV (.ref a) u1 ∧ Vals [.ref b, .ref c] vs' := by
    cases r1 with
    | cons x y => exact ⟨_, _, rfl, x, y⟩
  obtain ⟨u2, us, rfl, rb, r1⟩ : ∃ u1 vs', us = u1 :: vs' ∧ RelV (.ref b) u1 ∧ Vals [.ref c] vs' := by
    cases r1 with
    | cons x y => exact ⟨_, _, rfl, x, y⟩
  obtain ⟨u3, rfl, rc⟩ := vals1 r1
  cases (show u1 = Value.ref a from ra)
  cases (show u2 = Value.ref b from rb)
  cases (show u3 = Value.ref c from rc)
  exact zip3_end I1 qx qy qt q
def YTri (xs ys ts : List V) : Nat → Hp → V → Hp → Prop := fun i H v H' => ∃ T x y t, v = .ref T ∧ H T = none ∧ H' = upd H T (.tup [x, y, t]) ∧ xs[i]? = some x ∧ ys[i]? = some y ∧ ts[i]? = some t
theorem walk_zip3 {K : PySem.W.Frag} {a b c : Addr} {xs ys ts : List V} (h1 : ys.length = xs.length) (h2 : ts.length = xs.length) : Walk (It3 K a b c) xs.length (fun H => SqT K H a xs ∧ SqT K H b ys ∧ SqT K H c ts) (YTri xs ys ts) := by
  refine ⟨fun i H hi q => ⟨xs, ys, ts, xs[i], ys[i]'(by omega), ts[i]'(by omega), q, by simp [hi], by simp, by simp⟩, fun H q => ⟨xs, ys, ts, q, by omega, by omega, by omega, .inl rfl⟩, fun i H v H' _ q y => ?_⟩
  obtain ⟨T, x, z, t, e1, e2, e3, e4, e5, e6⟩ := y
  exact ⟨T, x, z, t, e1, e2, e3, e4 xs q.1, e5 ys q.2.1, e6 ts q.2.2⟩
end Z

set_option Elab.async false
set_option linter.all false
set_option maxRecDepth 100000
namespace Z
open PySem PySem.Spec PyProof.Rows L2
/-! ### a loop of the machine over a list -/
theorem wpAny_forIn_list {M : Model} {A : Around} {E : Value → Shared → Prop} {α β : Type} {f : α → β → Sem (ForInStep β)} {Q : β → Shared → Prop} (I : List α → β → Shared → Prop)
    (hs : ∀ x xs b s, I (x :: xs) b s → wpAny M A (f x b) (fun r s' => match r with | .yield b' => I xs b' s' | .done b' => Q b' s') E s) (hd : ∀ b s, I [] b s → Q b s) :
    ∀ (l : List α) (b : β) (s : Shared), I l b s → wpAny M A (forIn l b f) Q E s
  | [], b, s, h => by
    rw [List.forIn_nil]
    exact wpAny_pure (hd b s h)
  | x :: xs, b, s, h => by
    rw [List.forIn_cons]
    refine wpAny_bind (wpAny_mono (hs x xs b s h) (fun r s' h' => ?_) fun _ _ z => z)
    cases r with
    | done b' => exact wpAny_pure h'
    | yield b' => exact wpAny_forIn_list I hs hd xs b' s' h'
/-! ### iterators of tuples, one behind another -/
def itO (a : Addr) : Obj := { cls := .type "tuple_iterator", data := .fields #[.ref a, .int 0 0] }
def pushIts (h : Heap) : List Addr → Heap
  | [] => h
  | a :: as => pushIts (h.push (itO a)) as
theorem pushIts_size : ∀ (as : List Addr) (h : Heap), (pushIts h as).objs.size = h.objs.size + as.length
  | [], h => rfl
  | a :: as, h => by
    rw [pushIts, pushIts_size as, Heap.size_push, List.length_cons]
    omega
theorem pushIts_old : ∀ (as : List Addr) (h : Heap) {c : Addr} {o : Obj}, h.get? c = some o → (pushIts h as).get? c = some o
  | [], h, c, o, e => e
  | a :: as, h, c, o, e => pushIts_old as _ (Heap.get?_push_of_some _ e)
theorem pushIts_new : ∀ (as : List Addr) (h : Heap) (j : Nat) (a : Addr), as[j]? = some a → (pushIts h as).get? (h.objs.size + j) = some (itO a)
  | [], h, j, a, e => by simp at e
  | b :: as, h, 0, a, e => by
    cases e
    exact pushIts_old as _ (Heap.get?_push_size _ rfl)
  | b :: as, h, j + 1, a, e => by
    have := pushIts_new as (h.push (itO b)) j a (by simpa using e)
    rw [Heap.size_push] at this
    rw [pushIts, show h.objs.size + (j + 1) = h.objs.size + 1 + j by omega]
    exact this
def refsFrom (N : Nat) (n : Nat) : List Value := (List.range n).map fun j => Value.ref (N + j)
theorem wpAny_iterAll {prog : Program} {w : World} {A : Around} {E : Value → Shared → Prop} {s : Shared} {Q : List Value → Shared → Prop} {as : List Addr} (h : ∀ a ∈ as, ∃ items, s.heap.IsTuple a items)
    (hQ : Q (refsFrom s.heap.objs.size as.length) { s with heap := pushIts s.heap as }) : wpAny (model prog w) A (Builtin.SmallTypes.iterAll (as.map Value.ref)) Q E s := by
  unfold Builtin.SmallTypes.iterAll
  obtain ⟨hp, g, d, tk, os⟩ := s
  refine wpAny_bind (wpAny_forIn_list (fun l b s' => ∃ k, l = (as.drop k).map Value.ref ∧ k ≤ as.length ∧ b = (refsFrom hp.objs.size k).toArray ∧ s' = ⟨pushIts hp (as.take k), g, d, tk, os⟩) (fun x xs b s' hI => ?_) (fun b s' hI => ?_) _ _ _ ⟨0, rfl, Nat.zero_le _, rfl, rfl⟩)
  · obtain ⟨k, el, hk, rfl, rfl⟩ := hI
    have hk2 : k < as.length := by
      rcases Nat.lt_or_ge k as.length with z | z
      · exact z
      · rw [List.drop_eq_nil_of_le z] at el
        cases el
    rw [List.drop_eq_getElem_cons hk2, List.map_cons] at el
    obtain ⟨rfl, rfl⟩ := List.cons.inj el
    obtain ⟨items, ht⟩ := h _ (List.getElem_mem hk2)
    refine wpAny_bind (wpAny_holding (wpAny_pyIter_tuple (items := items) (ht.at fun o e => pushIts_old _ _ e) (wpAny_pure ?_)))
    refine ⟨k + 1, rfl, hk2, ?_, ?_⟩
    · unfold refsFrom
      rw [List.range_succ, List.map_append, List.push_toArray, pushIts_size, List.length_take, Nat.min_eq_left hk]
      rfl
    · have e : ∀ (xs ys : List Addr) (h : Heap), pushIts h (xs ++ ys) = pushIts (pushIts h xs) ys := by
        intro xs
        induction xs with
        | nil => intro ys h; rfl
        | cons x xs ih => intro ys h; exact ih ys _
      rw [List.take_add_one, List.getElem?_eq_getElem hk2, Option.toList_some, e]
      rfl
  · obtain ⟨k, el, hk, rfl, rfl⟩ := hI
    have hk2 : k = as.length := by
      rcases Nat.lt_or_ge k as.length with z | z
      · rw [List.drop_eq_getElem_cons z, List.map_cons] at el
        cases el
      · omega
    subst hk2
    rw [List.take_length]
    exact wpAny_pure hQ
/-! ### zip of so many -/
theorem typeCall_zipN (as : List Value) : checkTypeCall "zip" ⟨as, []⟩ = pure () := by kernel_rfl
theorem newCall_zipN (a : Value) (as : List Value) : checkBuiltinCall "zip.__new__" ⟨.type "zip" :: a :: as, []⟩ = pure () := by kernel_rfl
theorem args_initN (o a : Value) (as : List Value) : argsOk "object.__init__" ⟨o :: a :: as, []⟩ := by
  unfold argsOk; rw [signature?_of (id := "object.__init__") (n := ['_', '_', 't', 'i', 'n', 'i', '_', '_']) (o := ['t', 'c', 'e', 'j', 'b', 'o']) (by kernel_rfl) F.owner_object]; kernel_rfl
def tupO (vs : List Value) : Obj := { cls := .type "tuple", data := .seq vs.toArray }
def zipT (h : Heap) (as : List Addr) : Heap := (pushIts h as).push (tupO (refsFrom h.objs.size as.length))
def zipO (h : Heap) (as : List Addr) : Heap := (zipT h as).push (tupO (List.replicate as.length .none))
def zipZ (h : Heap) (as : List Addr) : Heap := (zipO h as).push { cls := .type "zip", data := .fields #[.none, .bool false, .bool false, .ref (pushIts h as).objs.size, .ref (zipT h as).objs.size] }
theorem refs_none (N n : Nat) : (refsFrom N n).map (fun _ => Value.none) = List.replicate n .none := by
  unfold refsFrom
  rw [List.map_map]
  apply List.ext_getElem
  · simp
  · intro i h1 h2
    simp
theorem meets_zip_newN (as : List Addr) (hz : as.length ≤ sizeLine) : Meets (Builtin.«zip.__new__» ⟨.type "zip" :: as.map Value.ref, []⟩) (fun _ R s => (∀ a ∈ as, ∃ items, s.heap.IsTuple a items) ∧
    R (.ok (.ret (.ref (zipO s.heap as).objs.size))) { s with heap := zipZ s.heap as }) :=
  .of_wp fun prog w A R s h => by
    obtain ⟨hp, g, d, tk, os⟩ := s
    obtain ⟨h1, h⟩ := h
    have hsub := sub_zip
    have qi : ∀ {A' : Around} {E : Value → Shared → Prop} {Q : List Value → Shared → Prop}, Q (refsFrom hp.objs.size as.length) ⟨pushIts hp as, g, d, tk, os⟩ → wpAny (model prog w) A' (Builtin.SmallTypes.iterAll (as.map Value.ref)) Q E ⟨hp, g, d, tk, os⟩ :=
      fun q => wpAny_iterAll (s := ⟨hp, g, d, tk, os⟩) h1 q
    have l1 : (refsFrom hp.objs.size as.length).length ≤ sizeLine := by unfold refsFrom; rw [List.length_map, List.length_range]; exact hz
    have l2 : (List.replicate as.length Value.none).length ≤ sizeLine := by rw [List.length_replicate]; exact hz
    have qt : ∀ {A' : Around} {E : Value → Shared → Prop} {Q : Value → Shared → Prop}, Q (.ref (pushIts hp as).objs.size) ⟨zipT hp as, g, d, tk, os⟩ → wpAny (model prog w) A' (newTuple (refsFrom hp.objs.size as.length)) Q E ⟨pushIts hp as, g, d, tk, os⟩ :=
      fun q => wpAny_newTuple q (by simpa using l1)
    have qo : ∀ {A' : Around} {E : Value → Shared → Prop} {Q : Value → Shared → Prop}, Q (.ref (zipT hp as).objs.size) ⟨zipO hp as, g, d, tk, os⟩ → wpAny (model prog w) A' (newTuple ((refsFrom hp.objs.size as.length).map fun _ => Value.none)) Q E ⟨zipT hp as, g, d, tk, os⟩ :=
      fun q => by
        rw [refs_none]
        exact wpAny_newTuple q (by simpa using l2)
    wp_walk using qi, qt, qo
    exact ⟨_, rfl, h⟩
/-! ### the zip's state, and its next -/
def ZipIs (h : Heap) (z TI TO : Addr) (f0 f1 : Value) : Prop := h.get? z = some { cls := .type "zip", dict := none, data := .fields #[f0, f1, .bool false, .ref TI, .ref TO], slots := #[] }
/-- outside of the cells of a zip of n -/
def Out (N n : Nat) (c : Addr) : Prop := c < N ∨ N + n + 2 < c
theorem Out.ne {N n k : Nat} {c : Addr} (h : Out N n c) (hk : k ≤ n + 2) : c ≠ N + k := by
  rcases h with z | z
  · exact Nat.ne_of_lt (Nat.lt_of_lt_of_le z (Nat.le_add_right _ _))
  · exact Nat.ne_of_gt (Nat.lt_of_le_of_lt (by omega) z)
theorem Out.nz {N n : Nat} {c : Addr} (h : Out N n c) : c ≠ N + n + 2 := h.ne (k := n + 2) (Nat.le_refl _)
theorem Out.no {N n : Nat} {c : Addr} (h : Out N n c) : c ≠ N + n + 1 := h.ne (k := n + 1) (by omega)
structure ZAll (N : Nat) (as : List Addr) (pos : Nat → Nat) (vs : List Value) (f0 f1 : Value) (h : Heap) : Prop where
  z : ZipIs h (N + as.length + 2) (N + as.length) (N + as.length + 1) f0 f1
  ti : h.get? (N + as.length) = some (tupO (refsFrom N as.length))
  lv : vs.length = as.length
  to : h.get? (N + as.length + 1) = some (tupO vs)
  it : ∀ j a, as[j]? = some a → h.IsTupleIter (N + j) a (pos j)
theorem at_len {α : Type} {as : List α} {j : Nat} {a : α} (h : as[j]? = some a) : j < as.length := (List.getElem?_eq_some_iff.mp h).1
/-- a write at the zip itself -/
theorem ZAll.atZ {N : Nat} {as : List Addr} {pos : Nat → Nat} {vs : List Value} {f0 f1 g0 g1 : Value} {h h' : Heap} (Z : ZAll N as pos vs f0 f1 h) (e : ZipIs h' (N + as.length + 2) (N + as.length) (N + as.length + 1) g0 g1) (s : Heap.SameBut (N + as.length + 2) h h') : ZAll N as pos vs g0 g1 h' where
  z := e
  ti := (s.2 _ (Nat.ne_of_lt (by omega))).trans Z.ti
  lv := Z.lv
  to := (s.2 _ (Nat.ne_of_lt (by omega))).trans Z.to
  it := fun j a ha => by
    have := at_len ha
    exact (Z.it j a ha).at fun o q => (s.2 _ (Nat.ne_of_lt (by omega))).trans q
/-- one iterator has gone on -/
theorem ZAll.atI {N : Nat} {as : List Addr} {pos : Nat → Nat} {vs : List Value} {f0 f1 : Value} {h h' : Heap} {k : Nat} {a : Addr} {i : Nat} (Z : ZAll N as pos vs f0 f1 h) (ha : as[k]? = some a) (e : h'.IsTupleIter (N + k) a i) (s : Heap.SameBut (N + k) h h') : ZAll N as (fun j => if j = k then i else pos j) vs f0 f1 h' := by
  have hk := at_len ha
  refine ⟨(s.2 _ (Nat.ne_of_gt (by omega))).trans Z.z, (s.2 _ (Nat.ne_of_gt (by omega))).trans Z.ti, Z.lv, (s.2 _ (Nat.ne_of_gt (by omega))).trans Z.to, fun j b hb => ?_⟩
  by_cases q : j = k
  · subst q
    have eb : a = b := Option.some.inj (ha.symm.trans hb)
    subst eb
    rw [if_pos rfl]
    exact e
  · rw [if_neg q]
    exact (Z.it j b hb).at fun o z => (s.2 _ (fun y => q (Nat.add_left_cancel y))).trans z
/-- the kept tuple's items are others -/
theorem ZAll.atO {N : Nat} {as : List Addr} {pos : Nat → Nat} {vs ws : List Value} {f0 f1 : Value} {h h' : Heap} (Z : ZAll N as pos vs f0 f1 h) (lw : ws.length = as.length) (e : h'.get? (N + as.length + 1) = some (tupO ws)) (s : Heap.SameBut (N + as.length + 1) h h') : ZAll N as pos ws f0 f1 h' where
  z := (s.2 _ (Nat.ne_of_gt (by omega))).trans Z.z
  ti := (s.2 _ (Nat.ne_of_lt (by omega))).trans Z.ti
  lv := lw
  to := e
  it := fun j a ha => by
    have := at_len ha
    exact (Z.it j a ha).at fun o q => (s.2 _ (Nat.ne_of_lt (by omega))).trans q
theorem ZAll.pos {N : Nat} {as : List Addr} {p q : Nat → Nat} {vs : List Value} {f0 f1 : Value} {h : Heap} (Z : ZAll N as p vs f0 f1 h) (e : ∀ j, j < as.length → p j = q j) : ZAll N as q vs f0 f1 h := ⟨Z.z, Z.ti, Z.lv, Z.to, fun j a ha => by
  rw [← e j (at_len ha)]
  exact Z.it j a ha⟩
theorem ZAll.keep {N : Nat} {as : List Addr} {p : Nat → Nat} {vs : List Value} {f0 f1 : Value} {h h' : Heap} (Z : ZAll N as p vs f0 f1 h) (k : ∀ c o, N ≤ c → c ≤ N + as.length + 2 → h.get? c = some o → h'.get? c = some o) : ZAll N as p vs f0 f1 h' where
  z := k _ _ (by omega) (by omega) Z.z
  ti := k _ _ (by omega) (by omega) Z.ti
  lv := Z.lv
  to := k _ _ (by omega) (by omega) Z.to
  it := fun j a ha => by
    have := at_len ha
    exact (Z.it j a ha).at fun o q => k _ _ (by omega) (by omega) q
theorem refs_at {N n j : Nat} (h : j < n) : (refsFrom N n)[j]? = some (.ref (N + j)) := by
  unfold refsFrom
  rw [List.getElem?_map, List.getElem?_range h]
  rfl
theorem refs_len (N n : Nat) : (refsFrom N n).length = n := by
  unfold refsFrom
  rw [List.length_map, List.length_range]
theorem set_step {vs ys : List Value} {k : Nat} {y : Value} (h1 : vs.length = ys.length) (h2 : ys[k]? = some y) : (ys.take k ++ vs.drop k).set k y = ys.take (k + 1) ++ vs.drop (k + 1) := by
  have hk := at_len h2
  have l : (ys.take k).length = k := by rw [List.length_take]; omega
  rw [List.set_append_right _ _ (by omega), l, Nat.sub_self, List.drop_eq_getElem_cons (by omega), List.set_cons_zero, List.take_add_one, h2, Option.toList_some, List.append_assoc]
  rfl
section
variable {prog : Program} {w : World} {A : Around} {E : Value → Shared → Prop}
set_option maxHeartbeats 2000000 in
/-- where the tuple that was given out is free -/
theorem zipN_free {N i : Nat} {as : List Addr} {vs ys : List Value} {f0 f1 : Value} {Q : Value → Shared → Prop} {hp : Heap} {g : Array GenState} {d : _} {tk : Tok} {os : _} (Z : ZAll N as (fun _ => i) vs f0 f1 hp) (n0 : 0 < as.length) (nz : as.length ≤ sizeLine) (ly : ys.length = as.length)
    (ha : ∀ (j : Nat) (a : Addr), as[j]? = some a → a < N ∧ ∃ items : Array Value, hp.IsTuple a items ∧ items[i]? = ys[j]?)
    (hf : ∀ {A' : Around} {E' : Value → Shared → Prop} {Q' : Bool → Shared → Prop}, Q' true ⟨hp, g, d, tk, os⟩ → wpAny (model prog w) A' (Builtin.SmallTypes.ownedTupleIsFree (.ref (N + as.length + 2))) Q' E' ⟨hp, g, d, tk, os⟩)
    (hQ : ∀ h' (T : Addr), ZAll N as (fun _ => i + 1) ys (rawInt T) (.bool false) h' → h'.get? hp.objs.size = some (tupO ys) → h'.objs.size = hp.objs.size + 1 → (∀ c o, Out N as.length c → hp.get? c = some o → h'.get? c = some o) → Q (.ref hp.objs.size) ⟨h', g, d, tk, os⟩) :
    wpAny (model prog w) A (Builtin.«zip.__next__» ⟨[.ref (N + as.length + 2)], []⟩) (fun fin s' => ∃ v, fin = .done (.ret v) ∧ Q v s') E ⟨hp, g, d, tk, os⟩ := by
  show wpAny _ _ (field (.ref (N + as.length + 2)) 2 >>= _) _ _ _
  refine wpAny_bind (wpAny_field Z.z rfl (x := .bool false) rfl ?_)
  show wpAny _ _ (field (.ref (N + as.length + 2)) 3 >>= _) _ _ _
  refine wpAny_bind (wpAny_field Z.z rfl (x := .ref (N + as.length)) rfl ?_)
  refine wpAny_bind (wpAny_seqItems Z.ti rfl ?_)
  have ne : ((refsFrom N as.length).toArray).isEmpty = false := by
    rw [Array.isEmpty_eq_false_iff_exists_mem]
    exact ⟨.ref (N + 0), by rw [List.mem_toArray]; exact List.mem_of_getElem? (refs_at n0)⟩
  simp only [ne, Bool.false_eq_true, if_false]
  show wpAny _ _ (Builtin.SmallTypes.ownedTupleIsFree (.ref (N + as.length + 2)) >>= _) _ _ _
  refine wpAny_bind (hf ?_)
  simp only [if_true]
  refine wpAny_bind (wpAny_rule ?_)
  refine wpAny_bind (wpAny_field Z.z rfl (x := .ref (N + as.length + 1)) rfl ?_)
  refine wpAny_bind (wpAny_setField_rec Z.z (by simp) fun g0 hz0 hs0 => ?_)
  have Z0 : ZAll N as (fun _ => i) vs .ellipsis f1 g0 := Z.atZ hz0 hs0
  have o0 : ∀ c o, Out N as.length c → hp.get? c = some o → g0.get? c = some o := fun c o hc e => (hs0.2 c hc.nz).trans e
  have z0 : g0.objs.size = hp.objs.size := hs0.1
  refine wpAny_bind (wpAny_forIn_list (fun l b s' => ∃ (k : Nat) (h : Heap), l = ((refsFrom N as.length).zipIdx).drop k ∧ k ≤ as.length ∧ b = ⟨none, ⟨⟩⟩ ∧ s' = ⟨h, g, d, tk, os⟩ ∧ ZAll N as (fun j => if j < k then i + 1 else i) (ys.take k ++ vs.drop k) .ellipsis f1 h ∧ h.objs.size = hp.objs.size ∧ ∀ c o, Out N as.length c → hp.get? c = some o → h.get? c = some o) (fun x xs b s' hI => ?_) (fun b s' hI => ?_) _ _ _ ⟨0, g0, rfl, Nat.zero_le _, rfl, rfl, ?_, z0, o0⟩)
  · obtain ⟨k, h, el, hk, rfl, rfl, Zk, zk, ok⟩ := hI
    have lz : ((refsFrom N as.length).zipIdx).length = as.length := by rw [List.length_zipIdx, refs_len]
    have hk2 : k < as.length := by
      rcases Nat.lt_or_ge k as.length with z | z
      · exact z
      · rw [List.drop_eq_nil_of_le (by omega)] at el
        cases el
    rw [List.drop_eq_getElem_cons (by omega)] at el
    obtain ⟨rfl, rfl⟩ := List.cons.inj el
    have ex : ((refsFrom N as.length).zipIdx)[k]'(by omega) = (.ref (N + k), k) := by
      rw [List.getElem_zipIdx]
      have := refs_at (N := N) hk2
      rw [List.getElem?_eq_getElem (by rw [refs_len]; exact hk2)] at this
      rw [Option.some.inj this, Nat.zero_add]
    rw [ex]
    obtain ⟨a, ea⟩ : ∃ a, as[k]? = some a := ⟨_, List.getElem?_eq_getElem hk2⟩
    obtain ⟨aN, items, hit, hix⟩ := ha k a ea
    obtain ⟨y, ey⟩ : ∃ y, ys[k]? = some y := ⟨_, List.getElem?_eq_getElem (by omega)⟩
    have itk := Zk.it k a ea
    simp only [Nat.lt_irrefl, if_false] at itk
    refine wpAny_bind (wpAny_onRaise ?_)
    show wpAny _ _ (Builtin.SmallTypes.nextOf (.ref (N + k)) >>= _) _ _ ⟨h, g, d, tk, os⟩
    refine wpAny_bind (wpAny_nextOf_tuple_item (s := ⟨h, g, d, tk, os⟩) itk (hit.at fun o e => ok _ _ (.inl aN) e) (hix.trans ey) fun h1 it1 hs1 => wpAny_pure ?_)
    have Z1 := Zk.atI ea it1 hs1
    refine wpAny_bind (wpAny_seqItems (s := ⟨h1, g, d, tk, os⟩) Z1.to rfl ?_)
    have lt : (ys.take k ++ vs.drop k).length = as.length := Z1.lv
    refine wpAny_bind (wpAny_updateSeq (s := ⟨h1, g, d, tk, os⟩) Z1.to rfl ?_ (by rw [List.size_toArray, lt]; exact nz) (by simp only [Array.size_setIfInBounds, List.size_toArray, lt]; omega))
    refine wpAny_bind (wpAny_letGo (wpAny_pure ?_))
    have hs2 := Heap.SameBut.update h1 (N + as.length + 1) (Obj.mapSeq fun x => x.setIfInBounds k y)
    have e2 := Heap.get?_update_self (Obj.mapSeq fun x => x.setIfInBounds k y) Z1.to rfl
    have lw : (ys.take (k + 1) ++ vs.drop (k + 1)).length = as.length := by
      have := Z.lv
      rw [List.length_append, List.length_take, List.length_drop]
      omega
    have e3 : (h1.update (N + as.length + 1) (Obj.mapSeq fun x => x.setIfInBounds k y)).get? (N + as.length + 1) = some (tupO (ys.take (k + 1) ++ vs.drop (k + 1))) := by
      rw [e2]
      show some (Obj.mapSeq _ (tupO (ys.take k ++ vs.drop k))) = _
      unfold tupO Obj.mapSeq
      simp only [List.setIfInBounds_toArray]
      rw [set_step (by have := Z.lv; omega) ey]
      simp only [List.size_toArray, lw, lt, beq_self_eq_true, if_true]
    have Z2 := (Z1.atO lw e3 hs2).pos (q := fun j => if j < k + 1 then i + 1 else i) (fun j hj => by
      by_cases c1 : j = k
      · rw [if_pos c1, if_pos (by omega)]
      · rw [if_neg c1]
        by_cases c2 : j < k
        · rw [if_pos c2, if_pos (by omega)]
        · rw [if_neg c2, if_neg (by omega)])
    refine ⟨k + 1, _, rfl, hk2, rfl, rfl, Z2, ?_, fun c o hc e => ?_⟩
    · exact (hs2.1.trans hs1.1).trans zk
    · have c1 : c ≠ N + as.length + 1 := hc.no
      have c2 : c ≠ N + k := hc.ne (by omega)
      exact (hs2.2 c c1).trans ((hs1.2 c c2).trans (ok c o hc e))
  · obtain ⟨k, h, el, hk, rfl, rfl, Zk, zk, ok⟩ := hI
    have lz : ((refsFrom N as.length).zipIdx).length = as.length := by rw [List.length_zipIdx, refs_len]
    have hk2 : k = as.length := by
      rcases Nat.lt_or_ge k as.length with z | z
      · rw [List.drop_eq_getElem_cons (by omega)] at el
        cases el
      · omega
    subst hk2
    have ey : ys.take as.length ++ vs.drop as.length = ys := by
      rw [← ly, List.take_length, ly, ← Z.lv, List.drop_length, List.append_nil]
    rw [ey] at Zk
    have Zk := Zk.pos (q := fun _ => i + 1) (fun j hj => if_pos hj)
    refine wpAny_bind (wpAny_seqItems (s := ⟨h, g, d, tk, os⟩) Zk.to rfl ?_)
    refine wpAny_bind (wpAny_newTuple ?_ (by simp only [List.toList_toArray]; omega))
    show wpAny _ _ (Builtin.SmallTypes.ownedTupleHandOut (.ref (N + as.length + 2)) (.ref h.objs.size) >>= _) _ _ ⟨h.push (tupO ys), g, d, tk, os⟩
    refine wpAny_bind ?_
    unfold Builtin.SmallTypes.ownedTupleHandOut
    have lzz : N + as.length + 2 < h.objs.size := Heap.lt_size Zk.z
    have Zp : ZAll N as (fun _ => i + 1) ys .ellipsis f1 (h.push (tupO ys)) := Zk.keep fun c o _ _ e => Heap.get?_push_of_some _ e
    refine wpAny_bind (wpAny_setField_rec (s := ⟨h.push (tupO ys), g, d, tk, os⟩) Zp.z (by simp) fun h7 hz7 hs7 => ?_)
    have Z7 : ZAll N as (fun _ => i + 1) ys (rawInt h.objs.size) f1 h7 := Zp.atZ hz7 hs7
    refine wpAny_setField_rec (s := ⟨h7, g, d, tk, os⟩) Z7.z (by simp) fun h8 hz8 hs8 => ?_
    have Z8 : ZAll N as (fun _ => i + 1) ys (rawInt h.objs.size) (.bool false) h8 := Z7.atZ hz8 hs8
    refine wpAny_pure ⟨_, rfl, ?_⟩
    show Q (.ref h.objs.size) ⟨h8, g, d, tk, os⟩
    rw [zk]
    have up : ∀ c o, c ≠ N + as.length + 2 → (h.push (tupO ys)).get? c = some o → h8.get? c = some o := fun c o hc e => (hs8.2 c hc).trans ((hs7.2 c hc).trans e)
    refine hQ h8 _ Z8 ?_ ?_ fun c o hc e => up c o hc.nz (Heap.get?_push_of_some _ (ok c o hc e))
    · rw [← zk]
      exact up _ _ (Nat.ne_of_gt lzz) (Heap.get?_push_size _ rfl)
    · rw [hs8.1, hs7.1, Heap.size_push, zk]
  · rw [List.take_zero, List.nil_append, List.drop_zero]
    exact Z0.pos fun j _ => (if_neg (Nat.not_lt_zero j)).symm
set_option maxHeartbeats 2000000 in
/-- where it is still there -/
theorem zipN_held {N i : Nat} {as : List Addr} {vs ys : List Value} {T : Addr} {f : Bool} {oT : Obj} {Q : Value → Shared → Prop} {hp : Heap} {g : Array GenState} {d : _} {tk : Tok} {os : _} (Z : ZAll N as (fun _ => i) vs (rawInt T) (.bool f) hp) (n0 : 0 < as.length) (nz : as.length ≤ sizeLine) (ly : ys.length = as.length)
    (ha : ∀ (j : Nat) (a : Addr), as[j]? = some a → a < N ∧ ∃ items : Array Value, hp.IsTuple a items ∧ items[i]? = ys[j]?) (hT : hp.get? T = some oT)
    (hQ : ∀ h', ZAll N as (fun _ => i + 1) vs (rawInt T) (.bool true) h' → h'.get? hp.objs.size = some (tupO ys) → h'.objs.size = hp.objs.size + 1 → (∀ c o, Out N as.length c → hp.get? c = some o → h'.get? c = some o) → Q (.ref hp.objs.size) ⟨h', g, d, tk, os⟩) :
    wpAny (model prog w) A (Builtin.«zip.__next__» ⟨[.ref (N + as.length + 2)], []⟩) (fun fin s' => ∃ v, fin = .done (.ret v) ∧ Q v s') E ⟨hp, g, d, tk, os⟩ := by
  show wpAny _ _ (field (.ref (N + as.length + 2)) 2 >>= _) _ _ _
  refine wpAny_bind (wpAny_field Z.z rfl (x := .bool false) rfl ?_)
  show wpAny _ _ (field (.ref (N + as.length + 2)) 3 >>= _) _ _ _
  refine wpAny_bind (wpAny_field Z.z rfl (x := .ref (N + as.length)) rfl ?_)
  refine wpAny_bind (wpAny_seqItems Z.ti rfl ?_)
  have ne : ((refsFrom N as.length).toArray).isEmpty = false := by
    rw [Array.isEmpty_eq_false_iff_exists_mem]
    exact ⟨.ref (N + 0), by rw [List.mem_toArray]; exact List.mem_of_getElem? (refs_at n0)⟩
  simp only [ne, Bool.false_eq_true, if_false]
  show wpAny _ _ (Builtin.SmallTypes.ownedTupleIsFree (.ref (N + as.length + 2)) >>= _) _ _ _
  refine wpAny_bind (wpAny_tupleHeld_zip Z.z hT fun g0 hz0 hs0 => ?_)
  simp only [Bool.false_eq_true, if_false]
  have Z0 : ZAll N as (fun _ => i) vs (rawInt T) (.bool true) g0 := Z.atZ hz0 hs0
  have o0 : ∀ c o, Out N as.length c → hp.get? c = some o → g0.get? c = some o := fun c o hc e => (hs0.2 c hc.nz).trans e
  have z0 : g0.objs.size = hp.objs.size := hs0.1
  refine wpAny_bind ?_
  rw [← Array.forIn_toList]
  refine wpAny_forIn_list (fun l b s' => ∃ (k : Nat) (h : Heap), l = (refsFrom N as.length).drop k ∧ k ≤ as.length ∧ b = ⟨none, (ys.take k).toArray⟩ ∧ s' = ⟨h, g, d, tk, os⟩ ∧ ZAll N as (fun j => if j < k then i + 1 else i) vs (rawInt T) (.bool true) h ∧ h.objs.size = hp.objs.size ∧ ∀ c o, Out N as.length c → hp.get? c = some o → h.get? c = some o) (fun x xs b s' hI => ?_) (fun b s' hI => ?_) _ _ _ ⟨0, g0, rfl, Nat.zero_le _, rfl, rfl, Z0.pos fun j _ => (if_neg (Nat.not_lt_zero j)).symm, z0, o0⟩
  · obtain ⟨k, h, el, hk, rfl, rfl, Zk, zk, ok⟩ := hI
    have lz : (refsFrom N as.length).length = as.length := refs_len _ _
    have hk2 : k < as.length := by
      rcases Nat.lt_or_ge k as.length with z | z
      · exact z
      · rw [List.drop_eq_nil_of_le (by omega)] at el
        cases el
    rw [List.drop_eq_getElem_cons (by omega)] at el
    obtain ⟨rfl, rfl⟩ := List.cons.inj el
    have ex : (refsFrom N as.length)[k]'(by omega) = .ref (N + k) := by
      have := refs_at (N := N) hk2
      rw [List.getElem?_eq_getElem (by rw [refs_len]; exact hk2)] at this
      exact Option.some.inj this
    rw [ex]
    obtain ⟨a, ea⟩ : ∃ a, as[k]? = some a := ⟨_, List.getElem?_eq_getElem hk2⟩
    obtain ⟨aN, items, hit, hix⟩ := ha k a ea
    obtain ⟨y, ey⟩ : ∃ y, ys[k]? = some y := ⟨_, List.getElem?_eq_getElem (by omega)⟩
    have itk := Zk.it k a ea
    simp only [Nat.lt_irrefl, if_false] at itk
    refine wpAny_bind (wpAny_holding ?_)
    show wpAny _ _ (Builtin.SmallTypes.nextOf (.ref (N + k)) >>= _) _ _ ⟨h, g, d, tk, os⟩
    refine wpAny_bind (wpAny_nextOf_tuple_item (s := ⟨h, g, d, tk, os⟩) itk (hit.at fun o e => ok _ _ (.inl aN) e) (hix.trans ey) fun h1 it1 hs1 => wpAny_pure ?_)
    refine wpAny_pure ?_
    have Z1 := (Zk.atI ea it1 hs1).pos (q := fun j => if j < k + 1 then i + 1 else i) (fun j hj => by
      by_cases c1 : j = k
      · rw [if_pos c1, if_pos (by omega)]
      · rw [if_neg c1]
        by_cases c2 : j < k
        · rw [if_pos c2, if_pos (by omega)]
        · rw [if_neg c2, if_neg (by omega)])
    refine ⟨k + 1, h1, rfl, hk2, ?_, rfl, Z1, hs1.1.trans zk, fun c o hc e => (hs1.2 c (hc.ne (by omega))).trans (ok c o hc e)⟩
    rw [List.take_add_one, ey, Option.toList_some, List.push_toArray]
  · obtain ⟨k, h, el, hk, rfl, rfl, Zk, zk, ok⟩ := hI
    have lz : (refsFrom N as.length).length = as.length := refs_len _ _
    have hk2 : k = as.length := by
      rcases Nat.lt_or_ge k as.length with z | z
      · rw [List.drop_eq_getElem_cons (by omega)] at el
        cases el
      · omega
    subst hk2
    have ey : ys.take as.length = ys := by rw [← ly, List.take_length]
    rw [ey]
    have Zk := Zk.pos (q := fun _ => i + 1) (fun j hj => if_pos hj)
    refine wpAny_bind (wpAny_newTuple ?_ (by simp only [List.toList_toArray]; omega))
    refine wpAny_pure ⟨_, rfl, ?_⟩
    show Q (.ref h.objs.size) ⟨h.push (tupO ys), g, d, tk, os⟩
    rw [zk]
    refine hQ _ (Zk.keep fun c o _ _ e => Heap.get?_push_of_some _ e) ?_ ?_ fun c o hc e => Heap.get?_push_of_some _ (ok c o hc e)
    · rw [← zk]
      exact Heap.get?_push_size _ rfl
    · rw [Heap.size_push, zk]
/-- the first one has no more -/
theorem zipN_endF {N i : Nat} {as : List Addr} {vs : List Value} {f0 f1 : Value} {a : Addr} {items : Array Value} {Q : Fin → Shared → Prop} {hp : Heap} {g : Array GenState} {d : _} {tk : Tok} {os : _} (hh : A.handled = none) (Z : ZAll N as (fun _ => i) vs f0 f1 hp) (ha : as[0]? = some a) (aN : a < N) (hit : hp.IsTuple a items) (hx : items[i]? = none)
    (hf : ∀ {A' : Around} {E' : Value → Shared → Prop} {Q' : Bool → Shared → Prop}, Q' true ⟨hp, g, d, tk, os⟩ → wpAny (model prog w) A' (Builtin.SmallTypes.ownedTupleIsFree (.ref (N + as.length + 2))) Q' E' ⟨hp, g, d, tk, os⟩)
    (hE : ∀ h' e, (∀ c o, Out N as.length c → hp.get? c = some o → h'.get? c = some o) → (∃ o, h'.get? e = some o ∧ o.cls = .type "StopIteration") → E (.ref e) ⟨h', g, d, tk, os⟩) :
    wpAny (model prog w) A (Builtin.«zip.__next__» ⟨[.ref (N + as.length + 2)], []⟩) Q E ⟨hp, g, d, tk, os⟩ := by
  have n0 := at_len ha
  show wpAny _ _ (field (.ref (N + as.length + 2)) 2 >>= _) _ _ _
  refine wpAny_bind (wpAny_field Z.z rfl (x := .bool false) rfl ?_)
  show wpAny _ _ (field (.ref (N + as.length + 2)) 3 >>= _) _ _ _
  refine wpAny_bind (wpAny_field Z.z rfl (x := .ref (N + as.length)) rfl ?_)
  refine wpAny_bind (wpAny_seqItems Z.ti rfl ?_)
  have ne : ((refsFrom N as.length).toArray).isEmpty = false := by
    rw [Array.isEmpty_eq_false_iff_exists_mem]
    exact ⟨.ref (N + 0), by rw [List.mem_toArray]; exact List.mem_of_getElem? (refs_at n0)⟩
  simp only [ne, Bool.false_eq_true, if_false]
  show wpAny _ _ (Builtin.SmallTypes.ownedTupleIsFree (.ref (N + as.length + 2)) >>= _) _ _ _
  refine wpAny_bind (hf ?_)
  simp only [if_true]
  refine wpAny_bind (wpAny_rule ?_)
  refine wpAny_bind (wpAny_field Z.z rfl (x := .ref (N + as.length + 1)) rfl ?_)
  refine wpAny_bind (wpAny_setField_rec Z.z (by simp) fun g0 hz0 hs0 => ?_)
  have Z0 : ZAll N as (fun _ => i) vs .ellipsis f1 g0 := Z.atZ hz0 hs0
  have o0 : ∀ c o, Out N as.length c → hp.get? c = some o → g0.get? c = some o := fun c o hc e => (hs0.2 c hc.nz).trans e
  have lz : ((refsFrom N as.length).zipIdx).length = as.length := by rw [List.length_zipIdx, refs_len]
  refine wpAny_bind (wpAny_forIn_list (fun l b s' => l = (refsFrom N as.length).zipIdx ∧ s' = ⟨g0, g, d, tk, os⟩) (fun x xs b s' hI => ?_) (fun b s' hI => ?_) _ _ _ ⟨rfl, rfl⟩)
  · obtain ⟨el, rfl⟩ := hI
    have ex : x = (.ref (N + 0), 0) := by
      have h0 : ((refsFrom N as.length).zipIdx)[0]? = some x := by rw [← el]; rfl
      rw [List.getElem?_zipIdx, refs_at n0] at h0
      exact (Option.some.inj h0).symm
    subst ex
    refine wpAny_bind (wpAny_onRaise ?_)
    show wpAny _ _ (Builtin.SmallTypes.nextOf (.ref (N + 0)) >>= _) _ _ ⟨g0, g, d, tk, os⟩
    refine wpAny_bind (wpAny_nextOf_tuple_end (s := ⟨g0, g, d, tk, os⟩) hh (Z0.it 0 a ha) (hit.at fun o e => o0 _ _ (.inl aN) e) hx fun q e hq he => ?_)
    obtain ⟨oe, hoe, hce⟩ := he
    have hzq : ZipIs q (N + as.length + 2) (N + as.length) (N + as.length + 1) .ellipsis f1 := hq _ _ (Nat.ne_of_gt (by omega)) Z0.z
    have hez : e ≠ N + as.length + 2 := fun x => by
      rw [x, show q.get? (N + as.length + 2) = _ from hzq] at hoe
      cases hoe
      simp at hce
    refine wpAny_setField_rec (s := ⟨q, g, d, tk, os⟩) hzq (by simp) fun q' _ hq' => ?_
    exact hE q' e (fun c o hc x => (hq'.2 c hc.nz).trans (hq _ _ (hc.ne (k := 0) (by omega)) (o0 c o hc x))) ⟨oe, (hq'.2 _ hez).trans hoe, hce⟩
  · obtain ⟨el, rfl⟩ := hI
    rw [← el] at lz
    exact absurd lz (Nat.ne_of_lt n0)
theorem zipN_endH {N i : Nat} {as : List Addr} {vs : List Value} {T : Addr} {f : Bool} {oT : Obj} {a : Addr} {items : Array Value} {Q : Fin → Shared → Prop} {hp : Heap} {g : Array GenState} {d : _} {tk : Tok} {os : _} (hh : A.handled = none) (Z : ZAll N as (fun _ => i) vs (rawInt T) (.bool f) hp) (ha : as[0]? = some a) (aN : a < N) (hit : hp.IsTuple a items) (hx : items[i]? = none) (hT : hp.get? T = some oT)
    (hE : ∀ h' e, (∀ c o, Out N as.length c → hp.get? c = some o → h'.get? c = some o) → (∃ o, h'.get? e = some o ∧ o.cls = .type "StopIteration") → E (.ref e) ⟨h', g, d, tk, os⟩) :
    wpAny (model prog w) A (Builtin.«zip.__next__» ⟨[.ref (N + as.length + 2)], []⟩) Q E ⟨hp, g, d, tk, os⟩ := by
  have n0 := at_len ha
  show wpAny _ _ (field (.ref (N + as.length + 2)) 2 >>= _) _ _ _
  refine wpAny_bind (wpAny_field Z.z rfl (x := .bool false) rfl ?_)
  show wpAny _ _ (field (.ref (N + as.length + 2)) 3 >>= _) _ _ _
  refine wpAny_bind (wpAny_field Z.z rfl (x := .ref (N + as.length)) rfl ?_)
  refine wpAny_bind (wpAny_seqItems Z.ti rfl ?_)
  have ne : ((refsFrom N as.length).toArray).isEmpty = false := by
    rw [Array.isEmpty_eq_false_iff_exists_mem]
    exact ⟨.ref (N + 0), by rw [List.mem_toArray]; exact List.mem_of_getElem? (refs_at n0)⟩
  simp only [ne, Bool.false_eq_true, if_false]
  show wpAny _ _ (Builtin.SmallTypes.ownedTupleIsFree (.ref (N + as.length + 2)) >>= _) _ _ _
  refine wpAny_bind (wpAny_tupleHeld_zip Z.z hT fun g0 hz0 hs0 => ?_)
  simp only [Bool.false_eq_true, if_false]
  have Z0 : ZAll N as (fun _ => i) vs (rawInt T) (.bool true) g0 := Z.atZ hz0 hs0
  have o0 : ∀ c o, Out N as.length c → hp.get? c = some o → g0.get? c = some o := fun c o hc e => (hs0.2 c hc.nz).trans e
  refine wpAny_bind ?_
  rw [← Array.forIn_toList]
  refine wpAny_forIn_list (fun l b s' => l = refsFrom N as.length ∧ s' = ⟨g0, g, d, tk, os⟩) (fun x xs b s' hI => ?_) (fun b s' hI => ?_) _ _ _ ⟨rfl, rfl⟩
  · obtain ⟨el, rfl⟩ := hI
    have ex : x = .ref (N + 0) := by
      have h0 : (refsFrom N as.length)[0]? = some x := by rw [← el]; rfl
      rw [refs_at n0] at h0
      exact (Option.some.inj h0).symm
    subst ex
    refine wpAny_bind (wpAny_holding ?_)
    show wpAny _ _ (Builtin.SmallTypes.nextOf (.ref (N + 0)) >>= _) _ _ ⟨g0, g, d, tk, os⟩
    refine wpAny_bind (wpAny_nextOf_tuple_end (s := ⟨g0, g, d, tk, os⟩) hh (Z0.it 0 a ha) (hit.at fun o e => o0 _ _ (.inl aN) e) hx fun q e hq he => ?_)
    exact hE q e (fun c o hc x => hq _ _ (hc.ne (k := 0) (by omega)) (o0 c o hc x)) he
  · obtain ⟨el, rfl⟩ := hI
    have lz := refs_len N as.length
    rw [← el] at lz
    exact absurd lz (Nat.ne_of_lt n0)
/-- at a turn -/
def ZAt (N : Nat) (as : List Addr) (i : Nat) (h : Heap) : Prop := ∃ vs f0 f1, ZAll N as (fun _ => i) vs f0 f1 h ∧ (f0 = .none ∨ ∃ (T : Addr) (f : Bool), f0 = rawInt T ∧ f1 = .bool f)
theorem free_none {N : Nat} {as : List Addr} {p : Nat → Nat} {vs : List Value} {f1 : Value} {s : Shared} (Z : ZAll N as p vs .none f1 s.heap) : ∀ {A' : Around} {E' : Value → Shared → Prop} {Q' : Bool → Shared → Prop}, Q' true s → wpAny (model prog w) A' (Builtin.SmallTypes.ownedTupleIsFree (.ref (N + as.length + 2))) Q' E' s := fun q => by
  unfold Builtin.SmallTypes.ownedTupleIsFree
  exact wpAny_bind (wpAny_field Z.z rfl (x := .none) rfl (wpAny_pure q))
theorem free_dead {N : Nat} {as : List Addr} {p : Nat → Nat} {vs : List Value} {f1 : Value} {T : Addr} {s : Shared} (Z : ZAll N as p vs (rawInt T) f1 s.heap) (hT : s.heap.get? T = none) : ∀ {A' : Around} {E' : Value → Shared → Prop} {Q' : Bool → Shared → Prop}, Q' true s → wpAny (model prog w) A' (Builtin.SmallTypes.ownedTupleIsFree (.ref (N + as.length + 2))) Q' E' s := fun {A' E' Q'} q => by
  unfold Builtin.SmallTypes.ownedTupleIsFree
  refine wpAny_bind (wpAny_field Z.z rfl (x := rawInt T) rfl ?_)
  show wpAny _ _ (loadIfAlive ((T : Int).toNat) >>= _) _ _ _
  rw [Int.toNat_natCast]
  have al : ∀ {Q'' : Option Obj → Shared → Prop}, Q'' none s → wpAny (model prog w) A' (loadIfAlive T) Q'' E' s := fun {Q''} z => by
    have h' : Q'' (s.heap.get? T) s := by rw [hT]; exact z
    exact fun _ _ _ => h'
  refine wpAny_bind (al ?_)
  exact wpAny_pure q
theorem pyNext_zipN_item {N i : Nat} {as : List Addr} {ys : List Value} {s : Shared} {Q : Option Value → Shared → Prop} (Z : ZAt N as i s.heap) (n0 : 0 < as.length) (nz : as.length ≤ sizeLine) (ly : ys.length = as.length)
    (ha : ∀ (j : Nat) (a : Addr), as[j]? = some a → a < N ∧ ∃ items : Array Value, s.heap.IsTuple a items ∧ items[i]? = ys[j]?)
    (hQ : ∀ h', ZAt N as (i + 1) h' → h'.get? s.heap.objs.size = some (tupO ys) → h'.objs.size = s.heap.objs.size + 1 → (∀ c o, Out N as.length c → s.heap.get? c = some o → h'.get? c = some o) → Q (some (.ref s.heap.objs.size)) { s with heap := h' }) :
    wpAny (model prog w) A (pyNext (.ref (N + as.length + 2))) Q E s := by
  obtain ⟨vs, f0, f1, Z, hf⟩ := Z
  have hTy : s.TypeIs (.ref (N + as.length + 2)) "zip" := ⟨_, Z.z, rfl⟩
  obtain ⟨hp, g, d, tk, os⟩ := s
  unfold pyNext
  refine wpAny_bind (wpAny_attempt (wpAny_callSpecial?_slot (name := Str.ofString "__next__") hTy F.slot_zip_next
    (wpAny_call_entry F.slot_zip_next hTy F.entry_zip_next (Q := fun v s' => wpAny _ _ _ _ _ s') ?_ (F.args_zip_next_1 _))))
  rcases hf with rfl | ⟨T, f, rfl, rfl⟩
  · exact zipN_free Z n0 nz ly ha (free_none Z) fun h' T Z' e1 e2 e3 => wpAny_pure (hQ h' ⟨_, _, _, Z', .inr ⟨T, false, rfl, rfl⟩⟩ e1 e2 e3)
  · cases hT : hp.get? T with
    | none => exact zipN_free Z n0 nz ly ha (free_dead Z hT) fun h' T Z' e1 e2 e3 => wpAny_pure (hQ h' ⟨_, _, _, Z', .inr ⟨T, false, rfl, rfl⟩⟩ e1 e2 e3)
    | some oT => exact zipN_held Z n0 nz ly ha hT fun h' Z' e1 e2 e3 => wpAny_pure (hQ h' ⟨_, _, _, Z', .inr ⟨T, true, rfl, rfl⟩⟩ e1 e2 e3)
theorem pyNext_zipN_end {N i : Nat} {as : List Addr} {a : Addr} {items : Array Value} {s : Shared} {Q : Option Value → Shared → Prop} (hh : A.handled = none) (Z : ZAt N as i s.heap) (ha : as[0]? = some a) (aN : a < N) (hit : s.heap.IsTuple a items) (hx : items[i]? = none)
    (hQ : ∀ h', (∀ c o, Out N as.length c → s.heap.get? c = some o → h'.get? c = some o) → Q none { s with heap := h' }) :
    wpAny (model prog w) A (pyNext (.ref (N + as.length + 2))) Q E s := by
  obtain ⟨vs, f0, f1, Z, hf⟩ := Z
  have hTy : s.TypeIs (.ref (N + as.length + 2)) "zip" := ⟨_, Z.z, rfl⟩
  obtain ⟨hp, g, d, tk, os⟩ := s
  have fin : ∀ h' e, (∀ c o, Out N as.length c → hp.get? c = some o → h'.get? c = some o) → (∃ o, h'.get? e = some o ∧ o.cls = .type "StopIteration") → wpAny (model prog w) A (do if ← isInstance (.ref e) (.type "StopIteration") then pure none else throw (Value.ref e)) Q E ⟨h', g, d, tk, os⟩ := fun h' e hk he => by
    obtain ⟨o, ho, hc⟩ := he
    refine wpAny_bind (wpAny_isInstance (T := "StopIteration") (b := true) ⟨o, ho, hc⟩ isSubtype_stop ?_)
    exact wpAny_pure (hQ _ hk)
  unfold pyNext
  rcases hf with rfl | ⟨T, f, rfl, rfl⟩
  · refine wpAny_bind (wpAny_attempt (wpAny_callSpecial?_slot (name := Str.ofString "__next__") hTy F.slot_zip_next (wpAny_call_entry F.slot_zip_next hTy F.entry_zip_next (zipN_endF hh Z ha aN hit hx (free_none Z) fun h' e hk he => ?_) (F.args_zip_next_1 _))))
    exact fin h' e hk he
  · cases hT : hp.get? T with
    | none =>
      refine wpAny_bind (wpAny_attempt (wpAny_callSpecial?_slot (name := Str.ofString "__next__") hTy F.slot_zip_next (wpAny_call_entry F.slot_zip_next hTy F.entry_zip_next (zipN_endF hh Z ha aN hit hx (free_dead Z hT) fun h' e hk he => ?_) (F.args_zip_next_1 _))))
      exact fin h' e hk he
    | some oT =>
      refine wpAny_bind (wpAny_attempt (wpAny_callSpecial?_slot (name := Str.ofString "__next__") hTy F.slot_zip_next (wpAny_call_entry F.slot_zip_next hTy F.entry_zip_next (zipN_endH hh Z ha aN hit hx hT fun h' e hk he => ?_) (F.args_zip_next_1 _))))
      exact fin h' e hk he
end
/-! ### for x in zip(*xs), xs a list of tuples -/
theorem pyIter_zipX {prog : Program} {w : World} {A : Around} {E : Value → Shared → Prop} {s : Shared} {z TI TO : Addr} {f0 f1 : Value} {Q : Value → Shared → Prop} (hz : ZipIs s.heap z TI TO f0 f1) (h : Q (.ref z) s) : wpAny (model prog w) A (pyIter (.ref z)) Q E s := by
  have hT : s.TypeIs (.ref z) "zip" := ⟨_, hz, rfl⟩
  refine wpAny_pyIter_slot hT F.slot_zip_iter (wpAny_call_entry F.slot_zip_iter hT F.entry_zip_iter ?_ (F.args_zip_iter_1 _))
  show wpAny _ _ (ret (.ref z)) _ _ s
  exact wpAny_pure ⟨_, rfl, "zip", _, hT, F.slot_zip_next.lookup, h⟩
def ItN (K : PySem.W.Frag) (as : List Addr) : It where
  go := fun i H => ∃ zs : List V, zs.length = as.length ∧ ∀ (j : Nat) (a : Addr), as[j]? = some a → ∃ xs z, SqT K H a xs ∧ xs[i]? = some z ∧ zs[j]? = some z
  yld := fun i H v H' => ∃ (T : Addr) (zs : List V), v = .ref T ∧ H T = none ∧ H' = upd H T (.tup zs) ∧ zs.length = as.length ∧ ∀ (j : Nat) (a : Addr), as[j]? = some a → ∀ l, SqT K H a l → l[i]? = zs[j]?
  stop := fun i H => ∃ a xs, as[0]? = some a ∧ SqT K H a xs ∧ xs.length ≤ i
def ownN (N n : Nat) : List Addr := (List.range (n + 3)).map (N + ·)
theorem mem_ownN {N n : Nat} {c : Addr} (h : c ∈ ownN N n) : ∃ k, k ≤ n + 2 ∧ c = N + k := by
  obtain ⟨k, hk, rfl⟩ := List.mem_map.mp h
  exact ⟨k, by have := List.mem_range.mp hk; omega, rfl⟩
theorem in_ownN {N n k : Nat} (h : k ≤ n + 2) : (N + k : Addr) ∈ ownN N n := List.mem_map.mpr ⟨k, List.mem_range.mpr (by omega), rfl⟩
theorem out_ownN {N n : Nat} {c : Addr} (h : c ∉ ownN N n) : Out N n c := by
  rcases Nat.lt_or_ge c N with z | z
  · exact .inl z
  · rcases Nat.lt_or_ge (N + n + 2) c with y | y
    · exact .inr y
    · refine absurd ?_ h
      have := in_ownN (N := N) (n := n) (k := c - N) (by omega)
      rwa [Nat.add_sub_cancel' z] at this
theorem vals_pick {R : Nat → Value → Prop} : ∀ {zs : List V}, (∀ j z, zs[j]? = some z → ∃ u, RelV z u ∧ R j u) → ∃ ys : List Value, Vals zs ys ∧ ∀ j u, ys[j]? = some u → R j u
  | [], _ => ⟨[], .nil, fun j u e => by simp at e⟩
  | z :: zs, h => by
    obtain ⟨u, r, hu⟩ := h 0 z rfl
    obtain ⟨ys, rv, hy⟩ := vals_pick (R := fun j => R (j + 1)) (zs := zs) fun j z e => h (j + 1) z e
    refine ⟨u :: ys, .cons r rv, fun j v e => ?_⟩
    cases j with
    | zero =>
      cases e
      exact hu
    | succ j => exact hy j v e
theorem turnN {P : Program} {w : World} {K : PySem.W.Frag} {x : Str} {tpos : Pos} {N : Nat} {as : List Addr} (n0 : 0 < as.length) (nz : as.length ≤ sizeLine) (aN : ∀ a ∈ as, a < N) :
    Turn P w K (.Name x tpos) (ItN K as) (ownN N as.length) (N + as.length + 2) (ZAt N as) := by
  refine ⟨in_ownN (k := as.length + 2) (Nat.le_refl _), fun i h st q hq => ?_, fun i h h' st k => ?_, ?_, ?_, fun A i s Q E st h => ?_⟩
  · obtain ⟨vs, f0, f1, Z, _⟩ := st
    obtain ⟨k, hk, rfl⟩ := mem_ownN hq
    rcases Nat.lt_or_ge k as.length with z | z
    · obtain ⟨o, e, _, d⟩ := Z.it k as[k] (List.getElem?_eq_getElem z)
      exact ⟨o, e, fun v y => by rw [d] at y; cases y⟩
    · have hk3 : k = as.length ∨ k = as.length + 1 ∨ k = as.length + 2 := by omega
      rcases hk3 with rfl | rfl | rfl
      · exact ⟨_, Z.ti, fun v y => nomatch y⟩
      · exact ⟨_, Z.to, fun v y => nomatch y⟩
      · exact ⟨_, Z.z, fun v y => nomatch y⟩
  · obtain ⟨vs, f0, f1, Z, hf⟩ := st
    refine ⟨vs, f0, f1, Z.keep fun c o h1 h2 e => k c ?_ o e, hf⟩
    have := in_ownN (N := N) (n := as.length) (k := c - N) (by omega)
    rwa [Nat.add_sub_cancel' h1] at this
  · intro X hP hw hK hc i pins s σ H E I hf st hg
    subst hP hw hK
    obtain ⟨zs, lz, hg⟩ := hg
    obtain ⟨ys, rv, hy⟩ := vals_pick (R := fun j u => ∀ a, as[j]? = some a → ∃ items : Array Value, s.heap.IsTuple a items ∧ items[i]? = some u) (zs := zs) fun j z e => by
      have hj : j < as.length := by have := at_len e; omega
      obtain ⟨xs, z', q, e1, e2⟩ := hg j as[j] (List.getElem?_eq_getElem hj)
      have ez : z' = z := Option.some.inj (e2.symm.trans e)
      subst ez
      obtain ⟨js, r1, p1, _⟩ := I.tuple q
      obtain ⟨u, f1, m1⟩ := r1.get e1
      refine ⟨u, m1, fun a ha => ?_⟩
      have ea : as[j] = a := Option.some.inj ((List.getElem?_eq_getElem hj).symm.trans ha)
      subst ea
      exact ⟨js.toArray, p1, by simpa using f1⟩
    have ly : ys.length = as.length := by rw [← lz]; exact rv.length.symm
    refine pyNext_zipN_item st n0 nz ly (fun j a ha => ⟨aN a (List.mem_of_getElem? ha), ?_⟩) fun h' st' hT hsz hk => ?_
    · have hj : j < ys.length := by have := at_len ha; omega
      obtain ⟨items, h1, h2⟩ := hy j ys[j] (List.getElem?_eq_getElem hj) a ha
      exact ⟨items, h1, h2.trans (List.getElem?_eq_getElem hj).symm⟩
    · refine ⟨_, rfl, ?_⟩
      show wpAny _ _ (pure ()) _ _ _
      have fresh : H s.heap.objs.size = none := I.hok.fresh (Nat.le_refl _)
      have new : ObjOk X.prog X.w (upd H s.heap.objs.size (.tup zs)) h' s.heap.objs.size (.tup zs) :=
        ⟨by rw [lz]; exact nz, ys, rv, ⟨_, hT, rfl, _, rfl⟩⟩
      refine wpAny_pure ⟨.ref s.heap.objs.size, _, I.turnedNew (t' := s.toks) (ch := ownN N as.length) (fun q o nq e => hk q o (out_ownN nq) e) hf (Nat.le_refl _) new, rfl, ⟨_, zs, rfl, fresh, rfl, lz, fun j a ha l hl => ?_⟩, st', fun q hq => ?_⟩
      · obtain ⟨xs, z, q, e1, e2⟩ := hg j a ha
        rw [I.tuple_inj hl q, e1, e2]
      · obtain ⟨vs, f0, f1, Z, _⟩ := st
        have lzz : N + as.length + 2 < s.heap.objs.size := Heap.lt_size Z.z
        have lq : q < s.heap.objs.size := by
          obtain ⟨k, hk, rfl⟩ := mem_ownN hq
          exact Nat.lt_of_le_of_lt (by omega) lzz
        rw [upd_ne (Nat.ne_of_lt lq)]
        exact (hf q hq).1
  · intro X hP hw hK hc i pins s σ H E I hf st hg
    subst hP hw hK
    obtain ⟨a, xs, ha, q, hl⟩ := hg
    obtain ⟨js, r1, p1, _⟩ := I.tuple q
    have l1 := r1.length
    refine pyNext_zipN_end (I.ok.hd hc) st ha (aN a (List.mem_of_getElem? ha)) (show s.heap.IsTuple a js.toArray from p1) (by simp; omega) fun h' hk => ?_
    exact ⟨rfl, I.turnedL (t' := s.toks) (ch := ownN N as.length) (fun q o nq e => hk q o (out_ownN nq) e) hf⟩
  · obtain ⟨vs, f0, f1, Z, _⟩ := st
    exact pyIter_zipX Z.z h
theorem call_zipN {prog : Program} {w : World} {A : Around} {E : Value → Shared → Prop} {s : Shared} {as : List Addr} {Q : Value → Shared → Prop} (n0 : 0 < as.length) (nz : as.length ≤ sizeLine) (ht : ∀ a ∈ as, ∃ items, s.heap.IsTuple a items)
    (hQ : ∀ h', ZAt s.heap.objs.size as 0 h' → (∀ c o, s.heap.get? c = some o → h'.get? c = some o) → Q (.ref (s.heap.objs.size + as.length + 2)) { s with heap := h' }) : wpAny (model prog w) A (call (.type "zip") (as.map Value.ref)) Q E s := by
  obtain ⟨b, bs, rfl⟩ : ∃ b bs, as = b :: bs := by
    cases as with
    | nil => exact absurd n0 (by decide)
    | cons b bs => exact ⟨b, bs, rfl⟩
  rw [List.map_cons]
  refine callType_new F.called_zip (by decide) (typeCall_zipN _) (newCall_zipN _ _) (fun obj => args_initN obj _ _) F.entry_zip_new (meets_zip_newN (b :: bs) nz) ⟨ht, ?_⟩
  generalize b :: bs = as at *
  have z1 := pushIts_size as s.heap
  have z2 : (zipT s.heap as).objs.size = s.heap.objs.size + as.length + 1 := by unfold zipT; rw [Heap.size_push, z1]
  have z3 : (zipO s.heap as).objs.size = s.heap.objs.size + as.length + 2 := by unfold zipO; rw [Heap.size_push, z2]
  have gZ : (zipZ s.heap as).get? (zipO s.heap as).objs.size = some { cls := .type "zip", data := .fields #[.none, .bool false, .bool false, .ref (pushIts s.heap as).objs.size, .ref (zipT s.heap as).objs.size] } := Heap.get?_push_size _ rfl
  have gO : (zipZ s.heap as).get? (zipT s.heap as).objs.size = some (tupO (List.replicate as.length .none)) := Heap.get?_push_of_some _ (Heap.get?_push_size _ rfl)
  have gT : (zipZ s.heap as).get? (pushIts s.heap as).objs.size = some (tupO (refsFrom s.heap.objs.size as.length)) := Heap.get?_push_of_some _ (Heap.get?_push_of_some _ (Heap.get?_push_size _ rfl))
  have up : ∀ c o, (pushIts s.heap as).get? c = some o → (zipZ s.heap as).get? c = some o := fun c o e => Heap.get?_push_of_some _ (Heap.get?_push_of_some _ (Heap.get?_push_of_some _ e))
  rw [z3, z2, z1] at gZ
  rw [z2] at gO
  rw [z1] at gT
  refine ⟨⟨_, by rw [z3]; exact gZ, rfl⟩, ?_⟩
  rw [z3]
  exact hQ _ ⟨_, .none, .bool false, ⟨gZ, gT, List.length_replicate, gO, fun j a ha => ⟨_, up _ _ (pushIts_new as s.heap j a ha), rfl, rfl⟩⟩, .inl rfl⟩ fun c o e => up c o (pushIts_old as _ e)
def iZipN (K : PySem.W.Frag) (te : TE) : TI := fun σ H R => te σ H fun y H1 => ∃ (b : Addr) (as : List Addr), y = .ref b ∧ (SqT K H1 b (as.map V.ref) ∨ SqL K H1 b (as.map V.ref)) ∧ 0 < as.length ∧ (∀ a ∈ as, ∃ xs, SqT K H1 a xs) ∧ R (ItN K as) H1
theorem vals_refs : ∀ {as : List Addr} {us : List Value}, Vals (as.map V.ref) us → us = as.map Value.ref
  | [], _, h => by cases h; rfl
  | a :: as, _, h => by
    cases h with
    | cons r rr =>
      rw [vals_refs rr, show _ = Value.ref a from r]
      rfl
theorem pi_zipN (K : PySem.W.Frag) {X : Cx} {e : Expr} {te : TE} {p pos tpos sp : Pos} {x : Str} (hg : Gl X "zip") (hm : X.mg "zip" = none) (he : PE X e te)
    (hst : starEach [.Starred e sp] X.env = [(true, eval e X.env)] := by rfl) (hK : X.K = K := by rfl) :
    PI X (.Name x tpos) (.Call (.Name "zip" p) [.Starred e sp] [] pos) (iZipN K te) := by
  subst hK
  refine ⟨fun pins s σ H R I h => ?_⟩
  refine Call_ (ld_blt I hg hm PyProof.Rows.boot_zip ?_)
  rw [hst]
  refine PySem.W.ks_call (P := fun _ => True) rfl (fun h _ => ⟨.machine, .inr (.inl rfl), PySem.W.Looks.of_pure rfl⟩) (PySem.W.ks_lone (thn (he.run pins s σ H _ I h) fun v s1 ⟨y, H1, I1, ry, b, as, ey, hb, n0, hT, q⟩ => ?_))
  subst ey
  obtain rfl : v = Value.ref b := ry
  have lz : as.length ≤ sizeLine := by
    rcases hb with hb | hb
    · obtain ⟨_, _, _, z⟩ := I1.tuple hb
      rwa [List.length_map] at z
    · obtain ⟨_, _, _, z⟩ := I1.list hb
      rwa [List.length_map] at z
  refine StX.star_any I1 hb fun us s2 I2 rv => ⟨trivial, ?_⟩
  have eu := vals_refs rv
  subst eu
  refine call_zipN n0 lz (fun a ha => ?_) fun h' Z hk => ?_
  · obtain ⟨xs, hx⟩ := hT a ha
    obtain ⟨js, _, p1, _⟩ := I2.tuple hx
    exact ⟨js.toArray, p1⟩
  · have I3 : Inv X pins σ H1 { s2 with heap := h' } := I2.kept (t' := s2.toks) hk
    have aN : ∀ a ∈ as, a < s2.heap.objs.size := fun a ha => by
      obtain ⟨xs, hx⟩ := hT a ha
      obtain ⟨js, _, p1, _⟩ := I2.tuple hx
      obtain ⟨_, o, _⟩ := p1
      exact Heap.lt_size o
    have fr : ∀ y, s2.heap.objs.size ≤ y → FpOk X pins H1 y := fun y hle => I2.fpOk hle (I2.hok.fresh hle)
    obtain ⟨vs, f0, f1, Z0, _⟩ := id Z
    refine pyIter_zipX (s := { s2 with heap := h' }) Z0.z ?_
    exact ⟨_, ownN s2.heap.objs.size as.length, ZAt s2.heap.objs.size as, ItN X.K as, H1, rfl, I3, turnN n0 lz aN, Z, fun y hy => by
      obtain ⟨k, hk, rfl⟩ := mem_ownN hy
      exact fr _ (Nat.le_add_right _ _), q⟩
/-- all as long as one another -/
def YN (W : Nat) (xss : List (List V)) : Nat → Hp → V → Hp → Prop := fun i H v H' => ∃ (T : Addr) (zs : List V), v = .ref T ∧ H T = none ∧ H' = upd H T (.tup zs) ∧ zs.length = xss.length ∧ ∀ (j : Nat) (xs : List V), xss[j]? = some xs → xs[i]? = zs[j]?
theorem walk_zipN {K : PySem.W.Frag} {as : List Addr} {xss : List (List V)} {W : Nat} (hl : xss.length = as.length) (n0 : 0 < as.length) (hw : ∀ xs ∈ xss, xs.length = W) :
    Walk (ItN K as) W (fun H => ∀ (j : Nat) (a : Addr) (xs : List V), as[j]? = some a → xss[j]? = some xs → SqT K H a xs) (YN W xss) := by
  refine ⟨fun i H hi q => ⟨xss.map fun xs => xs.getD i .non, by rw [List.length_map, hl], fun j a ha => ?_⟩, fun H q => ?_, fun i H v H' hi q y => ?_⟩
  · have hj : j < xss.length := by have := at_len ha; omega
    have e1 := List.getElem?_eq_getElem hj
    have lx := hw _ (List.getElem_mem hj)
    have e2 : (xss[j])[i]? = some ((xss[j])[i]'(by omega)) := List.getElem?_eq_getElem (by omega)
    refine ⟨xss[j], _, q j a _ ha e1, e2, ?_⟩
    rw [List.getElem?_map, e1]
    simp only [Option.map_some]
    rw [List.getD_eq_getElem?_getD, e2]
    rfl
  · have hj : 0 < xss.length := by omega
    exact ⟨as[0], xss[0], List.getElem?_eq_getElem n0, q 0 _ _ (List.getElem?_eq_getElem n0) (List.getElem?_eq_getElem hj), by rw [hw _ (List.getElem_mem hj)]; exact Nat.le_refl _⟩
  · obtain ⟨T, zs, e1, e2, e3, e4, e5⟩ := y
    refine ⟨T, zs, e1, e2, e3, by omega, fun j xs hx => ?_⟩
    have hj : j < as.length := by have := at_len hx; omega
    exact e5 j as[j] (List.getElem?_eq_getElem hj) xs (q j _ _ (List.getElem?_eq_getElem hj) hx)
/-! ### min and max of a tuple of ints; a star in a display -/
theorem min_tup {prog : Program} {w : World} {A : Around} {E : Value → Shared → Prop} {s : Shared} {l : Addr} {its : List Value} {ns : List Int} {Q : Value → Shared → Prop} (hh : A.handled = none) (hl : s.heap.IsTuple l its.toArray) (hi : IntsAre its ns) (hne : 0 < ns.length)
    (h : ∀ h' tk M t', (∀ b o, s.heap.get? b = some o → h'.get? b = some o) → M ∈ ns → (∀ a, a ∈ ns → M ≤ a) → Q (.int M t') { s with heap := h', toks := tk }) : wpAny (model prog w) A (call (.builtin "min") [.ref l]) Q E s := by
  obtain ⟨xs, e⟩ := hi.allInts.items
  have hn : numsOf (intItems xs).toList = ns := by rw [← e]; exact hi.numsOf
  rw [nums_intItems] at hn
  subst hn
  rw [e] at hl
  have hsz : 0 < xs.size := by simpa using hne
  have lt : l < s.heap.objs.size := by obtain ⟨_, o, _⟩ := hl; exact Heap.lt_size o
  refine call_min_walk (wpAny_pyIter_tuple hl ?_)
  have hlI : l ≠ s.heap.objs.size := Nat.ne_of_lt lt
  refine ⟨_, _, _, _, _, _, _, rfl, Walks.tuple (A := A.in1) hh s.heap.objs.size l hlI (intItems xs), ⟨⟨_, Heap.get?_push_size _ rfl, rfl, rfl⟩, hl.at fun o e => Heap.get?_push_of_some _ e⟩, fun b hb => ?_, by simpa [intItems] using hsz, CmpOf.ints_lt (numAt xs) (fun _ _ => intItems_at), fun v h' tk hP hk => ?_⟩
  · show b < (s.heap.push _).objs.size
    rw [Heap.size_push]
    rcases List.mem_cons.mp hb with q | q
    · rw [q]; exact Nat.lt_succ_self _
    · rw [List.mem_singleton.mp q]; exact Nat.lt_succ_of_lt lt
  · have hP' : (intItems xs)[argBest (fun i j => decide (numAt xs i < numAt xs j)) (xs.size - 1)]? = some v := by simpa [intItems] using hP
    obtain ⟨t, rfl⟩ := intItems_at hP'
    obtain ⟨h1, h2⟩ := argBest_lt (numAt xs) (xs.size - 1)
    refine h h' tk _ t (fun b o eb => hk b o (fun hb => ?_) (Heap.get?_push_of_some _ eb)) ?_ fun a ha => ?_
    · rw [List.mem_singleton.mp hb] at eb
      exact absurd (Heap.lt_size eb) (Nat.lt_irrefl _)
    · rw [numAt_eq]; exact PySem.getD_mem (by rw [List.length_map, Array.length_toList]; omega)
    · obtain ⟨j, hj, rfl⟩ := mem_getD ha
      rw [List.length_map, Array.length_toList] at hj
      rw [← numAt_eq]; exact h2 j (by omega)
def rMinT (K : PySem.W.Frag) : List V → Hp → VK → Prop := fun vs H Q => ∃ (a : Addr) (ns : List Int), vs = [V.ref a] ∧ SqT K H a (ns.map V.int) ∧ 0 < ns.length ∧ ∀ m, m ∈ ns → (∀ y, y ∈ ns → m ≤ y) → Q (.int m) H
theorem cr_minT (K : PySem.W.Frag) {X : Cx} (hc : X.calm = true) (hK : X.K = K := by rfl) : CallR X (.builtin "min") (rMinT K) := by
  subst hK
  intro pins s σ H vs us Q I r h
  obtain ⟨a, ns, rfl, hs, hne, q⟩ := h
  obtain ⟨its, rv, hl, _⟩ := I.tuple hs
  rw [Vals.ref1 r]
  exact min_tup (I.ok.hd hc) hl rv.ints hne fun h' tk m t' hk h1 h2 => ⟨.int _, H, I.kept hk, ⟨_, rfl⟩, q m h1 h2⟩
theorem max_tup {prog : Program} {w : World} {A : Around} {E : Value → Shared → Prop} {s : Shared} {l : Addr} {its : List Value} {ns : List Int} {Q : Value → Shared → Prop} (hh : A.handled = none) (hl : s.heap.IsTuple l its.toArray) (hi : IntsAre its ns) (hne : 0 < ns.length)
    (h : ∀ h' tk M t', (∀ b o, s.heap.get? b = some o → h'.get? b = some o) → M ∈ ns → (∀ a, a ∈ ns → a ≤ M) → Q (.int M t') { s with heap := h', toks := tk }) : wpAny (model prog w) A (call (.builtin "max") [.ref l]) Q E s := by
  obtain ⟨xs, e⟩ := hi.allInts.items
  have hn : numsOf (intItems xs).toList = ns := by rw [← e]; exact hi.numsOf
  rw [nums_intItems] at hn
  subst hn
  rw [e] at hl
  have hsz : 0 < xs.size := by simpa using hne
  have lt : l < s.heap.objs.size := by obtain ⟨_, o, _⟩ := hl; exact Heap.lt_size o
  refine call_max_walk (wpAny_pyIter_tuple hl ?_)
  have hlI : l ≠ s.heap.objs.size := Nat.ne_of_lt lt
  refine ⟨_, _, _, _, _, _, _, rfl, Walks.tuple (A := A.in1) hh s.heap.objs.size l hlI (intItems xs), ⟨⟨_, Heap.get?_push_size _ rfl, rfl, rfl⟩, hl.at fun o e => Heap.get?_push_of_some _ e⟩, fun b hb => ?_, by simpa [intItems] using hsz, CmpOf.ints_gt (numAt xs) (fun _ _ => intItems_at), fun v h' tk hP hk => ?_⟩
  · show b < (s.heap.push _).objs.size
    rw [Heap.size_push]
    rcases List.mem_cons.mp hb with q | q
    · rw [q]; exact Nat.lt_succ_self _
    · rw [List.mem_singleton.mp q]; exact Nat.lt_succ_of_lt lt
  · have hP' : (intItems xs)[argBest (fun i j => decide (numAt xs i > numAt xs j)) (xs.size - 1)]? = some v := by simpa [intItems] using hP
    obtain ⟨t, rfl⟩ := intItems_at hP'
    obtain ⟨h1, h2⟩ := argBest_gt (numAt xs) (xs.size - 1)
    refine h h' tk _ t (fun b o eb => hk b o (fun hb => ?_) (Heap.get?_push_of_some _ eb)) ?_ fun a ha => ?_
    · rw [List.mem_singleton.mp hb] at eb
      exact absurd (Heap.lt_size eb) (Nat.lt_irrefl _)
    · rw [numAt_eq]; exact PySem.getD_mem (by rw [List.length_map, Array.length_toList]; omega)
    · obtain ⟨j, hj, rfl⟩ := mem_getD ha
      rw [List.length_map, Array.length_toList] at hj
      rw [← numAt_eq]; exact h2 j (by omega)
def rMaxT (K : PySem.W.Frag) : List V → Hp → VK → Prop := fun vs H Q => ∃ (a : Addr) (ns : List Int), vs = [V.ref a] ∧ SqT K H a (ns.map V.int) ∧ 0 < ns.length ∧ ∀ m, m ∈ ns → (∀ y, y ∈ ns → y ≤ m) → Q (.int m) H
theorem cr_maxT (K : PySem.W.Frag) {X : Cx} (hc : X.calm = true) (hK : X.K = K := by rfl) : CallR X (.builtin "max") (rMaxT K) := by
  subst hK
  intro pins s σ H vs us Q I r h
  obtain ⟨a, ns, rfl, hs, hne, q⟩ := h
  obtain ⟨its, rv, hl, _⟩ := I.tuple hs
  rw [Vals.ref1 r]
  exact max_tup (I.ok.hd hc) hl rv.ints hne fun h' tk m t' hk h1 h2 => ⟨.int _, H, I.kept hk, ⟨_, rfl⟩, q m h1 h2⟩
theorem pa_starK (K : PySem.W.Frag) {X : Cx} {e : Expr} {es : List Expr} {te : TE} {t : TA} {p : Pos} (he : PE X e te) (hr : PA X es t) (hs : starEach (.Starred e p :: es) X.env = (true, eval e X.env) :: starEach es X.env := by rfl) (hK : X.K = K := by rfl) : PA X (.Starred e p :: es) (StX.tStar K te t) := hK ▸ StX.pa_star he hr hs
/-! ### enumerate of a tuple -/
set_option maxHeartbeats 1000000 in
theorem meets_enumerate_newT (l : Addr) (items : Array Value) :
    Meets (Builtin.«enumerate.__new__» ⟨[.type "enumerate", .ref l], []⟩) (fun _ R s => s.heap.IsTuple l items ∧
      R (.ok (.ret (.ref (s.heap.push (itO l)).objs.size))) { s with heap := (s.heap.push (itO l)).push { cls := .type "enumerate", data := .fields #[.none, .bool false, .ref s.heap.objs.size, rawInt 0, .none, .none] } }) :=
  .of_wp fun prog w A R s h => by
    obtain ⟨hp, g, d, tk, os⟩ := s
    obtain ⟨h1, h⟩ := h
    have hsub := sub_enumerate
    have q1 : ∀ {A' : Around} {E : Value → Shared → Prop} {Q : Value → Shared → Prop}, Q (.ref hp.objs.size) ⟨(hp.push (itO l)), g, d, tk, os⟩ → wpAny (model prog w) A' (pyIter (.ref l)) Q E ⟨hp, g, d, tk, os⟩ :=
      fun q => wpAny_pyIter_tuple (s := ⟨hp, g, d, tk, os⟩) h1 q
    wp_walk
    refine wpAny_stack_any fun st => wpAny_pure ?_
    split
    · rename_i c _ _ _ _ _
      cases (c == Value.type "enumerate")
      · wp_walk using q1
        exact ⟨_, rfl, h⟩
      · wp_walk using q1
        exact ⟨_, rfl, h⟩
    · wp_walk using q1
      exact ⟨_, rfl, h⟩
theorem call_enumerate_tup {prog : Program} {w : World} {A : Around} {E : Value → Shared → Prop} {s : Shared} {l : Addr} {items : Array Value} {Q : Value → Shared → Prop} (hL : s.heap.IsTuple l items)
    (h : ∀ h', IsEnum h' (s.heap.objs.size + 1) s.heap.objs.size 0 .none → h'.IsTupleIter s.heap.objs.size l 0 → h'.objs.size = s.heap.objs.size + 2 →
      (∀ b o, s.heap.get? b = some o → h'.get? b = some o) → Q (.ref (s.heap.objs.size + 1)) { s with heap := h' }) :
    wpAny (model prog w) A (call (.type "enumerate") [.ref l]) Q E s := by
  refine callType_new F.called_enumerate (by decide) (F.typeCall_enumerate_1 _) (F.newCall_enumerate_1 _) (fun obj => F.args_object_init_2 obj _) F.entry_enumerate_new (meets_enumerate_newT l items) ⟨hL, ?_⟩
  have hz : (s.heap.push (itO l)).objs.size = s.heap.objs.size + 1 := Heap.size_push ..
  show _ ∧ _
  rw [hz]
  have he : IsEnum ((s.heap.push (itO l)).push { cls := .type "enumerate", data := .fields #[.none, .bool false, .ref s.heap.objs.size, rawInt 0, .none, .none] }) (s.heap.objs.size + 1) s.heap.objs.size 0 .none := by
    have := Heap.get?_push_size (s.heap.push (itO l)) (o := { cls := .type "enumerate", data := .fields #[.none, .bool false, .ref s.heap.objs.size, rawInt 0, .none, .none] }) rfl
    rw [hz] at this; exact this
  exact ⟨⟨_, he, rfl⟩, h _ he ⟨_, Heap.get?_push_of_some _ (Heap.get?_push_size _ rfl), rfl, rfl⟩ (by rw [Heap.size_push, hz]) fun b o x => Heap.get?_push_of_some _ (Heap.get?_push_of_some _ x)⟩
def IteT (K : PySem.W.Frag) (a : Addr) : It :=
  ⟨fun i H => ∃ (xs : List V) (x : V), SqT K H a xs ∧ xs[i]? = some x, fun i H v H' => ∃ T x, v = .ref T ∧ H T = none ∧ H' = upd H T (.tup [.int (i : Nat), x]) ∧ ∀ xs, SqT K H a xs → xs[i]? = some x, fun i H => ∃ xs : List V, SqT K H a xs ∧ xs.length = i⟩
theorem ne_itE {h : Heap} {t it l : Addr} {items : Array Value} {i : Nat} (p : h.IsTuple t items) (q : h.IsTupleIter it l i) : t ≠ it := fun e => by
  obtain ⟨o, ho, hcl, _⟩ := p
  obtain ⟨o', ho', hcl', _⟩ := q
  rw [e, ho'] at ho
  have eo := Option.some.inj ho
  rw [eo, hcl] at hcl'
  exact absurd (Value.type.inj hcl') (by decide)
theorem turn_enumT {P : Program} {w : World} {K : PySem.W.Frag} {elts : List Expr} {kk : Nat} {tpos : Pos} {a e it : Addr} (hea : e ≠ a) (hne : e ≠ it) :
    Turn P w K (.Tuple elts kk tpos) (IteT K a) [e, it] e (fun i h => (∃ old, IsEnum h e it ((i : Nat) : Int) old) ∧ h.IsTupleIter it a i) := by
  refine ⟨by simp, fun i h st b hb => ?_, fun i h h' st k => ?_, ?_, ?_, fun A i s Q E st h => ?_⟩
  · obtain ⟨⟨old, he⟩, ⟨o, ho, hc, hd⟩⟩ := st
    have e' : b = e ∨ b = it := by simpa using hb
    rcases e' with z | z
    · rw [z]; exact ⟨_, he, fun v q => nomatch q⟩
    · rw [z]; exact ⟨o, ho, fun v q => by rw [hd] at q; cases q⟩
  · obtain ⟨⟨old, he⟩, hi⟩ := st
    exact ⟨⟨old, k e (by simp) _ he⟩, hi.at fun o q => k it (by simp) o q⟩
  · intro X hP hw hK hc i pins s σ H E I hf st hg
    subst hP hw hK
    obtain ⟨⟨old, he⟩, hit⟩ := st
    obtain ⟨xs, x, hq, hx⟩ := hg
    obtain ⟨its, rv, p, hz⟩ := I.tuple hq
    obtain ⟨u, hu, ru⟩ := rv.get hx
    have hel : e < s.heap.objs.size := Heap.lt_size he
    have hil : it < s.heap.objs.size := by obtain ⟨_, q, _⟩ := hit; exact Heap.lt_size q
    have na : a ≠ it := ne_itE p hit
    have k1 : i < its.toArray.size := by have := (List.getElem?_eq_some_iff.mp hu).1; simpa using this
    have nf : e ∉ [it, a] := fun m => by
      rcases List.mem_cons.mp m with z | z
      · exact hne z
      · exact hea (List.mem_singleton.mp z)
    refine wpAny_pyNext_enum_itemD (Draws.tuple (A := X.A.in1) (I.ok.hd hc) it a na its.toArray) he ⟨hit, p⟩ k1 hne nf fun v h' tk hv ho hit' hT hsz hk => ?_
    have w1 : v = u := Option.some.inj (hv.symm.trans (by simpa using hu))
    subst w1
    refine ⟨_, rfl, wpAny_letOwnedTupleGo_enum (s := { s with heap := h', toks := tk + 1 }) ho fun h'' he' sb => ?_⟩
    have hT2 : h''.get? s.heap.objs.size = some { cls := .type "tuple", data := .seq #[.int i tk, v] } := (sb.2 _ (Nat.ne_of_gt hel)).trans hT
    have new : ObjOk X.prog X.w (upd H s.heap.objs.size (.tup [.int (i : Nat), x])) h'' s.heap.objs.size (.tup [.int (i : Nat), x]) :=
      ⟨by show 2 ≤ sizeLine; decide, [.int i tk, v], .cons ⟨_, rfl⟩ (.cons ru .nil), ⟨_, hT2, rfl, _, rfl⟩⟩
    have I1 : Inv X pins σ (upd H s.heap.objs.size (.tup [.int (i : Nat), x])) { s with heap := h'', toks := tk + 1 } :=
      I.turnedNew (ch := [e, it]) (fun b ob hb q => (sb.2 b (fun z => hb (by simp [z]))).trans (hk b ob (fun z => hb (by simp [z])) (fun z => hb (by simp [z])) q)) hf (Nat.le_refl _) new
    refine ⟨.ref s.heap.objs.size, _, I1, rfl, ⟨_, x, rfl, I.hok.fresh (Nat.le_refl _), rfl, fun ys hy => by rw [I.tuple_inj hy hq]; exact hx⟩, ⟨⟨v, ?_⟩, hit'.1.at fun o q => (sb.2 it (Ne.symm hne)).trans q⟩, fun b hb => ?_⟩
    · have e1 : ((i + 1 : Nat) : Int) = (i : Int) + 1 := by omega
      rw [e1]; exact he'
    · have hb' : b < s.heap.objs.size := by
        have e' : b = e ∨ b = it := by simpa using hb
        rcases e' with z | z
        · rw [z]; exact hel
        · rw [z]; exact hil
      rw [upd_ne (Nat.ne_of_lt hb')]
      exact (hf b hb).1
  · intro X hP hw hK hc i pins s σ H E I hf st hg
    subst hP hw hK
    obtain ⟨⟨old, he⟩, hit⟩ := st
    obtain ⟨xs, hq, hx⟩ := hg
    obtain ⟨its, rv, p, hz⟩ := I.tuple hq
    have na : a ≠ it := ne_itE p hit
    obtain ⟨f0, f1, f2, f3, f4, f5⟩ := hf it (by simp)
    have hl := rv.length
    have ei : its.toArray.size = i := by simp; omega
    exact wpAny_pyNext_enum_endD (Draws.tuple (A := X.A.in1) (I.ok.hd hc) it a na its.toArray) he (by rw [ei]; exact ⟨hit, p⟩) fun h' eb => ⟨rfl, I.turned (t' := s.toks) (fun b o hb q => eb b o hb q) f0 f1 f3 f4 f5⟩
  · obtain ⟨⟨_, he⟩, _⟩ := st
    exact wpAny_pyIter_enum he h
def iEnumT (K : PySem.W.Frag) (ta : TA) : TI := fun σ H R => ta σ H fun vs H1 => ∃ a xs, vs = [.ref a] ∧ SqT K H1 a xs ∧ R (IteT K a) H1
theorem pi_enumT (K : PySem.W.Frag) {X : Cx} {e : Expr} {ta : TA} {p pos tpos : Pos} {elts : List Expr} {kk : Nat} (hg : Gl X "enumerate") (hm : X.mg "enumerate" = none) (ha : PA X [e] ta) (hs : starEach [e] X.env = [(false, eval e X.env)] := by rfl) (hK : X.K = K := by rfl) :
    PI X (.Tuple elts kk tpos) (.Call (.Name "enumerate" p) [e] [] pos) (iEnumT K ta) := by
  subst hK
  refine ⟨fun pins s σ H R I h => ?_⟩
  refine Call_ (ld_blt I hg hm PyProof.Rows.boot_enumerate (PyProof.Rows.callWith_type1 (thn (ha.run pos pins s σ H _ I h) fun us s1 ⟨vs, H1, I1, r1, q1⟩ => ?_) hs rfl))
  obtain ⟨a, xs, ex, hq, q⟩ := q1
  subst ex
  cases r1 with
  | cons r rr =>
    cases rr
    cases r
    obtain ⟨its, rv, p', hz⟩ := I1.tuple hq
    have la : a < s1.heap.objs.size := by obtain ⟨_, o, _⟩ := p'; exact Heap.lt_size o
    refine call_enumerate_tup (show s1.heap.IsTuple a its.toArray from p') fun h' he hit hsz hk => wpAny_pyIter_enum he ?_
    have I2 : Inv X pins σ H1 { s1 with heap := h' } := I1.kept (t' := s1.toks) hk
    refine ⟨s1.heap.objs.size + 1, [s1.heap.objs.size + 1, s1.heap.objs.size], _, _, H1, rfl, I2, turn_enumT (a := a) (e := s1.heap.objs.size + 1) (it := s1.heap.objs.size) (Nat.ne_of_gt (Nat.lt_succ_of_lt la)) (Nat.succ_ne_self _), ⟨⟨.none, he⟩, hit⟩, fun b hb => ?_, q⟩
    have e' : b = s1.heap.objs.size + 1 ∨ b = s1.heap.objs.size := by simpa using hb
    have hle : s1.heap.objs.size ≤ b := by
      rcases e' with z | z
      · rw [z]; exact Nat.le_add_right _ _
      · rw [z]; exact Nat.le_refl _
    exact I1.fpOk hle (I1.hok.fresh hle)
theorem walk_enumT {K : PySem.W.Frag} {a : Addr} {xs : List V} : Walk (IteT K a) xs.length (fun H => SqT K H a xs) (YPair (fun i => some (.int (i : Nat))) (fun i => xs[i]?)) := by
  refine ⟨fun i H hi q => ⟨xs, xs[i], q, by simp⟩, fun H q => ⟨xs, q, rfl⟩, fun i H v H' _ q y => ?_⟩
  obtain ⟨T, x, e1, e2, e3, e4⟩ := y
  exact ⟨T, _, x, e1, e2, e3, rfl, e4 xs q⟩
end Z

set_option Elab.async false
set_option linter.all false
set_option maxRecDepth 100000
namespace Z
open PySem PySem.Spec PyProof.Rows L2
/-! ### list(zip(..)) of tuples of one length -/
theorem zip_no_len : typeLookup (.type "zip") "__len__" = pure none := by rw [typeLookup_type, builtinLookup_eq_fast]; kernel_rfl
theorem zip_no_hint : typeLookup (.type "zip") "__length_hint__" = pure none := by rw [typeLookup_type, builtinLookup_eq_fast]; kernel_rfl
theorem ZAt.keep {N : Nat} {as : List Addr} {i : Nat} {h h' : Heap} (Z : ZAt N as i h) (k : ∀ c o, N ≤ c → c ≤ N + as.length + 2 → h.get? c = some o → h'.get? c = some o) : ZAt N as i h' := by
  obtain ⟨vs, f0, f1, Z, hf⟩ := Z
  exact ⟨vs, f0, f1, Z.keep k, hf⟩
structure Laid (yss : Nat → List Value) (S : Addr) (Ts : List Addr) (h : Heap) : Prop where
  t : ∀ (j : Nat) (T : Addr), Ts[j]? = some T → h.get? T = some (tupO (yss j)) ∧ S < T
  n : Ts.Nodup
section
variable {prog : Program} {w : World} {A : Around}
theorem extend_zipN {N W : Nat} {as : List Addr} {yss : Nat → List Value} {S : Addr} {res : Value} {R : Result → Shared → Prop} (hh : A.handled = none) (n0 : 0 < as.length) (nz : as.length ≤ sizeLine) (hW : W ≤ 100000) (ly : ∀ i, i < W → (yss i).length = as.length) (hS : N + as.length + 2 < S) :
    ∀ (k i : Nat) (s : Shared) (Ts : List Addr) (c : Nat), W - i = k → i ≤ W → ZAt N as i s.heap → s.heap.get? S = some { cls := .type "list", dict := none, data := .seq (Ts.map Value.ref).toArray c, slots := #[] } → Ts.length = i → Laid yss S Ts s.heap →
    (∀ (j : Nat) (a : Addr), as[j]? = some a → a < N ∧ ∃ items : Array Value, s.heap.IsTuple a items ∧ items.size = W ∧ ∀ i, i < W → items[i]? = (yss i)[j]?) →
    (∀ h' Ts' c', (∀ b o, Out N as.length b → b ≠ S → s.heap.get? b = some o → h'.get? b = some o) → h'.get? S = some { cls := .type "list", dict := none, data := .seq (Ts'.map Value.ref).toArray c', slots := #[] } → Ts'.length = W → Laid yss S Ts' h' → R (.ok (.ret res)) { s with heap := h' }) →
    codeAny (model prog w) A (.builtin "list.extend.loop" ⟨[.ref S, .ref (N + as.length + 2), res], []⟩) R s := by
  intro k
  induction k with
  | zero =>
    intro i s Ts c hk hi Z eS lT lay ha hR
    have hin : i = W := by omega
    subst hin
    refine codeAny_builtin F.entry_extend_loop ?_
    rw [Around.under_plainId F.plain_extend_loop _]
    show wpAny _ A.in1 (pyNext (.ref (N + as.length + 2)) >>= _) _ _ s
    obtain ⟨aN, items, hit, hz, _⟩ := ha 0 as[0] (List.getElem?_eq_getElem n0)
    refine wpAny_bind (pyNext_zipN_end hh Z (List.getElem?_eq_getElem n0) aN hit (by rw [Array.getElem?_eq_none_iff]; omega) fun h' hk => ?_)
    refine wpAny_pure (hR h' Ts c (fun b o hb _ e => hk b o hb e) (hk S _ (.inr hS) eS) lT ⟨fun j T hT => ⟨hk T _ (.inr (Nat.lt_trans hS (lay.t j T hT).2)) (lay.t j T hT).1, (lay.t j T hT).2⟩, lay.n⟩)
  | succ k ih =>
    intro i s Ts c hk hi Z eS lT lay ha hR
    have hlt : i < W := by omega
    refine codeAny_builtin F.entry_extend_loop ?_
    rw [Around.under_plainId F.plain_extend_loop _]
    show wpAny _ A.in1 (pyNext (.ref (N + as.length + 2)) >>= _) _ _ s
    refine wpAny_bind (pyNext_zipN_item Z n0 nz (ly i hlt) (fun j a e => ?_) fun h' Z' hT hsz hk' => ?_)
    · obtain ⟨aN, items, hit, _, hx⟩ := ha j a e
      exact ⟨aN, items, hit, hx i hlt⟩
    have oS : Out N as.length S := .inr hS
    have eS' := hk' S _ oS eS
    have lS : S < s.heap.objs.size := Heap.lt_size eS
    have lz : (Ts.map Value.ref).toArray.size ≤ sizeLine := by simp only [List.size_toArray, List.length_map]; rw [sizeLine_eq]; omega
    show wpAny _ A.in1 (updateSeq S (·.push (.ref s.heap.objs.size)) >>= _) _ _ _
    refine wpAny_bind ?_
    have up : ∀ b o, b ≠ S → h'.get? b = some o → (h'.update S (Obj.mapSeq fun x => x.push (.ref s.heap.objs.size))).get? b = some o := fun b o hb e => (Heap.get?_update_other _ _ (Ne.symm hb)).trans e
    have eS2 := Heap.get?_update_self (Obj.mapSeq fun x => x.push (Value.ref s.heap.objs.size)) eS' rfl
    have TS : ∀ T, S < T → T ≠ S := fun T h => Nat.ne_of_gt h
    obtain ⟨c2, eS3⟩ : ∃ c2, (h'.update S (Obj.mapSeq fun x => x.push (Value.ref s.heap.objs.size))).get? S = some { cls := .type "list", dict := none, data := .seq ((Ts ++ [s.heap.objs.size]).map Value.ref).toArray c2, slots := #[] } := by
      rw [eS2]
      unfold Obj.mapSeq
      simp only [List.push_toArray, List.map_append, List.map_cons, List.map_nil]
      exact ⟨_, rfl⟩
    refine wpAny_updateSeq (s := { s with heap := h' }) eS' rfl (wpAny_pure ⟨plainId_quiet F.plain_extend_loop _, ih (i + 1) _ (Ts ++ [s.heap.objs.size]) c2 (by omega) hlt (Z'.keep fun c o h1 h2 e => up c o (Nat.ne_of_lt (Nat.lt_of_le_of_lt h2 hS)) e) eS3 (by simp; omega) ⟨fun j T hj => ?_, ?_⟩ (fun j a e => ?_) fun h'' Ts' c' hk'' eS'' lT'' lay'' => ?_⟩) lz (by show (Array.push _ _).size ≤ sizeLine + 1; rw [Array.size_push]; omega)
    · rcases Nat.lt_or_ge j Ts.length with z | z
      · rw [List.getElem?_append_left z] at hj
        have := lay.t j T hj
        exact ⟨up _ _ (TS T this.2) (hk' _ _ (.inr (Nat.lt_trans hS this.2)) this.1), this.2⟩
      · rw [List.getElem?_append_right z] at hj
        have hj0 : j - Ts.length = 0 := by
          rcases Nat.eq_zero_or_pos (j - Ts.length) with y | y
          · exact y
          · rw [List.getElem?_eq_none (by simp; omega)] at hj
            cases hj
        rw [hj0] at hj
        have eT : s.heap.objs.size = T := Option.some.inj hj
        have ej : j = i := by omega
        subst eT ej
        exact ⟨up _ _ (TS _ lS) hT, lS⟩
    · rw [List.nodup_append]
      refine ⟨lay.n, by simp, fun a h1 b h2 e => ?_⟩
      obtain ⟨j, hj, rfl⟩ := List.mem_iff_getElem.mp h1
      have := (lay.t j _ (List.getElem?_eq_getElem hj)).1
      rw [List.mem_singleton.mp h2] at e
      exact absurd (Heap.lt_size this) (by rw [e]; exact Nat.lt_irrefl _)
    · obtain ⟨aN, items, hit, h2, h3⟩ := ha j a e
      have a1 : a ≠ S := Nat.ne_of_lt (Nat.lt_trans aN (by omega))
      exact ⟨aN, items, hit.at fun o q => up _ _ a1 (hk' _ _ (.inl aN) q), h2, h3⟩
    · exact hR h'' Ts' c' (fun b o hb hbS e => hk'' b o hb hbS (up b o hbS (hk' b o hb e))) eS'' lT'' lay''
theorem call_list_zipN {E : Value → Shared → Prop} {s : Shared} {N W : Nat} {as : List Addr} {yss : Nat → List Value} {Q : Value → Shared → Prop} (hh : A.handled = none) (n0 : 0 < as.length) (nz : as.length ≤ sizeLine) (hW : W ≤ 100000) (ly : ∀ i, i < W → (yss i).length = as.length) (Z : ZAt N as 0 s.heap)
    (ha : ∀ (j : Nat) (a : Addr), as[j]? = some a → a < N ∧ ∃ items : Array Value, s.heap.IsTuple a items ∧ items.size = W ∧ ∀ i, i < W → items[i]? = (yss i)[j]?)
    (hQ : ∀ h' Ts c, (∀ b o, Out N as.length b → s.heap.get? b = some o → h'.get? b = some o) → h'.get? s.heap.objs.size = some { cls := .type "list", dict := none, data := .seq (Ts.map Value.ref).toArray c, slots := #[] } → Ts.length = W → Laid yss s.heap.objs.size Ts h' → Q (.ref s.heap.objs.size) { s with heap := h' }) :
    wpAny (model prog w) A (call (.type "list") [.ref (N + as.length + 2)]) Q E s := by
  have lzz : N + as.length + 2 < s.heap.objs.size := by obtain ⟨_, _, _, Z, _⟩ := Z; exact Heap.lt_size Z.z
  refine callType_codes (Q₁ := fun obj s₁ => obj = .ref s.heap.objs.size ∧ s₁ = { s with heap := s.heap.push { cls := .type "list", data := .seq #[] } }) F.called_list (F.typeCall_list_1 _) F.entry_list_init
    (code_list_new _ ⟨rfl, rfl⟩) fun obj s₁ h₁ => ?_
  obtain ⟨rfl, rfl⟩ := h₁
  have hS : (s.heap.push { cls := .type "list", data := .seq #[] }).get? s.heap.objs.size = some { cls := .type "list", data := .seq #[] } := Heap.get?_push_size _ rfl
  refine ⟨⟨_, hS, rfl⟩, F.args_list_init_2 _ _, ?_⟩
  generalize hSS : s.heap.objs.size = S at *
  have up0 : ∀ b o, s.heap.get? b = some o → (s.heap.push { cls := .type "list", data := .seq #[] }).get? b = some o := fun b o e => Heap.get?_push_of_some _ e
  have old : ∀ b o, s.heap.get? b = some o → b ≠ S := fun b o e => by rw [← hSS]; exact Nat.ne_of_lt (Heap.lt_size e)
  generalize s.heap.push { cls := .type "list", data := .seq #[] } = h1 at *
  show wpAny _ A.in1.in1 (do let old ← Builtin.List.listItems (.ref S); Builtin.List.listUpdate (.ref S) (fun _ => #[]); letGo old.toList.reverse; Builtin.List.listExtendWith (.ref S) (.ref (N + as.length + 2)) .none) _ _ _
  refine wpAny_bind ?_
  unfold Builtin.List.listItems
  refine wpAny_bind (wpAny_seqItems (s := { s with heap := h1 }) hS rfl (wpAny_pure ?_))
  show wpAny _ A.in1.in1 (updateSeq S (fun _ => #[]) >>= fun _ => letGo (#[] : Array Value).toList.reverse >>= fun _ => Builtin.List.listExtendWith (.ref S) (.ref (N + as.length + 2)) .none) _ _ _
  refine wpAny_bind (wpAny_updateSeq (s := { s with heap := h1 }) hS rfl ?_)
  have hS2 := Heap.get?_update_self (Obj.mapSeq (fun _ => (#[] : Array Value))) hS rfl
  have up2 : ∀ b o, b ≠ S → h1.get? b = some o → (h1.update S (Obj.mapSeq (fun _ => (#[] : Array Value)))).get? b = some o := fun b o hb e => (Heap.get?_update_other _ _ (Ne.symm hb)).trans e
  refine wpAny_bind (wpAny_letGo ?_)
  have up3 : ∀ b o, s.heap.get? b = some o → (h1.update S (Obj.mapSeq (fun _ => (#[] : Array Value)))).get? b = some o := fun b o e => up2 b o (old b o e) (up0 b o e)
  generalize hh2 : h1.update S (Obj.mapSeq (fun _ => (#[] : Array Value))) = h2 at *
  have Z2 : ZAt N as 0 h2 := Z.keep fun c o _ _ e => up3 c o e
  have hT : Shared.TypeIs { s with heap := h2 } (.ref (N + as.length + 2)) "zip" := by obtain ⟨_, _, _, Z, _⟩ := Z2; exact ⟨_, Z.z, rfl⟩
  have hSI : S ≠ N + as.length + 2 := Nat.ne_of_gt lzz
  unfold Builtin.List.listExtendWith
  refine wpAny_bind (wpAny_typeOf hT ?_)
  have b1 : Builtin.List.listSameRef (.ref S) (.ref (N + as.length + 2)) = false := by simp [Builtin.List.listSameRef, hSI]
  have b2 : (Value.type "zip" == Value.type "list") = false := by decide
  have b3 : (Value.type "zip" == Value.type "tuple") = false := by decide
  simp only [b1, b2, b3, Bool.or_false, Bool.false_eq_true, if_false]
  obtain ⟨vs0, g0, g1, ZZ, _⟩ := id Z2
  refine wpAny_bind (pyIter_zipX (s := { s with heap := h2 }) ZZ.z ?_)
  refine wpAny_bind (wpAny_holding ?_)
  unfold Builtin.List.listLengthHint
  refine wpAny_bind (wpAny_specialOf hT zip_no_len ?_)
  show wpAny _ A.in1.in1 (specialOf (Value.ref (N + as.length + 2)) (Str.ofString "__length_hint__") >>= _) _ _ _
  refine wpAny_bind (wpAny_specialOf hT zip_no_hint ?_)
  refine wpAny_pure ?_
  show wpAny _ A.in1.in1 (rule "list.extend.makes-room" >>= fun _ => Builtin.List.listTouch (.ref S) >>= fun _ =>
    again (.builtin "list.extend.loop" ⟨[.ref S, .ref (N + as.length + 2), .none], []⟩)) _ _ _
  refine wpAny_bind (wpAny_rule ?_)
  refine wpAny_bind ?_
  show wpAny _ A.in1.in1 (updateSeq S (·.push .none) >>= fun _ => updateSeq S (·.pop)) _ _ _
  refine wpAny_bind (wpAny_updateSeq (s := { s with heap := h2 }) hS2 rfl ?_ (by seq_fits) (by seq_fits))
  have hS3 := Heap.get?_update_self (Obj.mapSeq (·.push Value.none)) hS2 rfl
  refine wpAny_updateSeq (hz := by seq_fits) hS3 rfl ?_
  have hS4 := Heap.get?_update_self (Obj.mapSeq (·.pop)) hS3 rfl
  have up4 : ∀ b o, b ≠ S → h2.get? b = some o → ((h2.update S (Obj.mapSeq (·.push Value.none))).update S (Obj.mapSeq (·.pop))).get? b = some o :=
    fun b o hb e => (Heap.get?_update_other _ _ (Ne.symm hb)).trans ((Heap.get?_update_other _ _ (Ne.symm hb)).trans e)
  refine wpAny_pure ⟨plainId_quiet F.plain_extend_loop _, extend_zipN (N := N) (as := as) (W := W) (yss := yss) (S := S) (A := A.in1) hh n0 nz hW ly lzz W 0 _ [] _ rfl (Nat.zero_le _) (Z2.keep fun c o h1 h2 e => up4 c o (Nat.ne_of_lt (Nat.lt_of_le_of_lt h2 lzz)) e) hS4 rfl ⟨fun j T e => by simp at e, List.nodup_nil⟩ (fun j a e => ?_) fun h' Ts c' hk' eS' lT lay => ?_⟩
  · obtain ⟨aN, items, hit, q2, q3⟩ := ha j a e
    exact ⟨aN, items, hit.at fun o q => up4 _ _ (old _ _ q) (up3 _ _ q), q2, q3⟩
  · exact ⟨rfl, hQ h' Ts c' (fun b o hb e => hk' b o hb (old b o e) (up4 b o (old b o e) (up3 b o e))) eS' lT lay⟩
end
theorem tup_inj {h : Heap} {a : Addr} {x y : Array Value} (h1 : h.IsTuple a x) (h2 : h.IsTuple a y) : x = y := by
  obtain ⟨o, e1, _, n, d1⟩ := h1
  obtain ⟨o', e2, _, n', d2⟩ := h2
  have eo : o = o' := Option.some.inj (e1.symm.trans e2)
  subst eo
  rw [d1] at d2
  cases d2
  rfl
def rowV (xss : List (List V)) (i : Nat) : List V := xss.map fun xs => xs.getD i .non
def tListZ (K : PySem.W.Frag) (ta : TA) : TE := fun σ H Q => ta σ H fun vs H1 => ∃ (as : List Addr) (xss : List (List V)) (W : Nat), vs = as.map V.ref ∧ 0 < as.length ∧ as.length ≤ 1000 ∧ xss.length = as.length ∧ W ≤ 100000 ∧ (∀ (j : Nat) (a : Addr) (xs : List V), as[j]? = some a → xss[j]? = some xs → SqT K H1 a xs ∧ xs.length = W) ∧
  ∀ (H' : Hp) (l : Addr) (ts : List Addr), Same H1 H' → H1 l = none → H' l = some (.lst (ts.map V.ref)) → ts.length = W → (∀ (i : Nat) (t : Addr), ts[i]? = some t → H1 t = none ∧ H' t = some (.tup (rowV xss i))) → Q (.ref l) H'
theorem pe_listZ (K : PySem.W.Frag) {X : Cx} {e : Expr} {es : List Expr} {ta : TA} {p p2 pos pos2 : Pos} (hc : X.calm = true) (hgl : Gl X "list") (hml : X.mg "list" = none) (hgz : Gl X "zip") (hmz : X.mg "zip" = none) (ha : PA X (e :: es) ta)
    (hs : starEach (e :: es) X.env = (false, eval e X.env) :: starEach es X.env := by rfl) (hpl : (backTo pos2 (starEach es X.env)).any (·.1) = false := by rfl)
    (na : starEach [.Call (.Name "zip" p2) (e :: es) [] pos2] X.env = (false, eval (.Call (.Name "zip" p2) (e :: es) [] pos2) X.env) :: starEach [] X.env := by rfl) (hK : X.K = K := by rfl) :
    PE X (.Call (.Name "list" p) [.Call (.Name "zip" p2) (e :: es) [] pos2] [] pos) (tListZ K ta) := by
  subst hK
  refine ⟨fun pins s σ H Q I h => ?_⟩
  refine Call_ (ld_blt I hgl hml PyProof.Rows.boot_list (PyProof.Rows.callWith_type1 (args_cons (Call_ (ld_blt I hgz hmz PyProof.Rows.boot_zip (PyProof.Rows.callWith_type1 (thn (ha.run pos2 pins s σ H _ I h) fun us s1 ⟨vs, H1, I1, r1, as, xss, W, ev, n0, n1, lx, hW, hx, q⟩ => ?_) hs hpl))) na) na))
  subst ev
  have eu := vals_refs r1
  subst eu
  have nz : as.length ≤ sizeLine := by rw [sizeLine_eq]; omega
  have src : ∀ (j : Nat) (a : Addr), as[j]? = some a → ∃ xs, xss[j]? = some xs ∧ SqT X.K H1 a xs ∧ xs.length = W := fun j a e => by
    have hj : j < xss.length := by have := at_len e; omega
    exact ⟨_, List.getElem?_eq_getElem hj, hx j a _ e (List.getElem?_eq_getElem hj)⟩
  have aN : ∀ a ∈ as, a < s1.heap.objs.size := fun a m => by
    obtain ⟨j, hj, rfl⟩ := List.mem_iff_getElem.mp m
    obtain ⟨xs, _, q1, _⟩ := src j _ (List.getElem?_eq_getElem hj)
    obtain ⟨js, _, p1, _⟩ := I1.tuple q1
    obtain ⟨_, o, _⟩ := p1
    exact Heap.lt_size o
  refine call_zipN n0 nz (fun a m => ?_) fun h2 Z hk => args_nil ?_
  · obtain ⟨j, hj, rfl⟩ := List.mem_iff_getElem.mp m
    obtain ⟨xs, _, q1, _⟩ := src j _ (List.getElem?_eq_getElem hj)
    obtain ⟨js, _, p1, _⟩ := I1.tuple q1
    exact ⟨js.toArray, p1⟩
  -- the rows
  have rows : ∀ i, ∃ ys : List Value, i < W → (Vals (rowV xss i) ys ∧ ∀ j u, ys[j]? = some u → ∀ a, as[j]? = some a → ∃ items : Array Value, s1.heap.IsTuple a items ∧ items[i]? = some u) := fun i => by
    by_cases hi : i < W
    · obtain ⟨ys, r, hy⟩ := vals_pick (R := fun j u => ∀ a, as[j]? = some a → ∃ items : Array Value, s1.heap.IsTuple a items ∧ items[i]? = some u) (zs := rowV xss i) fun j z e => by
        unfold rowV at e
        rw [List.getElem?_map] at e
        have hj : j < as.length := by
          rcases Nat.lt_or_ge j as.length with y | y
          · exact y
          · rw [List.getElem?_eq_none (by omega)] at e
            cases e
        obtain ⟨xs, ex, q1, l1⟩ := src j as[j] (List.getElem?_eq_getElem hj)
        rw [ex] at e
        have ez : xs.getD i .non = z := Option.some.inj e
        have ez2 : xs[i]? = some z := by
          rw [List.getElem?_eq_getElem (by omega), ← ez, List.getD_eq_getElem?_getD, List.getElem?_eq_getElem (by omega)]
          rfl
        obtain ⟨js, r2, p1, _⟩ := I1.tuple q1
        obtain ⟨u, f1, m1⟩ := r2.get ez2
        refine ⟨u, m1, fun a ea => ?_⟩
        have : as[j] = a := Option.some.inj ((List.getElem?_eq_getElem hj).symm.trans ea)
        subst this
        exact ⟨js.toArray, p1, by simpa using f1⟩
      exact ⟨ys, fun _ => ⟨r, hy⟩⟩
    · exact ⟨[], fun h => absurd h hi⟩
  obtain ⟨yss, hy⟩ := Classical.skolem.mp rows
  have lr : ∀ i, (rowV xss i).length = as.length := fun i => by unfold rowV; rw [List.length_map, lx]
  have ly : ∀ i, i < W → (yss i).length = as.length := fun i hi => by rw [← lr i]; exact (hy i hi).1.length.symm
  have I2 : Inv X pins σ H1 { s1 with heap := h2 } := I1.kept (t' := s1.toks) hk
  have lz2 : s1.heap.objs.size + as.length + 2 < h2.objs.size := by obtain ⟨_, _, _, Z, _⟩ := Z; exact Heap.lt_size Z.z
  refine call_list_zipN (s := { s1 with heap := h2 }) (yss := yss) (W := W) (I2.ok.hd hc) n0 nz hW ly Z (fun j a ea => ?_) fun h3 Ts c hk3 eS lT lay => ?_
  · obtain ⟨xs, ex, q1, l1⟩ := src j a ea
    obtain ⟨js, r2, p1, _⟩ := I1.tuple q1
    have lj := r2.length
    refine ⟨aN a (List.mem_of_getElem? ea), js.toArray, (show s1.heap.IsTuple a js.toArray from p1).at fun o e => hk _ _ e, by simp; omega, fun i hi => ?_⟩
    have hj : j < (yss i).length := by rw [ly i hi]; exact at_len ea
    obtain ⟨items, h1, h4⟩ := (hy i hi).2 j _ (List.getElem?_eq_getElem hj) a ea
    have : js.toArray = items := tup_inj p1 h1
    rw [this, h4, List.getElem?_eq_getElem hj]
  · have fr : ∀ y, s1.heap.objs.size ≤ y → H1 y = none → FpOk X pins H1 y := fun y hle hn => I1.fpOk hle hn
    have hf : ∀ b ∈ ownN s1.heap.objs.size as.length, FpOk X pins H1 b := fun b hb => by
      obtain ⟨k, hk, rfl⟩ := mem_ownN hb
      exact fr _ (Nat.le_add_right _ _) (I1.hok.fresh (Nat.le_add_right _ _))
    have I3 : Inv X pins σ H1 { s1 with heap := h3 } := Inv.turnedL (s := { s1 with heap := h2 }) (t' := s1.toks) (ch := ownN s1.heap.objs.size as.length) I2 (fun b o nb e => hk3 b o (out_ownN nb) e) hf
    have hS0 : s1.heap.objs.size ≤ h2.objs.size := by omega
    have hnS : H1 h2.objs.size = none := I1.hok.fresh hS0
    have I4 : Inv X pins σ (upd H1 h2.objs.size (.lst (Ts.map V.ref))) { s1 with heap := h3 } := by
      refine I3.take (h' := h3) (t' := s1.toks) (fun b ob _ e => e) (fr _ hS0 hnS) (show ObjOk X.prog X.w _ _ _ (.lst (Ts.map V.ref)) from ⟨?_, Ts.map Value.ref, c, vals_maps V.ref Value.ref Ts fun _ _ => rfl, eS⟩)
      rw [List.length_map, lT, sizeLine_eq]
      omega
    obtain ⟨H5, I5, g5, q5⟩ := L2.DX.takeT (P := fun b vs => ∃ i, Ts[i]? = some b ∧ vs = rowV xss i) I1 Ts _ I4 lay.n fun b hb => by
      obtain ⟨i, hi, rfl⟩ := List.mem_iff_getElem.mp hb
      have ei := List.getElem?_eq_getElem hi
      obtain ⟨l1, l2⟩ := lay.t i _ ei
      have hle : s1.heap.objs.size ≤ Ts[i] := Nat.le_of_lt (Nat.lt_of_le_of_lt hS0 l2)
      refine ⟨hle, ?_, rowV xss i, ⟨i, ei, rfl⟩, fun H6 => ⟨by rw [lr i]; exact nz, yss i, (hy i (by omega)).1, ⟨_, l1, rfl, 0, rfl⟩⟩⟩
      rw [upd_ne (Nat.ne_of_gt l2)]
      exact I1.hok.fresh hle
    refine ⟨.ref h2.objs.size, H5, I5, rfl, q H5 h2.objs.size Ts (fun b o e => g5 b o (by rw [upd_ne (ne_of_none e hnS)]; exact e)) hnS (g5 _ _ upd_same) lT fun i t et => ?_⟩
    obtain ⟨vs, ⟨i', ei', rfl⟩, hH⟩ := q5 t (List.mem_of_getElem? et)
    have eii : i = i' := (List.getElem?_inj (at_len et) lay.n).mp (et.trans ei'.symm)
    subst eii
    exact ⟨I1.hok.fresh (Nat.le_of_lt (Nat.lt_of_le_of_lt hS0 (lay.t i t et).2)), hH⟩
end Z

set_option Elab.async false
set_option linter.all false
set_option maxRecDepth 100000
set_option exponentiation.threshold 5000
namespace Z
open PySem PySem.Spec PyProof.Rows L2
def topS (i : Nat) : Stmt := PySem.Challenge.pw_fewcolours_k09_asked_by_turns.main.body.getD i (.Pass ⟨0, 0, 0, 0⟩)
abbrev s_apart : Stmt := topS 1
abbrev N_apart : List Str := ["one", "other", "a", "b"]
theorem sc_apart : FnScope N_apart ["one", "other"] (defScope s_apart) := ⟨rfl, rfl, rfl, by decide +kernel, rfl, by decide +kernel, by decide +kernel⟩
abbrev s_common_measure : Stmt := topS 3
abbrev N_common_measure : List Str := ["one", "other"]
theorem sc_common_measure : FnScope N_common_measure ["one", "other"] (defScope s_common_measure) := ⟨rfl, rfl, rfl, by decide +kernel, rfl, by decide +kernel, by decide +kernel⟩
abbrev s_part : Stmt := topS 4
abbrev N_part : List Str := ["top", "bottom", "measure"]
theorem sc_part : FnScope N_part ["top", "bottom"] (defScope s_part) := ⟨rfl, rfl, rfl, by decide +kernel, rfl, by decide +kernel, by decide +kernel⟩
abbrev s_plus : Stmt := topS 5
abbrev N_plus : List Str := ["one", "other"]
theorem sc_plus : FnScope N_plus ["one", "other"] (defScope s_plus) := ⟨rfl, rfl, rfl, by decide +kernel, rfl, by decide +kernel, by decide +kernel⟩
abbrev s_sum_of : Stmt := topS 6
abbrev N_sum_of : List Str := ["fractions", "total", "fraction"]
theorem sc_sum_of : FnScope N_sum_of ["fractions"] (defScope s_sum_of) := ⟨rfl, rfl, rfl, by decide +kernel, rfl, by decide +kernel, by decide +kernel⟩
abbrev s_times : Stmt := topS 7
abbrev N_times : List Str := ["one", "other"]
theorem sc_times : FnScope N_times ["one", "other"] (defScope s_times) := ⟨rfl, rfl, rfl, by decide +kernel, rfl, by decide +kernel, by decide +kernel⟩
abbrev s_count_of : Stmt := topS 9
abbrev N_count_of : List Str := ["rows", "colour", "count"]
theorem sc_count_of : FnScope N_count_of ["rows"] (defScope s_count_of) := ⟨rfl, rfl, rfl, by decide +kernel, rfl, by decide +kernel, by decide +kernel⟩
abbrev s_weighed_sum : Stmt := topS 10
abbrev N_weighed_sum : List Str := ["rows", "place", "colour", "count"]
theorem sc_weighed_sum : FnScope N_weighed_sum ["rows", "place"] (defScope s_weighed_sum) := ⟨rfl, rfl, rfl, by decide +kernel, rfl, by decide +kernel, by decide +kernel⟩
abbrev s_middle_of : Stmt := topS 11
abbrev N_middle_of : List Str := ["rows", "total", "wide", "place"]
theorem sc_middle_of : FnScope N_middle_of ["rows"] (defScope s_middle_of) := ⟨rfl, rfl, rfl, by decide +kernel, rfl, by decide +kernel, by decide +kernel⟩
abbrev s_far_of : Stmt := topS 12
abbrev N_far_of : List Str := ["colour", "middle", "square", "number", "top", "bottom", "gap"]
theorem sc_far_of : FnScope N_far_of ["colour", "middle"] (defScope s_far_of) := ⟨rfl, rfl, rfl, by decide +kernel, rfl, by decide +kernel, by decide +kernel⟩
abbrev s_far_sum : Stmt := topS 13
abbrev N_far_sum : List Str := ["rows", "middle", "colour", "count"]
theorem sc_far_sum : FnScope N_far_sum ["rows", "middle"] (defScope s_far_sum) := ⟨rfl, rfl, rfl, by decide +kernel, rfl, by decide +kernel, by decide +kernel⟩
abbrev s_spread_of : Stmt := topS 14
abbrev N_spread_of : List Str := ["rows"]
theorem sc_spread_of : FnScope N_spread_of ["rows"] (defScope s_spread_of) := ⟨rfl, rfl, rfl, by decide +kernel, rfl, by decide +kernel, by decide +kernel⟩
abbrev s_least_numbers : Stmt := topS 16
abbrev N_least_numbers : List Str := ["colours", "numbers"]
theorem sc_least_numbers : FnScope N_least_numbers ["colours"] (defScope s_least_numbers) := ⟨rfl, rfl, rfl, by decide +kernel, rfl, by decide +kernel, by decide +kernel⟩
abbrev s_greatest_numbers : Stmt := topS 17
abbrev N_greatest_numbers : List Str := ["colours", "numbers"]
theorem sc_greatest_numbers : FnScope N_greatest_numbers ["colours"] (defScope s_greatest_numbers) := ⟨rfl, rfl, rfl, by decide +kernel, rfl, by decide +kernel, by decide +kernel⟩
abbrev s_box_of : Stmt := topS 18
abbrev N_box_of : List Str := ["colours"]
theorem sc_box_of : FnScope N_box_of ["colours"] (defScope s_box_of) := ⟨rfl, rfl, rfl, by decide +kernel, rfl, by decide +kernel, by decide +kernel⟩
abbrev s_near_box : Stmt := topS 19
abbrev N_near_box : List Str := ["colour", "box", "low", "high", "closest", "a", "n", "b"]
theorem sc_near_box : FnScope N_near_box ["colour", "box"] (defScope s_near_box) := ⟨rfl, rfl, rfl, by decide +kernel, rfl, by decide +kernel, by decide +kernel⟩
abbrev s_far_box : Stmt := topS 20
abbrev N_far_box : List Str := ["colour", "box", "low", "high", "corner", "a", "n", "b"]
theorem sc_far_box : FnScope N_far_box ["colour", "box"] (defScope s_far_box) := ⟨rfl, rfl, rfl, by decide +kernel, rfl, by decide +kernel, by decide +kernel⟩
abbrev s_l_mix : Stmt := topS 22
abbrev N_l_mix : List Str := ["_law_cell", "_law_k", "_law_m"]
theorem sc_l_mix : FnScope N_l_mix ["_law_cell", "_law_k"] (defScope s_l_mix) := ⟨rfl, rfl, rfl, by decide +kernel, rfl, by decide +kernel, by decide +kernel⟩
abbrev s_l_left : Stmt := topS 23
abbrev N_l_left : List Str := ["_law_script", "_law_k", "_law_cell"]
theorem sc_l_left : FnScope N_l_left ["_law_script", "_law_k"] (defScope s_l_left) := ⟨rfl, rfl, rfl, by decide +kernel, rfl, by decide +kernel, by decide +kernel⟩
abbrev s_l_pick : Stmt := topS 24
abbrev N_l_pick : List Str := ["_law_left_here", "_law_many", "_law_digit"]
theorem sc_l_pick : FnScope N_l_pick ["_law_left_here", "_law_many"] (defScope s_l_pick) := ⟨rfl, rfl, rfl, by decide +kernel, rfl, by decide +kernel, by decide +kernel⟩
abbrev s_l_kind : Stmt := topS 25
abbrev N_l_kind : List Str := ["_law_left_here"]
theorem sc_l_kind : FnScope N_l_kind ["_law_left_here"] (defScope s_l_kind) := ⟨rfl, rfl, rfl, by decide +kernel, rfl, by decide +kernel, by decide +kernel⟩
abbrev s_l_colour : Stmt := topS 26
abbrev N_l_colour : List Str := ["_law_left_here", "_law_kind_here", "_law_wide", "_law_span", "_law_place"]
theorem sc_l_colour : FnScope N_l_colour ["_law_left_here", "_law_kind_here"] (defScope s_l_colour) := ⟨rfl, rfl, rfl, by decide +kernel, rfl, by decide +kernel, by decide +kernel⟩
abbrev s_l_asked : Stmt := topS 27
abbrev N_l_asked : List Str := ["_law_left_here", "_law_kind_here", "_law_palette", "_law_one", "_law_other", "_law_way", "_law_number", "_law_a", "_law_b", "_law_place"]
theorem sc_l_asked : FnScope N_l_asked ["_law_left_here", "_law_kind_here", "_law_palette"] (defScope s_l_asked) := ⟨rfl, rfl, rfl, by decide +kernel, rfl, by decide +kernel, by decide +kernel⟩
abbrev s_l_rows : Stmt := topS 28
abbrev N_l_rows : List Str := ["_law_left_here", "_law_kind_here", "_law_most", "_law_counts", "_law_k", "_law_some"]
theorem sc_l_rows : FnScope N_l_rows ["_law_left_here", "_law_kind_here", "_law_most"] (defScope s_l_rows) := ⟨rfl, rfl, rfl, by decide +kernel, rfl, by decide +kernel, by decide +kernel⟩
abbrev s_l_part : Stmt := topS 29
abbrev N_l_part : List Str := ["_law_top", "_law_bottom", "_law_one", "_law_other", "_law_sign"]
theorem sc_l_part : FnScope N_l_part ["_law_top", "_law_bottom"] (defScope s_l_part) := ⟨rfl, rfl, rfl, by decide +kernel, rfl, by decide +kernel, by decide +kernel⟩
abbrev s_l_plus : Stmt := topS 30
abbrev N_l_plus : List Str := ["_law_one", "_law_other"]
theorem sc_l_plus : FnScope N_l_plus ["_law_one", "_law_other"] (defScope s_l_plus) := ⟨rfl, rfl, rfl, by decide +kernel, rfl, by decide +kernel, by decide +kernel⟩
abbrev s_l_spread : Stmt := topS 31
abbrev N_l_spread : List Str := ["_law_rows_here", "_law_many", "_law_total", "_law_place", "_law_sums", "_law_squares", "_law_colour_here", "_law_count"]
theorem sc_l_spread : FnScope N_l_spread ["_law_rows_here"] (defScope s_l_spread) := ⟨rfl, rfl, rfl, by decide +kernel, rfl, by decide +kernel, by decide +kernel⟩
abbrev s_l_same : Stmt := topS 32
abbrev N_l_same : List Str := ["_law_found", "_law_due", "_law_one", "_law_other"]
theorem sc_l_same : FnScope N_l_same ["_law_found", "_law_due"] (defScope s_l_same) := ⟨rfl, rfl, rfl, by decide +kernel, rfl, by decide +kernel, by decide +kernel⟩
abbrev s_l_answers : Stmt := topS 33
abbrev N_l_answers : List Str := ["_law_rows_here", "_law_colour_here", "_law_box", "_law_middle", "_law_found", "_law_one", "_law_count"]
theorem sc_l_answers : FnScope N_l_answers ["_law_rows_here", "_law_colour_here"] (defScope s_l_answers) := ⟨rfl, rfl, rfl, by decide +kernel, rfl, by decide +kernel, by decide +kernel⟩
abbrev s_l_one_answer : Stmt := topS 34
abbrev N_l_one_answer : List Str := ["_law_rows_here", "_law_colour_here", "_law_first", "_law_which", "_law_one", "_law_count"]
theorem sc_l_one_answer : FnScope N_l_one_answer ["_law_rows_here", "_law_colour_here", "_law_first", "_law_which"] (defScope s_l_one_answer) := ⟨rfl, rfl, rfl, by decide +kernel, rfl, by decide +kernel, by decide +kernel⟩
abbrev s_law : Stmt := topS 35
abbrev N_law : List Str := ["_law_script", "_law_k", "_law_left_here", "_law_some", "_law_turn", "_law_kind_here", "_law_rows_here", "_law_colour_here", "_law_handed", "_law_first", "_law_which", "_law_one", "_law_count"]
theorem sc_law : FnScope N_law ["_law_script"] (defScope s_law) := ⟨rfl, rfl, rfl, by decide +kernel, rfl, by decide +kernel, by decide +kernel⟩
structure Tx (K : PySem.W.Frag) (mg : Str → Option Value) where
  f_apart : Addr
  d_apart : FuncData
  F_apart : Fun K "apart" "apart" s_apart f_apart d_apart
  b_apart : Binds K d_apart ["one", "other"] []
  g_apart : mg "apart" = some (.ref f_apart)
  f_common_measure : Addr
  d_common_measure : FuncData
  F_common_measure : Fun K "common_measure" "common_measure" s_common_measure f_common_measure d_common_measure
  b_common_measure : Binds K d_common_measure ["one", "other"] []
  g_common_measure : mg "common_measure" = some (.ref f_common_measure)
  f_part : Addr
  d_part : FuncData
  F_part : Fun K "part" "part" s_part f_part d_part
  b_part : Binds K d_part ["top", "bottom"] []
  g_part : mg "part" = some (.ref f_part)
  f_plus : Addr
  d_plus : FuncData
  F_plus : Fun K "plus" "plus" s_plus f_plus d_plus
  b_plus : Binds K d_plus ["one", "other"] []
  g_plus : mg "plus" = some (.ref f_plus)
  f_sum_of : Addr
  d_sum_of : FuncData
  F_sum_of : Fun K "sum_of" "sum_of" s_sum_of f_sum_of d_sum_of
  b_sum_of : Binds K d_sum_of ["fractions"] []
  g_sum_of : mg "sum_of" = some (.ref f_sum_of)
  f_times : Addr
  d_times : FuncData
  F_times : Fun K "times" "times" s_times f_times d_times
  b_times : Binds K d_times ["one", "other"] []
  g_times : mg "times" = some (.ref f_times)
  f_count_of : Addr
  d_count_of : FuncData
  F_count_of : Fun K "count_of" "count_of" s_count_of f_count_of d_count_of
  b_count_of : Binds K d_count_of ["rows"] []
  g_count_of : mg "count_of" = some (.ref f_count_of)
  f_weighed_sum : Addr
  d_weighed_sum : FuncData
  F_weighed_sum : Fun K "weighed_sum" "weighed_sum" s_weighed_sum f_weighed_sum d_weighed_sum
  b_weighed_sum : Binds K d_weighed_sum ["rows", "place"] []
  g_weighed_sum : mg "weighed_sum" = some (.ref f_weighed_sum)
  f_middle_of : Addr
  d_middle_of : FuncData
  F_middle_of : Fun K "middle_of" "middle_of" s_middle_of f_middle_of d_middle_of
  b_middle_of : Binds K d_middle_of ["rows"] []
  g_middle_of : mg "middle_of" = some (.ref f_middle_of)
  f_far_of : Addr
  d_far_of : FuncData
  F_far_of : Fun K "far_of" "far_of" s_far_of f_far_of d_far_of
  b_far_of : Binds K d_far_of ["colour", "middle"] []
  g_far_of : mg "far_of" = some (.ref f_far_of)
  f_far_sum : Addr
  d_far_sum : FuncData
  F_far_sum : Fun K "far_sum" "far_sum" s_far_sum f_far_sum d_far_sum
  b_far_sum : Binds K d_far_sum ["rows", "middle"] []
  g_far_sum : mg "far_sum" = some (.ref f_far_sum)
  f_spread_of : Addr
  d_spread_of : FuncData
  F_spread_of : Fun K "spread_of" "spread_of" s_spread_of f_spread_of d_spread_of
  b_spread_of : Binds K d_spread_of ["rows"] []
  g_spread_of : mg "spread_of" = some (.ref f_spread_of)
  f_least_numbers : Addr
  d_least_numbers : FuncData
  F_least_numbers : Fun K "least_numbers" "least_numbers" s_least_numbers f_least_numbers d_least_numbers
  b_least_numbers : Binds K d_least_numbers ["colours"] []
  g_least_numbers : mg "least_numbers" = some (.ref f_least_numbers)
  f_greatest_numbers : Addr
  d_greatest_numbers : FuncData
  F_greatest_numbers : Fun K "greatest_numbers" "greatest_numbers" s_greatest_numbers f_greatest_numbers d_greatest_numbers
  b_greatest_numbers : Binds K d_greatest_numbers ["colours"] []
  g_greatest_numbers : mg "greatest_numbers" = some (.ref f_greatest_numbers)
  f_box_of : Addr
  d_box_of : FuncData
  F_box_of : Fun K "box_of" "box_of" s_box_of f_box_of d_box_of
  b_box_of : Binds K d_box_of ["colours"] []
  g_box_of : mg "box_of" = some (.ref f_box_of)
  f_near_box : Addr
  d_near_box : FuncData
  F_near_box : Fun K "near_box" "near_box" s_near_box f_near_box d_near_box
  b_near_box : Binds K d_near_box ["colour", "box"] []
  g_near_box : mg "near_box" = some (.ref f_near_box)
  f_far_box : Addr
  d_far_box : FuncData
  F_far_box : Fun K "far_box" "far_box" s_far_box f_far_box d_far_box
  b_far_box : Binds K d_far_box ["colour", "box"] []
  g_far_box : mg "far_box" = some (.ref f_far_box)
  f_l_mix : Addr
  d_l_mix : FuncData
  F_l_mix : Fun K "_law_mix" "_law_mix" s_l_mix f_l_mix d_l_mix
  b_l_mix : Binds K d_l_mix ["_law_cell", "_law_k"] []
  g_l_mix : mg "_law_mix" = some (.ref f_l_mix)
  f_l_left : Addr
  d_l_left : FuncData
  F_l_left : Fun K "_law_left" "_law_left" s_l_left f_l_left d_l_left
  b_l_left : Binds K d_l_left ["_law_script", "_law_k"] []
  g_l_left : mg "_law_left" = some (.ref f_l_left)
  f_l_pick : Addr
  d_l_pick : FuncData
  F_l_pick : Fun K "_law_pick" "_law_pick" s_l_pick f_l_pick d_l_pick
  b_l_pick : Binds K d_l_pick ["_law_left_here", "_law_many"] []
  g_l_pick : mg "_law_pick" = some (.ref f_l_pick)
  f_l_kind : Addr
  d_l_kind : FuncData
  F_l_kind : Fun K "_law_kind" "_law_kind" s_l_kind f_l_kind d_l_kind
  b_l_kind : Binds K d_l_kind ["_law_left_here"] []
  g_l_kind : mg "_law_kind" = some (.ref f_l_kind)
  f_l_colour : Addr
  d_l_colour : FuncData
  F_l_colour : Fun K "_law_colour" "_law_colour" s_l_colour f_l_colour d_l_colour
  b_l_colour : Binds K d_l_colour ["_law_left_here", "_law_kind_here"] []
  g_l_colour : mg "_law_colour" = some (.ref f_l_colour)
  f_l_asked : Addr
  d_l_asked : FuncData
  F_l_asked : Fun K "_law_asked" "_law_asked" s_l_asked f_l_asked d_l_asked
  b_l_asked : Binds K d_l_asked ["_law_left_here", "_law_kind_here", "_law_palette"] []
  g_l_asked : mg "_law_asked" = some (.ref f_l_asked)
  f_l_rows : Addr
  d_l_rows : FuncData
  F_l_rows : Fun K "_law_rows" "_law_rows" s_l_rows f_l_rows d_l_rows
  b_l_rows : Binds K d_l_rows ["_law_left_here", "_law_kind_here", "_law_most"] []
  g_l_rows : mg "_law_rows" = some (.ref f_l_rows)
  f_l_part : Addr
  d_l_part : FuncData
  F_l_part : Fun K "_law_part" "_law_part" s_l_part f_l_part d_l_part
  b_l_part : Binds K d_l_part ["_law_top", "_law_bottom"] []
  g_l_part : mg "_law_part" = some (.ref f_l_part)
  f_l_plus : Addr
  d_l_plus : FuncData
  F_l_plus : Fun K "_law_plus" "_law_plus" s_l_plus f_l_plus d_l_plus
  b_l_plus : Binds K d_l_plus ["_law_one", "_law_other"] []
  g_l_plus : mg "_law_plus" = some (.ref f_l_plus)
  f_l_spread : Addr
  d_l_spread : FuncData
  F_l_spread : Fun K "_law_spread" "_law_spread" s_l_spread f_l_spread d_l_spread
  b_l_spread : Binds K d_l_spread ["_law_rows_here"] []
  g_l_spread : mg "_law_spread" = some (.ref f_l_spread)
  f_l_same : Addr
  d_l_same : FuncData
  F_l_same : Fun K "_law_same" "_law_same" s_l_same f_l_same d_l_same
  b_l_same : Binds K d_l_same ["_law_found", "_law_due"] []
  g_l_same : mg "_law_same" = some (.ref f_l_same)
  f_l_answers : Addr
  d_l_answers : FuncData
  F_l_answers : Fun K "_law_answers" "_law_answers" s_l_answers f_l_answers d_l_answers
  b_l_answers : Binds K d_l_answers ["_law_rows_here", "_law_colour_here"] []
  g_l_answers : mg "_law_answers" = some (.ref f_l_answers)
  f_l_one_answer : Addr
  d_l_one_answer : FuncData
  F_l_one_answer : Fun K "_law_one_answer" "_law_one_answer" s_l_one_answer f_l_one_answer d_l_one_answer
  b_l_one_answer : Binds K d_l_one_answer ["_law_rows_here", "_law_colour_here", "_law_first", "_law_which"] []
  g_l_one_answer : mg "_law_one_answer" = some (.ref f_l_one_answer)
  z_abs : mg "abs" = none
  z_all : mg "all" = none
  z_bool : mg "bool" = none
  z_int : mg "int" = none
  z_isinstance : mg "isinstance" = none
  z_len : mg "len" = none
  z_list : mg "list" = none
  z_max : mg "max" = none
  z_min : mg "min" = none
  z_range : mg "range" = none
  z_sorted : mg "sorted" = none
  z_str : mg "str" = none
  z_sum : mg "sum" = none
  z_tuple : mg "tuple" = none
  z_zip : mg "zip" = none
section
variable {P : Program} {w : World} {K : PySem.W.Frag} {mg : Str → Option Value} {base : Heap}
/-! ### mix -/
def spMix : Sp := fun vs H Q _ => ∃ c n : Int, vs = [.int c, .int n] ∧ 0 ≤ n ∧ n < 2000000000 ∧ ∀ r : Int, 0 ≤ r → r < 1999999973 → Q (.int r) H
theorem ok_l_mix (T : Tx K mg) {k : Nat} : FnOk P w K mg base CX0 (k + 1) T.f_l_mix T.d_l_mix ["_law_cell", "_law_k"] spMix := by
  refine T.F_l_mix.ok sc_l_mix (fun vs H Q E h => ?_) (fun cdv A outer s H vs Q E hr h => ?_)
  · obtain ⟨c, n, rfl, _⟩ := h
    rfl
  · obtain ⟨c, n, rfl, h1, h2, q⟩ := h
    refine ⟨_, (pss_cons (ps_set (i := 2) sc_l_mix.nd rfl (.inl rfl) (pe_op op_mod (pe_op op_mul (pe_op op_add (pe_op op_add (pe_op op_mod (pv 0) pe_int) (pe_op op_mul (pe_op op_mul (pv 1) (pv 1)) pe_int)) pe_int) pe_int) pe_int))
      (pss_one (ps_ret (pe_op op_mod (pe_op op_mul (pv 2) (pv 2)) pe_int)))), ?_⟩
    refine ⟨.int c, rfl, _, _, rfl, rfl, md (by decide), .int n, rfl, .int n, rfl, _, _, rfl, rfl, .inl ⟨by omega, by omega⟩, _, _, rfl, rfl, .inr ⟨by decide, by decide⟩, _, _, rfl, rfl, _, _, rfl, rfl, _, _, rfl, rfl, .inr ⟨by decide, by decide⟩, _, _, rfl, rfl, md (by decide), ?_⟩
    refine ⟨_, rfl, _, rfl, _, _, rfl, rfl, .inl ⟨?_, ?_⟩, _, _, rfl, rfl, md (by decide), ?_⟩
    · omega
    · omega
    · exact q _ (Int.emod_nonneg _ (by decide)) (Int.emod_lt_of_pos _ (by decide))
/-! ### left -/
def spLeft (K : PySem.W.Frag) : Sp := fun vs H Q _ => ∃ (a : Addr) (ns : List Int) (n : Int), vs = [.ref a, .int n] ∧ SqL K H a (ns.map V.int) ∧ 0 ≤ n ∧ ∀ (p : Addr) (x y : Int), H p = none → 0 ≤ x → Q (.ref p) (upd H p (.lst [.int x, .int y, .int 0]))
theorem left_end {c n : Int} {H : Hp} {Q : VK} (q : ∀ (p : Addr) (x y : Int), H p = none → 0 ≤ x → Q (.ref p) (upd H p (.lst [.int x, .int y, .int 0]))) (p : Addr) (hp : H p = none) (b : Bool) :
    Q (.ref p) (upd H p (.lst [.int ((if c < 0 then -c else c) * (if b = true then 1 else 0)), .int (c + 1000003 * n), .int 0])) := by
  refine q p _ _ hp ?_
  cases b <;> simp <;> split <;> omega
theorem ok_l_left (T : Tx K mg) {k : Nat} : FnOk P w K mg base CX0 (k + 1) T.f_l_left T.d_l_left ["_law_script", "_law_k"] (spLeft K) := by
  refine T.F_l_left.ok sc_l_left (fun vs H Q E h => ?_) (fun cdv A outer s H vs Q E hr h => ?_)
  · obtain ⟨a, ns, n, rfl, _⟩ := h
    rfl
  · obtain ⟨a, ns, n, rfl, hS, h1, q⟩ := h
    refine ⟨_, (pss_cons (ps_set (i := 2) sc_l_left.nd rfl (.inl rfl) (pe_ifExp (pt_cmpR op_lt (pv 1) (pe_callB (len_K K) (by rfl) T.z_len PySem.boot_len (pa_cons (pv 0) pa_nil)) (nomark _)) (pe_ix (ix_listK K) (pv 0) (pv 1) (fun _ _ => rfl)) pe_int))
      (pss_one (ps_ret (pe_lst (pa_cons (pe_op op_mul (pe_callB call_abs (by rfl) T.z_abs (by decide +kernel) (pa_cons (pv 2) pa_nil)) (pe_callTy call_int1 (by rfl) T.z_int (by decide +kernel) (pa_cons (pe_cmpR op_ge (pe_callB call_abs (by rfl) T.z_abs (by decide +kernel) (pa_cons (pv 2) pa_nil)) (pe_op op_pow pe_int pe_int) (nomark _)) pa_nil))) (pa_cons (pe_op op_add (pv 2) (pe_op op_mul pe_int (pv 1))) (pa_cons pe_int pa_nil))))))), ?_⟩
    refine ⟨_, rfl, _, rfl, a, _, rfl, .inl hS, _, _, rfl, rfl, _, rfl, ite2 (fun e => ?_) (fun e => ?_)⟩
    · have e1 : n < (ns.map V.int).length := of_decide_eq_true e
      rw [List.length_map] at e1
      have g : atI (ns.map V.int) n = some (.int (ns[n.toNat]'(by omega))) := at0 h1 (by rw [List.getElem?_map, List.getElem?_eq_getElem]; rfl)
      refine ⟨_, rfl, _, rfl, a, _, _, _, rfl, rfl, hS, g, ?_⟩
      exact ⟨_, rfl, _, rfl, _, rfl, _, rfl, _, _, rfl, rfl, ⟨by decide, by decide, by decide⟩, _, _, rfl, rfl, .inr ⟨_, rfl, _, _, rfl, rfl, .inr (bit_ok _), _, rfl, _, rfl, _, _, rfl, rfl, .inl ⟨by decide, by decide⟩, _, _, rfl, rfl, (by show 3 ≤ sizeLine; decide), fun p hp => left_end q p hp _⟩⟩
    · exact ⟨_, rfl, _, rfl, _, rfl, _, rfl, _, _, rfl, rfl, ⟨by decide, by decide, by decide⟩, _, _, rfl, rfl, .inr ⟨_, rfl, _, _, rfl, rfl, .inr (bit_ok _), _, rfl, _, rfl, _, _, rfl, rfl, .inl ⟨by decide, by decide⟩, _, _, rfl, rfl, (by show 3 ≤ sizeLine; decide), fun p hp => left_end q p hp _⟩⟩
/-! ### pick -/
def spPick : Sp := fun vs H Q _ => ∃ (L : Addr) (m : Int) (n : Nat), vs = [.ref L, .int m] ∧ Lf L H n ∧ n < 1000000000 ∧ 0 < m ∧ m < 1073741824 ∧ ∀ (r : Int) (H' : Hp), Go [L] H H' → Lf L H' (n + 1) → 0 ≤ r → r < m → Q (.int r) H'
theorem ok_l_pick (T : Tx K mg) {k : Nat} : FnOk P w K mg base CX0 (k + 2) T.f_l_pick T.d_l_pick ["_law_left_here", "_law_many"] spPick := by
  refine T.F_l_pick.ok sc_l_pick (fun vs H Q E h => ?_) (fun cdv A outer s H vs Q E hr h => ?_)
  · obtain ⟨L, m, n, rfl, _⟩ := h
    rfl
  · obtain ⟨L, m, n, rfl, ⟨a, b, c, hL, a0, c0, cn⟩, hn, m0, m1, q⟩ := h
    refine ⟨_, (pss_cons (ps_asg (pe_op op_add (pe_ix (ix_listK K) (pv 0) pe_int (fun _ _ => rfl)) pe_int) (pg_sub (pv 0) pe_int set_list))
      (pss_cons (ps_if (pt_cmpR op_gt (pe_ix (ix_listK K) (pv 0) pe_int (fun _ _ => rfl)) pe_int (nomark _)) (pss_cons (ps_set (i := 2) sc_l_pick.nd rfl (.inl rfl) (pe_op op_mod (pe_ix (ix_listK K) (pv 0) pe_int (fun _ _ => rfl)) (pv 1)))
      (pss_cons (ps_asg (pe_op op_fdiv (pe_ix (ix_listK K) (pv 0) pe_int (fun _ _ => rfl)) (pv 1)) (pg_sub (pv 0) pe_int set_list))
      (pss_one (ps_ret (pv 2))))) pss_nil)
      (pss_one (ps_ret (pe_op op_mod (pe_op op_fdiv (pe_call (ok_l_mix T (k := k)) hr (by rfl) T.g_l_mix T.F_l_mix.kp T.b_l_mix .nil pass0 (pa_cons (pe_call (ok_l_mix T (k := k)) hr (by rfl) T.g_l_mix T.F_l_mix.kp T.b_l_mix .nil pass0 (pa_cons (pe_ix (ix_listK K) (pv 0) pe_int (fun _ _ => rfl)) (pa_cons (pe_ix (ix_listK K) (pv 0) pe_int (fun _ _ => rfl)) pa_nil))) (pa_cons (pe_op op_add (pe_ix (ix_listK K) (pv 0) pe_int (fun _ _ => rfl)) pe_int) pa_nil))) pe_int) (pv 1)))))), ?_⟩
    refine ⟨_, rfl, L, _, 2, .int c, rfl, rfl, SqL.of hL, rfl, _, _, rfl, rfl, _, rfl, L, _, _, 2, rfl, rfl, hL, rfl, ?_⟩
    generalize hH : upd H L (.lst (List.set [V.int a, V.int b, V.int c] 2 (V.int (c + 1)))) = H1
    have hL1 : H1 L = some (.lst [.int a, .int b, .int (c + 1)]) := by rw [← hH]; exact upd_same
    have g1 : Go [L] H H1 := by rw [← hH]; exact Go.refl.at (List.mem_singleton.mpr rfl)
    refine ⟨_, rfl, L, _, 0, .int a, rfl, rfl, SqL.of hL1, rfl, _, _, rfl, rfl, _, rfl, ite2 (fun e => ?_) (fun e => ?_)⟩
    · have e1 : 0 < a := of_decide_eq_true e
      refine ⟨_, rfl, L, _, 0, .int a, rfl, rfl, SqL.of hL1, rfl, _, rfl, _, _, rfl, rfl, md m0, ?_⟩
      refine ⟨_, rfl, L, _, 0, .int a, rfl, rfl, SqL.of hL1, rfl, _, rfl, _, _, rfl, rfl, ⟨m0, m1⟩, _, rfl, L, _, _, 0, rfl, rfl, hL1, rfl, ?_⟩
      refine ⟨_, rfl, ?_⟩
      exact q _ _ (g1.at (List.mem_singleton.mpr rfl)) ⟨a / m, b, c + 1, upd_same, Int.ediv_nonneg a0 (by omega), by omega, by omega⟩ (Int.emod_nonneg _ (by omega)) (Int.emod_lt_of_pos _ m0)
    · refine ⟨_, rfl, L, _, 1, .int b, rfl, rfl, SqL.of hL1, rfl, _, rfl, L, _, 2, .int (c + 1), rfl, rfl, SqL.of hL1, rfl, _, _, rfl, by omega, by omega, fun r1 _ _ => ?_⟩
      refine ⟨_, rfl, L, _, 2, .int (c + 1), rfl, rfl, SqL.of hL1, rfl, _, _, rfl, rfl, _, _, rfl, by omega, by omega, fun r2 _ _ => ?_⟩
      refine ⟨_, _, rfl, rfl, ⟨by decide, by decide⟩, _, rfl, _, _, rfl, rfl, md m0, ?_⟩
      exact q _ _ g1 ⟨a, b, c + 1, hL1, a0, by omega, by omega⟩ (Int.emod_nonneg _ (by omega)) (Int.emod_lt_of_pos _ m0)
/-! ### kind -/
def spKind : Sp := fun vs H Q _ => ∃ (L : Addr) (n : Nat), vs = [.ref L] ∧ Lf L H n ∧ n < 100000000 ∧ ∀ (v : V) (H' : Hp) (wd sp : Int), Go [L] H H' → Lf L H' (n + 2) → 1 ≤ wd → wd ≤ 5 → 3 ≤ sp → sp ≤ 1000 → Dt [L] H' v (eC [wd, sp]) → Q v H'
theorem ok_l_kind (T : Tx K mg) {k : Nat} : FnOk P w K mg base CX0 (k + 3) T.f_l_kind T.d_l_kind ["_law_left_here"] spKind := by
  refine T.F_l_kind.ok sc_l_kind (fun vs H Q E h => ?_) (fun cdv A outer s H vs Q E hr h => ?_)
  · obtain ⟨L, n, rfl, _⟩ := h
    rfl
  · obtain ⟨L, n, rfl, hL, hn, q⟩ := h
    refine ⟨_, (pss_one (ps_ret (pe_tup (pa_cons (pe_ix (ix_listK K) (pe_lst (pa_cons pe_int (pa_cons pe_int (pa_cons pe_int (pa_cons pe_int (pa_cons pe_int (pa_cons pe_int (pa_cons pe_int (pa_cons pe_int pa_nil))))))))) (pe_call (ok_l_pick T (k := k)) hr (by rfl) T.g_l_pick T.F_l_pick.kp T.b_l_pick .nil pass0 (pa_cons (pv 0) (pa_cons pe_int pa_nil))) (fun _ _ => rfl)) (pa_cons (pe_ix (ix_listK K) (pe_lst (pa_cons pe_int (pa_cons pe_int (pa_cons pe_int (pa_cons pe_int (pa_cons pe_int (pa_cons pe_int pa_nil))))))) (pe_call (ok_l_pick T (k := k)) hr (by rfl) T.g_l_pick T.F_l_pick.kp T.b_l_pick .nil pass0 (pa_cons (pv 0) (pa_cons pe_int pa_nil))) (fun _ _ => rfl)) pa_nil))))), ?_⟩
    refine ⟨(by show 8 ≤ sizeLine; decide), fun p hp => ?_⟩
    refine ⟨_, rfl, L, 8, n, rfl, hL.new hp, by omega, by decide, by decide, fun r1 H1 g1 l1 a1 b1 => ?_⟩
    have e1 : H1 p = some (.lst ([1, 2, 3, 3, 3, 4, 5, 2].map V.int)) := g1.k p _ (hL.bk.ne hp) upd_same
    obtain ⟨wd, mw, ew⟩ := at_int (ns := [1, 2, 3, 3, 3, 4, 5, 2]) a1 b1
    refine ⟨p, _, r1, .int wd, rfl, rfl, SqL.of e1, ew, (by show 6 ≤ sizeLine; decide), fun p2 hp2 => ?_⟩
    refine ⟨_, rfl, L, 6, n + 1, rfl, l1.new hp2, by omega, by decide, by decide, fun r2 H2 g2 l2 a2 b2 => ?_⟩
    have e2 : H2 p2 = some (.lst ([3, 6, 20, 256, 1000, 10].map V.int)) := g2.k p2 _ (l1.bk.ne hp2) upd_same
    obtain ⟨sp, ms, es⟩ := at_int (ns := [3, 6, 20, 256, 1000, 10]) a2 b2
    refine ⟨p2, _, r2, .int sp, rfl, rfl, SqL.of e2, es, (by show 2 ≤ sizeLine; decide), fun p3 hp3 => ?_⟩
    simp at mw ms
    refine q _ _ wd sp (((((Go.new hp).trans g1).trans (Go.new hp2)).trans g2).trans (Go.new hp3)) (l2.new hp3) (by omega) (by omega) (by omega) (by omega) (Dt.ofCol (l2.bk.ne hp3) upd_same)
/-! ### colour -/
def spColour : Sp := fun vs H Q _ => ∃ (L : Addr) (B : List Addr) (n : Nat) (kv : V) (wd sp : Int), vs = [.ref L, kv] ∧ Lf L H n ∧ L ∈ B ∧ Bk B H ∧ n < 100000000 ∧ Dt [L] H kv (eC [wd, sp]) ∧ 0 ≤ wd ∧ wd ≤ 5 ∧ 1 ≤ sp ∧ sp ≤ 1000 ∧
  ∀ (v : V) (H' : Hp) (ns : List Int), Go [L] H H' → Lf L H' (n + 10) → Dt B H' v (eC ns) → (ns.length : Int) = wd → cIn 0 999 ns → Q v H'
theorem ok_l_colour (T : Tx K mg) {k : Nat} : FnOk P w K mg base CX0 (k + 3) T.f_l_colour T.d_l_colour ["_law_left_here", "_law_kind_here"] spColour := by
  refine T.F_l_colour.ok sc_l_colour (fun vs H Q E h => ?_) (fun cdv A outer s H vs Q E hr h => ?_)
  · obtain ⟨L, B, n, kv, wd, sp, rfl, _⟩ := h
    rfl
  · obtain ⟨L, B, n, kv, wd, sp, rfl, hL, LB, hB, hn, hk, w0, w1, s0, s1, q⟩ := h
    obtain ⟨ka, rfl, nk, hkT⟩ := hk.col
    refine ⟨_, (pss_cons (ps_asg (pv 1) (pg_tupK K (n := 2) rfl (pgs_cons (pg_name (i := 2) sc_l_colour.nd rfl (.inl rfl)) (pgs_cons (pg_name (i := 3) sc_l_colour.nd rfl (.inr rfl)) pgs_nil))))
      (pss_one (ps_ret (pe_callTy (tuple_K K) (by rfl) T.z_tuple (by decide +kernel) (pa_cons (pe_lc (own := [("_law_place", 4)]) (by rfl) sc_l_colour.nd (pi_range1 (by rfl) T.z_range (pa_cons (pv 2) pa_nil)) (blkOk_by (own := [("_law_place", 4)]) (N := N_l_colour) (sc := defScope s_l_colour) (by decide +kernel)) (fun _ _ _ _ _ => (pg_name (i := 4) sc_l_colour.nd rfl (.inl rfl))) (fun _ _ _ _ _ => pts_nil) (fun _ _ _ _ _ => (pe_ix (ix_listK K) (pe_lst (pa_cons (pe_call (ok_l_pick T (k := k)) hr (by rfl) T.g_l_pick T.F_l_pick.kp T.b_l_pick .nil pass0 (pa_cons (pv 0) (pa_cons (pv 3) pa_nil))) (pa_cons pe_int pa_nil))) (pe_callTy call_int1 (by rfl) T.z_int (by decide +kernel) (pa_cons (pe_cmpR op_eq (pe_call (ok_l_pick T (k := k)) hr (by rfl) T.g_l_pick T.F_l_pick.kp T.b_l_pick .nil pass0 (pa_cons (pv 0) (pa_cons pe_int pa_nil))) pe_int (nomark _)) pa_nil)) (fun _ _ => rfl)))) pa_nil))))), ?_⟩
    refine ⟨_, rfl, ka, [.int wd, .int sp], rfl, SqT.of hkT, rfl, .int wd, _, rfl, .int sp, _, rfl, rfl, ?_⟩
    refine ⟨_, rfl, wd, rfl, by omega, by omega, fun D hD => ?_⟩
    refine lc_range (lo := 0) (n := wd.toNat) (fun i H' => ∃ ns : List Int, ns.length = i ∧ cIn 0 999 ns ∧ Go [L] H H' ∧ Lf L H' (n + 2 * i) ∧ H' D = some (.lst (ns.map V.int)))
      ⟨[], rfl, cIn.nil, Go.new hD, hL.new hD, upd_same⟩ (fun i H1 hi h1 => ?_) (fun H1 h1 => ?_)
    · obtain ⟨ns, en, cn, g, l, eD⟩ := h1
      have nD : D ∉ [L] := hL.bk.ne hD
      refine ⟨rfl, lc_yes ?_⟩
      refine ⟨_, rfl, _, rfl, L, sp, n + 2 * i, rfl, l, by omega, by omega, by omega, fun r1 H2 g2 l2 a1 b1 => ?_⟩
      refine ⟨(by show 2 ≤ sizeLine; decide), fun p hp => ?_⟩
      refine ⟨_, rfl, L, 8, n + 2 * i + 1, rfl, l2.new hp, by omega, by decide, by decide, fun r2 H3 g3 l3 a2 b2 => ?_⟩
      have e3 : H3 p = some (.lst [.int r1, .int 999]) := g3.k p _ (l2.bk.ne hp) upd_same
      refine ⟨rfl, .inr ⟨_, rfl, p, _, _, _, rfl, rfl, SqL.of e3, at2 _ _ _, ns.map V.int, ?_⟩⟩
      have gg : Go [L] H1 H3 := (g2.trans (Go.new hp)).trans g3
      obtain ⟨x, ex, x0, x1⟩ : ∃ x : Int, (if decide (V.int r2 = V.int 0) = true then V.int 999 else V.int r1) = .int x ∧ 0 ≤ x ∧ x ≤ 999 := by
        by_cases hb : decide (V.int r2 = V.int 0) = true
        · rw [if_pos hb]
          exact ⟨999, rfl, by decide, by decide⟩
        · rw [if_neg hb]
          exact ⟨r1, rfl, by omega, by omega⟩
      refine ⟨gg.k D _ nD eD, sz (by rw [List.length_map]; omega), ns ++ [x], ?_, cn.app x0 x1, (g.trans gg).mut hD, (l3.up (hL.ne hD)).mono (by omega), ?_⟩
      · rw [List.length_append]
        simp
        omega
      · rw [upd_same, List.map_append, ex]
        rfl
    · obtain ⟨ns, en, cn, g, l, eD⟩ := h1
      refine ⟨D, _, rfl, .inl ⟨SqL.of eD, fun t ht => ?_⟩⟩
      exact q _ _ ns (g.trans (Go.new ht)) ((l.new ht).mono (by omega)) (Dt.ofCol ((hB.go g).ne ht) upd_same) (by omega) cn
/-! ### asked, of wider palettes -/
def cOkW (wd : Int) (c : List Int) : Prop := (c.length : Int) = wd ∧ cIn (-10000) 10000 c
def spAsked : Sp := fun vs H Q _ => ∃ (L : Addr) (n : Nat) (kv pl : V) (wd sp : Int) (cs : List (List Int)), vs = [.ref L, kv, pl] ∧ Lf L H n ∧ n < 10000000 ∧ Dt [L] H kv (eC [wd, sp]) ∧ 0 ≤ wd ∧ wd ≤ 5 ∧ 1 ≤ sp ∧ sp ≤ 1000 ∧ Dt [L] H pl (eP cs) ∧ 0 < cs.length ∧ cs.length ≤ 1000 ∧ (∀ c ∈ cs, cOkW wd c) ∧
  ∀ (v : V) (H' : Hp) (c : List Int), Go [L] H H' → Lf L H' (n + 30) → Dt [L] H' v (eC c) → (c.length : Int) = wd → cIn (-1000000) 1000000 c → Q v H'
theorem ok_l_asked (T : Tx K mg) {k : Nat} : FnOk P w K mg base CX0 (k + 4) T.f_l_asked T.d_l_asked ["_law_left_here", "_law_kind_here", "_law_palette"] spAsked := by
  refine T.F_l_asked.ok sc_l_asked (fun vs H Q E h => ?_) (fun cdv A outer s H vs Q E hr h => ?_)
  · obtain ⟨L, n, kv, pl, wd, sp, cs, rfl, _⟩ := h
    rfl
  · obtain ⟨L, n, kv, pl, wd, sp, cs, rfl, hL, hn, hk, w0, w1, s0, s1, hp, c0, c1, hc, q⟩ := h
    obtain ⟨pa, vs, rfl, np, ep, hA⟩ := hp.pal
    have lv := hA.len
    rw [List.length_map] at lv
    refine ⟨_, (pss_cons (ps_set (i := 3) sc_l_asked.nd rfl (.inl rfl) (pe_ix (ix_listK K) (pv 2) (pe_call (ok_l_pick T (k := k + 1)) hr (by rfl) T.g_l_pick T.F_l_pick.kp T.b_l_pick .nil pass0 (pa_cons (pv 0) (pa_cons (pe_callB (len_K K) (by rfl) T.z_len PySem.boot_len (pa_cons (pv 2) pa_nil)) pa_nil))) (fun _ _ => rfl)))
      (pss_cons (ps_set (i := 4) sc_l_asked.nd rfl (.inl rfl) (pe_ix (ix_listK K) (pv 2) (pe_call (ok_l_pick T (k := k + 1)) hr (by rfl) T.g_l_pick T.F_l_pick.kp T.b_l_pick .nil pass0 (pa_cons (pv 0) (pa_cons (pe_callB (len_K K) (by rfl) T.z_len PySem.boot_len (pa_cons (pv 2) pa_nil)) pa_nil))) (fun _ _ => rfl)))
      (pss_cons (ps_set (i := 5) sc_l_asked.nd rfl (.inl rfl) (pe_call (ok_l_pick T (k := k + 1)) hr (by rfl) T.g_l_pick T.F_l_pick.kp T.b_l_pick .nil pass0 (pa_cons (pv 0) (pa_cons pe_int pa_nil))))
      (pss_cons (ps_if (pt_cmpR op_eq (pv 5) pe_int (nomark _)) (pss_one (ps_ret (pv 3))) pss_nil)
      (pss_cons (ps_if (pt_cmpR op_eq (pv 5) pe_int (nomark _)) (pss_one (ps_ret (pe_callTy (tuple_K K) (by rfl) T.z_tuple (by decide +kernel) (pa_cons (pe_lc (own := [("_law_number", 6)]) (by rfl) sc_l_asked.nd (pi_tupK K (pv 3)) (blkOk_by (own := [("_law_number", 6)]) (N := N_l_asked) (sc := defScope s_l_asked) (by decide +kernel)) (fun _ _ _ _ _ => (pg_name (i := 6) sc_l_asked.nd rfl (.inl rfl))) (fun _ _ _ _ _ => pts_nil) (fun _ _ _ _ _ => (pe_op op_sub (pe_op op_add (pv 6) (pe_call (ok_l_pick T (k := k + 1)) hr (by rfl) T.g_l_pick T.F_l_pick.kp T.b_l_pick .nil pass0 (pa_cons (pv 0) (pa_cons pe_int pa_nil)))) pe_int))) pa_nil)))) pss_nil)
      (pss_cons (ps_if (pt_cmpR op_lt (pv 5) pe_int (nomark _)) (pss_one (ps_ret (pe_callTy (tuple_K K) (by rfl) T.z_tuple (by decide +kernel) (pa_cons (pe_lc (own := [("_law_a", 7), ("_law_b", 8)]) (by rfl) sc_l_asked.nd (RZ.pi_zipA (by rfl) T.z_zip (pa_cons (pv 3) (pa_cons (pv 4) pa_nil))) (blkOk_by (own := [("_law_a", 7), ("_law_b", 8)]) (N := N_l_asked) (sc := defScope s_l_asked) (by decide +kernel)) (fun _ _ _ _ _ => (pg_tupK K (n := 2) rfl (pgs_cons (pg_name (i := 7) sc_l_asked.nd rfl (.inl rfl)) (pgs_cons (pg_name (i := 8) sc_l_asked.nd rfl (.inl rfl)) pgs_nil)))) (fun _ _ _ _ _ => pts_nil) (fun _ _ _ _ _ => (pe_op op_fdiv (pe_op op_add (pe_op op_add (pv 7) (pv 8)) (pe_call (ok_l_pick T (k := k + 1)) hr (by rfl) T.g_l_pick T.F_l_pick.kp T.b_l_pick .nil pass0 (pa_cons (pv 0) (pa_cons pe_int pa_nil)))) pe_int))) pa_nil)))) pss_nil)
      (pss_cons (ps_if (pt_cmpR op_eq (pv 5) pe_int (nomark _)) (pss_one (ps_ret (pe_call (ok_l_colour T (k := k)) hr (by rfl) T.g_l_colour T.F_l_colour.kp T.b_l_colour .nil pass0 (pa_cons (pv 0) (pa_cons (pv 1) pa_nil))))) pss_nil)
      (pss_one (ps_ret (pe_callTy (tuple_K K) (by rfl) T.z_tuple (by decide +kernel) (pa_cons (pe_lc (own := [("_law_place", 9)]) (by rfl) sc_l_asked.nd (pi_range1 (by rfl) T.z_range (pa_cons (pe_ix (ix_tupK K) (pv 1) pe_int (fun _ _ => rfl)) pa_nil)) (blkOk_by (own := [("_law_place", 9)]) (N := N_l_asked) (sc := defScope s_l_asked) (by decide +kernel)) (fun _ _ _ _ _ => (pg_name (i := 9) sc_l_asked.nd rfl (.inl rfl))) (fun _ _ _ _ _ => pts_nil) (fun _ _ _ _ _ => (pe_op op_mul (pe_ix (ix_listK K) (pe_lst (pa_cons (pe_un un_neg pe_int) (pa_cons pe_int pa_nil))) (pe_call (ok_l_pick T (k := k + 1)) hr (by rfl) T.g_l_pick T.F_l_pick.kp T.b_l_pick .nil pass0 (pa_cons (pv 0) (pa_cons pe_int pa_nil))) (fun _ _ => rfl)) (pe_call (ok_l_pick T (k := k + 1)) hr (by rfl) T.g_l_pick T.F_l_pick.kp T.b_l_pick .nil pass0 (pa_cons (pv 0) (pa_cons (pe_op op_add (pe_op op_pow pe_int pe_int) pe_int) pa_nil)))))) pa_nil))))))))))), ?_⟩
    refine ⟨_, rfl, _, rfl, _, rfl, pa, _, rfl, .inl (SqL.of ep), L, _, n, rfl, hL, by omega, by omega, by omega, fun r1 H1 g1 l1 a1 b1 => ?_⟩
    have ep1 := g1.k pa _ np ep
    have hA1 := hA.g g1
    have i1 : r1.toNat < cs.length := by omega
    obtain ⟨v1, f1, d1⟩ := hA1.get (i := r1.toNat) (d := eC cs[r1.toNat]) (by rw [List.getElem?_map, List.getElem?_eq_getElem i1]; rfl)
    have o1 := hc _ (List.getElem_mem i1)
    generalize cs[r1.toNat] = x1 at *
    refine ⟨pa, _, _, _, rfl, rfl, SqL.of ep1, at0 a1 f1, ?_⟩
    refine ⟨_, rfl, _, rfl, _, rfl, pa, _, rfl, .inl (SqL.of ep1), L, _, n + 1, rfl, l1, by omega, by omega, by omega, fun r2 H2 g2 l2 a2 b2 => ?_⟩
    have ep2 := g2.k pa _ np ep1
    have hA2 := hA1.g g2
    have i2 : r2.toNat < cs.length := by omega
    obtain ⟨v2, f2, d2⟩ := hA2.get (i := r2.toNat) (d := eC cs[r2.toNat]) (by rw [List.getElem?_map, List.getElem?_eq_getElem i2]; rfl)
    have o2 := hc _ (List.getElem_mem i2)
    generalize cs[r2.toNat] = x2 at *
    refine ⟨pa, _, _, _, rfl, rfl, SqL.of ep2, at0 a2 f2, ?_⟩
    refine ⟨_, rfl, L, 6, n + 2, rfl, l2, by omega, by decide, by decide, fun wy H3 g3 l3 a3 b3 => ?_⟩
    have e1 := (d1.g g2).g g3
    have e2 := d2.g g3
    have gg : Go [L] H H3 := (g1.trans g2).trans g3
    have hk3 := hk.g gg
    obtain ⟨t1, rfl, n1, u1⟩ := e1.col
    obtain ⟨t2, rfl, n2, u2⟩ := e2.col
    obtain ⟨kk, rfl, nk, uk⟩ := hk3.col
    refine ⟨_, rfl, rfl, _, rfl, ite2 (fun e => ?_) (fun e => ?_)⟩
    · exact ⟨_, rfl, q _ _ x1 gg (l3.mono (by omega)) e1 o1.1 (o1.2.mono (by decide) (by decide))⟩
    refine ⟨_, rfl, rfl, _, rfl, ite2 (fun e => ?_) (fun e => ?_)⟩
    · refine ⟨_, rfl, t1, rfl, ⟨_, SqT.of u1⟩, fun D hD => ?_⟩
      refine lc_ints (walk_tup (xs := x1.map V.int)) (n + 3) 1 (-1000000) 1000000 hD l3 (fun H' g' => SqT.of (g'.k _ _ n1 u1)) (by rw [List.length_map]; have := o1.1; omega) (fun i x H4 H5 Ny Nn hi g4 l4 y ky => ?_) (fun H4 ns g4 l4 eD en cn => ?_)
      · obtain ⟨rfl, y⟩ := y
        rw [List.length_map] at hi
        have ex := mat hi y
        have cx := o1.2 _ (List.getElem_mem hi)
        have := o1.1
        refine ⟨rfl, lc_yes ⟨_, rfl, _, rfl, L, 3, n + 3 + 1 * i, rfl, l4, by omega, by decide, by decide, fun r6 H6 g6 l6 a6 b6 => ?_⟩⟩
        refine ⟨_, _, ex, rfl, _, _, rfl, rfl, ?_⟩
        exact ky _ _ g6 l6 (by omega) (by omega)
      · refine ⟨D, _, rfl, .inl ⟨SqL.of eD, fun t ht => ?_⟩⟩
        rw [List.length_map] at en l4
        have := o1.1
        exact q _ _ ns ((gg.trans g4).trans (Go.new ht)) ((l4.new ht).mono (by omega)) (Dt.ofCol (l4.bk.ne ht) upd_same) (by omega) cn
    refine ⟨_, rfl, _, _, rfl, rfl, _, rfl, ite2 (fun e => ?_) (fun e => ?_)⟩
    · refine ⟨_, rfl, _, rfl, t1, t2, _, _, rfl, .inr ⟨SqT.of u1, SqT.of u2, fun D hD => ?_⟩⟩
      have q1 := o1.1
      have q2 := o2.1
      refine lc_ints (walk_zipT (n := x1.length) (xs := x1.map V.int) (ys := x2.map V.int) (by simp; omega)) (n + 3) 1 (-1000000) 1000000 hD l3 (fun H' g' => ⟨SqT.of (g'.k _ _ n1 u1), SqT.of (g'.k _ _ n2 u2)⟩) (by omega) (fun i x H4 H5 Ny Nn hi g4 l4 y ky => ?_) (fun H4 ns g4 l4 eD en cn => ?_)
      · obtain ⟨t, x, y, rfl, ht, rfl, f1, f2⟩ := y
        have i2 : i < x2.length := by omega
        have ex := mat hi f1
        have ey := mat i2 f2
        have cx := o1.2 _ (List.getElem_mem hi)
        have cy := o2.2 _ (List.getElem_mem i2)
        refine ⟨t, [x, y], rfl, SqT.of upd_same, rfl, x, _, rfl, y, _, rfl, rfl, rfl, lc_yes ?_⟩
        refine ⟨_, rfl, _, rfl, _, _, ex, ey, _, rfl, L, 2, n + 3 + 1 * i, rfl, l4.new ht, by omega, by decide, by decide, fun r6 H6 g6 l6 a6 b6 => ?_⟩
        refine ⟨_, _, rfl, rfl, _, _, rfl, rfl, ⟨by decide, by decide⟩, ?_⟩
        exact ky _ _ ((Go.new ht).trans g6) l6 (by omega) (by omega)
      · refine ⟨D, _, rfl, .inl ⟨SqL.of eD, fun t ht => ?_⟩⟩
        exact q _ _ ns ((gg.trans g4).trans (Go.new ht)) ((l4.new ht).mono (by omega)) (Dt.ofCol (l4.bk.ne ht) upd_same) (by omega) cn
    refine ⟨_, rfl, rfl, _, rfl, ite2 (fun e => ?_) (fun e => ?_)⟩
    · refine ⟨_, rfl, _, rfl, L, [L], n + 3, _, wd, sp, rfl, l3, by simp, l3.bk, by omega, hk3, w0, w1, s0, s1, fun v H4 ns g4 l4 d4 n4 c4 => ?_⟩
      exact q _ _ ns (gg.trans g4) (l4.mono (by omega)) d4 n4 (c4.mono (by decide) (by decide))
    refine ⟨_, rfl, kk, _, 0, .int wd, rfl, rfl, SqT.of uk, rfl, wd, rfl, by omega, by omega, fun D hD => ?_⟩
    refine lc_ints (walk_range (lo := 0) (n := wd.toNat)) (n + 3) 2 (-1000000) 1000000 hD l3 (fun H' g' => True.intro) (by omega) (fun i x H4 H5 Ny Nn hi g4 l4 y ky => ?_) (fun H4 ns g4 l4 eD en cn => ?_)
    · obtain ⟨rfl, rfl⟩ := y
      refine ⟨rfl, lc_yes ⟨_, rfl, (by show 2 ≤ sizeLine; decide), fun p6 hp6 => ?_⟩⟩
      refine ⟨_, rfl, L, 2, n + 3 + 2 * i, rfl, l4.new hp6, by omega, by decide, by decide, fun r6 H6 g6 l6 a6 b6 => ?_⟩
      have e6 : H6 p6 = some (.lst ([-1, 1].map V.int)) := g6.k p6 _ (l4.bk.ne hp6) upd_same
      obtain ⟨z, mz, ez⟩ := at_int (ns := [-1, 1]) a6 b6
      simp at mz
      refine ⟨p6, _, _, _, rfl, rfl, SqL.of e6, ez, ?_⟩
      refine ⟨_, rfl, _, _, rfl, rfl, ⟨by decide, by decide, by decide⟩, _, _, rfl, rfl, L, _, n + 3 + 2 * i + 1, rfl, l6, by omega, by decide, by decide, fun r7 H7 g7 l7 a7 b7 => ?_⟩
      have b7' : r7 < 1000001 := b7
      refine ⟨_, _, rfl, rfl, .inl ⟨by omega, by omega⟩, ?_⟩
      have hz : -1000000 ≤ z * r7 ∧ z * r7 ≤ 1000000 := by
        rcases mz with rfl | rfl <;> omega
      exact ky _ _ (((Go.new hp6).trans g6).trans g7) (l7.mono (by omega)) hz.1 hz.2
    · refine ⟨D, _, rfl, .inl ⟨SqL.of eD, fun t ht => ?_⟩⟩
      exact q _ _ ns ((gg.trans g4).trans (Go.new ht)) ((l4.new ht).mono (by omega)) (Dt.ofCol (l4.bk.ne ht) upd_same) (by omega) cn
/-! ### rows of counts -/
def eRs (rs : List (List Int × Int)) : PyData := .list (rs.map eRow)
def rOk (wd : Nat) (r : List Int × Int) : Prop := r.1.length = wd ∧ cIn 0 999 r.1 ∧ 1 ≤ r.2 ∧ r.2 ≤ 1000
theorem Dt.rowI {B : List Addr} {H : Hp} {v : V} {r : List Int × Int} (h : Dt B H v (eRow r)) : ∃ a q, v = .ref a ∧ a ∉ B ∧ H a = some (.tup [.ref q, .int r.2]) ∧ q ∉ B ∧ H q = some (.tup (r.1.map V.int)) := by
  obtain ⟨a, vs, rfl, na, ea, hA⟩ := h.tupI
  cases hA with
  | cons h1 h2 =>
    obtain ⟨q, rfl, nq, eq⟩ := h1.col
    cases h2 with
    | cons h3 h4 =>
      have := h3.intI
      subst this
      cases h4
      exact ⟨a, q, rfl, na, ea, nq, eq⟩
theorem Dt.ofRow {B : List Addr} {H : Hp} {a q : Addr} {r : List Int × Int} (na : a ∉ B) (ea : H a = some (.tup [.ref q, .int r.2])) (dq : Dt B H (.ref q) (eC r.1)) : Dt B H (.ref a) (eRow r) := .tup na ea (.cons dq (.cons (.int _) .nil))
def cnt (rs : List (List Int × Int)) : Int := (rs.map (·.2)).sum
def wsum (rs : List (List Int × Int)) (p : Nat) : Int := (rs.map fun r => r.2 * r.1.getD p 0).sum
def midF (rs : List (List Int × Int)) (p : Nat) : Int × Int := (pn (wsum rs p) (cnt rs), pd (wsum rs p) (cnt rs))
def mid (rs : List (List Int × Int)) (wd : Nat) : List (Int × Int) := (List.range wd).map (midF rs)
theorem cnt_in {wd : Nat} : ∀ {rs : List (List Int × Int)}, (∀ r ∈ rs, rOk wd r) → (rs.length : Int) ≤ cnt rs ∧ cnt rs ≤ 1000 * (rs.length : Int)
  | [], _ => ⟨Int.le_refl _, Int.le_refl _⟩
  | r :: rs, h => by
    have ih := cnt_in (rs := rs) fun x hx => h x (List.mem_cons_of_mem _ hx)
    have hr := h r (List.mem_cons_self ..)
    unfold cnt at ih ⊢
    rw [List.map_cons, List.sum_cons, List.length_cons]
    have := hr.2.2
    omega
theorem getD_in {ns : List Int} {lo hi : Int} (h : cIn lo hi ns) (h0 : lo ≤ 0) (h1 : 0 ≤ hi) (p : Nat) : lo ≤ ns.getD p 0 ∧ ns.getD p 0 ≤ hi := by
  rw [List.getD_eq_getElem?_getD]
  cases e : ns[p]? with
  | none => exact ⟨h0, h1⟩
  | some x => exact h x (List.mem_of_getElem? e)
theorem wsum_in {wd : Nat} (p : Nat) : ∀ {rs : List (List Int × Int)}, (∀ r ∈ rs, rOk wd r) → 0 ≤ wsum rs p ∧ wsum rs p ≤ 999000 * (rs.length : Int)
  | [], _ => ⟨Int.le_refl _, Int.le_refl _⟩
  | r :: rs, h => by
    have ih := wsum_in p (rs := rs) fun x hx => h x (List.mem_cons_of_mem _ hx)
    have hr := h r (List.mem_cons_self ..)
    have g := getD_in hr.2.1 (by omega) (by omega) p
    unfold wsum at ih ⊢
    rw [List.map_cons, List.sum_cons, List.length_cons]
    have c := hr.2.2
    have m1 : 0 ≤ r.2 * r.1.getD p 0 := Int.mul_nonneg (by omega) g.1
    have m2 : r.2 * r.1.getD p 0 ≤ 1000 * 999 := Int.mul_le_mul c.2 g.2 g.1 (by omega)
    omega
theorem part_one {n x : Int} (h : 0 < n) : pn (n * x) n = x ∧ pd (n * x) n = 1 := by
  have g : gm (n * x) n = n.natAbs := by
    unfold gm
    rw [Int.natAbs_mul]
    exact Nat.gcd_eq_right (Nat.dvd_mul_right _ _)
  have e : ((n.natAbs : Nat) : Int) = n := by omega
  unfold pn pd
  rw [g, e, if_neg (by omega), if_neg (by omega)]
  exact ⟨Int.mul_ediv_cancel_left _ (by omega), Int.ediv_self (by omega)⟩
theorem mid_one {c : List Int} {n : Int} (h : 0 < n) : mid [(c, n)] c.length = c.map fun x => (x, 1) := by
  unfold mid
  refine List.ext_getElem (by simp) fun i h1 h2 => ?_
  rw [List.getElem_map, List.getElem_map, List.getElem_range]
  have hi : i < c.length := by simpa using h2
  have e : c.getD i 0 = c[i] := by rw [List.getD_eq_getElem?_getD, List.getElem?_eq_getElem hi]; rfl
  unfold midF wsum cnt
  simp only [List.map_cons, List.map_nil, List.sum_cons, List.sum_nil, Int.add_zero]
  rw [e]
  have := part_one (x := c[i]) h
  rw [this.1, this.2]
/-! ### rows that are drawn -/
theorem put_ent {A : List Int → Prop} {C : Int → Prop} {ks : List (List Int × Int)} (h : ∀ e ∈ ks, A e.1 ∧ C e.2) {c : List Int} {n : Int} (hc : A c) (hn : C n) :
    ∃ ks' : List (List Int × Int), putK (ks.map entI) (c.map Sum.inl) (.int n) = ks'.map entI ∧ (∀ e ∈ ks', A e.1 ∧ C e.2) ∧ 0 < ks'.length ∧ ks'.length ≤ ks.length + 1 := by
  unfold putK
  by_cases b : ((ks.map entI).any fun kv => decide (kv.1 = c.map Sum.inl)) = true
  · rw [if_pos b]
    refine ⟨ks.map fun e => if e.1.map (Sum.inl (β := Str)) = c.map Sum.inl then (e.1, n) else e, ?_, fun e he => ?_, ?_, by simp⟩
    · rw [List.map_map, List.map_map]
      refine List.map_congr_left fun e _ => ?_
      show (if (entI e).1 = c.map Sum.inl then ((entI e).1, V.int n) else entI e) = entI (if e.1.map Sum.inl = c.map Sum.inl then (e.1, n) else e)
      by_cases x : e.1.map (Sum.inl (β := Str)) = c.map Sum.inl
      · rw [if_pos (show (entI e).1 = _ from x), if_pos x]
        rfl
      · rw [if_neg (show ¬ (entI e).1 = _ from x), if_neg x]
    · obtain ⟨f, hf, rfl⟩ := List.mem_map.mp he
      have := h f hf
      split
      · exact ⟨this.1, hn⟩
      · exact this
    · rw [List.length_map]
      cases ks with
      | nil => simp at b
      | cons e ks => simp
  · rw [if_neg b]
    refine ⟨ks ++ [(c, n)], by rw [List.map_append]; rfl, fun e he => ?_, by simp, by simp⟩
    rcases List.mem_append.mp he with x | x
    · exact h e x
    · rw [List.mem_singleton.mp x]
      exact ⟨hc, hn⟩
def spRows : Sp := fun vs H Q _ => ∃ (B : List Addr) (L : Addr) (n : Nat) (kv : V) (wd : Nat) (sp mo : Int), vs = [.ref L, kv, .int mo] ∧ Bk B H ∧ (∀ a ∈ B, a ∉ [L] → ∃ xs, H a = some (.lst xs)) ∧ Lf L H n ∧ n < 1000000 ∧ Dt [L] H kv (eC [(wd : Int), sp]) ∧ wd ≤ 5 ∧ 1 ≤ sp ∧ sp ≤ 1000 ∧ 1 ≤ mo ∧ mo ≤ 60 ∧
  ∀ (v : V) (H' : Hp) (rs : List (List Int × Int)), Go [L] H H' → Lf L H' (n + 1000) → Dt B H' v (eRs rs) → 0 < rs.length → rs.length ≤ 60 → (∀ r ∈ rs, rOk wd r) → Q v H'
theorem ok_l_rows (T : Tx K mg) {k : Nat} : FnOk P w K mg base CX0 (k + 4) T.f_l_rows T.d_l_rows ["_law_left_here", "_law_kind_here", "_law_most"] spRows := by
  refine T.F_l_rows.ok sc_l_rows (fun vs H Q E h => ?_) (fun cdv A outer s H vs Q E hr h => ?_)
  · obtain ⟨B, L, n, kv, wd, sp, mo, rfl, _⟩ := h
    rfl
  · obtain ⟨B, L, n, kv, wd, sp, mo, rfl, hB, hBl, hL, hn, hk, w1, s0, s1, m0, m1, q⟩ := h
    refine ⟨_, (pss_cons (ps_set (i := 3) sc_l_rows.nd rfl (.inl rfl) pe_dnewT)
      (pss_cons (ps_for PassesOwn.never rfl (pi_range1 (by rfl) T.z_range (pa_cons (pe_op op_add pe_int (pe_call (ok_l_pick T (k := k + 1)) hr (by rfl) T.g_l_pick T.F_l_pick.kp T.b_l_pick .nil pass0 (pa_cons (pv 0) (pa_cons (pv 2) pa_nil)))) pa_nil)) (pg_name (i := 4) sc_l_rows.nd rfl (.inl rfl)) (pss_cons (ps_set (i := 5) sc_l_rows.nd rfl (.inl rfl) (pe_lst (pa_cons pe_int (pa_cons pe_int (pa_cons pe_int (pa_cons pe_int (pa_cons (pe_op op_add pe_int (pe_call (ok_l_pick T (k := k + 1)) hr (by rfl) T.g_l_pick T.F_l_pick.kp T.b_l_pick .nil pass0 (pa_cons (pv 0) (pa_cons pe_int pa_nil)))) (pa_cons (pe_op op_add pe_int (pe_call (ok_l_pick T (k := k + 1)) hr (by rfl) T.g_l_pick T.F_l_pick.kp T.b_l_pick .nil pass0 (pa_cons (pv 0) (pa_cons pe_int pa_nil)))) pa_nil))))))))
      (pss_one (ps_asg (pe_ix (ix_listK K) (pv 5) (pe_call (ok_l_pick T (k := k + 1)) hr (by rfl) T.g_l_pick T.F_l_pick.kp T.b_l_pick .nil pass0 (pa_cons (pv 0) (pa_cons pe_int pa_nil))) (fun _ _ => rfl)) (pg_sub (pv 3) (pe_call (ok_l_colour T (k := k)) hr (by rfl) T.g_l_colour T.F_l_colour.kp T.b_l_colour .nil pass0 (pa_cons (pv 0) (pa_cons (pv 1) pa_nil))) (set_dictU hr.units))))))
      (pss_one (ps_ret (pe_callB (cr_sortedII rfl hr.units) (by rfl) T.z_sorted (by decide +kernel) (pa_cons (pe_bm0 PySem.F.plainAttrs_dict PySem.F.slot_dict_items PySem.F.type_dict_items L2.DX.mt_itemsT (pv 3)) pa_nil)))))), ?_⟩
    refine fun D hD => ?_
    have nD : D ∉ [L] := hL.bk.ne hD
    refine ⟨_, rfl, _, rfl, L, mo, n, rfl, hL.new hD, by omega, by omega, by omega, fun r1 H1 g1 l1 a1 b1 => ?_⟩
    have eD1 : H1 D = some (.dT []) := g1.k D _ nD upd_same
    refine ⟨_, _, rfl, rfl, 1 + r1, rfl, by omega, by omega, for_range (lo := 0) (n := (1 + r1).toNat) (fun i σ H' => ∃ y4 y5 ks, σ = [some (.ref L), some kv, some (.int mo), some (.ref D), y4, y5] ∧ Go [L] H H' ∧ Lf L H' (n + 1 + 15 * i) ∧ H' D = some (.dT ((ks : List (List Int × Int)).map entI)) ∧ (∀ e ∈ ks, (e.1.length = wd ∧ cIn 0 999 e.1) ∧ (1 ≤ e.2 ∧ e.2 ≤ 1000)) ∧ ks.length ≤ i ∧ (0 < i → 0 < ks.length))
      ⟨none, none, [], rfl, (Go.new hD).trans g1, l1.mono (by omega), eD1, (fun _ h => nomatch h), Nat.le_refl _, fun h => absurd h (by omega)⟩ (fun i σ H2 hi h2 => ?_) (fun σ H2 h2 => ?_)⟩
    · obtain ⟨y4, y5, ks, rfl, g2, l2, eD2, hks, lk, _⟩ := h2
      refine ⟨_, rfl, L, 9, n + 1 + 15 * i, rfl, l2, by omega, by decide, by decide, fun r3 H3 g3 l3 a3 b3 => ?_⟩
      refine ⟨_, _, rfl, rfl, _, rfl, L, 1000, n + 1 + 15 * i + 1, rfl, l3, by omega, by decide, by decide, fun r4 H4 g4 l4 a4 b4 => ?_⟩
      refine ⟨_, _, rfl, rfl, (by show 6 ≤ sizeLine; decide), fun S hS => ?_⟩
      have eS : (upd H4 S (.lst [.int 1, .int 1, .int 2, .int 3, .int (1 + r3), .int (1 + r4)])) S = some (.lst ([1, 1, 2, 3, 1 + r3, 1 + r4].map V.int)) := upd_same
      have l5 := l4.new (o := .lst [.int 1, .int 1, .int 2, .int 3, .int (1 + r3), .int (1 + r4)]) hS
      have g25 : Go [L] H2 (upd H4 S (.lst [.int 1, .int 1, .int 2, .int 3, .int (1 + r3), .int (1 + r4)])) := (g3.trans g4).trans (Go.new hS)
      have nS : S ∉ [L] := l4.bk.ne hS
      generalize upd H4 S (.lst [.int 1, .int 1, .int 2, .int 3, .int (1 + r3), .int (1 + r4)]) = H5 at *
      refine ⟨_, rfl, _, rfl, L, 6, n + 1 + 15 * i + 2, rfl, l5, by omega, by decide, by decide, fun r6 H6 g6 l6 a6 b6 => ?_⟩
      obtain ⟨z, mz, ez⟩ := at_int (ns := [1, 1, 2, 3, 1 + r3, 1 + r4]) a6 b6
      refine ⟨S, _, _, .int z, rfl, rfl, SqL.of (g6.k S _ nS eS), ez, ?_⟩
      have hz : 1 ≤ z ∧ z ≤ 1000 := by
        simp at mz
        omega
      have g26 := g25.trans g6
      refine ⟨_, rfl, _, rfl, _, rfl, L, [L], n + 1 + 15 * i + 3, kv, wd, sp, rfl, l6, by simp, l6.bk, by omega, hk.g (g2.trans g26), by omega, by omega, s0, s1, fun cv H7 c g7 l7 d7 n7 c7 => ?_⟩
      obtain ⟨ca, rfl, nc, ec⟩ := d7.col
      have eD7 := (g26.trans g7).k D _ nD eD2
      obtain ⟨ks', e', h', p', q'⟩ := put_ent (A := fun c => c.length = wd ∧ cIn 0 999 c) (C := fun x => 1 ≤ x ∧ x ≤ 1000) hks (c := c) (n := z) ⟨by omega, c7⟩ hz
      refine ⟨D, _, rfl, DPut.t eD7 (by rw [kV_ints]; exact ec) (sz (by rw [List.length_map]; omega)), ?_⟩
      refine ⟨_, _, ks', rfl, ((g2.trans g26).trans g7).mut hD, (l7.up (hL.ne hD)).mono (by omega), by rw [upd_same, e'], h', by omega, fun _ => p'⟩
    · obtain ⟨y4, y5, ks, rfl, g2, l2, eD2, hks, lk, l0⟩ := h2
      have l0' := l0 (by omega)
      refine ⟨_, rfl, .inr (.inr (.inl ⟨rfl, .inr ⟨_, eD2⟩⟩)), D, _, rfl, rfl, eD2, fun p hp => ?_⟩
      have s3 := sm_new (o := L2.DX.itemsO p D) hp
      refine ⟨p, D, ks, rfl, upd_same, s3 _ _ eD2, by omega, fun H4 l ps s4 hl pm el hz => ?_⟩
      have g4 : Go [L] H2 H4 := (Go.of s3).trans (Go.of s4)
      have B3 : Bk B (upd H2 p (L2.DX.itemsO p D)) := (hB.go g2).go (Go.of (B := B) s3)
      have hA : ∀ zs : List (Addr × List Int × Int), (∀ z ∈ zs, z ∈ ps) → DtA B H4 (zs.map fun z => V.ref z.1) ((zs.map (·.2)).map eRow) := by
        intro zs
        induction zs with
        | nil => exact fun _ => .nil
        | cons z zs ih =>
          intro h
          obtain ⟨qa, f1, f2, f3⟩ := hz z (h z (List.mem_cons_self ..))
          refine .cons (Dt.ofRow (B3.ne f1) f2 (Dt.ofCol (fun m => ?_) (s4 _ _ f3))) (ih fun x hx => h x (List.mem_cons_of_mem _ hx))
          by_cases ml : qa ∈ [L]
          · obtain ⟨x1, x2, x3, e5, _⟩ := l2.same s3
            rw [List.mem_singleton.mp ml, e5] at f3
            cases f3
          · obtain ⟨xs, e6⟩ := hBl qa m ml
            have e7 := s3 _ _ (g2.k _ _ ml e6)
            rw [e7] at f3
            cases f3
      have lp := pm.length_eq
      refine q _ _ (ps.map (·.2)) (g2.trans g4) (((l2.same s3).same s4).mono (by omega)) (.lst (B3.ne hl) el (hA ps fun _ h => h)) (by omega) (by omega) fun r hr => ?_
      have := hks r (pm.mem_iff.mp hr)
      exact ⟨this.1.1, this.1.2, this.2⟩
/-! ### fractions -/
def spMeas : Sp := fun vs H Q _ => ∃ t b : Int, vs = [.int t, .int b] ∧ Q (.int (gm t b : Int)) H
theorem ok_common_measure (T : Tx K mg) {k : Nat} : FnOk P w K mg base CX0 (k + 1) T.f_common_measure T.d_common_measure ["one", "other"] spMeas := by
  refine T.F_common_measure.ok sc_common_measure (fun vs H Q E h => ?_) (fun cdv A outer s H vs Q E hr h => ?_)
  · obtain ⟨t, b, rfl, _⟩ := h
    rfl
  · obtain ⟨t, b, rfl, q⟩ := h
    refine ⟨_, (pss_cons (ps_par (i := 0) (j := 1) (by rfl) sc_common_measure.nd rfl rfl (by decide) rfl rfl (pa_cons (pe_callB call_abs (by rfl) T.z_abs (by decide +kernel) (pa_cons (pv 0) pa_nil)) (pa_cons (pe_callB call_abs (by rfl) T.z_abs (by decide +kernel) (pa_cons (pv 1) pa_nil)) pa_nil)) (by rfl))
      (pss_cons (ps_while PassesOwn.never (pt_cmpR op_ne (pv 1) pe_int (nomark _)) (pss_one (ps_par (i := 0) (j := 1) (by rfl) sc_common_measure.nd rfl rfl (by decide) rfl rfl (pa_cons (pv 1) (pa_cons (pe_op op_mod (pv 0) (pv 1)) pa_nil)) (by rfl))))
      (pss_one (ps_ret (pv 0))))), ?_⟩
    refine ⟨_, rfl, _, rfl, _, rfl, _, rfl, _, _, rfl, ?_⟩
    refine ⟨fun m σ H' => ∃ (x y : Nat), σ = [some (.int (x : Int)), some (.int (y : Int))] ∧ H' = H ∧ m = y ∧ Nat.gcd x y = gm t b, ⟨b.natAbs, t.natAbs, b.natAbs, ?_, rfl, rfl, rfl⟩, fun m σ H' h => ?_⟩
    · have e1 : (if t < 0 then -t else t) = (t.natAbs : Int) := by split <;> omega
      have e2 : (if b < 0 then -b else b) = (b.natAbs : Int) := by split <;> omega
      rw [← e1, ← e2]
      rfl
    · obtain ⟨x, y, rfl, rfl, em, hg⟩ := h
      refine ⟨_, rfl, rfl, _, rfl, ite2 (fun e => ?_) (fun e => ?_)⟩
      · have y0 : 0 < y := by
          rcases Nat.eq_zero_or_pos y with z | z
          · subst z
            simp at e
          · exact z
        refine ⟨fun σ' H'' => σ' = [some (.int (y : Int)), some (.int ((x % y : Nat) : Int))] ∧ H'' = H', fun σ' H'' h => ?_, ?_⟩
        · obtain ⟨rfl, rfl⟩ := h
          exact ⟨x % y, by rw [em]; exact Nat.mod_lt _ y0, y, x % y, rfl, rfl, rfl, by rw [Nat.gcd_comm, ← Nat.gcd_rec, Nat.gcd_comm]; exact hg⟩
        · exact ⟨_, rfl, _, rfl, _, rfl, _, _, rfl, rfl, md (by omega), _, _, rfl, by rw [Int.natCast_emod]; rfl, rfl⟩
      · have y0 : y = 0 := by
          rcases Nat.eq_zero_or_pos y with z | z
          · exact z
          · refine absurd ?_ e
            simp
            omega
        subst y0
        have gx : x = gm t b := by rw [← hg, Nat.gcd_zero_right]
        exact ⟨_, rfl, by rw [gx]; exact q⟩
def spPart : Sp := fun vs H Q _ => ∃ t b : Int, vs = [.int t, .int b] ∧ b ≠ 0 ∧ b.natAbs < lim2 ∧ ∀ p H', Same H H' → H p = none → H' p = some (.tup [.int (Rat.divInt t b).num, .int (Rat.divInt t b).den]) → Q (.ref p) H'
theorem ok_part (T : Tx K mg) {k : Nat} : FnOk P w K mg base CX0 (k + 2) T.f_part T.d_part ["top", "bottom"] spPart := by
  refine T.F_part.ok sc_part (fun vs H Q E h => ?_) (fun cdv A outer s H vs Q E hr h => ?_)
  · obtain ⟨t, b, rfl, _⟩ := h
    rfl
  · obtain ⟨t, b, rfl, b0, hb, q⟩ := h
    have gp := gm_pos (t := t) b0
    have gl := gm_le (t := t) b0
    refine ⟨_, (pss_cons (ps_set (i := 2) sc_part.nd rfl (.inl rfl) (pe_call (ok_common_measure T (k := k)) hr (by rfl) T.g_common_measure T.F_common_measure.kp T.b_common_measure .nil pass0 (pa_cons (pv 0) (pa_cons (pv 1) pa_nil))))
      (Evl.pss_cut (ps_if (pt_cmpR op_lt (pv 1) pe_int (nomark _)) (pss_one (ps_set (i := 2) sc_part.nd rfl (.inl rfl) (pe_un un_neg (pv 2)))) pss_nil)
      (pss_one (ps_ret (pe_tup (pa_cons (pe_op op_fdivM (pv 0) (pv 2)) (pa_cons (pe_op op_fdivM (pv 1) (pv 2)) pa_nil))))))), ?_⟩
    refine ⟨_, rfl, _, rfl, t, b, rfl, ?_⟩
    refine ⟨fun σ' H' => σ' = [some (.int t), some (.int b), some (.int (if b < 0 then -(gm t b : Int) else (gm t b : Int)))] ∧ H' = H, ?_, fun σ' H' hM => ?_⟩
    · refine ⟨_, rfl, _, _, rfl, rfl, _, rfl, ite2 (fun e => ?_) (fun e => ?_)⟩
      · have e1 : b < 0 := of_decide_eq_true e
        exact ⟨_, rfl, _, rfl, by rw [if_pos e1]; rfl, rfl⟩
      · have e1 : ¬ b < 0 := fun h => e (decide_eq_true h)
        exact ⟨by rw [if_neg e1]; rfl, rfl⟩
    · obtain ⟨rfl, rfl⟩ := hM
      have m0 : (if b < 0 then -(gm t b : Int) else (gm t b : Int)) ≠ 0 := by split <;> omega
      have m1 : (if b < 0 then -(gm t b : Int) else (gm t b : Int)).natAbs < lim2 := by split <;> omega
      refine ⟨_, rfl, _, rfl, _, _, rfl, rfl, lim_divN m0 m1, _, rfl, _, rfl, _, _, rfl, rfl, lim_divN m0 m1, (by show 2 ≤ sizeLine; decide), fun p hp => ?_⟩
      refine q p _ (sm_new hp) hp ?_
      rw [upd_same]
      have ev : ∀ c : Int, c.fdiv (if b < 0 then -(gm t b : Int) else (gm t b : Int)) = (if b < 0 then -c else c) / (gm t b : Int) := fun c => by
        by_cases hb0 : b < 0
        · rw [if_pos hb0, if_pos hb0, fdiv_neg' (by omega)]
        · rw [if_neg hb0, if_neg hb0, Int.fdiv_eq_ediv_of_nonneg _ (by omega)]
      simp only [ev]
      rw [← pn_q b0, ← pd_q b0]
      rfl
/-! ### the law's own fractions -/
def spLPart : Sp := fun vs H Q _ => ∃ t b : Int, vs = [.int t, .int b] ∧ b ≠ 0 ∧ b.natAbs < lim2 ∧ ∀ p H', Same H H' → H p = none → H' p = some (.tup [.int (Rat.divInt t b).num, .int (Rat.divInt t b).den]) → Q (.ref p) H'
theorem ok_l_part (T : Tx K mg) {k : Nat} : FnOk P w K mg base CX0 (k + 1) T.f_l_part T.d_l_part ["_law_top", "_law_bottom"] spLPart := by
  refine T.F_l_part.ok sc_l_part (fun vs H Q E h => ?_) (fun cdv A outer s H vs Q E hr h => ?_)
  · obtain ⟨t, b, rfl, _⟩ := h
    rfl
  · obtain ⟨t, b, rfl, b0, hb, q⟩ := h
    refine ⟨_, (pss_cons (ps_par (i := 2) (j := 3) (by rfl) sc_l_part.nd rfl rfl (by decide) rfl rfl (pa_cons (pe_callB call_abs (by rfl) T.z_abs (by decide +kernel) (pa_cons (pv 0) pa_nil)) (pa_cons (pe_callB call_abs (by rfl) T.z_abs (by decide +kernel) (pa_cons (pv 1) pa_nil)) pa_nil)) (by rfl))
      (pss_cons (ps_while PassesOwn.never (pt_cmpR op_gt (pv 3) pe_int (nomark _)) (pss_one (ps_par (i := 2) (j := 3) (by rfl) sc_l_part.nd rfl rfl (by decide) rfl rfl (pa_cons (pv 3) (pa_cons (pe_op op_mod (pv 2) (pv 3)) pa_nil)) (by rfl))))
      (pss_cons (ps_set (i := 4) sc_l_part.nd rfl (.inl rfl) (pe_op op_sub pe_int (pe_op op_mul pe_int (pe_callTy call_int1 (by rfl) T.z_int (by decide +kernel) (pa_cons (pe_cmpR op_lt (pv 1) pe_int (nomark _)) pa_nil)))))
      (pss_one (ps_ret (pe_tup (pa_cons (pe_op op_fdivW (pe_op op_mul (pv 4) (pv 0)) (pv 2)) (pa_cons (pe_op op_fdivW (pe_op op_mul (pv 4) (pv 1)) (pv 2)) pa_nil)))))))), ?_⟩
    refine ⟨_, rfl, _, rfl, _, rfl, _, rfl, _, _, rfl, ?_⟩
    refine ⟨fun m σ H' => ∃ (x y : Nat) (z : Option V), σ = [some (.int t), some (.int b), some (.int (x : Int)), some (.int (y : Int)), z] ∧ H' = H ∧ m = y ∧ Nat.gcd x y = gm t b, ⟨b.natAbs, t.natAbs, b.natAbs, none, ?_, rfl, rfl, rfl⟩, fun m σ H' h => ?_⟩
    · have e1 : (if t < 0 then -t else t) = (t.natAbs : Int) := by split <;> omega
      have e2 : (if b < 0 then -b else b) = (b.natAbs : Int) := by split <;> omega
      rw [← e1, ← e2]
      rfl
    · obtain ⟨x, y, z, rfl, rfl, em, hg⟩ := h
      refine ⟨_, rfl, _, _, rfl, rfl, _, rfl, ite2 (fun e => ?_) (fun e => ?_)⟩
      · have y0 : 0 < y := by
          have : (0 : Int) < (y : Int) := of_decide_eq_true e
          omega
        refine ⟨fun σ' H'' => ∃ z, σ' = [some (.int t), some (.int b), some (.int (y : Int)), some (.int ((x % y : Nat) : Int)), z] ∧ H'' = H', fun σ' H'' h => ?_, ?_⟩
        · obtain ⟨z', rfl, rfl⟩ := h
          exact ⟨x % y, by rw [em]; exact Nat.mod_lt _ y0, y, x % y, z', rfl, rfl, rfl, by rw [Nat.gcd_comm, ← Nat.gcd_rec, Nat.gcd_comm]; exact hg⟩
        · exact ⟨_, rfl, _, rfl, _, rfl, _, _, rfl, rfl, md (by omega), _, _, rfl, z, by rw [Int.natCast_emod]; rfl, rfl⟩
      · have y0 : y = 0 := by
          have : ¬ (0 : Int) < (y : Int) := fun h => e (decide_eq_true h)
          omega
        subst y0
        have gx : x = gm t b := by rw [← hg, Nat.gcd_zero_right]
        have gp := gm_pos (t := t) b0
        have gl := gm_le (t := t) b0
        refine ⟨_, rfl, _, _, rfl, rfl, .inr ⟨_, rfl, _, _, rfl, rfl, .inl ⟨by decide, by decide⟩, _, _, rfl, rfl, ?_⟩⟩
        have sg : ∀ c : Int, (1 - 2 * (if decide (b < 0) = true then 1 else 0)) * c = if b < 0 then -c else c := fun c => by
          by_cases hb0 : b < 0
          · rw [if_pos (decide_eq_true hb0), if_pos hb0]; omega
          · rw [if_neg (fun h => hb0 (of_decide_eq_true h)), if_neg hb0]; omega
        have sb : (-(2 ^ 64) : Int) < (1 - 2 * (if decide (b < 0) = true then 1 else 0)) ∧ (1 - 2 * (if decide (b < 0) = true then 1 else 0) : Int) < 2 ^ 64 := by split <;> decide
        refine ⟨_, rfl, _, rfl, _, _, rfl, rfl, .inl sb, _, rfl, _, _, rfl, rfl, lim_div (by omega) (by omega), _, rfl, _, rfl, _, _, rfl, rfl, .inl sb, _, rfl, _, _, rfl, rfl, lim_div (by omega) (by omega), (by show 2 ≤ sizeLine; decide), fun p hp => ?_⟩
        refine q p _ (sm_new hp) hp ?_
        rw [upd_same, ← pn_q b0, ← pd_q b0]
        unfold pn pd
        rw [← gx]
        simp only [sg]
/-! ### two fractions, as numbers -/
def spTwoQ (f : Rat → Rat → Rat) : Sp := fun vs H Q _ => ∃ (B : List Addr) (x y : V) (p r : Rat), vs = [x, y] ∧ Dt B H x (enc (qp p)) ∧ Dt B H y (enc (qp r)) ∧ Qb p ∧ Qb r ∧
  ∀ a H', Same H H' → H a = none → H' a = some (.tup [.int (f p r).num, .int (f p r).den]) → Q (.ref a) H'
theorem nb {n : Nat} (h : n < lim) : ((n : Int)).natAbs < lim2 := Nat.lt_of_lt_of_le h lim_le
theorem ib {i : Int} (h : i.natAbs < lim) : i.natAbs < lim2 := Nat.lt_of_lt_of_le h lim_le
theorem dd0 (p r : Rat) : (p.den : Int) * (r.den : Int) ≠ 0 := by
  have h1 := p.den_nz
  have h2 := r.den_nz
  rw [← Int.natCast_mul]
  have := Nat.mul_pos (Nat.pos_of_ne_zero h1) (Nat.pos_of_ne_zero h2)
  omega
theorem ddl {p r : Rat} (h1 : Qb p) (h2 : Qb r) : ((p.den : Int) * (r.den : Int)).natAbs < lim2 := by
  rw [← Int.natCast_mul]
  exact mul_lim h1.1 h2.1
def spLessQ : Sp := fun vs H Q _ => ∃ (B : List Addr) (x y : V) (p r : Rat), vs = [x, y] ∧ Dt B H x (enc (qp p)) ∧ Dt B H y (enc (qp r)) ∧ Qb p ∧ Qb r ∧ Q (.bl (decide (p < r))) H
theorem ok_plus (T : Tx K mg) {k : Nat} : FnOk P w K mg base CX0 (k + 3) T.f_plus T.d_plus ["one", "other"] (spTwoQ (· + ·)) := by
  refine T.F_plus.ok sc_plus (fun vs H Q E h => ?_) (fun cdv A outer s H vs Q E hr h => ?_)
  · obtain ⟨B, x, y, p, r, rfl, _⟩ := h
    rfl
  · obtain ⟨B, x, y, p, r, rfl, hx, hy, op, or', q⟩ := h
    obtain ⟨pa, rfl, _, ea⟩ := hx.col
    obtain ⟨pb, rfl, _, eb⟩ := hy.col
    obtain ⟨o1, o2⟩ := id op
    obtain ⟨r1, r2⟩ := id or'
    refine ⟨_, (pss_one (ps_ret (pe_call (ok_part T (k := k)) hr (by rfl) T.g_part T.F_part.kp T.b_part .nil pass0 (pa_cons (pe_op op_add (pe_op op_mulW (pe_ix (ix_tupK K) (pv 0) pe_int (fun _ _ => rfl)) (pe_ix (ix_tupK K) (pv 1) pe_int (fun _ _ => rfl))) (pe_op op_mulW (pe_ix (ix_tupK K) (pv 1) pe_int (fun _ _ => rfl)) (pe_ix (ix_tupK K) (pv 0) pe_int (fun _ _ => rfl)))) (pa_cons (pe_op op_mulW (pe_ix (ix_tupK K) (pv 0) pe_int (fun _ _ => rfl)) (pe_ix (ix_tupK K) (pv 1) pe_int (fun _ _ => rfl))) pa_nil))))), ?_⟩
    exact ⟨_, rfl, pa, _, 0, .int p.num, rfl, rfl, SqT.of ea, rfl, _, rfl, pb, _, 1, .int r.den, rfl, rfl, SqT.of eb, rfl, _, _, rfl, rfl, lim_mul (ib o2) (nb r1),
      _, rfl, pb, _, 0, .int r.num, rfl, rfl, SqT.of eb, rfl, _, rfl, pa, _, 1, .int p.den, rfl, rfl, SqT.of ea, rfl, _, _, rfl, rfl, lim_mul (ib r2) (nb o1), _, _, rfl, rfl,
      _, rfl, pa, _, 1, .int p.den, rfl, rfl, SqT.of ea, rfl, _, rfl, pb, _, 1, .int r.den, rfl, rfl, SqT.of eb, rfl, _, _, rfl, rfl, lim_mul (nb o1) (nb r1), _, _, rfl, dd0 p r, ddl op or', fun a H' s' h' e' => q a H' s' h' (by rw [add_q] at e'; exact e')⟩
theorem ok_times (T : Tx K mg) {k : Nat} : FnOk P w K mg base CX0 (k + 3) T.f_times T.d_times ["one", "other"] (spTwoQ (· * ·)) := by
  refine T.F_times.ok sc_times (fun vs H Q E h => ?_) (fun cdv A outer s H vs Q E hr h => ?_)
  · obtain ⟨B, x, y, p, r, rfl, _⟩ := h
    rfl
  · obtain ⟨B, x, y, p, r, rfl, hx, hy, op, or', q⟩ := h
    obtain ⟨pa, rfl, _, ea⟩ := hx.col
    obtain ⟨pb, rfl, _, eb⟩ := hy.col
    obtain ⟨o1, o2⟩ := id op
    obtain ⟨r1, r2⟩ := id or'
    refine ⟨_, (pss_one (ps_ret (pe_call (ok_part T (k := k)) hr (by rfl) T.g_part T.F_part.kp T.b_part .nil pass0 (pa_cons (pe_op op_mulW (pe_ix (ix_tupK K) (pv 0) pe_int (fun _ _ => rfl)) (pe_ix (ix_tupK K) (pv 1) pe_int (fun _ _ => rfl))) (pa_cons (pe_op op_mulW (pe_ix (ix_tupK K) (pv 0) pe_int (fun _ _ => rfl)) (pe_ix (ix_tupK K) (pv 1) pe_int (fun _ _ => rfl))) pa_nil))))), ?_⟩
    exact ⟨_, rfl, pa, _, 0, .int p.num, rfl, rfl, SqT.of ea, rfl, _, rfl, pb, _, 0, .int r.num, rfl, rfl, SqT.of eb, rfl, _, _, rfl, rfl, lim_mul (ib o2) (ib r2),
      _, rfl, pa, _, 1, .int p.den, rfl, rfl, SqT.of ea, rfl, _, rfl, pb, _, 1, .int r.den, rfl, rfl, SqT.of eb, rfl, _, _, rfl, rfl, lim_mul (nb o1) (nb r1), _, _, rfl, dd0 p r, ddl op or', fun a H' s' h' e' => q a H' s' h' (by rw [mul_q] at e'; exact e')⟩
theorem ok_l_plus (T : Tx K mg) {k : Nat} : FnOk P w K mg base CX0 (k + 2) T.f_l_plus T.d_l_plus ["_law_one", "_law_other"] (spTwoQ (· + ·)) := by
  refine T.F_l_plus.ok sc_l_plus (fun vs H Q E h => ?_) (fun cdv A outer s H vs Q E hr h => ?_)
  · obtain ⟨B, x, y, p, r, rfl, _⟩ := h
    rfl
  · obtain ⟨B, x, y, p, r, rfl, hx, hy, op, or', q⟩ := h
    obtain ⟨pa, rfl, _, ea⟩ := hx.col
    obtain ⟨pb, rfl, _, eb⟩ := hy.col
    obtain ⟨o1, o2⟩ := id op
    obtain ⟨r1, r2⟩ := id or'
    refine ⟨_, (pss_one (ps_ret (pe_call (ok_l_part T (k := k)) hr (by rfl) T.g_l_part T.F_l_part.kp T.b_l_part .nil pass0 (pa_cons (pe_op op_add (pe_op op_mulW (pe_ix (ix_tupK K) (pv 0) pe_int (fun _ _ => rfl)) (pe_ix (ix_tupK K) (pv 1) pe_int (fun _ _ => rfl))) (pe_op op_mulW (pe_ix (ix_tupK K) (pv 1) pe_int (fun _ _ => rfl)) (pe_ix (ix_tupK K) (pv 0) pe_int (fun _ _ => rfl)))) (pa_cons (pe_op op_mulW (pe_ix (ix_tupK K) (pv 0) pe_int (fun _ _ => rfl)) (pe_ix (ix_tupK K) (pv 1) pe_int (fun _ _ => rfl))) pa_nil))))), ?_⟩
    exact ⟨_, rfl, pa, _, 0, .int p.num, rfl, rfl, SqT.of ea, rfl, _, rfl, pb, _, 1, .int r.den, rfl, rfl, SqT.of eb, rfl, _, _, rfl, rfl, lim_mul (ib o2) (nb r1),
      _, rfl, pb, _, 0, .int r.num, rfl, rfl, SqT.of eb, rfl, _, rfl, pa, _, 1, .int p.den, rfl, rfl, SqT.of ea, rfl, _, _, rfl, rfl, lim_mul (ib r2) (nb o1), _, _, rfl, rfl,
      _, rfl, pa, _, 1, .int p.den, rfl, rfl, SqT.of ea, rfl, _, rfl, pb, _, 1, .int r.den, rfl, rfl, SqT.of eb, rfl, _, _, rfl, rfl, lim_mul (nb o1) (nb r1), _, _, rfl, dd0 p r, ddl op or', fun a H' s' h' e' => q a H' s' h' (by rw [add_q] at e'; exact e')⟩
/-! ### how far from a middle: what the numbers stay below -/
def eM (fs : List (Int × Int)) : PyData := .tuple (fs.map enc)
def eMq (m : List Rat) : PyData := eM (m.map qp)
theorem gap_q (n : Int) (z : Rat) : Rat.divInt (n * z.den - z.num) z.den = (n : Rat) - z := by
  have h1 : (z.den : Int) ≠ 0 := by have := z.den_nz; omega
  have e : (n : Rat) = Rat.divInt (n * z.den) z.den := by
    have : Rat.divInt (n * z.den) (1 * z.den) = Rat.divInt n 1 := Rat.divInt_mul_right h1
    rw [Int.one_mul] at this
    rw [this, ← Rat.num_divInt_den (n : Rat)]
    rfl
  have e2 := Rat.divInt_sub_divInt (n * z.den) z.num h1 h1
  rw [← e, qq] at e2
  rw [e2, ← Int.sub_mul, Rat.divInt_mul_right h1]
structure FarOk (c : List Int) (m : List Rat) (M A : Nat) : Prop where
  l : m.length = c.length
  l2 : c.length ≤ 100
  c : cIn (-100000000) 100000000 c
  M0 : 0 < M
  M1 : M < 2 ^ 200
  A1 : A < 2 ^ 200
  m : ∀ z ∈ m, Fr M A z
theorem fb1 {M : Nat} (h : M < 2 ^ 200) : M * M < lim := Nat.lt_of_lt_of_le (Nat.mul_lt_mul'' h h) (by decide +kernel)
theorem fb2 {M A : Nat} (h : M < 2 ^ 200) (h2 : A < 2 ^ 200) : 100000000 * M + A < 2 ^ 228 := by omega
theorem fb3 {M A : Nat} (h : M < 2 ^ 200) (h2 : A < 2 ^ 200) : (100000000 * M + A) * (100000000 * M + A) < 2 ^ 456 := Nat.lt_of_lt_of_le (Nat.mul_lt_mul'' (fb2 h h2) (fb2 h h2)) (by decide +kernel)
theorem fb4 {M A i : Nat} (h : M < 2 ^ 200) (h2 : A < 2 ^ 200) (hi : i ≤ 100) : i * ((100000000 * M + A) * (100000000 * M + A)) < lim := Nat.lt_of_le_of_lt (Nat.mul_le_mul hi (Nat.le_of_lt (fb3 h h2))) (by decide +kernel)
theorem FarOk.cb {c : List Int} {m : List Rat} {M A : Nat} (o : FarOk c m M A) (i : Nat) : (c.getD i 0).natAbs ≤ 100000000 := by
  rw [List.getD_eq_getElem?_getD]
  cases e : c[i]? with
  | none => exact Nat.zero_le _
  | some x =>
    have := o.c x (List.mem_of_getElem? e)
    show x.natAbs ≤ 100000000
    omega
theorem FarOk.far {c : List Int} {m : List Rat} {M A : Nat} (o : FarOk c m M A) (i : Nat) : Fr (M * M) (i * ((100000000 * M + A) * (100000000 * M + A))) (farN c m i) := farN_fr o.M0 o.cb o.m i
theorem FarOk.qb {c : List Int} {m : List Rat} {M A : Nat} (o : FarOk c m M A) {i : Nat} (hi : i ≤ 100) : Qb (farN c m i) := (o.far i).qb (Nat.mul_pos o.M0 o.M0) (fb1 o.M1) (fb4 o.M1 o.A1 hi)
theorem FarOk.gap {c : List Int} {m : List Rat} {M A : Nat} (o : FarOk c m M A) {i : Nat} {n : Int} (hn : n.natAbs ≤ 100000000) {z : Rat} (hz : z ∈ m) : Fr M (100000000 * M + A) ((n : Rat) - z) := (Fr.int o.M0 hn).sub o.M0 (o.m z hz)
theorem FarOk.gapb {c : List Int} {m : List Rat} {M A : Nat} (o : FarOk c m M A) {n : Int} (hn : n.natAbs ≤ 100000000) {z : Rat} (hz : z ∈ m) : Qb ((n : Rat) - z) ∧ Qb (((n : Rat) - z) * ((n : Rat) - z)) := by
  have g := o.gap (i := 0) hn hz
  refine ⟨g.qb o.M0 (Nat.lt_of_lt_of_le o.M1 (by decide +kernel)) (Nat.lt_of_lt_of_le (fb2 o.M1 o.A1) (by decide +kernel)), (g.mul g).qb (Nat.mul_pos o.M0 o.M0) (fb1 o.M1) (Nat.lt_of_lt_of_le (fb3 o.M1 o.A1) (by decide +kernel))⟩
theorem FarOk.denb {c : List Int} {m : List Rat} {M A : Nat} (o : FarOk c m M A) {z : Rat} (hz : z ∈ m) : ((z.den : Int)).natAbs < lim2 := Nat.lt_of_le_of_lt ((o.m z hz).den o.M0) (Nat.lt_of_lt_of_le o.M1 (by decide +kernel))
theorem dtM {B : List Addr} {H : Hp} {vs : List V} {m : List Rat} (h : DtA B H vs ((m.map qp).map enc)) {i : Nat} {v : V} (hv : vs[i]? = some v) : ∃ z a, m[i]? = some z ∧ v = .ref a ∧ a ∉ B ∧ H a = some (.tup [.int z.num, .int z.den]) := by
  obtain ⟨d, f, g⟩ := h.getV hv
  rw [List.map_map, List.getElem?_map] at f
  cases e : m[i]? with
  | none => rw [e] at f; cases f
  | some z =>
    rw [e] at f
    have ed : d = enc (qp z) := (Option.some.inj f).symm
    subst ed
    obtain ⟨a, rfl, na, ea⟩ := g.col
    exact ⟨z, a, rfl, rfl, na, ea⟩
def spFar : Sp := fun vs H Q _ => ∃ (B1 B2 B : List Addr) (x y : V) (c : List Int) (m : List Rat) (M A : Nat), vs = [x, y] ∧ Dt B1 H x (eC c) ∧ Dt B2 H y (eMq m) ∧ Bk B H ∧ FarOk c m M A ∧ ∀ v' H', Same H H' → Dt B H' v' (enc (qp (farN c m c.length))) → Q v' H'
theorem farN_step {c : List Int} {m : List Rat} {i : Nat} {n : Int} {z : Rat} (h1 : c[i]? = some n) (h2 : m[i]? = some z) : farN c m (i + 1) = farN c m i + ((n : Rat) - z) * ((n : Rat) - z) := by
  rw [farN, List.getD_eq_getElem?_getD, List.getD_eq_getElem?_getD, h1, h2]
  rfl
theorem ok_far_of (T : Tx K mg) {k : Nat} : FnOk P w K mg base CX0 (k + 4) T.f_far_of T.d_far_of ["colour", "middle"] spFar := by
  refine T.F_far_of.ok sc_far_of (fun vs H Q E h => ?_) (fun cdv A outer s H vs Q E hr h => ?_)
  · obtain ⟨B1, B2, B, x, y, c, m, M, A', rfl, _⟩ := h
    rfl
  · obtain ⟨B1, B2, B, x, y, c, m, M, A', rfl, hx, hy, hB, o, q⟩ := h
    obtain ⟨ca, rfl, nca, ec⟩ := hx.col
    obtain ⟨ma, mvs, rfl, nma, em, hA⟩ := hy.tupI
    have lm := hA.len
    simp only [List.length_map] at lm
    have ol := o.l
    have ol2 := o.l2
    refine ⟨_, (pss_cons (ps_set (i := 2) sc_far_of.nd rfl (.inl rfl) (pe_tup (pa_cons pe_int (pa_cons pe_int pa_nil))))
      (pss_cons (ps_for PassesOwn.never rfl (RZ.pi_zipA (by rfl) T.z_zip (pa_cons (pv 0) (pa_cons (pv 1) pa_nil))) (pg_tupK K (n := 2) rfl (pgs_cons (pg_name (i := 3) sc_far_of.nd rfl (.inl rfl)) (pgs_cons (pg_tupK K (n := 2) rfl (pgs_cons (pg_name (i := 4) sc_far_of.nd rfl (.inl rfl)) (pgs_cons (pg_name (i := 5) sc_far_of.nd rfl (.inl rfl)) pgs_nil))) pgs_nil))) (pss_cons (ps_set (i := 6) sc_far_of.nd rfl (.inl rfl) (pe_call (ok_part T (k := k + 1)) hr (by rfl) T.g_part T.F_part.kp T.b_part .nil pass0 (pa_cons (pe_op op_sub (pe_op op_mul (pv 3) (pv 5)) (pv 4)) (pa_cons (pv 5) pa_nil))))
      (pss_one (ps_set (i := 2) sc_far_of.nd rfl (.inl rfl) (pe_call (ok_plus T (k := k)) hr (by rfl) T.g_plus T.F_plus.kp T.b_plus .nil pass0 (pa_cons (pv 2) (pa_cons (pe_call (ok_times T (k := k)) hr (by rfl) T.g_times T.F_times.kp T.b_times .nil pass0 (pa_cons (pv 6) (pa_cons (pv 6) pa_nil))) pa_nil)))))))
      (pss_one (ps_ret (pv 2))))), ?_⟩
    refine ⟨(by show 2 ≤ sizeLine; decide), fun s0 hs0 => ?_⟩
    have t0 := sm_new (o := .tup [.int 0, .int 1]) hs0
    refine ⟨_, rfl, _, rfl, ca, ma, _, _, rfl, .inr ⟨SqT.of (t0 _ _ ec), SqT.of (t0 _ _ em), ?_⟩⟩
    refine for_it (walk_zipT (n := c.length) (xs := c.map V.int) (ys := mvs) (by simp; omega)) (fun i σ H' => ∃ y3 y4 y5 y6 sv, σ = [some (.ref ca), some (.ref ma), some sv, y3, y4, y5, y6] ∧ Same H H' ∧ Dt B H' sv (enc (qp (farN c m i))))
      ⟨_, _, _, _, _, rfl, t0, Dt.ofCol (hB.ne hs0) upd_same⟩ (fun i σ H' _ h => ?_) (fun i x σ H1 H2 hi' h1 y => ?_) (fun σ H1 h1 => ?_)
    · obtain ⟨y3, y4, y5, y6, sv, rfl, s1, d1⟩ := h
      exact ⟨SqT.of (s1 _ _ ec), SqT.of (s1 _ _ em)⟩
    · obtain ⟨y3, y4, y5, y6, sv, rfl, s1, d1⟩ := h1
      obtain ⟨t, x, y, rfl, ht, rfl, f1, f2⟩ := y
      have x1 := mat hi' f1
      subst x1
      obtain ⟨z, za, hz, rfl, nz, ez⟩ := dtM hA f2
      have mz := List.mem_of_getElem? hz
      have s2 := s1.trans (sm_new (o := .tup [.int c[i], .ref za]) ht)
      have hn : (c[i]).natAbs ≤ 100000000 := by have := o.c _ (List.getElem_mem hi'); omega
      have d2 := d1.s (sm_new (o := .tup [.int c[i], .ref za]) ht)
      refine ⟨t, _, rfl, SqT.of upd_same, rfl, _, _, rfl, _, _, rfl, za, _, rfl, SqT.of (s2 _ _ ez), rfl, _, _, rfl, _, _, rfl, rfl, rfl, ?_⟩
      generalize upd H1 t (.tup [.int c[i], .ref za]) = H2 at *
      have dn : (z.den : Int) ≠ 0 := by have := z.den_nz; omega
      refine ⟨_, rfl, _, rfl, _, _, rfl, rfl, .inl ⟨by omega, by omega⟩, _, rfl, _, _, rfl, rfl, _, rfl, _, _, rfl, dn, o.denb mz, fun p3 H3 s3 hp3 e3 => ?_⟩
      rw [gap_q] at e3
      have B2 : Bk B H2 := hB.go (Go.of (B := B) s2)
      have B3 : Bk B H3 := B2.go (Go.of (B := B) s3)
      have d3 : Dt B H3 (.ref p3) (enc (qp ((c[i] : Rat) - z))) := Dt.ofCol (B2.ne hp3) e3
      have gb := o.gapb hn mz
      refine ⟨_, rfl, _, rfl, _, rfl, B, .ref p3, .ref p3, _, _, rfl, d3, d3, gb.1, gb.1, fun p4 H4 s4 hp4 e4 => ?_⟩
      have d4 : Dt B H4 (.ref p4) (enc (qp (((c[i] : Rat) - z) * ((c[i] : Rat) - z)))) := Dt.ofCol (B3.ne hp4) e4
      refine ⟨B, sv, .ref p4, _, _, rfl, (d2.s s3).s s4, d4, o.qb (by omega), gb.2, fun p5 H5 s5 hp5 e5 => ?_⟩
      refine ⟨_, _, _, _, _, rfl, ((s2.trans s3).trans s4).trans s5, ?_⟩
      rw [farN_step (List.getElem?_eq_getElem hi') hz]
      exact Dt.ofCol ((B3.go (Go.of (B := B) s4)).ne hp5) e5
    · obtain ⟨y3, y4, y5, y6, sv, rfl, s1, d1⟩ := h1
      exact ⟨_, rfl, q _ _ s1 d1⟩
/-! ### the sum of what rows are away from a middle -/
def rowAt (rs : List (List Int × Int)) (i : Nat) : List Int × Int := rs.getD i ([], 0)
def totN (rs : List (List Int × Int)) (m : List Rat) (wd : Nat) : Nat → Rat
  | 0 => 0
  | i + 1 => totN rs m wd i + ((rowAt rs i).2 : Rat) * farN (rowAt rs i).1 m wd
def plN (rs : List (List Int × Int)) (x : Rat) (p : Nat) : Nat → Rat
  | 0 => 0
  | i + 1 => plN rs x p i + ((rowAt rs i).2 : Rat) * sq (((rowAt rs i).1.getD p 0 : Rat) - x)
def s0N (rs : List (List Int × Int)) : Nat → Int
  | 0 => 0
  | i + 1 => s0N rs i + (rowAt rs i).2
def s1N (rs : List (List Int × Int)) (p : Nat) : Nat → Int
  | 0 => 0
  | i + 1 => s1N rs p i + (rowAt rs i).2 * (rowAt rs i).1.getD p 0
def s2N (rs : List (List Int × Int)) (p : Nat) : Nat → Int
  | 0 => 0
  | i + 1 => s2N rs p i + (rowAt rs i).2 * (rowAt rs i).1.getD p 0 * (rowAt rs i).1.getD p 0
theorem totN_zero (rs : List (List Int × Int)) (m : List Rat) : ∀ i, totN rs m 0 i = 0
  | 0 => rfl
  | i + 1 => by
    rw [totN, totN_zero rs m i, farN]
    grind
theorem totN_succ (rs : List (List Int × Int)) (m : List Rat) (wd : Nat) : ∀ i, totN rs m (wd + 1) i = totN rs m wd i + plN rs (m.getD wd 0) wd i
  | 0 => by simp [totN, plN]; grind
  | i + 1 => by
    rw [totN, totN, plN, totN_succ rs m wd i, farN]
    grind
theorem plN_eq (rs : List (List Int × Int)) (x : Rat) (p : Nat) : ∀ i, plN rs x p i = (s2N rs p i : Rat) - 2 * x * (s1N rs p i : Rat) + x * x * (s0N rs i : Rat)
  | 0 => by simp [plN, s2N, s1N, s0N]; grind
  | i + 1 => by
    rw [plN, plN_eq rs x p i, s2N, s1N, s0N]
    unfold sq
    simp only [Rat.intCast_add, Rat.intCast_mul]
    grind
theorem sq_nonneg (x : Rat) : 0 ≤ x * x := by
  rcases Rat.nonneg_total x with h | h
  · exact Rat.mul_nonneg h h
  · have := Rat.mul_nonneg h h
    rw [Rat.neg_mul, Rat.mul_neg, Rat.neg_neg] at this
    exact this
theorem plN_least {rs : List (List Int × Int)} {p i : Nat} {u : Rat} (x : Rat) (h0 : 0 ≤ s0N rs i) (hu : (s1N rs p i : Rat) = u * (s0N rs i : Rat)) : plN rs u p i ≤ plN rs x p i := by
  rw [Rat.le_iff_sub_nonneg, plN_eq, plN_eq, hu]
  have e : ((s2N rs p i : Rat) - 2 * x * (u * (s0N rs i : Rat)) + x * x * (s0N rs i : Rat)) - ((s2N rs p i : Rat) - 2 * u * (u * (s0N rs i : Rat)) + u * u * (s0N rs i : Rat)) = (s0N rs i : Rat) * ((x - u) * (x - u)) := by grind
  rw [e]
  exact Rat.mul_nonneg (Rat.intCast_nonneg.mpr h0) (sq_nonneg _)
theorem totN_least {rs : List (List Int × Int)} {i : Nat} {m u : List Rat} (h0 : 0 ≤ s0N rs i) : ∀ wd, (∀ p, p < wd → (s1N rs p i : Rat) = u.getD p 0 * (s0N rs i : Rat)) → totN rs u wd i ≤ totN rs m wd i
  | 0, _ => by rw [totN_zero, totN_zero]; exact Rat.le_refl
  | wd + 1, h => by
    rw [totN_succ, totN_succ]
    have a := totN_least (m := m) h0 wd fun p hp => h p (by omega)
    have b := plN_least (rs := rs) (p := wd) (i := i) (m.getD wd 0) h0 (h wd (by omega))
    have c := Rat.add_le_add_right (c := plN rs (u.getD wd 0) wd i) |>.mpr a
    have d := Rat.add_le_add_left (c := totN rs m wd i) |>.mpr b
    exact Rat.le_trans c d
theorem s0N_all : ∀ (rs : List (List Int × Int)), s0N rs rs.length = cnt rs := by
  have h : ∀ (rs : List (List Int × Int)) (i : Nat), s0N rs i = cnt (rs.take i) := by
    intro rs i
    induction i with
    | zero => rfl
    | succ i ih =>
      rw [s0N, ih, List.take_add_one]
      unfold cnt rowAt
      cases e : rs[i]? with
      | none => simp [List.getD_eq_getElem?_getD, e]
      | some r => simp [List.getD_eq_getElem?_getD, e]
  intro rs
  rw [h, List.take_length]
theorem s1N_all (p : Nat) : ∀ (rs : List (List Int × Int)), s1N rs p rs.length = wsum rs p := by
  have h : ∀ (rs : List (List Int × Int)) (i : Nat), s1N rs p i = wsum (rs.take i) p := by
    intro rs i
    induction i with
    | zero => rfl
    | succ i ih =>
      rw [s1N, ih, List.take_add_one]
      unfold wsum rowAt
      cases e : rs[i]? with
      | none => simp [List.getD_eq_getElem?_getD, e]
      | some r => simp [List.getD_eq_getElem?_getD, e]
  intro rs
  rw [h, List.take_length]
def midQ (rs : List (List Int × Int)) (p : Nat) : Rat := Rat.divInt (wsum rs p) (cnt rs)
def midL (rs : List (List Int × Int)) (wd : Nat) : List Rat := (List.range wd).map (midQ rs)
theorem midL_at {rs : List (List Int × Int)} {wd p : Nat} (h : p < wd) : (midL rs wd).getD p 0 = midQ rs p := by
  unfold midL
  rw [List.getD_eq_getElem?_getD, List.getElem?_map, List.getElem?_range h]
  rfl
theorem div_mul_q {t b : Int} (h : b ≠ 0) : Rat.divInt t b * (b : Rat) = (t : Rat) := by
  rw [Rat.divInt_eq_div]
  refine Rat.div_mul_cancel ?_
  intro z
  exact h (Rat.intCast_inj.mp z)
theorem spread_least {rs : List (List Int × Int)} {wd : Nat} (h : 0 < cnt rs) (m : List Rat) : totN rs (midL rs wd) wd rs.length ≤ totN rs m wd rs.length := by
  refine totN_least (by rw [s0N_all]; omega) wd fun p hp => ?_
  rw [midL_at hp, s0N_all, s1N_all]
  unfold midQ
  exact (div_mul_q (by omega)).symm
theorem farN_self {c : List Int} {m : List Rat} : ∀ wd, (∀ p, p < wd → m.getD p 0 = (c.getD p 0 : Rat)) → farN c m wd = 0
  | 0, _ => rfl
  | wd + 1, h => by
    rw [farN, farN_self wd fun p hp => h p (by omega), h wd (by omega)]
    unfold sq
    grind
theorem midQ_one {c : List Int} {n : Int} {p : Nat} (h : 0 < n) : midQ [(c, n)] p = (c.getD p 0 : Rat) := by
  unfold midQ wsum cnt
  simp only [List.map_cons, List.map_nil, List.sum_cons, List.sum_nil, Int.add_zero]
  have : Rat.divInt (n * c.getD p 0) (n * 1) = Rat.divInt (c.getD p 0) 1 := Rat.divInt_mul_left (by omega)
  rw [Int.mul_one] at this
  rw [this, ← Rat.num_divInt_den (c.getD p 0 : Rat)]
  rfl
theorem spread_one {c : List Int} {n : Int} {wd : Nat} (h : 0 < n) : totN [(c, n)] (midL [(c, n)] wd) wd 1 = 0 := by
  show (0 : Rat) + (n : Rat) * farN c (midL [(c, n)] wd) wd = 0
  rw [farN_self wd fun p hp => by rw [midL_at hp, midQ_one h]]
  grind
theorem rowAt_of {rs : List (List Int × Int)} {i : Nat} (h : i < rs.length) : rowAt rs i = rs[i] := by
  unfold rowAt
  rw [List.getD_eq_getElem?_getD, List.getElem?_eq_getElem h]
  rfl
theorem totN_step {rs : List (List Int × Int)} {m : List Rat} {wd i : Nat} (h : i < rs.length) : totN rs m wd (i + 1) = totN rs m wd i + (rs[i].2 : Rat) * farN rs[i].1 m wd := by
  rw [totN, rowAt_of h]
structure TotOk (rs : List (List Int × Int)) (m : List Rat) (wd M A : Nat) : Prop where
  l : rs.length ≤ 1000
  w : wd ≤ 100
  r : ∀ r ∈ rs, rOk wd r
  f : ∀ r ∈ rs, FarOk r.1 m M A
theorem TotOk.one {rs : List (List Int × Int)} {m : List Rat} {wd M A : Nat} (o : TotOk rs m wd M A) {r : List Int × Int} (h : r ∈ rs) : Fr (M * M) (1000 * (wd * ((100000000 * M + A) * (100000000 * M + A)))) ((r.2 : Rat) * farN r.1 m wd) := by
  have h1 := o.r r h
  have h2 := (o.f r h).far wd
  have h3 : Fr 1 (1000 * 1) (r.2 : Rat) := Fr.int (by decide) (by have := h1.2.2; omega)
  have := h3.mul h2
  rw [Nat.one_mul, Nat.mul_one] at this
  exact this
theorem TotOk.tot {rs : List (List Int × Int)} {m : List Rat} {wd M A : Nat} (hM : 0 < M) (o : TotOk rs m wd M A) : ∀ i, i ≤ rs.length → Fr (M * M) (i * (1000 * (wd * ((100000000 * M + A) * (100000000 * M + A))))) (totN rs m wd i)
  | 0, _ => Fr.zero (Nat.mul_pos hM hM)
  | i + 1, h => by
    rw [totN_step (by omega), Nat.succ_mul]
    exact (TotOk.tot hM o i (by omega)).add (Nat.mul_pos hM hM) (o.one (List.getElem_mem _))
theorem tb1 {M A wd i : Nat} (h : M < 2 ^ 200) (h2 : A < 2 ^ 200) (hi : i ≤ 1000) (hw : wd ≤ 100) : i * (1000 * (wd * ((100000000 * M + A) * (100000000 * M + A)))) < lim :=
  Nat.lt_of_le_of_lt (Nat.mul_le_mul hi (Nat.mul_le_mul_left _ (Nat.mul_le_mul hw (Nat.le_of_lt (fb3 h h2))))) (by decide +kernel)
theorem TotOk.qb {rs : List (List Int × Int)} {m : List Rat} {wd M A : Nat} (h : 0 < rs.length) (o : TotOk rs m wd M A) {i : Nat} (hi : i ≤ rs.length) : Qb (totN rs m wd i) := by
  have f := o.f _ (List.getElem_mem h)
  have := o.l
  exact (o.tot f.M0 i hi).qb (Nat.mul_pos f.M0 f.M0) (fb1 f.M1) (tb1 f.M1 f.A1 (by omega) o.w)
theorem TotOk.qb1 {rs : List (List Int × Int)} {m : List Rat} {wd M A : Nat} (o : TotOk rs m wd M A) {r : List Int × Int} (h : r ∈ rs) : Qb ((r.2 : Rat) * farN r.1 m wd) := by
  have f := o.f _ h
  exact (o.one h).qb (Nat.mul_pos f.M0 f.M0) (fb1 f.M1) (Nat.lt_of_le_of_lt (Nat.le_of_eq (Nat.one_mul _).symm) (tb1 f.M1 f.A1 (show 1 ≤ 1000 by decide) o.w))
theorem qb_int {n : Int} (h : n.natAbs < lim) : Qb (n : Rat) := ⟨(by show 1 < lim; decide +kernel), h⟩
theorem mid_far {rs : List (List Int × Int)} {wd : Nat} (h0 : 0 < rs.length) (hl : rs.length ≤ 1000) (hw : wd ≤ 100) (ho : ∀ r ∈ rs, rOk wd r) {c : List Int} (hc : c.length = wd) (hi : cIn (-100000000) 100000000 c) : FarOk c (midL rs wd) (cnt rs).natAbs (999000 * rs.length) where
  l := by unfold midL; rw [List.length_map, List.length_range]; exact hc.symm
  l2 := by omega
  c := hi
  M0 := by have := cnt_in ho; omega
  M1 := by have := cnt_in ho; omega
  A1 := by omega
  m := fun z hz => by
    obtain ⟨p, hp, rfl⟩ := List.mem_map.mp hz
    have := cnt_in ho
    have w := wsum_in p ho
    refine ⟨wsum rs p, ?_, by omega⟩
    unfold midQ
    congr 1
    omega
theorem mid_tot {rs : List (List Int × Int)} {wd : Nat} (h0 : 0 < rs.length) (hl : rs.length ≤ 1000) (hw : wd ≤ 100) (ho : ∀ r ∈ rs, rOk wd r) : TotOk rs (midL rs wd) wd (cnt rs).natAbs (999000 * rs.length) where
  l := hl
  w := hw
  r := ho
  f := fun r hr => mid_far h0 hl hw ho (ho r hr).1 ((ho r hr).2.1.mono (by decide) (by decide))
/-! ### the sum of the counts -/
def spCnt : Sp := fun vs H Q _ => ∃ (B : List Addr) (v : V) (rs : List (List Int × Int)), vs = [v] ∧ Dt B H v (eRs rs) ∧ rs.length ≤ 1000 ∧ ∀ H', Same H H' → Q (.int (cnt rs)) H'
theorem ok_count_of (T : Tx K mg) {k : Nat} : FnOk P w K mg base CX0 (k + 1) T.f_count_of T.d_count_of ["rows"] spCnt := by
  refine T.F_count_of.ok sc_count_of (fun vs H Q E h => ?_) (fun cdv A outer s H vs Q E hr h => ?_)
  · obtain ⟨B, v, rs, rfl, _⟩ := h
    rfl
  · obtain ⟨B, v, rs, rfl, hv, hl, q⟩ := h
    obtain ⟨ra, vs, rfl, na, ea, hA⟩ := hv.lstI
    have lv := hA.len
    rw [List.length_map] at lv
    refine ⟨_, (pss_one (ps_ret (pe_callB (cr_sumK K rfl) (by rfl) T.z_sum (by decide +kernel) (pa_cons (pe_lc (own := [("colour", 1), ("count", 2)]) (by rfl) sc_count_of.nd (pi_listK K (pv 0)) (blkOk_by (own := [("colour", 1), ("count", 2)]) (N := N_count_of) (sc := defScope s_count_of) (by decide +kernel)) (fun _ _ _ _ _ => (pg_tupK K (n := 2) rfl (pgs_cons (pg_name (i := 1) sc_count_of.nd rfl (.inl rfl)) (pgs_cons (pg_name (i := 2) sc_count_of.nd rfl (.inl rfl)) pgs_nil)))) (fun _ _ _ _ _ => pts_nil) (fun _ _ _ _ _ => (pv 2))) pa_nil)))), ?_⟩
    refine ⟨_, rfl, ra, rfl, ⟨_, SqL.of ea⟩, fun D hD => ?_⟩
    refine lc_pure (B := []) (walk_list (xs := vs)) hD (fun _ h => nomatch h) (fun H' s' => SqL.of (s' _ _ ea)) (by omega)
      (fun i => (rs.map fun r => PyData.int r.2)[i]?) (fun i x H' H'' Ny Nn hi t1 bk y ky kn => ?_) (fun H1 ws s1 eS hW => ?_)
    · obtain ⟨rfl, y⟩ := y
      obtain ⟨d1, f1, g1⟩ := hA.getV y
      have hi2 : i < rs.length := by omega
      rw [List.getElem?_map, List.getElem?_eq_getElem hi2] at f1
      have ed : d1 = eRow rs[i] := (Option.some.inj f1).symm
      subst ed
      obtain ⟨a, qa, rfl, _, e1, _, e2⟩ := (g1.s t1).rowI
      refine ⟨a, _, rfl, SqT.of e1, rfl, _, _, rfl, _, _, rfl, rfl, rfl, lc_yes ⟨_, rfl, ?_⟩⟩
      exact ky _ _ _ (by rw [List.getElem?_map, List.getElem?_eq_getElem hi2]; rfl) (Same.refl _) (.int _)
    · rw [fm_all (by simp; omega)] at hW
      have hW2 : DtA [D] H1 ws ((rs.map fun r => r.2).map PyData.int) := by rw [List.map_map]; exact hW
      refine ⟨D, _, rfl, SqL.of (by rw [eS, hW2.intsV]), ?_⟩
      exact q _ s1
/-! ### sums by counts, the middle -/
def spWs : Sp := fun vs H Q _ => ∃ (B : List Addr) (v : V) (rs : List (List Int × Int)) (z : Int) (p wd : Nat), vs = [v, .int z] ∧ z = (p : Int) ∧ Dt B H v (eRs rs) ∧ rs.length ≤ 1000 ∧ p < wd ∧ (∀ r ∈ rs, rOk wd r) ∧ ∀ H', Same H H' → Q (.int (wsum rs p)) H'
theorem ok_weighed_sum (T : Tx K mg) {k : Nat} : FnOk P w K mg base CX0 (k + 1) T.f_weighed_sum T.d_weighed_sum ["rows", "place"] spWs := by
  refine T.F_weighed_sum.ok sc_weighed_sum (fun vs H Q E h => ?_) (fun cdv A outer s H vs Q E hr h => ?_)
  · obtain ⟨B, v, rs, z, p, wd, rfl, _⟩ := h
    rfl
  · obtain ⟨B, v, rs, z, p, wd, rfl, rfl, hv, hl, hp, ho, q⟩ := h
    obtain ⟨ra, vs, rfl, na, ea, hA⟩ := hv.lstI
    have lv := hA.len
    rw [List.length_map] at lv
    refine ⟨_, (pss_one (ps_ret (pe_callB (cr_sumK K rfl) (by rfl) T.z_sum (by decide +kernel) (pa_cons (pe_lc (own := [("colour", 2), ("count", 3)]) (by rfl) sc_weighed_sum.nd (pi_listK K (pv 0)) (blkOk_by (own := [("colour", 2), ("count", 3)]) (N := N_weighed_sum) (sc := defScope s_weighed_sum) (by decide +kernel)) (fun _ _ _ _ _ => (pg_tupK K (n := 2) rfl (pgs_cons (pg_name (i := 2) sc_weighed_sum.nd rfl (.inl rfl)) (pgs_cons (pg_name (i := 3) sc_weighed_sum.nd rfl (.inl rfl)) pgs_nil)))) (fun _ _ _ _ _ => pts_nil) (fun _ _ _ _ _ => (pe_op op_mul (pv 3) (pe_ix (ix_tupK K) (pv 2) (pv 1) (fun _ _ => rfl))))) pa_nil)))), ?_⟩
    refine ⟨_, rfl, ra, rfl, ⟨_, SqL.of ea⟩, fun D hD => ?_⟩
    refine lc_pure (B := []) (walk_list (xs := vs)) hD (fun _ h => nomatch h) (fun H' s' => SqL.of (s' _ _ ea)) (by omega)
      (fun i => (rs.map fun r => PyData.int (r.2 * r.1.getD p 0))[i]?) (fun i x H' H'' Ny Nn hi t1 bk y ky kn => ?_) (fun H8 ws s8 eS hW => ?_)
    · obtain ⟨rfl, y⟩ := y
      obtain ⟨d1, f1, g1⟩ := hA.getV y
      have hi2 : i < rs.length := by omega
      rw [List.getElem?_map, List.getElem?_eq_getElem hi2] at f1
      have ed : d1 = eRow rs[i] := (Option.some.inj f1).symm
      subst ed
      have o := ho _ (List.getElem_mem hi2)
      obtain ⟨a, qa, rfl, _, e1, _, e2⟩ := (g1.s t1).rowI
      have hp2 : p < rs[i].1.length := by rw [o.1]; exact hp
      have eg : rs[i].1.getD p 0 = rs[i].1[p] := by rw [List.getD_eq_getElem?_getD, List.getElem?_eq_getElem hp2]; rfl
      refine ⟨a, _, rfl, SqT.of e1, rfl, _, _, rfl, _, _, rfl, rfl, rfl, lc_yes ?_⟩
      refine ⟨_, rfl, _, rfl, _, rfl, qa, _, _, .int rs[i].1[p], rfl, rfl, SqT.of e2, atI_nat (by rw [List.getElem?_map, List.getElem?_eq_getElem hp2]; rfl), _, _, rfl, rfl, .inl ⟨by have := o.2.2; omega, by have := o.2.2; omega⟩, ?_⟩
      exact ky _ _ _ (by rw [List.getElem?_map, List.getElem?_eq_getElem hi2]; simp only [Option.map_some]; rw [eg]) (Same.refl _) (.int _)
    · rw [fm_all (by simp; omega)] at hW
      have hW2 : DtA [D] H8 ws ((rs.map fun r => r.2 * r.1.getD p 0).map PyData.int) := by rw [List.map_map]; exact hW
      refine ⟨D, _, rfl, SqL.of (by rw [eS, hW2.intsV]), ?_⟩
      exact q _ s8
def spMid : Sp := fun vs H Q _ => ∃ (B C : List Addr) (v : V) (rs : List (List Int × Int)) (wd : Nat), vs = [v] ∧ Dt B H v (eRs rs) ∧ Bk C H ∧ 0 < rs.length ∧ rs.length ≤ 1000 ∧ wd ≤ 100 ∧ (∀ r ∈ rs, rOk wd r) ∧ ∀ v' H', Same H H' → Dt C H' v' (eMq (midL rs wd)) → Q v' H'
theorem ok_middle_of (T : Tx K mg) {k : Nat} : FnOk P w K mg base CX0 (k + 3) T.f_middle_of T.d_middle_of ["rows"] spMid := by
  refine T.F_middle_of.ok sc_middle_of (fun vs H Q E h => ?_) (fun cdv A outer s H vs Q E hr h => ?_)
  · obtain ⟨B, C, v, rs, wd, rfl, _⟩ := h
    rfl
  · obtain ⟨B, C, v, rs, wd, rfl, hv, hB, h0, hl, hw, ho, q⟩ := h
    have hv0 := hv
    obtain ⟨ra, vs, rfl, na, ea, hA⟩ := hv.lstI
    have lv := hA.len
    rw [List.length_map] at lv
    refine ⟨_, (pss_cons (ps_set (i := 1) sc_middle_of.nd rfl (.inr rfl) (pe_call (ok_count_of T (k := k + 1)) hr (by rfl) T.g_count_of T.F_count_of.kp T.b_count_of .nil pass0 (pa_cons (pv 0) pa_nil)))
      (pss_cons (ps_set (i := 2) sc_middle_of.nd rfl (.inl rfl) (pe_callB (len_K K) (by rfl) T.z_len PySem.boot_len (pa_cons (pe_ix (ix_tupK K) (pe_ix (ix_listK K) (pv 0) pe_int (fun _ _ => rfl)) pe_int (fun _ _ => rfl)) pa_nil)))
      (pss_one (ps_ret (pe_callTy (tuple_K K) (by rfl) T.z_tuple (by decide +kernel) (pa_cons (pe_lc (own := [("place", 3)]) (by rfl) sc_middle_of.nd (pi_range1 (by rfl) T.z_range (pa_cons (pv 2) pa_nil)) (blkOk_by (own := [("place", 3)]) (N := N_middle_of) (sc := defScope s_middle_of) (by decide +kernel)) (fun _ _ _ _ _ => (pg_name (i := 3) sc_middle_of.nd rfl (.inl rfl))) (fun _ _ _ _ _ => pts_nil) (fun _ _ _ _ _ => (pe_call (ok_part T (k := k)) hr (by rfl) T.g_part T.F_part.kp T.b_part .nil pass0 (pa_cons (pe_call (ok_weighed_sum T (k := k + 1)) hr (by rfl) T.g_weighed_sum T.F_weighed_sum.kp T.b_weighed_sum .nil pass0 (pa_cons (pv 0) (pa_cons (pv 3) pa_nil))) (pa_cons (pv 1) pa_nil))))) pa_nil)))))), ?_⟩
    refine ⟨_, rfl, B, .ref ra, rs, rfl, hv0, hl, fun H1 s1 => ?_⟩
    have ea1 := s1 _ _ ea
    obtain ⟨v0, f0, d0⟩ := (hA.s s1).get (i := 0) (d := eRow rs[0]) (by rw [List.getElem?_map, List.getElem?_eq_getElem h0]; rfl)
    have o0 := ho _ (List.getElem_mem h0)
    obtain ⟨a0, q0, rfl, _, e0, _, eq0⟩ := d0.rowI
    refine ⟨_, rfl, ra, _, 0, .ref a0, rfl, rfl, SqL.of ea1, atI_nat (j := 0) f0, a0, _, 0, .ref q0, rfl, rfl, SqT.of e0, rfl, q0, _, rfl, .inr (SqT.of eq0), ?_⟩
    have ew : ((rs[0].1.map V.int).length : Int) = (wd : Int) := by rw [List.length_map, o0.1]
    rw [ew]
    have c := cnt_in ho
    refine ⟨_, rfl, (wd : Int), rfl, by omega, by omega, fun D2 hD2 => ?_⟩
    refine lc_pure (B := C) (walk_range (lo := 0)) hD2 (hB.go (Go.of (B := C) s1)) (fun H' s' => True.intro) (by omega)
      (fun i => some (enc (qp (midQ rs i)))) (fun i x H' H'' Ny Nn hi t1 bk y ky kn => ?_) (fun H8 ws s8 eS2 hW => ?_)
    · obtain ⟨rfl, rfl⟩ := y
      have ez : (0 : Int) + (i : Int) = (i : Int) := by omega
      refine ⟨rfl, lc_yes ⟨_, rfl, _, rfl, B, .ref ra, rs, _, i, wd, rfl, ez, (hv0.s s1).s t1, hl, by omega, ho, fun H3 s3 => ?_⟩⟩
      refine ⟨_, rfl, wsum rs i, cnt rs, rfl, by omega, to_lim2 (b := 10 ^ 19) (by omega), fun p H4 s4 hp ep => ?_⟩
      exact ky _ _ _ rfl (s3.trans s4) (Dt.ofCol ((bk.go (Go.of (B := []) s3)).ne hp) ep)
    · rw [fm_some] at hW
      have hW2 : DtA (D2 :: C) H8 ws (((midL rs wd).map qp).map enc) := by
        unfold midL
        rw [List.map_map, List.map_map]
        exact hW
      refine ⟨D2, _, rfl, .inl ⟨SqL.of eS2, fun t ht => ?_⟩⟩
      have B8 := hB.go (Go.of (B := C) (s1.trans s8))
      exact q _ _ ((s1.trans s8).trans (sm_new ht)) (.tup (B8.ne ht) upd_same (hW2.un.s (sm_new ht)))
/-! ### the spread -/
def spSpread : Sp := fun vs H Q _ => ∃ (B C : List Addr) (v : V) (rs : List (List Int × Int)) (wd : Nat), vs = [v] ∧ Dt B H v (eRs rs) ∧ Bk C H ∧ 0 < rs.length ∧ rs.length ≤ 1000 ∧ wd ≤ 100 ∧ (∀ r ∈ rs, rOk wd r) ∧ ∀ v' H', Same H H' → Dt C H' v' (enc (qp (totN rs (midL rs wd) wd rs.length))) → Q v' H'
theorem rowsAt {B : List Addr} {H : Hp} {vs : List V} {rs : List (List Int × Int)} (h : DtA B H vs (rs.map eRow)) {i : Nat} {v : V} (hv : vs[i]? = some v) : ∃ (hi : i < rs.length) (a q : Addr), v = .ref a ∧ a ∉ B ∧ H a = some (.tup [.ref q, .int rs[i].2]) ∧ q ∉ B ∧ H q = some (.tup (rs[i].1.map V.int)) := by
  obtain ⟨d, f, g⟩ := h.getV hv
  rw [List.getElem?_map] at f
  by_cases hi : i < rs.length
  · rw [List.getElem?_eq_getElem hi] at f
    have ed : d = eRow rs[i] := (Option.some.inj f).symm
    subst ed
    obtain ⟨a, q, h1, h2, h3, h4, h5⟩ := g.rowI
    exact ⟨hi, a, q, h1, h2, h3, h4, h5⟩
  · rw [List.getElem?_eq_none (by omega)] at f
    cases f
def spSumQ : Sp := fun vs H Q _ => ∃ (C : List Addr) (fa : Addr) (vs' : List V) (n : Nat) (t x : Nat → Rat), vs = [.ref fa] ∧ H fa = some (.lst vs') ∧ DtA C H vs' ((List.range n).map fun i => enc (qp (x i))) ∧ Bk C H ∧ t 0 = 0 ∧ (∀ i, i < n → t (i + 1) = t i + x i) ∧ (∀ i, i ≤ n → Qb (t i)) ∧ (∀ i, i < n → Qb (x i)) ∧ ∀ v' H', Same H H' → Dt C H' v' (enc (qp (t n))) → Q v' H'
theorem ok_sum_of (T : Tx K mg) {k : Nat} : FnOk P w K mg base CX0 (k + 4) T.f_sum_of T.d_sum_of ["fractions"] spSumQ := by
  refine T.F_sum_of.ok sc_sum_of (fun vs H Q E h => ?_) (fun cdv A outer s H vs Q E hr h => ?_)
  · obtain ⟨C, fa, vs', n, t, x, rfl, _⟩ := h
    rfl
  · obtain ⟨C, fa, vs', n, t, x, rfl, ef, hA, hB, t0, ts, tq, xq, q⟩ := h
    have lv := hA.len
    rw [List.length_map, List.length_range] at lv
    refine ⟨_, (pss_cons (ps_set (i := 1) sc_sum_of.nd rfl (.inl rfl) (pe_tup (pa_cons pe_int (pa_cons pe_int pa_nil))))
      (pss_cons (ps_for PassesOwn.never rfl (pi_listK K (pv 0)) (pg_name (i := 2) sc_sum_of.nd rfl (.inl rfl)) (pss_one (ps_set (i := 1) sc_sum_of.nd rfl (.inl rfl) (pe_call (ok_plus T (k := k)) hr (by rfl) T.g_plus T.F_plus.kp T.b_plus .nil pass0 (pa_cons (pv 1) (pa_cons (pv 2) pa_nil))))))
      (pss_one (ps_ret (pv 1))))), ?_⟩
    refine ⟨(by show 2 ≤ sizeLine; decide), fun s0 hs0 => ?_⟩
    have u0 := sm_new (o := .tup [.int 0, .int 1]) hs0
    have e0 : Dt C (upd H s0 (.tup [.int 0, .int 1])) (.ref s0) (enc (qp (t 0))) := by rw [t0]; exact Dt.ofCol (hB.ne hs0) upd_same
    generalize upd H s0 (.tup [.int 0, .int 1]) = H2 at *
    refine ⟨_, rfl, fa, rfl, ⟨_, SqL.of (u0 _ _ ef)⟩, for_list (xs := vs') (fun i σ H' => ∃ sv y2, σ = [some (.ref fa), some sv, y2] ∧ Same H2 H' ∧ Dt C H' sv (enc (qp (t i))))
      ⟨_, _, rfl, Same.refl _, e0⟩ (fun i σ H' _ h => ?_) (fun i y σ H3 hx h3 => ?_) (fun σ H3 h3 => ?_)⟩
    · obtain ⟨sv, y2, rfl, s2, d2⟩ := h
      exact SqL.of (s2 _ _ (u0 _ _ ef))
    · obtain ⟨sv, y2, rfl, s3, d3⟩ := h3
      obtain ⟨d, fd, gd⟩ := hA.getV hx
      have hi : i < n := by
        have := (List.getElem?_eq_some_iff.mp hx).1
        omega
      rw [List.getElem?_map, List.getElem?_range hi] at fd
      have ed : d = enc (qp (x i)) := (Option.some.inj fd).symm
      subst ed
      have t3 := u0.trans s3
      refine ⟨_, rfl, _, rfl, C, sv, y, _, _, rfl, d3, gd.s t3, tq i (by omega), xq i hi, fun p7 H7 s7 hp7 e7 => ?_⟩
      refine ⟨_, _, rfl, s3.trans s7, ?_⟩
      rw [ts i hi]
      exact Dt.ofCol ((hB.go (Go.of (B := C) t3)).ne hp7) e7
    · obtain ⟨sv, y2, rfl, s3, d3⟩ := h3
      refine ⟨_, rfl, q _ _ (u0.trans s3) ?_⟩
      rw [← lv]
      exact d3
def spFarSum : Sp := fun vs H Q _ => ∃ (B C : List Addr) (v mv : V) (rs : List (List Int × Int)) (m : List Rat) (wd M A : Nat), vs = [v, mv] ∧ Dt B H v (eRs rs) ∧ Dt C H mv (eMq m) ∧ Bk C H ∧ 0 < M ∧ TotOk rs m wd M A ∧ (∀ i, i ≤ rs.length → Qb (totN rs m wd i)) ∧ ∀ v' H', Same H H' → Dt C H' v' (enc (qp (totN rs m wd rs.length))) → Q v' H'
theorem ok_far_sum (T : Tx K mg) {k : Nat} : FnOk P w K mg base CX0 (k + 5) T.f_far_sum T.d_far_sum ["rows", "middle"] spFarSum := by
  refine T.F_far_sum.ok sc_far_sum (fun vs H Q E h => ?_) (fun cdv A outer s H vs Q E hr h => ?_)
  · obtain ⟨B, C, v, mv, rs, m, wd, M, A0, rfl, _⟩ := h
    rfl
  · obtain ⟨B, C, v, mv, rs, m, wd, M, A0, rfl, hv, hm, hB, hM, tk, tq, q⟩ := h
    obtain ⟨ra, vs, rfl, na, ea, hA⟩ := hv.lstI
    have lv := hA.len
    rw [List.length_map] at lv
    have hl := tk.l
    refine ⟨_, (pss_one (ps_ret (pe_call (ok_sum_of T (k := k)) hr (by rfl) T.g_sum_of T.F_sum_of.kp T.b_sum_of .nil pass0 (pa_cons (pe_lc (own := [("colour", 2), ("count", 3)]) (by rfl) sc_far_sum.nd (pi_listK K (pv 0)) (blkOk_by (own := [("colour", 2), ("count", 3)]) (N := N_far_sum) (sc := defScope s_far_sum) (by decide +kernel)) (fun _ _ _ _ _ => (pg_tupK K (n := 2) rfl (pgs_cons (pg_name (i := 2) sc_far_sum.nd rfl (.inl rfl)) (pgs_cons (pg_name (i := 3) sc_far_sum.nd rfl (.inl rfl)) pgs_nil)))) (fun _ _ _ _ _ => pts_nil) (fun _ _ _ _ _ => (pe_call (ok_times T (k := k + 1)) hr (by rfl) T.g_times T.F_times.kp T.b_times .nil pass0 (pa_cons (pe_tup (pa_cons (pv 3) (pa_cons pe_int pa_nil))) (pa_cons (pe_call (ok_far_of T (k := k)) hr (by rfl) T.g_far_of T.F_far_of.kp T.b_far_of .nil pass0 (pa_cons (pv 2) (pa_cons (pv 1) pa_nil))) pa_nil))))) pa_nil)))), ?_⟩
    refine ⟨_, rfl, ra, rfl, ⟨_, SqL.of ea⟩, fun D hD => ?_⟩
    refine lc_pure (B := C) (walk_list (xs := vs)) hD hB (fun H' s' => SqL.of (s' _ _ ea)) (by omega)
      (fun i => some (enc (qp (((rs.getD i ([], 0)).2 : Rat) * farN (rs.getD i ([], 0)).1 m wd)))) (fun i x H0 H3 Ny Nn hi t3 bk y ky kn => ?_) (fun H1 ws s1 eS hW => ?_)
    · obtain ⟨rfl, y⟩ := y
      obtain ⟨hi, a, qa, rfl, _, e1, nq, e2⟩ := rowsAt hA y
      have gd : rs.getD i ([], 0) = rs[i] := by rw [List.getD_eq_getElem?_getD, List.getElem?_eq_getElem hi]; rfl
      rw [gd] at ky
      have mr := List.getElem_mem hi
      have or1 := tk.r _ mr
      have bk3 : Bk C H3 := fun z hz => bk z (List.mem_cons_of_mem _ hz)
      refine ⟨a, _, rfl, SqT.of (t3 _ _ e1), rfl, _, _, rfl, _, _, rfl, rfl, rfl, lc_yes ?_⟩
      refine ⟨_, rfl, (by show 2 ≤ sizeLine; decide), fun p4 hp4 => ?_⟩
      have s4 := sm_new (o := .tup [.int rs[i].2, .int 1]) hp4
      have d4 : Dt C (upd H3 p4 (.tup [.int rs[i].2, .int 1])) (.ref p4) (enc (qp (rs[i].2 : Rat))) := Dt.ofCol (bk3.ne hp4) upd_same
      have t4 := t3.trans s4
      generalize upd H3 p4 (.tup [.int rs[i].2, .int 1]) = H4 at *
      have B4 := hB.go (Go.of (B := C) t4)
      refine ⟨_, rfl, _, rfl, B, C, C, .ref qa, mv, rs[i].1, m, _, _, rfl, Dt.ofCol nq (t4 _ _ e2), hm.s t4, B4, tk.f _ mr, fun v5 H5 s5 d5 => ?_⟩
      rw [or1.1] at d5
      have fq : Qb (farN rs[i].1 m wd) := (tk.f _ mr).qb (by have := tk.w; omega)
      refine ⟨C, .ref p4, v5, _, _, rfl, d4.s s5, d5, qb_int (to_lim (b := 1000) (by have := or1.2.2; omega)), fq, fun p6 H6 s6 hp6 e6 => ?_⟩
      have t46 := (s4.trans s5).trans s6
      refine ky _ _ _ rfl t46 (Dt.ofCol ((bk.go (Go.of (B := []) (s4.trans s5))).ne hp6) e6)
    · rw [fm_some] at hW
      refine ⟨C, D, ws, rs.length, totN rs m wd, fun i => ((rs.getD i ([], 0)).2 : Rat) * farN (rs.getD i ([], 0)).1 m wd, rfl, eS, ?_, hB.go (Go.of (B := C) s1), rfl, fun i hi => ?_, tq, fun i hi => ?_, fun v' H' s' d' => q v' H' (s1.trans s') d'⟩
      · rw [← lv]
        exact hW.un
      · rw [totN_step hi]
        simp [List.getD_eq_getElem?_getD, List.getElem?_eq_getElem hi]
      · have gd : rs.getD i ([], 0) = rs[i] := by rw [List.getD_eq_getElem?_getD, List.getElem?_eq_getElem hi]; rfl
        show Qb (((rs.getD i ([], 0)).2 : Rat) * farN (rs.getD i ([], 0)).1 m wd)
        rw [gd]
        exact tk.qb1 (List.getElem_mem hi)
theorem ok_spread_of (T : Tx K mg) {k : Nat} : FnOk P w K mg base CX0 (k + 6) T.f_spread_of T.d_spread_of ["rows"] spSpread := by
  refine T.F_spread_of.ok sc_spread_of (fun vs H Q E h => ?_) (fun cdv A outer s H vs Q E hr h => ?_)
  · obtain ⟨B, C, v, rs, wd, rfl, _⟩ := h
    rfl
  · obtain ⟨B, C, v, rs, wd, rfl, hv, hB, h0, hl, hw, ho, q⟩ := h
    have tk := mid_tot h0 hl hw ho
    refine ⟨_, (pss_one (ps_ret (pe_call (ok_far_sum T (k := k)) hr (by rfl) T.g_far_sum T.F_far_sum.kp T.b_far_sum .nil pass0 (pa_cons (pv 0) (pa_cons (pe_call (ok_middle_of T (k := k + 2)) hr (by rfl) T.g_middle_of T.F_middle_of.kp T.b_middle_of .nil pass0 (pa_cons (pv 0) pa_nil)) pa_nil))))), ?_⟩
    refine ⟨_, rfl, _, rfl, B, C, v, rs, wd, rfl, hv, hB, h0, hl, hw, ho, fun mv H1 s1 d1 => ?_⟩
    refine ⟨B, C, v, mv, rs, midL rs wd, wd, _, _, rfl, hv.s s1, d1, hB.go (Go.of (B := C) s1), (by have := cnt_in ho; omega), tk, fun i hi => tk.qb h0 hi, fun v' H' s' d' => q v' H' (s1.trans s') d'⟩
theorem DtA.two {B : List Addr} {H : Hp} {vs : List V} {l u : PyData} (h : DtA B H vs [l, u]) : ∃ x y, vs = [x, y] ∧ Dt B H x l ∧ Dt B H y u := by
  cases h with
  | cons h1 h2 =>
    cases h2 with
    | cons h3 h4 =>
      cases h4
      exact ⟨_, _, rfl, h1, h3⟩
/-! ### apart, both ways -/
def ap (a b : List Int) : Int := ((a.zip b).map fun p => (p.1 - p.2) ^ 2).sum
theorem ap_len (a b : List Int) : ((a.zip b).map fun p => (p.1 - p.2) ^ 2).length = min a.length b.length := by simp
theorem sq_ok {x y : Int} (h1 : -100000000 ≤ x) (h2 : x ≤ 100000000) (h3 : -100000000 ≤ y) (h4 : y ≤ 100000000) : CPow (x - y) 2 := ⟨by decide, by decide, by omega⟩
theorem zat {a b : List Int} {i : Nat} {f : Int × Int → PyData} (h1 : i < a.length) (h2 : i < b.length) : ((a.zip b).map f)[i]? = some (f (a[i], b[i])) := by
  rw [List.getElem?_map, List.getElem?_eq_getElem (by simp; omega)]
  simp
def spApart : Sp := fun vs H Q _ => ∃ (B : List Addr) (x y : V) (a b : List Int), vs = [x, y] ∧ Dt B H x (eC a) ∧ Dt B H y (eC b) ∧ a.length = b.length ∧ b.length ≤ 100 ∧ cIn (-100000000) 100000000 a ∧ cIn (-100000000) 100000000 b ∧ ∀ H', Same H H' → Q (.int (ap a b)) H'
theorem ok_apart (T : Tx K mg) {k : Nat} : FnOk P w K mg base CX0 (k + 1) T.f_apart T.d_apart ["one", "other"] spApart := by
  refine T.F_apart.ok sc_apart (fun vs H Q E h => ?_) (fun cdv A outer s H vs Q E hr h => ?_)
  · obtain ⟨B, x, y, a, b, rfl, _⟩ := h
    rfl
  · obtain ⟨B, x, y, a, b, rfl, ha, hb, hl, hz, ca, cb, q⟩ := h
    obtain ⟨pa, rfl, na, ta⟩ := ha.col
    obtain ⟨pb, rfl, nb, tb⟩ := hb.col
    refine ⟨_, (pss_one (ps_ret (pe_callB (cr_sumK K rfl) (by rfl) T.z_sum (by decide +kernel) (pa_cons (pe_lc (own := [("a", 2), ("b", 3)]) (by rfl) sc_apart.nd (RZ.pi_zipA (by rfl) T.z_zip (pa_cons (pv 0) (pa_cons (pv 1) pa_nil))) (blkOk_by (own := [("a", 2), ("b", 3)]) (N := N_apart) (sc := defScope s_apart) (by decide +kernel)) (fun _ _ _ _ _ => (pg_tupK K (n := 2) rfl (pgs_cons (pg_name (i := 2) sc_apart.nd rfl (.inl rfl)) (pgs_cons (pg_name (i := 3) sc_apart.nd rfl (.inl rfl)) pgs_nil)))) (fun _ _ _ _ _ => pts_nil) (fun _ _ _ _ _ => (pe_op op_pow (pe_op op_sub (pv 2) (pv 3)) pe_int))) pa_nil)))), ?_⟩
    refine ⟨_, rfl, _, rfl, pa, pb, _, _, rfl, .inr ⟨SqT.of ta, SqT.of tb, fun D hD => ?_⟩⟩
    refine lc_pure (B := []) (walk_zipT (n := a.length) (xs := a.map V.int) (ys := b.map V.int) (by simp; omega)) hD (fun _ h => nomatch h) (fun H' s' => ⟨SqT.of (s' _ _ ta), SqT.of (s' _ _ tb)⟩) (by omega)
      (fun i => ((a.zip b).map fun p => PyData.int ((p.1 - p.2) ^ 2))[i]?) (fun i x H' H'' Ny Nn hi s1 bk y ky kn => ?_) (fun H' ws s1 eD hA => ?_)
    · obtain ⟨t, x, y, rfl, ht, rfl, e1, e2⟩ := y
      have i2 : i < b.length := by omega
      have x1 := mat hi e1
      have x2 := mat i2 e2
      have c1 := ca _ (List.getElem_mem hi)
      have c2 := cb _ (List.getElem_mem i2)
      refine ⟨t, [x, y], rfl, SqT.of upd_same, rfl, x, _, rfl, y, _, rfl, rfl, rfl, lc_yes ?_⟩
      refine ⟨_, rfl, _, rfl, _, _, x1, x2, _, _, rfl, rfl, sq_ok c1.1 c1.2 c2.1 c2.2, ?_⟩
      exact ky _ _ _ (zat hi i2) (sm_new ht) (.int _)
    · rw [fm_all (by simp; omega)] at hA
      have hA2 : DtA (D :: []) H' ws (((a.zip b).map fun p => (p.1 - p.2) ^ 2).map PyData.int) := by rw [List.map_map]; exact hA
      refine ⟨D, _, rfl, SqL.of (by rw [eD, hA2.intsV]), ?_⟩
      exact q _ s1
/-! ### how near, how far a box is -/
def nearF (lo c hi : List Int) (i : Nat) : Int := if hi.getD i 0 < (if c.getD i 0 > lo.getD i 0 then c.getD i 0 else lo.getD i 0) then hi.getD i 0 else (if c.getD i 0 > lo.getD i 0 then c.getD i 0 else lo.getD i 0)
def farF (lo c hi : List Int) (i : Nat) : Int := if c.getD i 0 - lo.getD i 0 > hi.getD i 0 - c.getD i 0 then lo.getD i 0 else hi.getD i 0
def nearC (lo c hi : List Int) : List Int := (List.range c.length).map (nearF lo c hi)
def farC (lo c hi : List Int) : List Int := (List.range c.length).map (farF lo c hi)
theorem getD_of {ns : List Int} {i : Nat} (h : i < ns.length) : ns.getD i 0 = ns[i] := by
  rw [List.getD_eq_getElem?_getD, List.getElem?_eq_getElem h]
  rfl
theorem getD_big {ns : List Int} (h : cIn (-1000000) 1000000 ns) (p : Nat) : -1000000 ≤ ns.getD p 0 ∧ ns.getD p 0 ≤ 1000000 := by
  rw [List.getD_eq_getElem?_getD]
  cases e : ns[p]? with
  | none => exact ⟨by decide, by decide⟩
  | some x => exact h x (List.mem_of_getElem? e)
theorem nearC_in {lo c hi : List Int} (h1 : cIn (-1000000) 1000000 lo) (h2 : cIn (-1000000) 1000000 c) (h3 : cIn (-1000000) 1000000 hi) : cIn (-100000000) 100000000 (nearC lo c hi) := fun x hx => by
  obtain ⟨i, _, rfl⟩ := List.mem_map.mp hx
  have a := getD_big h1 i
  have b := getD_big h2 i
  have d := getD_big h3 i
  unfold nearF
  split <;> split <;> omega
theorem farC_in {lo c hi : List Int} (h1 : cIn (-1000000) 1000000 lo) (h3 : cIn (-1000000) 1000000 hi) : cIn (-100000000) 100000000 (farC lo c hi) := fun x hx => by
  obtain ⟨i, _, rfl⟩ := List.mem_map.mp hx
  have a := getD_big h1 i
  have d := getD_big h3 i
  unfold farF
  split <;> omega
def spNearBox (g : List Int → List Int → List Int → List Int) : Sp := fun vs H Q _ => ∃ (B : List Addr) (cv bv : V) (lo hi c : List Int), vs = [cv, bv] ∧ Dt B H cv (eC c) ∧ Dt B H bv (.tuple [eC lo, eC hi]) ∧ Bk B H ∧ lo.length = c.length ∧ hi.length = c.length ∧ c.length ≤ 100 ∧ cIn (-1000000) 1000000 lo ∧ cIn (-1000000) 1000000 c ∧ cIn (-1000000) 1000000 hi ∧ ∀ H', Same H H' → Q (.int (ap c (g lo c hi))) H'
theorem ok_near_box (T : Tx K mg) {k : Nat} : FnOk P w K mg base CX0 (k + 2) T.f_near_box T.d_near_box ["colour", "box"] (spNearBox nearC) := by
  refine T.F_near_box.ok sc_near_box (fun vs H Q E h => ?_) (fun cdv A outer s H vs Q E hr h => ?_)
  · obtain ⟨B, cv, bv, lo, hi, c, rfl, _⟩ := h
    rfl
  · obtain ⟨B, cv, bv, lo, hi, c, rfl, hc, hb, hB, l1, l2, lz, r1, r2, r3, q⟩ := h
    have hc0 := hc
    obtain ⟨ba, bvs, rfl, nba, ebx, hbA⟩ := hb.tupI
    obtain ⟨lv, hv, rfl, dlo, dhi⟩ := hbA.two
    obtain ⟨la, rfl, nla, elo⟩ := dlo.col
    obtain ⟨ha, rfl, nha, ehi⟩ := dhi.col
    obtain ⟨ca, rfl, nca, ec⟩ := hc.col
    refine ⟨_, (pss_cons (ps_asg (pv 1) (pg_tupK K (n := 2) rfl (pgs_cons (pg_name (i := 2) sc_near_box.nd rfl (.inl rfl)) (pgs_cons (pg_name (i := 3) sc_near_box.nd rfl (.inl rfl)) pgs_nil))))
      (pss_cons (ps_set (i := 4) sc_near_box.nd rfl (.inl rfl) (pe_callTy (tuple_K K) (by rfl) T.z_tuple (by decide +kernel) (pa_cons (pe_lc (own := [("a", 5), ("n", 6), ("b", 7)]) (by rfl) sc_near_box.nd (pi_zip3 K (by rfl) T.z_zip (pa_cons (pv 2) (pa_cons (pv 0) (pa_cons (pv 3) pa_nil)))) (blkOk_by (own := [("a", 5), ("n", 6), ("b", 7)]) (N := N_near_box) (sc := defScope s_near_box) (by decide +kernel)) (fun _ _ _ _ _ => (pg_tupK K (n := 3) rfl (pgs_cons (pg_name (i := 5) sc_near_box.nd rfl (.inl rfl)) (pgs_cons (pg_name (i := 6) sc_near_box.nd rfl (.inl rfl)) (pgs_cons (pg_name (i := 7) sc_near_box.nd rfl (.inl rfl)) pgs_nil))))) (fun _ _ _ _ _ => pts_nil) (fun _ _ _ _ _ => (pe_callB (call_min2 rfl) (by rfl) T.z_min (by decide +kernel) (pa_cons (pe_callB (call_max2 rfl) (by rfl) T.z_max (by decide +kernel) (pa_cons (pv 5) (pa_cons (pv 6) pa_nil))) (pa_cons (pv 7) pa_nil))))) pa_nil)))
      (pss_one (ps_ret (pe_call (ok_apart T (k := k)) hr (by rfl) T.g_apart T.F_apart.kp T.b_apart .nil pass0 (pa_cons (pv 0) (pa_cons (pv 4) pa_nil))))))), ?_⟩
    refine ⟨_, rfl, ba, _, rfl, SqT.of ebx, rfl, _, _, rfl, _, _, rfl, rfl, ?_⟩
    refine ⟨_, rfl, _, rfl, _, rfl, la, ca, ha, _, _, _, rfl, SqT.of elo, SqT.of ec, SqT.of ehi, fun D hD => ?_⟩
    refine lc_pure (B := []) (walk_zip3 (xs := lo.map V.int) (ys := c.map V.int) (ts := hi.map V.int) (by simp; omega) (by simp; omega)) hD (fun _ h => nomatch h) (fun H' s' => ⟨SqT.of (s' _ _ elo), SqT.of (s' _ _ ec), SqT.of (s' _ _ ehi)⟩) (by rw [List.length_map]; omega)
      (fun i => some (PyData.int (nearF lo c hi i))) (fun i x H' H'' Ny Nn hi' t1 bk y ky kn => ?_) (fun H8 ws s8 eS hW => ?_)
    · obtain ⟨t, x, y, z, rfl, ht, rfl, e1, e2, e3⟩ := y
      rw [List.length_map] at hi'
      have i2 : i < c.length := by omega
      have i3 : i < hi.length := by omega
      have x1 := mat hi' e1
      have x2 := mat i2 e2
      have x3 := mat i3 e3
      refine ⟨t, [x, y, z], rfl, SqT.of upd_same, rfl, x, _, rfl, y, _, rfl, z, _, rfl, rfl, rfl, lc_yes ?_⟩
      have ef := congrArg PyData.int (show nearF lo c hi i = _ from by unfold nearF; rw [getD_of hi', getD_of i2, getD_of i3])
      refine ⟨_, rfl, _, rfl, _, _, by rw [x1, x2], _, rfl, _, _, by rw [x3], ?_⟩
      exact ky _ _ _ (by rw [ef]) (sm_new ht) (.int _)
    · rw [List.length_map, fm_some, l1] at hW
      have hW2 : DtA [D] H8 ws ((nearC lo c hi).map PyData.int) := by unfold nearC; rw [List.map_map]; exact hW
      have ew := hW2.intsV
      subst ew
      refine ⟨D, _, rfl, .inl ⟨SqL.of eS, fun t ht => ?_⟩⟩
      have s9 := s8.trans (sm_new (o := .tup ((nearC lo c hi).map V.int)) ht)
      refine ⟨_, rfl, _, rfl, B, .ref ca, .ref t, c, nearC lo c hi, rfl, hc0.s s9, Dt.ofCol ((hB.go (Go.of (B := B) s8)).ne ht) upd_same, by unfold nearC; rw [List.length_map, List.length_range], by unfold nearC; rw [List.length_map, List.length_range]; exact lz, r2.mono (by decide) (by decide), nearC_in r1 r2 r3, fun H10 s10 => ?_⟩
      exact q _ (s9.trans s10)
theorem ok_far_box (T : Tx K mg) {k : Nat} : FnOk P w K mg base CX0 (k + 2) T.f_far_box T.d_far_box ["colour", "box"] (spNearBox farC) := by
  refine T.F_far_box.ok sc_far_box (fun vs H Q E h => ?_) (fun cdv A outer s H vs Q E hr h => ?_)
  · obtain ⟨B, cv, bv, lo, hi, c, rfl, _⟩ := h
    rfl
  · obtain ⟨B, cv, bv, lo, hi, c, rfl, hc, hb, hB, l1, l2, lz, r1, r2, r3, q⟩ := h
    have hc0 := hc
    obtain ⟨ba, bvs, rfl, nba, ebx, hbA⟩ := hb.tupI
    obtain ⟨lv, hv, rfl, dlo, dhi⟩ := hbA.two
    obtain ⟨la, rfl, nla, elo⟩ := dlo.col
    obtain ⟨ha, rfl, nha, ehi⟩ := dhi.col
    obtain ⟨ca, rfl, nca, ec⟩ := hc.col
    refine ⟨_, (pss_cons (ps_asg (pv 1) (pg_tupK K (n := 2) rfl (pgs_cons (pg_name (i := 2) sc_far_box.nd rfl (.inl rfl)) (pgs_cons (pg_name (i := 3) sc_far_box.nd rfl (.inl rfl)) pgs_nil))))
      (pss_cons (ps_set (i := 4) sc_far_box.nd rfl (.inl rfl) (pe_callTy (tuple_K K) (by rfl) T.z_tuple (by decide +kernel) (pa_cons (pe_lc (own := [("a", 5), ("n", 6), ("b", 7)]) (by rfl) sc_far_box.nd (pi_zip3 K (by rfl) T.z_zip (pa_cons (pv 2) (pa_cons (pv 0) (pa_cons (pv 3) pa_nil)))) (blkOk_by (own := [("a", 5), ("n", 6), ("b", 7)]) (N := N_far_box) (sc := defScope s_far_box) (by decide +kernel)) (fun _ _ _ _ _ => (pg_tupK K (n := 3) rfl (pgs_cons (pg_name (i := 5) sc_far_box.nd rfl (.inl rfl)) (pgs_cons (pg_name (i := 6) sc_far_box.nd rfl (.inl rfl)) (pgs_cons (pg_name (i := 7) sc_far_box.nd rfl (.inl rfl)) pgs_nil))))) (fun _ _ _ _ _ => pts_nil) (fun _ _ _ _ _ => (pe_ifExp (pt_cmpR op_gt (pe_op op_sub (pv 6) (pv 5)) (pe_op op_sub (pv 7) (pv 6)) (nomark _)) (pv 5) (pv 7)))) pa_nil)))
      (pss_one (ps_ret (pe_call (ok_apart T (k := k)) hr (by rfl) T.g_apart T.F_apart.kp T.b_apart .nil pass0 (pa_cons (pv 0) (pa_cons (pv 4) pa_nil))))))), ?_⟩
    refine ⟨_, rfl, ba, _, rfl, SqT.of ebx, rfl, _, _, rfl, _, _, rfl, rfl, ?_⟩
    refine ⟨_, rfl, _, rfl, _, rfl, la, ca, ha, _, _, _, rfl, SqT.of elo, SqT.of ec, SqT.of ehi, fun D hD => ?_⟩
    refine lc_pure (B := []) (walk_zip3 (xs := lo.map V.int) (ys := c.map V.int) (ts := hi.map V.int) (by simp; omega) (by simp; omega)) hD (fun _ h => nomatch h) (fun H' s' => ⟨SqT.of (s' _ _ elo), SqT.of (s' _ _ ec), SqT.of (s' _ _ ehi)⟩) (by rw [List.length_map]; omega)
      (fun i => some (PyData.int (farF lo c hi i))) (fun i x H' H'' Ny Nn hi' t1 bk y ky kn => ?_) (fun H8 ws s8 eS hW => ?_)
    · obtain ⟨t, x, y, z, rfl, ht, rfl, e1, e2, e3⟩ := y
      rw [List.length_map] at hi'
      have i2 : i < c.length := by omega
      have i3 : i < hi.length := by omega
      have x1 := mat hi' e1
      have x2 := mat i2 e2
      have x3 := mat i3 e3
      refine ⟨t, [x, y, z], rfl, SqT.of upd_same, rfl, x, _, rfl, y, _, rfl, z, _, rfl, rfl, rfl, lc_yes ?_⟩
      have ef := congrArg PyData.int (show farF lo c hi i = _ from by unfold farF; rw [getD_of hi', getD_of i2, getD_of i3])
      refine ⟨_, rfl, _, rfl, _, _, x2, x1, _, rfl, _, rfl, _, _, x3, x2, _, _, rfl, rfl, _, rfl, ite2 (fun e => ?_) (fun e => ?_)⟩
      · have e' := of_decide_eq_true e
        refine ⟨_, rfl, ky _ _ _ rfl (sm_new ht) ?_⟩
        rw [ef, if_pos e', x1]
        exact .int _
      · have e' : ¬ _ := fun h => e (decide_eq_true h)
        refine ⟨_, rfl, ky _ _ _ rfl (sm_new ht) ?_⟩
        rw [ef, if_neg e', x3]
        exact .int _
    · rw [List.length_map, fm_some, l1] at hW
      have hW2 : DtA [D] H8 ws ((farC lo c hi).map PyData.int) := by unfold farC; rw [List.map_map]; exact hW
      have ew := hW2.intsV
      subst ew
      refine ⟨D, _, rfl, .inl ⟨SqL.of eS, fun t ht => ?_⟩⟩
      have s9 := s8.trans (sm_new (o := .tup ((farC lo c hi).map V.int)) ht)
      refine ⟨_, rfl, _, rfl, B, .ref ca, .ref t, c, farC lo c hi, rfl, hc0.s s9, Dt.ofCol ((hB.go (Go.of (B := B) s8)).ne ht) upd_same, by unfold farC; rw [List.length_map, List.length_range], by unfold farC; rw [List.length_map, List.length_range]; exact lz, r2.mono (by decide) (by decide), farC_in r1 r3, fun H10 s10 => ?_⟩
      exact q _ (s9.trans s10)
/-! ### the least and the greatest -/
def Lo (ns : List Int) (m : Int) : Prop := m ∈ ns ∧ ∀ y ∈ ns, m ≤ y
def Hi (ns : List Int) (m : Int) : Prop := m ∈ ns ∧ ∀ y ∈ ns, y ≤ m
theorem Lo.one {ns : List Int} {a b : Int} (h1 : Lo ns a) (h2 : Lo ns b) : a = b := by
  have := h1.2 b h2.1
  have := h2.2 a h1.1
  omega
theorem Hi.one {ns : List Int} {a b : Int} (h1 : Hi ns a) (h2 : Hi ns b) : a = b := by
  have := h1.2 b h2.1
  have := h2.2 a h1.1
  omega
def minL : List Int → Int
  | [] => 0
  | [x] => x
  | x :: y :: xs => if x ≤ minL (y :: xs) then x else minL (y :: xs)
def maxL : List Int → Int
  | [] => 0
  | [x] => x
  | x :: y :: xs => if maxL (y :: xs) ≤ x then x else maxL (y :: xs)
theorem minL_lo : ∀ {ns : List Int}, 0 < ns.length → Lo ns (minL ns)
  | [x], _ => ⟨List.mem_singleton.mpr rfl, fun y hy => by rw [List.mem_singleton.mp hy]; exact Int.le_refl _⟩
  | x :: y :: xs, _ => by
    have ih := minL_lo (ns := y :: xs) (by simp)
    show Lo _ (if x ≤ minL (y :: xs) then x else minL (y :: xs))
    by_cases h : x ≤ minL (y :: xs)
    · rw [if_pos h]
      refine ⟨List.mem_cons_self .., fun z hz => ?_⟩
      rcases List.mem_cons.mp hz with e | e
      · omega
      · have := ih.2 z e; omega
    · rw [if_neg h]
      refine ⟨List.mem_cons_of_mem _ ih.1, fun z hz => ?_⟩
      rcases List.mem_cons.mp hz with e | e
      · omega
      · exact ih.2 z e
theorem maxL_hi : ∀ {ns : List Int}, 0 < ns.length → Hi ns (maxL ns)
  | [x], _ => ⟨List.mem_singleton.mpr rfl, fun y hy => by rw [List.mem_singleton.mp hy]; exact Int.le_refl _⟩
  | x :: y :: xs, _ => by
    have ih := maxL_hi (ns := y :: xs) (by simp)
    show Hi _ (if maxL (y :: xs) ≤ x then x else maxL (y :: xs))
    by_cases h : maxL (y :: xs) ≤ x
    · rw [if_pos h]
      refine ⟨List.mem_cons_self .., fun z hz => ?_⟩
      rcases List.mem_cons.mp hz with e | e
      · omega
      · have := ih.2 z e; omega
    · rw [if_neg h]
      refine ⟨List.mem_cons_of_mem _ ih.1, fun z hz => ?_⟩
      rcases List.mem_cons.mp hz with e | e
      · omega
      · exact ih.2 z e
/-- the numbers at a place -/
def colP (cs : List (List Int)) (p : Nat) : List Int := cs.map fun c => c.getD p 0
def boxLo (cs : List (List Int)) (wd : Nat) : List Int := (List.range wd).map fun p => minL (colP cs p)
def boxHi (cs : List (List Int)) (wd : Nat) : List Int := (List.range wd).map fun p => maxL (colP cs p)
theorem boxLo_len (cs : List (List Int)) (wd : Nat) : (boxLo cs wd).length = wd := by unfold boxLo; rw [List.length_map, List.length_range]
theorem boxHi_len (cs : List (List Int)) (wd : Nat) : (boxHi cs wd).length = wd := by unfold boxHi; rw [List.length_map, List.length_range]
theorem boxLo_at {cs : List (List Int)} {wd p : Nat} (h0 : 0 < cs.length) (hp : p < wd) : ∃ m, (boxLo cs wd)[p]? = some m ∧ (boxLo cs wd).getD p 0 = m ∧ Lo (colP cs p) m := by
  have e : (boxLo cs wd)[p]? = some (minL (colP cs p)) := by unfold boxLo; rw [List.getElem?_map, List.getElem?_range hp]; rfl
  refine ⟨_, e, ?_, minL_lo (by unfold colP; rw [List.length_map]; exact h0)⟩
  rw [List.getD_eq_getElem?_getD, e]
  rfl
theorem boxHi_at {cs : List (List Int)} {wd p : Nat} (h0 : 0 < cs.length) (hp : p < wd) : ∃ m, (boxHi cs wd)[p]? = some m ∧ (boxHi cs wd).getD p 0 = m ∧ Hi (colP cs p) m := by
  have e : (boxHi cs wd)[p]? = some (maxL (colP cs p)) := by unfold boxHi; rw [List.getElem?_map, List.getElem?_range hp]; rfl
  refine ⟨_, e, ?_, maxL_hi (by unfold colP; rw [List.length_map]; exact h0)⟩
  rw [List.getD_eq_getElem?_getD, e]
  rfl
theorem list_at {a b : List Int} (hl : a.length = b.length) (h : ∀ p, p < a.length → a.getD p 0 = b.getD p 0) : a = b := by
  refine List.ext_getElem hl fun i h1 h2 => ?_
  have := h i h1
  rw [List.getD_eq_getElem?_getD, List.getElem?_eq_getElem h1, List.getD_eq_getElem?_getD, List.getElem?_eq_getElem h2] at this
  exact this
theorem boxLo_eq {ls : List Int} {cs : List (List Int)} {wd : Nat} (h0 : 0 < cs.length) (hl : ls.length = wd) (h : ∀ p, p < wd → Lo (colP cs p) (ls.getD p 0)) : ls = boxLo cs wd := by
  refine list_at (by rw [boxLo_len]; exact hl) fun p hp => ?_
  obtain ⟨m, _, e, q⟩ := boxLo_at (wd := wd) (p := p) h0 (by omega)
  rw [e]
  exact (h p (by omega)).one q
theorem boxHi_eq {ls : List Int} {cs : List (List Int)} {wd : Nat} (h0 : 0 < cs.length) (hl : ls.length = wd) (h : ∀ p, p < wd → Hi (colP cs p) (ls.getD p 0)) : ls = boxHi cs wd := by
  refine list_at (by rw [boxHi_len]; exact hl) fun p hp => ?_
  obtain ⟨m, _, e, q⟩ := boxHi_at (wd := wd) (p := p) h0 (by omega)
  rw [e]
  exact (h p (by omega)).one q
theorem mem_colP {cs : List (List Int)} {p : Nat} {y : Int} : y ∈ colP cs p ↔ ∃ c ∈ cs, c.getD p 0 = y := by
  unfold colP
  exact List.mem_map
/-- of the same colours the same box -/
theorem boxLo_same {cs ds : List (List Int)} {wd : Nat} (h0 : 0 < cs.length) (h : ∀ c, c ∈ cs ↔ c ∈ ds) : boxLo cs wd = boxLo ds wd := by
  have h1 : 0 < ds.length := by
    cases cs with
    | nil => exact absurd h0 (by decide)
    | cons c cs => exact List.length_pos_of_mem ((h c).mp (List.mem_cons_self ..))
  refine boxLo_eq h1 (boxLo_len _ _) fun p hp => ?_
  obtain ⟨m, _, e, q⟩ := boxLo_at (wd := wd) (p := p) h0 hp
  rw [e]
  refine ⟨?_, fun y hy => q.2 y ?_⟩
  · obtain ⟨c, hc, e⟩ := mem_colP.mp q.1
    exact mem_colP.mpr ⟨c, (h c).mp hc, e⟩
  · obtain ⟨c, hc, e⟩ := mem_colP.mp hy
    exact mem_colP.mpr ⟨c, (h c).mpr hc, e⟩
theorem boxHi_same {cs ds : List (List Int)} {wd : Nat} (h0 : 0 < cs.length) (h : ∀ c, c ∈ cs ↔ c ∈ ds) : boxHi cs wd = boxHi ds wd := by
  have h1 : 0 < ds.length := by
    cases cs with
    | nil => exact absurd h0 (by decide)
    | cons c cs => exact List.length_pos_of_mem ((h c).mp (List.mem_cons_self ..))
  refine boxHi_eq h1 (boxHi_len _ _) fun p hp => ?_
  obtain ⟨m, _, e, q⟩ := boxHi_at (wd := wd) (p := p) h0 hp
  rw [e]
  refine ⟨?_, fun y hy => q.2 y ?_⟩
  · obtain ⟨c, hc, e⟩ := mem_colP.mp q.1
    exact mem_colP.mpr ⟨c, (h c).mp hc, e⟩
  · obtain ⟨c, hc, e⟩ := mem_colP.mp hy
    exact mem_colP.mpr ⟨c, (h c).mpr hc, e⟩
theorem lo_le_hi {cs : List (List Int)} {wd p : Nat} (h0 : 0 < cs.length) (hp : p < wd) : (boxLo cs wd).getD p 0 ≤ (boxHi cs wd).getD p 0 := by
  obtain ⟨m, _, e, q⟩ := boxLo_at (wd := wd) (p := p) h0 hp
  obtain ⟨m', _, e', q'⟩ := boxHi_at (wd := wd) (p := p) h0 hp
  rw [e, e']
  exact q.2 _ q'.1
/-- the box of the ends of two boxes -/
theorem both_lo {cs ds es : List (List Int)} {wd : Nat} (h0 : 0 < cs.length) (h1 : 0 < ds.length) (h : ∀ c, c ∈ es ↔ c ∈ cs ∨ c ∈ ds) : boxLo [boxLo cs wd, boxHi cs wd, boxLo ds wd, boxHi ds wd] wd = boxLo es wd := by
  have h2 : 0 < es.length := by
    cases cs with
    | nil => exact absurd h0 (by decide)
    | cons c cs => exact List.length_pos_of_mem ((h c).mpr (.inl (List.mem_cons_self ..)))
  refine boxLo_eq h2 (boxLo_len _ _) fun p hp => ?_
  obtain ⟨m, _, e, q⟩ := boxLo_at (cs := [boxLo cs wd, boxHi cs wd, boxLo ds wd, boxHi ds wd]) (wd := wd) (p := p) (by simp) hp
  obtain ⟨a, _, ea, qa⟩ := boxLo_at (cs := cs) (wd := wd) (p := p) h0 hp
  obtain ⟨b, _, eb, qb⟩ := boxLo_at (cs := ds) (wd := wd) (p := p) h1 hp
  have la := lo_le_hi (cs := cs) (wd := wd) (p := p) h0 hp
  have lb := lo_le_hi (cs := ds) (wd := wd) (p := p) h1 hp
  rw [e]
  have m1 := q.2 a (mem_colP.mpr ⟨_, by simp, ea⟩)
  have m2 := q.2 b (mem_colP.mpr ⟨boxLo ds wd, by simp, eb⟩)
  obtain ⟨c, hc, em⟩ := mem_colP.mp q.1
  simp only [List.mem_cons, List.not_mem_nil, or_false] at hc
  have ca : ∀ y ∈ colP es p, m ≤ y := fun y hy => by
    obtain ⟨x, hx, ey⟩ := mem_colP.mp hy
    rcases (h x).mp hx with z | z
    · have := qa.2 y (mem_colP.mpr ⟨x, z, ey⟩); omega
    · have := qb.2 y (mem_colP.mpr ⟨x, z, ey⟩); omega
  refine ⟨?_, ca⟩
  have hm : m = a ∨ m = b := by
    rcases hc with rfl | rfl | rfl | rfl <;> omega
  rcases hm with rfl | rfl
  · obtain ⟨x, hx, ey⟩ := mem_colP.mp qa.1
    exact mem_colP.mpr ⟨x, (h x).mpr (.inl hx), ey⟩
  · obtain ⟨x, hx, ey⟩ := mem_colP.mp qb.1
    exact mem_colP.mpr ⟨x, (h x).mpr (.inr hx), ey⟩
theorem both_hi {cs ds es : List (List Int)} {wd : Nat} (h0 : 0 < cs.length) (h1 : 0 < ds.length) (h : ∀ c, c ∈ es ↔ c ∈ cs ∨ c ∈ ds) : boxHi [boxLo cs wd, boxHi cs wd, boxLo ds wd, boxHi ds wd] wd = boxHi es wd := by
  have h2 : 0 < es.length := by
    cases cs with
    | nil => exact absurd h0 (by decide)
    | cons c cs => exact List.length_pos_of_mem ((h c).mpr (.inl (List.mem_cons_self ..)))
  refine boxHi_eq h2 (boxHi_len _ _) fun p hp => ?_
  obtain ⟨m, _, e, q⟩ := boxHi_at (cs := [boxLo cs wd, boxHi cs wd, boxLo ds wd, boxHi ds wd]) (wd := wd) (p := p) (by simp) hp
  obtain ⟨a, _, ea, qa⟩ := boxHi_at (cs := cs) (wd := wd) (p := p) h0 hp
  obtain ⟨b, _, eb, qb⟩ := boxHi_at (cs := ds) (wd := wd) (p := p) h1 hp
  have la := lo_le_hi (cs := cs) (wd := wd) (p := p) h0 hp
  have lb := lo_le_hi (cs := ds) (wd := wd) (p := p) h1 hp
  rw [e]
  have m1 := q.2 a (mem_colP.mpr ⟨boxHi cs wd, by simp, ea⟩)
  have m2 := q.2 b (mem_colP.mpr ⟨boxHi ds wd, by simp, eb⟩)
  obtain ⟨c, hc, em⟩ := mem_colP.mp q.1
  simp only [List.mem_cons, List.not_mem_nil, or_false] at hc
  have ca : ∀ y ∈ colP es p, y ≤ m := fun y hy => by
    obtain ⟨x, hx, ey⟩ := mem_colP.mp hy
    rcases (h x).mp hx with z | z
    · have := qa.2 y (mem_colP.mpr ⟨x, z, ey⟩); omega
    · have := qb.2 y (mem_colP.mpr ⟨x, z, ey⟩); omega
  refine ⟨?_, ca⟩
  have hm : m = a ∨ m = b := by
    rcases hc with rfl | rfl | rfl | rfl <;> omega
  rcases hm with rfl | rfl
  · obtain ⟨x, hx, ey⟩ := mem_colP.mp qa.1
    exact mem_colP.mpr ⟨x, (h x).mpr (.inl hx), ey⟩
  · obtain ⟨x, hx, ey⟩ := mem_colP.mp qb.1
    exact mem_colP.mpr ⟨x, (h x).mpr (.inr hx), ey⟩
/-! ### the box of colours -/
def eB (lo hi : List Int) : PyData := .tuple [eC lo, eC hi]
theorem DtA.cols {B : List Addr} {H : Hp} : ∀ {cs : List (List Int)} {vs : List V}, DtA B H vs (cs.map eC) → ∃ as : List Addr, vs = as.map V.ref ∧ as.length = cs.length ∧ ∀ (j : Nat) (a : Addr) (c : List Int), as[j]? = some a → cs[j]? = some c → a ∉ B ∧ H a = some (.tup (c.map V.int))
  | [], _, h => by
    cases h
    exact ⟨[], rfl, rfl, fun j a c e => by simp at e⟩
  | c :: cs, _, h => by
    cases h with
    | cons h1 h2 =>
      obtain ⟨a, rfl, na, ea⟩ := h1.col
      obtain ⟨as, rfl, l, q⟩ := DtA.cols h2
      refine ⟨a :: as, rfl, by simp [l], fun j b d e1 e2 => ?_⟩
      cases j with
      | zero =>
        cases e1
        cases e2
        exact ⟨na, ea⟩
      | succ j => exact q j b d e1 e2
def spEdge (f : List (List Int) → Nat → List Int) : Sp := fun vs H Q _ => ∃ (B C : List Addr) (v : V) (cs : List (List Int)) (wd : Nat), vs = [v] ∧ Dt B H v (eP cs) ∧ Bk C H ∧ 0 < cs.length ∧ cs.length ≤ 1000 ∧ wd ≤ 100 ∧ (∀ c ∈ cs, c.length = wd) ∧ ∀ v' H', Same H H' → Dt C H' v' (eC (f cs wd)) → Q v' H'
theorem row_of {cs : List (List Int)} {wd i : Nat} {zs : List V} (hw : ∀ c ∈ cs, c.length = wd) (hi : i < wd) (lz : zs.length = (cs.map fun c => c.map V.int).length) (h : ∀ (j : Nat) (xs : List V), (cs.map fun c => c.map V.int)[j]? = some xs → xs[i]? = zs[j]?) : zs = (colP cs i).map V.int := by
  unfold colP
  rw [List.length_map] at lz
  refine List.ext_getElem? fun j => ?_
  rcases Nat.lt_or_ge j cs.length with z | z
  · have hx := h j (cs[j].map V.int) (by rw [List.getElem?_map, List.getElem?_eq_getElem z]; rfl)
    have hl := hw _ (List.getElem_mem z)
    rw [← hx, List.getElem?_map, List.getElem?_map, List.getElem?_map, List.getElem?_eq_getElem z, List.getElem?_eq_getElem (show i < cs[j].length by omega)]
    simp only [Option.map_some]
    rw [List.getD_eq_getElem?_getD, List.getElem?_eq_getElem (show i < cs[j].length by omega)]
    rfl
  · rw [List.getElem?_eq_none (by omega), List.getElem?_eq_none (by simp; omega)]
theorem ok_least_numbers (T : Tx K mg) {k : Nat} : FnOk P w K mg base CX0 (k + 1) T.f_least_numbers T.d_least_numbers ["colours"] (spEdge boxLo) := by
  refine T.F_least_numbers.ok sc_least_numbers (fun vs H Q E h => ?_) (fun cdv A outer s H vs Q E hr h => ?_)
  · obtain ⟨B, C, v, cs, wd, rfl, _⟩ := h
    rfl
  · obtain ⟨B, C, v, cs, wd, rfl, hv, hB, c0, c1, w1, hw, q⟩ := h
    obtain ⟨pa, vs, rfl, np, ep, hA⟩ := hv.pal
    obtain ⟨as, rfl, la, ha⟩ := hA.cols
    have lm : (cs.map fun c => c.map V.int).length = as.length := by rw [List.length_map, la]
    have src : ∀ {H' : Hp}, Same H H' → ∀ (j : Nat) (a : Addr) (xs : List V), as[j]? = some a → (cs.map fun c => c.map V.int)[j]? = some xs → SqT K H' a xs := fun s' j a xs e1 e2 => by
      rw [List.getElem?_map] at e2
      cases e : cs[j]? with
      | none => rw [e] at e2; cases e2
      | some c =>
        rw [e] at e2
        have ex : c.map V.int = xs := Option.some.inj e2
        rw [← ex]
        exact SqT.of (s' _ _ (ha j a c e1 e).2)
    refine ⟨_, (pss_one (ps_ret (pe_callTy (tuple_K K) (by rfl) T.z_tuple (by decide +kernel) (pa_cons (pe_lc (own := [("numbers", 1)]) (by rfl) sc_least_numbers.nd (pi_zipN K (by rfl) T.z_zip (pv 0)) (blkOk_by (own := [("numbers", 1)]) (N := N_least_numbers) (sc := defScope s_least_numbers) (by decide +kernel)) (fun _ _ _ _ _ => (pg_name (i := 1) sc_least_numbers.nd rfl (.inl rfl))) (fun _ _ _ _ _ => pts_nil) (fun _ _ _ _ _ => (pe_callB (cr_minT K rfl) (by rfl) T.z_min (by decide +kernel) (pa_cons (pv 1) pa_nil)))) pa_nil)))), ?_⟩
    refine ⟨_, rfl, pa, as, rfl, .inr (SqL.of ep), by omega, fun a m => ?_, fun D hD => ?_⟩
    · obtain ⟨j, hj, rfl⟩ := List.mem_iff_getElem.mp m
      have hj2 : j < cs.length := by omega
      exact ⟨_, src (Same.refl H) j _ _ (List.getElem?_eq_getElem hj) (by rw [List.getElem?_map, List.getElem?_eq_getElem hj2]; rfl)⟩
    · refine lc_pure (B := []) (walk_zipN (as := as) (xss := cs.map fun c => c.map V.int) (W := wd) lm (by omega) (fun xs hx => ?_)) hD (fun _ h => nomatch h) (fun H' s' => src s') (by omega)
        (fun i => some (PyData.int (minL (colP cs i)))) (fun i x H' H'' Ny Nn hi t1 bk y ky kn => ?_) (fun H8 ws s8 eS hW => ?_)
      · obtain ⟨c, hc, rfl⟩ := List.mem_map.mp hx
        rw [List.length_map]
        exact hw c hc
      · obtain ⟨t, zs, rfl, ht, rfl, lz, hz⟩ := y
        have ez := row_of hw hi lz hz
        subst ez
        refine ⟨rfl, lc_yes ⟨_, rfl, t, colP cs i, rfl, SqT.of upd_same, by unfold colP; rw [List.length_map]; exact c0, fun m m1 m2 => ?_⟩⟩
        have em : m = minL (colP cs i) := Lo.one ⟨m1, m2⟩ (minL_lo (by unfold colP; rw [List.length_map]; exact c0))
        subst em
        exact ky _ _ _ rfl (sm_new ht) (.int _)
      · rw [fm_some] at hW
        have hW2 : DtA [D] H8 ws ((boxLo cs wd).map PyData.int) := by
          unfold boxLo
          rw [List.map_map]
          exact hW
        have ew := hW2.intsV
        subst ew
        refine ⟨D, _, rfl, .inl ⟨SqL.of eS, fun t ht => ?_⟩⟩
        exact q _ _ (s8.trans (sm_new ht)) (Dt.ofCol ((hB.go (Go.of (B := C) s8)).ne ht) upd_same)
theorem ok_greatest_numbers (T : Tx K mg) {k : Nat} : FnOk P w K mg base CX0 (k + 1) T.f_greatest_numbers T.d_greatest_numbers ["colours"] (spEdge boxHi) := by
  refine T.F_greatest_numbers.ok sc_greatest_numbers (fun vs H Q E h => ?_) (fun cdv A outer s H vs Q E hr h => ?_)
  · obtain ⟨B, C, v, cs, wd, rfl, _⟩ := h
    rfl
  · obtain ⟨B, C, v, cs, wd, rfl, hv, hB, c0, c1, w1, hw, q⟩ := h
    obtain ⟨pa, vs, rfl, np, ep, hA⟩ := hv.pal
    obtain ⟨as, rfl, la, ha⟩ := hA.cols
    have lm : (cs.map fun c => c.map V.int).length = as.length := by rw [List.length_map, la]
    have src : ∀ {H' : Hp}, Same H H' → ∀ (j : Nat) (a : Addr) (xs : List V), as[j]? = some a → (cs.map fun c => c.map V.int)[j]? = some xs → SqT K H' a xs := fun s' j a xs e1 e2 => by
      rw [List.getElem?_map] at e2
      cases e : cs[j]? with
      | none => rw [e] at e2; cases e2
      | some c =>
        rw [e] at e2
        have ex : c.map V.int = xs := Option.some.inj e2
        rw [← ex]
        exact SqT.of (s' _ _ (ha j a c e1 e).2)
    refine ⟨_, (pss_one (ps_ret (pe_callTy (tuple_K K) (by rfl) T.z_tuple (by decide +kernel) (pa_cons (pe_lc (own := [("numbers", 1)]) (by rfl) sc_greatest_numbers.nd (pi_zipN K (by rfl) T.z_zip (pv 0)) (blkOk_by (own := [("numbers", 1)]) (N := N_greatest_numbers) (sc := defScope s_greatest_numbers) (by decide +kernel)) (fun _ _ _ _ _ => (pg_name (i := 1) sc_greatest_numbers.nd rfl (.inl rfl))) (fun _ _ _ _ _ => pts_nil) (fun _ _ _ _ _ => (pe_callB (cr_maxT K rfl) (by rfl) T.z_max (by decide +kernel) (pa_cons (pv 1) pa_nil)))) pa_nil)))), ?_⟩
    refine ⟨_, rfl, pa, as, rfl, .inr (SqL.of ep), by omega, fun a m => ?_, fun D hD => ?_⟩
    · obtain ⟨j, hj, rfl⟩ := List.mem_iff_getElem.mp m
      have hj2 : j < cs.length := by omega
      exact ⟨_, src (Same.refl H) j _ _ (List.getElem?_eq_getElem hj) (by rw [List.getElem?_map, List.getElem?_eq_getElem hj2]; rfl)⟩
    · refine lc_pure (B := []) (walk_zipN (as := as) (xss := cs.map fun c => c.map V.int) (W := wd) lm (by omega) (fun xs hx => ?_)) hD (fun _ h => nomatch h) (fun H' s' => src s') (by omega)
        (fun i => some (PyData.int (maxL (colP cs i)))) (fun i x H' H'' Ny Nn hi t1 bk y ky kn => ?_) (fun H8 ws s8 eS hW => ?_)
      · obtain ⟨c, hc, rfl⟩ := List.mem_map.mp hx
        rw [List.length_map]
        exact hw c hc
      · obtain ⟨t, zs, rfl, ht, rfl, lz, hz⟩ := y
        have ez := row_of hw hi lz hz
        subst ez
        refine ⟨rfl, lc_yes ⟨_, rfl, t, colP cs i, rfl, SqT.of upd_same, by unfold colP; rw [List.length_map]; exact c0, fun m m1 m2 => ?_⟩⟩
        have em : m = maxL (colP cs i) := Hi.one ⟨m1, m2⟩ (maxL_hi (by unfold colP; rw [List.length_map]; exact c0))
        subst em
        exact ky _ _ _ rfl (sm_new ht) (.int _)
      · rw [fm_some] at hW
        have hW2 : DtA [D] H8 ws ((boxHi cs wd).map PyData.int) := by
          unfold boxHi
          rw [List.map_map]
          exact hW
        have ew := hW2.intsV
        subst ew
        refine ⟨D, _, rfl, .inl ⟨SqL.of eS, fun t ht => ?_⟩⟩
        exact q _ _ (s8.trans (sm_new ht)) (Dt.ofCol ((hB.go (Go.of (B := C) s8)).ne ht) upd_same)
def spBoxOf : Sp := fun vs H Q _ => ∃ (B C : List Addr) (v : V) (cs : List (List Int)) (wd : Nat), vs = [v] ∧ Dt B H v (eP cs) ∧ Bk C H ∧ 0 < cs.length ∧ cs.length ≤ 1000 ∧ wd ≤ 100 ∧ (∀ c ∈ cs, c.length = wd) ∧ ∀ v' H', Same H H' → Dt C H' v' (eB (boxLo cs wd) (boxHi cs wd)) → Q v' H'
theorem ok_box_of (T : Tx K mg) {k : Nat} : FnOk P w K mg base CX0 (k + 2) T.f_box_of T.d_box_of ["colours"] spBoxOf := by
  refine T.F_box_of.ok sc_box_of (fun vs H Q E h => ?_) (fun cdv A outer s H vs Q E hr h => ?_)
  · obtain ⟨B, C, v, cs, wd, rfl, _⟩ := h
    rfl
  · obtain ⟨B, C, v, cs, wd, rfl, hv, hB, c0, c1, w1, hw, q⟩ := h
    refine ⟨_, (pss_one (ps_ret (pe_tup (pa_cons (pe_call (ok_least_numbers T (k := k)) hr (by rfl) T.g_least_numbers T.F_least_numbers.kp T.b_least_numbers .nil pass0 (pa_cons (pv 0) pa_nil)) (pa_cons (pe_call (ok_greatest_numbers T (k := k)) hr (by rfl) T.g_greatest_numbers T.F_greatest_numbers.kp T.b_greatest_numbers .nil pass0 (pa_cons (pv 0) pa_nil)) pa_nil))))), ?_⟩
    refine ⟨_, rfl, B, C, v, cs, wd, rfl, hv, hB, c0, c1, w1, hw, fun v1 H1 s1 d1 => ?_⟩
    refine ⟨_, rfl, B, C, v, cs, wd, rfl, hv.s s1, hB.go (Go.of (B := C) s1), c0, c1, w1, hw, fun v2 H2 s2 d2 => ?_⟩
    refine ⟨(by show 2 ≤ sizeLine; decide), fun p hp => ?_⟩
    have s3 := sm_new (o := .tup [v1, v2]) hp
    exact q _ _ ((s1.trans s2).trans s3) (.tup ((hB.go (Go.of (B := C) (s1.trans s2))).ne hp) upd_same (.cons ((d1.s s2).s s3) (.one (d2.s s3))))
/-! ### the spread by sums of squares -/
def s2S (rs : List (List Int × Int)) (p : Nat) : Int := (rs.map fun r => r.2 * r.1.getD p 0 * r.1.getD p 0).sum
theorem s2N_all (p : Nat) : ∀ (rs : List (List Int × Int)), s2N rs p rs.length = s2S rs p := by
  have h : ∀ (rs : List (List Int × Int)) (i : Nat), s2N rs p i = s2S (rs.take i) p := by
    intro rs i
    induction i with
    | zero => rfl
    | succ i ih =>
      rw [s2N, ih, List.take_add_one]
      unfold s2S rowAt
      cases e : rs[i]? with
      | none => simp [List.getD_eq_getElem?_getD, e]
      | some r => simp [List.getD_eq_getElem?_getD, e]
  intro rs
  rw [h, List.take_length]
def sprT (rs : List (List Int × Int)) (p : Nat) : Int := s2S rs p * cnt rs - wsum rs p * wsum rs p
def sprN (rs : List (List Int × Int)) : Nat → Rat
  | 0 => 0
  | p + 1 => sprN rs p + Rat.divInt (sprT rs p) (cnt rs)
theorem spr_eq {rs : List (List Int × Int)} (h : 0 < cnt rs) (W : Nat) : ∀ wd, wd ≤ W → totN rs (midL rs W) wd rs.length = sprN rs wd
  | 0, _ => totN_zero _ _ _
  | wd + 1, hw => by
    rw [totN_succ, spr_eq h W wd (by omega), sprN, midL_at (by omega), plN_eq, s0N_all, s1N_all, s2N_all]
    congr 1
    have c0 : ((cnt rs : Int) : Rat) ≠ 0 := fun z => by
      have := Rat.intCast_inj.mp (show ((cnt rs : Int) : Rat) = ((0 : Int) : Rat) from z)
      omega
    have e1 : midQ rs wd * (cnt rs : Rat) = (wsum rs wd : Rat) := div_mul_q (by omega)
    have e2 : Rat.divInt (sprT rs wd) (cnt rs) * (cnt rs : Rat) = (sprT rs wd : Rat) := div_mul_q (by omega)
    have e3 : (sprT rs wd : Rat) = (s2S rs wd : Rat) * (cnt rs : Rat) - (wsum rs wd : Rat) * (wsum rs wd : Rat) := by
      unfold sprT
      simp only [Rat.intCast_sub, Rat.intCast_mul]
    rw [e3, ← e1] at e2
    rw [← e1]
    generalize (cnt rs : Rat) = n at *
    generalize midQ rs wd = u at *
    generalize (s2S rs wd : Rat) = a at *
    generalize Rat.divInt (sprT rs wd) (cnt rs) = d at *
    have e4 : (a - 2 * u * (u * n) + u * u * n) * n = d * n := by rw [e2]; grind
    have := congrArg (· * n⁻¹) e4
    simp only [Rat.mul_assoc, Rat.mul_inv_cancel n c0, Rat.mul_one] at this
    simpa [Rat.mul_assoc] using this
theorem s2S_in {wd : Nat} (p : Nat) : ∀ {rs : List (List Int × Int)}, (∀ r ∈ rs, rOk wd r) → 0 ≤ s2S rs p ∧ s2S rs p ≤ 998001000 * (rs.length : Int)
  | [], _ => ⟨Int.le_refl _, Int.le_refl _⟩
  | r :: rs, h => by
    have ih := s2S_in p (rs := rs) fun x hx => h x (List.mem_cons_of_mem _ hx)
    have hr := h r (List.mem_cons_self ..)
    have g := getD_in hr.2.1 (by omega) (by omega) p
    unfold s2S at ih ⊢
    rw [List.map_cons, List.sum_cons, List.length_cons]
    have c := hr.2.2
    have m1 : 0 ≤ r.2 * r.1.getD p 0 := Int.mul_nonneg (by omega) g.1
    have m2 : r.2 * r.1.getD p 0 ≤ 1000 * 999 := Int.mul_le_mul c.2 g.2 g.1 (by omega)
    have m3 : 0 ≤ r.2 * r.1.getD p 0 * r.1.getD p 0 := Int.mul_nonneg m1 g.1
    have m4 : r.2 * r.1.getD p 0 * r.1.getD p 0 ≤ 1000 * 999 * 999 := Int.mul_le_mul m2 g.2 g.1 (by omega)
    omega
theorem sprT_in {wd : Nat} {rs : List (List Int × Int)} (hl : rs.length ≤ 1000) (ho : ∀ r ∈ rs, rOk wd r) (p : Nat) : (sprT rs p).natAbs ≤ 10000000000000000000 := by
  have a := s2S_in p ho
  have b := cnt_in ho
  have c := wsum_in p ho
  have m1 : 0 ≤ s2S rs p * cnt rs := Int.mul_nonneg a.1 (by omega)
  have m2 : s2S rs p * cnt rs ≤ 998001000000 * 1000000 := Int.mul_le_mul (by omega) (by omega) (by omega) (by omega)
  have m3 : 0 ≤ wsum rs p * wsum rs p := Int.mul_nonneg c.1 c.1
  have m4 : wsum rs p * wsum rs p ≤ 999000000 * 999000000 := Int.mul_le_mul (by omega) (by omega) c.1 (by omega)
  unfold sprT
  omega
theorem sprN_fr {wd : Nat} {rs : List (List Int × Int)} (h0 : 0 < rs.length) (hl : rs.length ≤ 1000) (ho : ∀ r ∈ rs, rOk wd r) : ∀ p, Fr (cnt rs).natAbs (p * 10000000000000000000) (sprN rs p)
  | 0 => Fr.zero (by have := cnt_in ho; omega)
  | p + 1 => by
    have b := cnt_in ho
    rw [sprN, Nat.succ_mul]
    refine (sprN_fr h0 hl ho p).add (by omega) ⟨sprT rs p, ?_, sprT_in hl ho p⟩
    congr 1
    omega
theorem sprN_qb {wd : Nat} {rs : List (List Int × Int)} (h0 : 0 < rs.length) (hl : rs.length ≤ 1000) (ho : ∀ r ∈ rs, rOk wd r) {p : Nat} (hp : p ≤ 100) : Qb (sprN rs p) := by
  have b := cnt_in ho
  exact (sprN_fr h0 hl ho p).qb (by omega) (to_lim (b := 10 ^ 19) (by omega)) (to_lim (b := 10 ^ 30) (by omega))
theorem sprT_qb {wd : Nat} {rs : List (List Int × Int)} (h0 : 0 < rs.length) (hl : rs.length ≤ 1000) (ho : ∀ r ∈ rs, rOk wd r) (p : Nat) : Qb (Rat.divInt (sprT rs p) (cnt rs)) := by
  have b := cnt_in ho
  have f : Fr (cnt rs).natAbs 10000000000000000000 (Rat.divInt (sprT rs p) (cnt rs)) := ⟨sprT rs p, by congr 1; omega, sprT_in hl ho p⟩
  exact f.qb (by omega) (to_lim (b := 10 ^ 19) (by omega)) (to_lim (b := 10 ^ 30) (by decide))
set_option maxHeartbeats 1000000 in
theorem ok_l_spread (T : Tx K mg) {k : Nat} : FnOk P w K mg base CX0 (k + 3) T.f_l_spread T.d_l_spread ["_law_rows_here"] spSpread := by
  refine T.F_l_spread.ok sc_l_spread (fun vs H Q E h => ?_) (fun cdv A outer s H vs Q E hr h => ?_)
  · obtain ⟨B, C, v, rs, wd, rfl, _⟩ := h
    rfl
  · obtain ⟨B, C, v, rs, wd, rfl, hv, hB, h0, hl, hw, ho, q⟩ := h
    obtain ⟨ra, vs, rfl, na, ea, hA⟩ := hv.lstI
    have lv := hA.len
    rw [List.length_map] at lv
    refine ⟨_, (pss_cons (ps_set (i := 1) sc_l_spread.nd rfl (.inl rfl) (pe_callB (cr_sumK K rfl) (by rfl) T.z_sum (by decide +kernel) (pa_cons (pe_lc (own := [("_law_colour_here", 6), ("_law_count", 7)]) (by rfl) sc_l_spread.nd (pi_listK K (pv 0)) (blkOk_by (own := [("_law_colour_here", 6), ("_law_count", 7)]) (N := N_l_spread) (sc := defScope s_l_spread) (by decide +kernel)) (fun _ _ _ _ _ => (pg_tupK K (n := 2) rfl (pgs_cons (pg_name (i := 6) sc_l_spread.nd rfl (.inl rfl)) (pgs_cons (pg_name (i := 7) sc_l_spread.nd rfl (.inl rfl)) pgs_nil)))) (fun _ _ _ _ _ => pts_nil) (fun _ _ _ _ _ => (pv 7))) pa_nil)))
      (pss_cons (ps_set (i := 2) sc_l_spread.nd rfl (.inl rfl) (pe_tup (pa_cons pe_int (pa_cons pe_int pa_nil))))
      (pss_cons (ps_for PassesOwn.never rfl (pi_range1 (by rfl) T.z_range (pa_cons (pe_callB (len_K K) (by rfl) T.z_len PySem.boot_len (pa_cons (pe_ix (ix_tupK K) (pe_ix (ix_listK K) (pv 0) pe_int (fun _ _ => rfl)) pe_int (fun _ _ => rfl)) pa_nil)) pa_nil)) (pg_name (i := 3) sc_l_spread.nd rfl (.inr rfl)) (pss_cons (ps_set (i := 4) sc_l_spread.nd rfl (.inl rfl) (pe_callB (cr_sumK K rfl) (by rfl) T.z_sum (by decide +kernel) (pa_cons (pe_lc (own := [("_law_colour_here", 6), ("_law_count", 7)]) (by rfl) sc_l_spread.nd (pi_listK K (pv 0)) (blkOk_by (own := [("_law_colour_here", 6), ("_law_count", 7)]) (N := N_l_spread) (sc := defScope s_l_spread) (by decide +kernel)) (fun _ _ _ _ _ => (pg_tupK K (n := 2) rfl (pgs_cons (pg_name (i := 6) sc_l_spread.nd rfl (.inl rfl)) (pgs_cons (pg_name (i := 7) sc_l_spread.nd rfl (.inl rfl)) pgs_nil)))) (fun _ _ _ _ _ => pts_nil) (fun _ _ _ _ _ => (pe_op op_mul (pv 7) (pe_ix (ix_tupK K) (pv 6) (pv 3) (fun _ _ => rfl))))) pa_nil)))
      (pss_cons (ps_set (i := 5) sc_l_spread.nd rfl (.inl rfl) (pe_callB (cr_sumK K rfl) (by rfl) T.z_sum (by decide +kernel) (pa_cons (pe_lc (own := [("_law_colour_here", 6), ("_law_count", 7)]) (by rfl) sc_l_spread.nd (pi_listK K (pv 0)) (blkOk_by (own := [("_law_colour_here", 6), ("_law_count", 7)]) (N := N_l_spread) (sc := defScope s_l_spread) (by decide +kernel)) (fun _ _ _ _ _ => (pg_tupK K (n := 2) rfl (pgs_cons (pg_name (i := 6) sc_l_spread.nd rfl (.inl rfl)) (pgs_cons (pg_name (i := 7) sc_l_spread.nd rfl (.inl rfl)) pgs_nil)))) (fun _ _ _ _ _ => pts_nil) (fun _ _ _ _ _ => (pe_op op_mul (pe_op op_mul (pv 7) (pe_ix (ix_tupK K) (pv 6) (pv 3) (fun _ _ => rfl))) (pe_ix (ix_tupK K) (pv 6) (pv 3) (fun _ _ => rfl))))) pa_nil)))
      (pss_one (ps_set (i := 2) sc_l_spread.nd rfl (.inl rfl) (pe_call (ok_l_plus T (k := k)) hr (by rfl) T.g_l_plus T.F_l_plus.kp T.b_l_plus .nil pass0 (pa_cons (pv 2) (pa_cons (pe_call (ok_l_part T (k := k + 1)) hr (by rfl) T.g_l_part T.F_l_part.kp T.b_l_part .nil pass0 (pa_cons (pe_op op_sub (pe_op op_mul (pv 5) (pv 1)) (pe_op op_mul (pv 4) (pv 4))) (pa_cons (pv 1) pa_nil))) pa_nil))))))))
      (pss_one (ps_ret (pv 2)))))), ?_⟩
    refine ⟨_, rfl, ra, rfl, ⟨_, SqL.of ea⟩, fun D hD => ?_⟩
    refine lc_pure (B := []) (walk_list (xs := vs)) hD (fun _ h => nomatch h) (fun H' s' => SqL.of (s' _ _ ea)) (by omega)
      (fun i => (rs.map fun r => PyData.int r.2)[i]?) (fun i x H' H'' Ny Nn hi t1 bk y ky kn => ?_) (fun H1 ws s1 eS hW => ?_)
    · obtain ⟨rfl, y⟩ := y
      obtain ⟨hi2, a, qa, rfl, _, e1, nq, e2⟩ := rowsAt hA y
      refine ⟨a, _, rfl, SqT.of (t1 _ _ e1), rfl, _, _, rfl, _, _, rfl, rfl, rfl, lc_yes ⟨_, rfl, ?_⟩⟩
      exact ky _ _ _ (by rw [List.getElem?_map, List.getElem?_eq_getElem hi2]; rfl) (Same.refl _) (.int _)
    · rw [fm_all (by simp; omega)] at hW
      have hW2 : DtA [D] H1 ws ((rs.map fun r => r.2).map PyData.int) := by rw [List.map_map]; exact hW
      refine ⟨D, _, rfl, SqL.of (by rw [eS, hW2.intsV]), ?_⟩
      refine ⟨(by show 2 ≤ sizeLine; decide), fun s0 hs0 => ?_⟩
      have B1 := hB.go (Go.of (B := C) s1)
      have s2 := s1.trans (sm_new (o := .tup [.int 0, .int 1]) hs0)
      have e0 : Dt C (upd H1 s0 (.tup [.int 0, .int 1])) (.ref s0) (enc (qp (sprN rs 0))) := Dt.ofCol (B1.ne hs0) upd_same
      generalize upd H1 s0 (.tup [.int 0, .int 1]) = H2 at *
      have i0 : 0 < vs.length := by omega
      obtain ⟨_, a0, q0, e0', _, e0a, _, eq0⟩ := rowsAt hA (List.getElem?_eq_getElem i0)
      have o0 := ho _ (List.getElem_mem h0)
      have c := cnt_in ho
      refine ⟨_, rfl, ra, _, 0, .ref a0, rfl, rfl, SqL.of (s2 _ _ ea), atI_nat (j := 0) (by rw [List.getElem?_eq_getElem i0, e0']), a0, _, 0, .ref q0, rfl, rfl, SqT.of (s2 _ _ e0a), rfl, q0, _, rfl, .inr (SqT.of (s2 _ _ eq0)), ?_⟩
      have ew : ((rs[0].1.map V.int).length : Int) = (wd : Int) := by rw [List.length_map, o0.1]
      rw [ew]
      refine ⟨(wd : Int), rfl, by omega, by omega, for_range (lo := 0) (n := wd) (fun i σ H' => ∃ sv y3 y4 y5 y6 y7, σ = [some (.ref ra), some (.int (cnt rs)), some sv, y3, y4, y5, y6, y7] ∧ Same H2 H' ∧ Dt C H' sv (enc (qp (sprN rs i))))
        ⟨_, _, _, _, _, _, rfl, Same.refl _, e0⟩ (fun i σ H3 hi h3 => ?_) (fun σ H3 h3 => ?_)⟩
      · obtain ⟨sv, y3, y4, y5, y6, y7, rfl, s3, d3⟩ := h3
        have ez : (0 : Int) + (i : Int) = (i : Int) := by omega
        have t3 := s2.trans s3
        have ea3 := t3 _ _ ea
        refine ⟨_, rfl, ra, rfl, ⟨_, SqL.of ea3⟩, fun D4 hD4 => ?_⟩
        refine lc_pure (B := []) (walk_list (xs := vs)) hD4 (fun _ h => nomatch h) (fun H' s' => SqL.of (s' _ _ ea3)) (by omega)
          (fun j => (rs.map fun r => PyData.int (r.2 * r.1.getD i 0))[j]?) (fun j x H' H'' Ny Nn hj t1 bk y ky kn => ?_) (fun H4 ws4 s4 eS4 hW4 => ?_)
        · obtain ⟨rfl, y⟩ := y
          obtain ⟨hj2, a, qa, rfl, _, e1, nq, e2⟩ := rowsAt hA y
          have o := ho _ (List.getElem_mem hj2)
          have hp2 : i < rs[j].1.length := by rw [o.1]; exact hi
          have eg : rs[j].1.getD i 0 = rs[j].1[i] := by rw [List.getD_eq_getElem?_getD, List.getElem?_eq_getElem hp2]; rfl
          have t15 := t3.trans t1
          refine ⟨a, _, rfl, SqT.of (t15 _ _ e1), rfl, _, _, rfl, _, _, rfl, rfl, rfl, lc_yes ?_⟩
          refine ⟨_, rfl, _, rfl, _, rfl, qa, _, _, .int rs[j].1[i], rfl, rfl, SqT.of (t15 _ _ e2), by rw [ez]; exact atI_nat (by rw [List.getElem?_map, List.getElem?_eq_getElem hp2]; rfl), _, _, rfl, rfl, .inl ⟨by have := o.2.2; omega, by have := o.2.2; omega⟩, ?_⟩
          exact ky _ _ _ (by rw [List.getElem?_map, List.getElem?_eq_getElem hj2]; simp only [Option.map_some]; rw [eg]) (Same.refl _) (.int _)
        · rw [fm_all (by simp; omega)] at hW4
          have hW5 : DtA [D4] H4 ws4 ((rs.map fun r => r.2 * r.1.getD i 0).map PyData.int) := by rw [List.map_map]; exact hW4
          refine ⟨D4, _, rfl, SqL.of (by rw [eS4, hW5.intsV]), ?_⟩
          have t4 := t3.trans s4
          have ea4 := t4 _ _ ea
          refine ⟨_, rfl, ra, rfl, ⟨_, SqL.of ea4⟩, fun D6 hD6 => ?_⟩
          refine lc_pure (B := []) (walk_list (xs := vs)) hD6 (fun _ h => nomatch h) (fun H' s' => SqL.of (s' _ _ ea4)) (by omega)
            (fun j => (rs.map fun r => PyData.int (r.2 * r.1.getD i 0 * r.1.getD i 0))[j]?) (fun j x H' H'' Ny Nn hj t1 bk y ky kn => ?_) (fun H6 ws6 s6 eS6 hW6 => ?_)
          · obtain ⟨rfl, y⟩ := y
            obtain ⟨hj2, a, qa, rfl, _, e1, nq, e2⟩ := rowsAt hA y
            have o := ho _ (List.getElem_mem hj2)
            have hp2 : i < rs[j].1.length := by rw [o.1]; exact hi
            have eg : rs[j].1.getD i 0 = rs[j].1[i] := by rw [List.getD_eq_getElem?_getD, List.getElem?_eq_getElem hp2]; rfl
            have g := o.2.1 _ (List.getElem_mem hp2)
            have m1 : 0 ≤ rs[j].2 * rs[j].1[i] := Int.mul_nonneg (by have := o.2.2; omega) g.1
            have m2 : rs[j].2 * rs[j].1[i] ≤ 1000 * 999 := Int.mul_le_mul o.2.2.2 g.2 g.1 (by omega)
            have t15 := t4.trans t1
            have ai : atI (rs[j].1.map V.int) ((0 : Int) + (i : Int)) = some (.int rs[j].1[i]) := by rw [ez]; exact atI_nat (by rw [List.getElem?_map, List.getElem?_eq_getElem hp2]; rfl)
            refine ⟨a, _, rfl, SqT.of (t15 _ _ e1), rfl, _, _, rfl, _, _, rfl, rfl, rfl, lc_yes ?_⟩
            refine ⟨_, rfl, _, rfl, _, rfl, qa, _, _, .int rs[j].1[i], rfl, rfl, SqT.of (t15 _ _ e2), ai, _, _, rfl, rfl, .inl ⟨by have := o.2.2; omega, by have := o.2.2; omega⟩, _, rfl, _, rfl, qa, _, _, .int rs[j].1[i], rfl, rfl, SqT.of (t15 _ _ e2), ai, _, _, rfl, rfl, .inl ⟨by omega, by omega⟩, ?_⟩
            exact ky _ _ _ (by rw [List.getElem?_map, List.getElem?_eq_getElem hj2]; simp only [Option.map_some]; rw [eg]) (Same.refl _) (.int _)
          · rw [fm_all (by simp; omega)] at hW6
            have hW7 : DtA [D6] H6 ws6 ((rs.map fun r => r.2 * r.1.getD i 0 * r.1.getD i 0).map PyData.int) := by rw [List.map_map]; exact hW6
            refine ⟨D6, _, rfl, SqL.of (by rw [eS6, hW7.intsV]), ?_⟩
            have a2 := s2S_in i ho
            have a1 := wsum_in i ho
            have t6 := s4.trans s6
            refine ⟨_, rfl, _, rfl, _, rfl, s2S rs i, cnt rs, rfl, rfl, .inl ⟨by omega, by omega⟩, _, rfl, _, rfl, wsum rs i, wsum rs i, rfl, rfl, .inl ⟨by omega, by omega⟩, _, _, rfl, rfl, _, rfl, sprT rs i, cnt rs, rfl, by omega, to_lim2 (b := 10 ^ 19) (by omega), fun p8 H8 s8 hp8 e8 => ?_⟩
            have B6 := hB.go (Go.of (B := C) (t3.trans t6))
            have d8 : Dt C H8 (.ref p8) (enc (qp (Rat.divInt (sprT rs i) (cnt rs)))) := Dt.ofCol (B6.ne hp8) e8
            refine ⟨C, sv, .ref p8, _, _, rfl, (d3.s t6).s s8, d8, sprN_qb h0 hl ho (by omega), sprT_qb h0 hl ho i, fun p9 H9 s9 hp9 e9 => ?_⟩
            refine ⟨_, _, _, _, _, _, rfl, ((s3.trans t6).trans s8).trans s9, ?_⟩
            rw [sprN]
            exact Dt.ofCol ((B6.go (Go.of (B := C) s8)).ne hp9) e9
      · obtain ⟨sv, y3, y4, y5, y6, y7, rfl, s3, d3⟩ := h3
        refine ⟨_, rfl, q _ _ (s2.trans s3) ?_⟩
        rw [spr_eq (by omega) wd wd (Nat.le_refl _)]
        exact d3
/-! ### all answers -/
def csOf (rs : List (List Int × Int)) : List (List Int) := rs.map (·.1)
def ansD (rs : List (List Int × Int)) (c : List Int) (wd : Nat) : List PyData :=
  [eB (boxLo (csOf rs) wd) (boxHi (csOf rs) wd), eMq (midL rs wd), enc (qp (totN rs (midL rs wd) wd rs.length)), .int (ap c (nearC (boxLo (csOf rs) wd) c (boxHi (csOf rs) wd))), .int (ap c (farC (boxLo (csOf rs) wd) c (boxHi (csOf rs) wd))), enc (qp (farN c (midL rs wd) c.length))]
structure AnsOk (rs : List (List Int × Int)) (c : List Int) (wd : Nat) : Prop where
  r0 : 0 < rs.length
  r1 : rs.length ≤ 1000
  w : wd ≤ 100
  o : ∀ r ∈ rs, rOk wd r
  l : c.length = wd
  c : cIn (-1000000) 1000000 c
theorem AnsOk.cs0 {rs : List (List Int × Int)} {c : List Int} {wd : Nat} (o : AnsOk rs c wd) : 0 < (csOf rs).length := by unfold csOf; rw [List.length_map]; exact o.r0
theorem AnsOk.cs1 {rs : List (List Int × Int)} {c : List Int} {wd : Nat} (o : AnsOk rs c wd) : (csOf rs).length ≤ 1000 := by unfold csOf; rw [List.length_map]; exact o.r1
theorem AnsOk.csw {rs : List (List Int × Int)} {c : List Int} {wd : Nat} (o : AnsOk rs c wd) : ∀ x ∈ csOf rs, x.length = wd := fun x hx => by
  obtain ⟨r, hr, rfl⟩ := List.mem_map.mp hx
  exact (o.o r hr).1
theorem AnsOk.lo {rs : List (List Int × Int)} {c : List Int} {wd : Nat} (o : AnsOk rs c wd) : cIn (-1000000) 1000000 (boxLo (csOf rs) wd) := fun x hx => by
  obtain ⟨p, hp, rfl⟩ := List.mem_map.mp hx
  obtain ⟨z, hz, e⟩ := mem_colP.mp (minL_lo (ns := colP (csOf rs) p) (by unfold colP; rw [List.length_map]; exact o.cs0)).1
  obtain ⟨r, hr, rfl⟩ := List.mem_map.mp hz
  have := getD_in (o.o r hr).2.1 (by omega) (by omega) p
  omega
theorem AnsOk.hi {rs : List (List Int × Int)} {c : List Int} {wd : Nat} (o : AnsOk rs c wd) : cIn (-1000000) 1000000 (boxHi (csOf rs) wd) := fun x hx => by
  obtain ⟨p, hp, rfl⟩ := List.mem_map.mp hx
  obtain ⟨z, hz, e⟩ := mem_colP.mp (maxL_hi (ns := colP (csOf rs) p) (by unfold colP; rw [List.length_map]; exact o.cs0)).1
  obtain ⟨r, hr, rfl⟩ := List.mem_map.mp hz
  have := getD_in (o.o r hr).2.1 (by omega) (by omega) p
  omega
theorem AnsOk.far {rs : List (List Int × Int)} {c : List Int} {wd : Nat} (o : AnsOk rs c wd) : FarOk c (midL rs wd) (cnt rs).natAbs (999000 * rs.length) := mid_far o.r0 o.r1 o.w o.o o.l (o.c.mono (by decide) (by decide))
def spAns : Sp := fun vs H Q _ => ∃ (B C : List Addr) (x y : V) (rs : List (List Int × Int)) (c : List Int) (wd : Nat), vs = [x, y] ∧ Dt B H x (eRs rs) ∧ Dt B H y (eC c) ∧ Bk C H ∧ AnsOk rs c wd ∧ ∀ v' H', Same H H' → Dt C H' v' (.list (ansD rs c wd)) → Q v' H'
theorem cs_list {B : List Addr} {H : Hp} {vs : List V} {rs : List (List Int × Int)} (hA : DtA B H vs (rs.map eRow)) {i : Nat} {x : V} (hx : vs[i]? = some x) : ∃ a qa c n, x = .ref a ∧ H a = some (.tup [.ref qa, .int n]) ∧ H qa = some (.tup (c.map V.int)) ∧ qa ∉ B ∧ (csOf rs)[i]? = some c := by
  obtain ⟨hi, a, qa, e, _, e1, nq, e2⟩ := rowsAt hA hx
  exact ⟨a, qa, _, _, e, e1, e2, nq, by unfold csOf; rw [List.getElem?_map, List.getElem?_eq_getElem hi]; rfl⟩
set_option maxHeartbeats 1000000 in
theorem ok_l_answers (T : Tx K mg) {k : Nat} : FnOk P w K mg base CX0 (k + 7) T.f_l_answers T.d_l_answers ["_law_rows_here", "_law_colour_here"] spAns := by
  refine T.F_l_answers.ok sc_l_answers (fun vs H Q E h => ?_) (fun cdv A outer s H vs Q E hr h => ?_)
  · obtain ⟨B, C, x, y, rs, c, wd, rfl, _⟩ := h
    rfl
  · obtain ⟨B, C, x, y, rs, c, wd, rfl, hx, hy, hC, o, q⟩ := h
    have hx0 := hx
    obtain ⟨ra, vs, rfl, na, ea, hA⟩ := hx.lstI
    have lv := hA.len
    rw [List.length_map] at lv
    have r1 := o.r1
    refine ⟨_, (pss_cons (ps_set (i := 2) sc_l_answers.nd rfl (.inl rfl) (pe_call (ok_box_of T (k := k + 4)) hr (by rfl) T.g_box_of T.F_box_of.kp T.b_box_of .nil pass0 (pa_cons (pe_lc (own := [("_law_one", 5), ("_law_count", 6)]) (by rfl) sc_l_answers.nd (pi_listK K (pv 0)) (blkOk_by (own := [("_law_one", 5), ("_law_count", 6)]) (N := N_l_answers) (sc := defScope s_l_answers) (by decide +kernel)) (fun _ _ _ _ _ => (pg_tupK K (n := 2) rfl (pgs_cons (pg_name (i := 5) sc_l_answers.nd rfl (.inl rfl)) (pgs_cons (pg_name (i := 6) sc_l_answers.nd rfl (.inl rfl)) pgs_nil)))) (fun _ _ _ _ _ => pts_nil) (fun _ _ _ _ _ => (pv 5))) pa_nil)))
      (pss_cons (ps_set (i := 3) sc_l_answers.nd rfl (.inl rfl) (pe_call (ok_middle_of T (k := k + 3)) hr (by rfl) T.g_middle_of T.F_middle_of.kp T.b_middle_of .nil pass0 (pa_cons (pv 0) pa_nil)))
      (pss_cons (ps_set (i := 4) sc_l_answers.nd rfl (.inl rfl) (pe_lst (pa_cons (pv 2) (pa_cons (pv 3) (pa_cons (pe_call (ok_spread_of T (k := k)) hr (by rfl) T.g_spread_of T.F_spread_of.kp T.b_spread_of .nil pass0 (pa_cons (pv 0) pa_nil)) (pa_cons (pe_call (ok_near_box T (k := k + 4)) hr (by rfl) T.g_near_box T.F_near_box.kp T.b_near_box .nil pass0 (pa_cons (pv 1) (pa_cons (pv 2) pa_nil))) (pa_cons (pe_call (ok_far_box T (k := k + 4)) hr (by rfl) T.g_far_box T.F_far_box.kp T.b_far_box .nil pass0 (pa_cons (pv 1) (pa_cons (pv 2) pa_nil))) pa_nil)))))))
      (pss_one (ps_ret (pe_op op_cat (pv 4) (pe_lst (pa_cons (pe_call (ok_far_of T (k := k + 2)) hr (by rfl) T.g_far_of T.F_far_of.kp T.b_far_of .nil pass0 (pa_cons (pv 1) (pa_cons (pv 3) pa_nil))) pa_nil)))))))), ?_⟩
    refine ⟨_, rfl, ra, rfl, ⟨_, SqL.of ea⟩, fun D hD => ?_⟩
    refine lc_pure (B := []) (walk_list (xs := vs)) hD (fun _ h => nomatch h) (fun H' s' => SqL.of (s' _ _ ea)) (by omega)
      (fun i => ((csOf rs).map eC)[i]?) (fun i x H' H'' Ny Nn hi t1 bk y ky kn => ?_) (fun H1 ws s1 eD hW => ?_)
    · obtain ⟨rfl, y⟩ := y
      obtain ⟨a, qa, cc, n, rfl, e1, e2, nq, ec⟩ := cs_list hA y
      have nD : qa ∉ [D] := fun m => by
        rw [List.mem_singleton.mp m, hD] at e2
        cases e2
      refine ⟨a, _, rfl, SqT.of (t1 _ _ e1), rfl, _, _, rfl, _, _, rfl, rfl, rfl, lc_yes ⟨_, rfl, ?_⟩⟩
      exact ky _ _ (eC cc) (by rw [List.getElem?_map, ec]; rfl) (Same.refl _) (Dt.ofCol nD (t1 _ _ e2))
    · rw [fm_all (by unfold csOf; simp; omega)] at hW
      have dcs : Dt [] H1 (.ref D) (eP (csOf rs)) := .lst (fun h => nomatch h) eD hW.un
      have C1 := hC.go (Go.of (B := C) s1)
      refine ⟨[], C, .ref D, csOf rs, wd, rfl, dcs, C1, o.cs0, o.cs1, o.w, o.csw, fun bv H2 s2 d2 => ?_⟩
      have t2 := s1.trans s2
      have C2 := C1.go (Go.of (B := C) s2)
      refine ⟨_, rfl, B, C, .ref ra, rs, wd, rfl, hx0.s t2, C2, o.r0, o.r1, o.w, o.o, fun mv H3 s3 d3 => ?_⟩
      have t3 := t2.trans s3
      have C3 := C2.go (Go.of (B := C) s3)
      refine ⟨_, rfl, _, rfl, _, rfl, B, C, .ref ra, rs, wd, rfl, hx0.s t3, C3, o.r0, o.r1, o.w, o.o, fun sv H4 s4 d4 => ?_⟩
      have t4 := t3.trans s4
      have C4 := C3.go (Go.of (B := C) s4)
      have nn : ∀ X : List Addr, ∀ a ∈ ([] : List Addr), a ∈ X := fun X a h => nomatch h
      have db4 : Dt [] H4 bv _ := ((d2.s s3).s s4).sub (nn C)
      refine ⟨_, rfl, _, rfl, [], y, bv, _, _, c, rfl, (hy.s t4).sub (nn B), db4, (fun _ h => nomatch h), by rw [boxLo_len]; exact o.l.symm, by rw [boxHi_len]; exact o.l.symm, by rw [o.l]; exact o.w, o.lo, o.c, o.hi, fun H5 s5 => ?_⟩
      have t5 := t4.trans s5
      refine ⟨_, rfl, _, rfl, [], y, bv, _, _, c, rfl, (hy.s t5).sub (nn B), db4.s s5, (fun _ h => nomatch h), by rw [boxLo_len]; exact o.l.symm, by rw [boxHi_len]; exact o.l.symm, by rw [o.l]; exact o.w, o.lo, o.c, o.hi, fun H6 s6 => ?_⟩
      have t6 := t5.trans s6
      have C6 := C4.go (Go.of (B := C) (s5.trans s6))
      refine ⟨(by show 5 ≤ sizeLine; decide), fun p7 hp7 => ?_⟩
      have s7 := sm_new (o := .lst [bv, mv, sv, .int (ap c (nearC (boxLo (csOf rs) wd) c (boxHi (csOf rs) wd))), .int (ap c (farC (boxLo (csOf rs) wd) c (boxHi (csOf rs) wd)))]) hp7
      have e7 : (upd H6 p7 (.lst [bv, mv, sv, .int (ap c (nearC (boxLo (csOf rs) wd) c (boxHi (csOf rs) wd))), .int (ap c (farC (boxLo (csOf rs) wd) c (boxHi (csOf rs) wd)))])) p7 = _ := upd_same
      have t7 := t6.trans s7
      have s47 := (s5.trans s6).trans s7
      generalize upd H6 p7 (.lst [bv, mv, sv, .int (ap c (nearC (boxLo (csOf rs) wd) c (boxHi (csOf rs) wd))), .int (ap c (farC (boxLo (csOf rs) wd) c (boxHi (csOf rs) wd)))]) = H7 at *
      have C7 := C6.go (Go.of (B := C) s7)
      refine ⟨_, rfl, _, rfl, _, rfl, B, C, C, y, mv, c, midL rs wd, _, _, rfl, hy.s t7, (d3.s s4).s s47, C7, o.far, fun fv H8 s8 d8 => ?_⟩
      refine ⟨(by show 1 ≤ sizeLine; decide), fun p9 hp9 => ?_⟩
      have C8 := C7.go (Go.of (B := C) s8)
      have s9 := sm_new (o := .lst [fv]) hp9
      have e9 : (upd H8 p9 (.lst [fv])) p9 = some (.lst [fv]) := upd_same
      have e79 := s9 _ _ (s8 _ _ e7)
      have d9 := d8.s s9
      generalize upd H8 p9 (.lst [fv]) = H9 at *
      refine ⟨p7, p9, _, _, rfl, rfl, e79, e9, (by show 6 ≤ sizeLine; decide), fun p10 hp10 => ?_⟩
      have s10 := sm_new (o := .lst ([bv, mv, sv, .int (ap c (nearC (boxLo (csOf rs) wd) c (boxHi (csOf rs) wd))), .int (ap c (farC (boxLo (csOf rs) wd) c (boxHi (csOf rs) wd)))] ++ [fv])) hp10
      have s710 := (s8.trans s9).trans s10
      have s410 := s47.trans s710
      refine q _ _ (t7.trans s710) (.lst ((C8.go (Go.of (B := C) s9)).ne hp10) upd_same ?_)
      exact .cons (((d2.s s3).s s4).s s410) (.cons ((d3.s s4).s s410) (.cons (d4.s s410) (.cons (.int _) (.cons (.int _) (.one (d9.s s10))))))
def spOne : Sp := fun vs H Q _ => ∃ (B C : List Addr) (x y f : V) (rs : List (List Int × Int)) (c : List Int) (wd : Nat) (n : Int), vs = [x, y, f, .int n] ∧ Dt B H x (eRs rs) ∧ Dt B H y (eC c) ∧ Dt B H f (.list (ansD rs c wd)) ∧ Bk C H ∧ AnsOk rs c wd ∧ 0 ≤ n ∧ n < 6 ∧ ∀ v' H' d, Same H H' → (ansD rs c wd)[n.toNat]? = some d → Dt C H' v' d → Q v' H'
set_option maxHeartbeats 1000000 in
theorem ok_l_one_answer (T : Tx K mg) {k : Nat} : FnOk P w K mg base CX0 (k + 7) T.f_l_one_answer T.d_l_one_answer ["_law_rows_here", "_law_colour_here", "_law_first", "_law_which"] spOne := by
  refine T.F_l_one_answer.ok sc_l_one_answer (fun vs H Q E h => ?_) (fun cdv A outer s H vs Q E hr h => ?_)
  · obtain ⟨B, C, x, y, f, rs, c, wd, n, rfl, _⟩ := h
    rfl
  · obtain ⟨B, C, x, y, f, rs, c, wd, n, rfl, hx, hy, hf, hC, o, n0, n6, q⟩ := h
    have hx0 := hx
    obtain ⟨ra, vs, rfl, na, ea, hA⟩ := hx.lstI
    obtain ⟨fa, fvs, rfl, nf, ef, hF⟩ := hf.lstI
    have lv := hA.len
    rw [List.length_map] at lv
    have r1 := o.r1
    obtain ⟨b0, f0, db0⟩ := hF.get (i := 0) (d := eB (boxLo (csOf rs) wd) (boxHi (csOf rs) wd)) rfl
    obtain ⟨b1, f1, db1⟩ := hF.get (i := 1) (d := eMq (midL rs wd)) rfl
    refine ⟨_, (pss_cons (ps_if (pt_cmpR op_eq (pv 3) pe_int (nomark _)) (pss_one (ps_ret (pe_call (ok_box_of T (k := k + 4)) hr (by rfl) T.g_box_of T.F_box_of.kp T.b_box_of .nil pass0 (pa_cons (pe_lc (own := [("_law_one", 4), ("_law_count", 5)]) (by rfl) sc_l_one_answer.nd (pi_listK K (pv 0)) (blkOk_by (own := [("_law_one", 4), ("_law_count", 5)]) (N := N_l_one_answer) (sc := defScope s_l_one_answer) (by decide +kernel)) (fun _ _ _ _ _ => (pg_tupK K (n := 2) rfl (pgs_cons (pg_name (i := 4) sc_l_one_answer.nd rfl (.inl rfl)) (pgs_cons (pg_name (i := 5) sc_l_one_answer.nd rfl (.inl rfl)) pgs_nil)))) (fun _ _ _ _ _ => pts_nil) (fun _ _ _ _ _ => (pv 4))) pa_nil)))) pss_nil)
      (pss_cons (ps_if (pt_cmpR op_eq (pv 3) pe_int (nomark _)) (pss_one (ps_ret (pe_call (ok_middle_of T (k := k + 3)) hr (by rfl) T.g_middle_of T.F_middle_of.kp T.b_middle_of .nil pass0 (pa_cons (pv 0) pa_nil)))) pss_nil)
      (pss_cons (ps_if (pt_cmpR op_eq (pv 3) pe_int (nomark _)) (pss_one (ps_ret (pe_call (ok_spread_of T (k := k)) hr (by rfl) T.g_spread_of T.F_spread_of.kp T.b_spread_of .nil pass0 (pa_cons (pv 0) pa_nil)))) pss_nil)
      (pss_cons (ps_if (pt_cmpR op_eq (pv 3) pe_int (nomark _)) (pss_one (ps_ret (pe_call (ok_near_box T (k := k + 4)) hr (by rfl) T.g_near_box T.F_near_box.kp T.b_near_box .nil pass0 (pa_cons (pv 1) (pa_cons (pe_ix (ix_listK K) (pv 2) pe_int (fun _ _ => rfl)) pa_nil))))) pss_nil)
      (pss_cons (ps_if (pt_cmpR op_eq (pv 3) pe_int (nomark _)) (pss_one (ps_ret (pe_call (ok_far_box T (k := k + 4)) hr (by rfl) T.g_far_box T.F_far_box.kp T.b_far_box .nil pass0 (pa_cons (pv 1) (pa_cons (pe_ix (ix_listK K) (pv 2) pe_int (fun _ _ => rfl)) pa_nil))))) pss_nil)
      (pss_one (ps_ret (pe_call (ok_far_of T (k := k + 2)) hr (by rfl) T.g_far_of T.F_far_of.kp T.b_far_of .nil pass0 (pa_cons (pv 1) (pa_cons (pe_ix (ix_listK K) (pv 2) pe_int (fun _ _ => rfl)) pa_nil)))))))))), ?_⟩
    refine ⟨_, rfl, rfl, _, rfl, ite2 (fun e => ?_) (fun e => ?_)⟩
    · have en : n = 0 := by have := of_decide_eq_true e; cases this; rfl
      subst en
      refine ⟨_, rfl, ra, rfl, ⟨_, SqL.of ea⟩, fun D hD => ?_⟩
      refine lc_pure (B := []) (walk_list (xs := vs)) hD (fun _ h => nomatch h) (fun H' s' => SqL.of (s' _ _ ea)) (by omega)
        (fun i => ((csOf rs).map eC)[i]?) (fun i x H' H'' Ny Nn hi t1 bk y ky kn => ?_) (fun H1 ws s1 eD hW => ?_)
      · obtain ⟨rfl, y⟩ := y
        obtain ⟨a, qa, cc, n, rfl, e1, e2, nq, ec⟩ := cs_list hA y
        have nD : qa ∉ [D] := fun m => by
          rw [List.mem_singleton.mp m, hD] at e2
          cases e2
        refine ⟨a, _, rfl, SqT.of (t1 _ _ e1), rfl, _, _, rfl, _, _, rfl, rfl, rfl, lc_yes ⟨_, rfl, ?_⟩⟩
        exact ky _ _ (eC cc) (by rw [List.getElem?_map, ec]; rfl) (Same.refl _) (Dt.ofCol nD (t1 _ _ e2))
      · rw [fm_all (by unfold csOf; simp; omega)] at hW
        have dcs : Dt [] H1 (.ref D) (eP (csOf rs)) := .lst (fun h => nomatch h) eD hW.un
        refine ⟨[], C, .ref D, csOf rs, wd, rfl, dcs, hC.go (Go.of (B := C) s1), o.cs0, o.cs1, o.w, o.csw, fun bv H2 s2 d2 => ?_⟩
        exact q _ _ _ (s1.trans s2) rfl d2
    have ne0 : n ≠ 0 := fun z => e (by rw [z]; rfl)
    refine ⟨_, rfl, rfl, _, rfl, ite2 (fun e => ?_) (fun e => ?_)⟩
    · have en : n = 1 := by have := of_decide_eq_true e; cases this; rfl
      subst en
      refine ⟨_, rfl, B, C, .ref ra, rs, wd, rfl, hx0, hC, o.r0, o.r1, o.w, o.o, fun mv H3 s3 d3 => ?_⟩
      exact q _ _ _ s3 rfl d3
    have ne1 : n ≠ 1 := fun z => e (by rw [z]; rfl)
    refine ⟨_, rfl, rfl, _, rfl, ite2 (fun e => ?_) (fun e => ?_)⟩
    · have en : n = 2 := by have := of_decide_eq_true e; cases this; rfl
      subst en
      refine ⟨_, rfl, B, C, .ref ra, rs, wd, rfl, hx0, hC, o.r0, o.r1, o.w, o.o, fun mv H3 s3 d3 => ?_⟩
      exact q _ _ _ s3 rfl d3
    have ne2 : n ≠ 2 := fun z => e (by rw [z]; rfl)
    refine ⟨_, rfl, rfl, _, rfl, ite2 (fun e => ?_) (fun e => ?_)⟩
    · have en : n = 3 := by have := of_decide_eq_true e; cases this; rfl
      subst en
      refine ⟨_, rfl, _, rfl, fa, _, 0, b0, rfl, rfl, SqL.of ef, atI_nat (j := 0) f0, [], y, b0, _, _, c, rfl, hy.sub (fun a h => nomatch h), db0.sub (fun a h => nomatch h), (fun _ h => nomatch h), by rw [boxLo_len]; exact o.l.symm, by rw [boxHi_len]; exact o.l.symm, by rw [o.l]; exact o.w, o.lo, o.c, o.hi, fun H5 s5 => ?_⟩
      exact q _ _ _ s5 rfl (.int _)
    have ne3 : n ≠ 3 := fun z => e (by rw [z]; rfl)
    refine ⟨_, rfl, rfl, _, rfl, ite2 (fun e => ?_) (fun e => ?_)⟩
    · have en : n = 4 := by have := of_decide_eq_true e; cases this; rfl
      subst en
      refine ⟨_, rfl, _, rfl, fa, _, 0, b0, rfl, rfl, SqL.of ef, atI_nat (j := 0) f0, [], y, b0, _, _, c, rfl, hy.sub (fun a h => nomatch h), db0.sub (fun a h => nomatch h), (fun _ h => nomatch h), by rw [boxLo_len]; exact o.l.symm, by rw [boxHi_len]; exact o.l.symm, by rw [o.l]; exact o.w, o.lo, o.c, o.hi, fun H5 s5 => ?_⟩
      exact q _ _ _ s5 rfl (.int _)
    have ne4 : n ≠ 4 := fun z => e (by rw [z]; rfl)
    have en : n = 5 := by omega
    subst en
    refine ⟨_, rfl, _, rfl, fa, _, 1, b1, rfl, rfl, SqL.of ef, atI_nat (j := 1) f1, B, B, C, y, b1, c, midL rs wd, _, _, rfl, hy, db1, hC, o.far, fun fv H8 s8 d8 => ?_⟩
    exact q _ _ _ s8 rfl d8
/-! ### same -/
def spSame : Nat → Sp
  | 0 => fun _ _ _ _ => False
  | k + 1 => fun vs H Q _ => ∃ (B : List Addr) (x y : V) (d : PyData), vs = [x, y] ∧ Dt B H x d ∧ Dt B H y d ∧ Sh d k ∧ k ≤ 60 ∧ ∀ H', Same H H' → Q (.bl true) H'
theorem kT {K : PySem.W.Frag} : PySem.W.kitAny K (.type "tuple") [.type "list", .type "tuple"] = some true := kitAny_cons (b := false) (kit_ty (by decide +kernel)) (fun _ => kitAny_cons (b := true) (kit_ty (by decide +kernel)) (fun h => Bool.noConfusion h) (fun _ => rfl)) (fun h => Bool.noConfusion h)
theorem kL {K : PySem.W.Frag} : PySem.W.kitAny K (.type "list") [.type "list", .type "tuple"] = some true := kitAny_cons (b := true) (kit_ty (by decide +kernel)) (fun h => Bool.noConfusion h) (fun _ => rfl)
theorem kF {K : PySem.W.Frag} {t : String} (h1 : kitB t "list" = some false) (h2 : kitB t "tuple" = some false) : PySem.W.kitAny K (.type t) [.type "list", .type "tuple"] = some false :=
  kitAny_cons (kit_ty (b := "list") h1) (fun _ => kitAny_cons (kit_ty (b := "tuple") h2) (fun _ => kitAny_nil) (fun h => nomatch h)) (fun h => nomatch h)
theorem eqv_sh {d : PyData} {k : Nat} (h : Sh d k) : PyData.eqv d d = true := SeqAt.eqv_refl d h.1
theorem allT : ∀ n : Nat, (List.range n).filterMap (fun _ => some (PyData.bool true)) = (List.replicate n true).map PyData.bool
  | 0 => rfl
  | n + 1 => by
    rw [List.range_succ, List.filterMap_append, allT n, List.replicate_succ', List.map_append]
    rfl
theorem same_all (T : Tx K mg) (k : Nat) : FnOk P w K mg base CX0 k T.f_l_same T.d_l_same ["_law_found", "_law_due"] (spSame k) := by
  induction k with
  | zero => exact ⟨fun _ _ _ _ h => h.elim, fun _ _ _ _ _ _ _ _ _ _ _ _ _ h => h.elim⟩
  | succ k GS =>
    refine T.F_l_same.ok sc_l_same (fun vs H Q E h => ?_) (fun cdv A outer s H vs Q E hr h => ?_)
    · obtain ⟨B, x, y, d, rfl, _⟩ := h
      rfl
    · obtain ⟨B, x, y, d, rfl, hx, hy, hd, k60, q⟩ := h
      have hrS := hr
      refine ⟨_, (pss_cons (ps_if (pt_val (pe_callB (call_isiTK K) (by rfl) T.z_isinstance (by decide +kernel) (pa_cons (pv 1) (pa_cons (pe_tup (pa_cons (pe_bltn (v := .ty "list") (by rfl) T.z_list (by decide +kernel) rfl) (pa_cons (pe_bltn (v := .ty "tuple") (by rfl) T.z_tuple (by decide +kernel) rfl) pa_nil))) pa_nil)))) (pss_cons (ps_if (PW.pt (pw_or (pt_cmpR op_ne (pe_callB (call_isiK1 K) (by rfl) T.z_isinstance (by decide +kernel) (pa_cons (pv 0) (pa_cons (pe_bltn (v := .ty "list") (by rfl) T.z_list (by decide +kernel) rfl) pa_nil))) (pe_callB (call_isiK1 K) (by rfl) T.z_isinstance (by decide +kernel) (pa_cons (pv 1) (pa_cons (pe_bltn (v := .ty "list") (by rfl) T.z_list (by decide +kernel) rfl) pa_nil))) (nomark _)) (pw_or1 (pt_cmpR op_ne (pe_callB (call_isiK1 K) (by rfl) T.z_isinstance (by decide +kernel) (pa_cons (pv 0) (pa_cons (pe_bltn (v := .ty "tuple") (by rfl) T.z_tuple (by decide +kernel) rfl) pa_nil))) (pe_callB (call_isiK1 K) (by rfl) T.z_isinstance (by decide +kernel) (pa_cons (pv 1) (pa_cons (pe_bltn (v := .ty "tuple") (by rfl) T.z_tuple (by decide +kernel) rfl) pa_nil))) (nomark _))))) (pss_one (ps_ret pe_bl)) pss_nil)
      (pss_one (ps_ret (pe_and (pe_cmpR op_eq (pe_callB (len_K K) (by rfl) T.z_len PySem.boot_len (pa_cons (pv 0) pa_nil)) (pe_callB (len_K K) (by rfl) T.z_len PySem.boot_len (pa_cons (pv 1) pa_nil)) (nomark _)) (pe_one (pe_callB (cr_allK K rfl) (by rfl) T.z_all (by decide +kernel) (pa_cons (pe_lc (own := [("_law_one", 2), ("_law_other", 3)]) (by rfl) sc_l_same.nd (RZ.pi_zipA (by rfl) T.z_zip (pa_cons (pv 0) (pa_cons (pv 1) pa_nil))) (blkOk_by (own := [("_law_one", 2), ("_law_other", 3)]) (N := N_l_same) (sc := defScope s_l_same) (by decide +kernel)) (fun _ _ _ _ _ => (pg_tupK K (n := 2) rfl (pgs_cons (pg_name (i := 2) sc_l_same.nd rfl (.inl rfl)) (pgs_cons (pg_name (i := 3) sc_l_same.nd rfl (.inl rfl)) pgs_nil)))) (fun _ _ _ _ _ => pts_nil) (fun _ _ _ _ _ => (pe_call GS hrS (by rfl) T.g_l_same T.F_l_same.kp T.b_l_same .nil pass0 (pa_cons (pv 2) (pa_cons (pv 3) pa_nil))))) pa_nil))))))) pss_nil)
      (pss_cons (ps_if (PW.pt (pw_or (pt_cmpR op_isN (pv 1) pe_non (nomark _)) (pw_or1 (pt_val (pe_callB (call_isiK1 K) (by rfl) T.z_isinstance (by decide +kernel) (pa_cons (pv 1) (pa_cons (pe_bltn (v := .ty "str") (by rfl) T.z_str (by decide +kernel) rfl) pa_nil))))))) (pss_one (ps_ret (pe_and (pe_cmpR (op_eqDK K hr.units) (pv 0) (pv 1) (nomark _)) (pe_one (pe_cmpR op_eq (pe_callB (call_isiK1 K) (by rfl) T.z_isinstance (by decide +kernel) (pa_cons (pv 0) (pa_cons (pe_bltn (v := .ty "str") (by rfl) T.z_str (by decide +kernel) rfl) pa_nil))) (pe_callB (call_isiK1 K) (by rfl) T.z_isinstance (by decide +kernel) (pa_cons (pv 1) (pa_cons (pe_bltn (v := .ty "str") (by rfl) T.z_str (by decide +kernel) rfl) pa_nil))) (nomark _)))))) pss_nil)
      (pss_cons (ps_if (pt_val (pe_callB (call_isiK1 K) (by rfl) T.z_isinstance (by decide +kernel) (pa_cons (pv 1) (pa_cons (pe_bltn (v := .ty "bool") (by rfl) T.z_bool (by decide +kernel) rfl) pa_nil)))) (pss_one (ps_ret (pe_and (pe_callB (call_isiK1 K) (by rfl) T.z_isinstance (by decide +kernel) (pa_cons (pv 0) (pa_cons (pe_bltn (v := .ty "bool") (by rfl) T.z_bool (by decide +kernel) rfl) pa_nil))) (pe_one (pe_cmpR (op_eqDK K hr.units) (pv 0) (pv 1) (nomark _)))))) pss_nil)
      (pss_one (ps_ret (pe_and (pe_callB (call_isiK1 K) (by rfl) T.z_isinstance (by decide +kernel) (pa_cons (pv 0) (pa_cons (pe_bltn (v := .ty "int") (by rfl) T.z_int (by decide +kernel) rfl) pa_nil))) (pe_and (pe_not (pe_callB (call_isiK1 K) (by rfl) T.z_isinstance (by decide +kernel) (pa_cons (pv 0) (pa_cons (pe_bltn (v := .ty "bool") (by rfl) T.z_bool (by decide +kernel) rfl) pa_nil)))) (pe_one (pe_cmpR (op_eqDK K hr.units) (pv 0) (pv 1) (nomark _)))))))))), ?_⟩
      refine ⟨_, rfl, (by show 2 ≤ sizeLine; decide), fun tp htp => ?_⟩
      have s1 : Same H (upd H tp (.tup [.ty "list", .ty "tuple"])) := sm_new htp
      have hx1 := hx.s s1
      have hy1 := hy.s s1
      have hT : (upd H tp (.tup [.ty "list", .ty "tuple"])) tp = some (.tup [.ty "list", .ty "tuple"]) := upd_same
      generalize upd H tp (.tup [.ty "list", .ty "tuple"]) = H1 at *
      cases d with
      | list ds =>
        have tx : TyX K H1 x (.type "list") := hx1.ty
        have ty : TyX K H1 y (.type "list") := hy1.ty
        refine ⟨y, tp, _, _, [.type "list", .type "tuple"], true, rfl, hT, .cons (.ty _) (.cons (.ty _) .nil), ty, kL, true, rfl, iteT ?_⟩
        refine ⟨_, rfl, _, _, _, _, true, rfl, .ty _, tx, kit_ty (by decide +kernel), _, rfl, _, _, _, _, true, rfl, .ty _, ty, kit_ty (by decide +kernel), rfl, _, rfl, iteNS rfl ?_⟩
        refine ⟨_, rfl, _, _, _, _, false, rfl, .ty _, tx, kit_ty (by decide +kernel), _, rfl, _, _, _, _, false, rfl, .ty _, ty, kit_ty (by decide +kernel), rfl, _, rfl, iteNS rfl ?_⟩
        obtain ⟨a, xs, rfl, na, ha, hA⟩ := hx1.lstI
        obtain ⟨b, ys, rfl, nb, hb, hB⟩ := hy1.lstI
        have l1 := hA.len
        have l2 := hB.len
        refine ⟨_, rfl, a, _, rfl, .inl (SqL.of ha), _, rfl, b, _, rfl, .inl (SqL.of hb), rfl, _, rfl, iteD (by rw [l1, l2]) ?_⟩
        refine ⟨_, rfl, _, rfl, a, b, _, _, rfl, .inl ⟨SqL.of ha, SqL.of hb, fun D hD => ?_⟩⟩
        obtain ⟨j, rfl, hs, hl⟩ := hd.lstI
        refine lc_pure (B := []) (walk_zip (n := ds.length) (xs := xs) (ys := ys) (by rw [l1, l2, Nat.min_self])) hD (fun _ h => nomatch h) (fun H' s' => ⟨SqL.of (s' _ _ ha), SqL.of (s' _ _ hb)⟩) hl
          (fun i => some (.bool true)) (fun i x H' H'' Ny Nn hi s2 bk y ky kn => ?_) (fun H' ws s2 eD hW => ?_)
        · obtain ⟨t, x, y, rfl, ht, rfl, e1, e2⟩ := y
          obtain ⟨d1, f1, g1⟩ := hA.getV e1
          obtain ⟨d2, f2, g2⟩ := hB.getV e2
          have ed : d1 = d2 := Option.some.inj (f1.symm.trans f2)
          subst ed
          refine ⟨t, [x, y], rfl, SqT.of upd_same, rfl, x, _, rfl, y, _, rfl, rfl, rfl, lc_yes ?_⟩
          refine ⟨_, rfl, _, rfl, B, x, y, d1, rfl, (g1.s s2).s (sm_new ht), (g2.s s2).s (sm_new ht), hs _ (List.mem_of_getElem? f1), by omega, fun H3 s3 => ?_⟩
          exact ky _ _ _ rfl ((sm_new ht).trans s3) (.bl _)
        · rw [allT] at hW
          refine ⟨D, _, rfl, SqL.of (by rw [eD, hW.blsV]), ?_⟩
          rw [show (List.replicate ds.length true).all id = true by simp]
          exact q _ (s1.trans s2)
      | tuple ds =>
        have tx : TyX K H1 x (.type "tuple") := hx1.ty
        have ty : TyX K H1 y (.type "tuple") := hy1.ty
        refine ⟨y, tp, _, _, [.type "list", .type "tuple"], true, rfl, hT, .cons (.ty _) (.cons (.ty _) .nil), ty, kT, true, rfl, iteT ?_⟩
        refine ⟨_, rfl, _, _, _, _, false, rfl, .ty _, tx, kit_ty (by decide +kernel), _, rfl, _, _, _, _, false, rfl, .ty _, ty, kit_ty (by decide +kernel), rfl, _, rfl, iteNS rfl ?_⟩
        refine ⟨_, rfl, _, _, _, _, true, rfl, .ty _, tx, kit_ty (by decide +kernel), _, rfl, _, _, _, _, true, rfl, .ty _, ty, kit_ty (by decide +kernel), rfl, _, rfl, iteNS rfl ?_⟩
        obtain ⟨a, xs, rfl, na, ha, hA⟩ := hx1.tupI
        obtain ⟨b, ys, rfl, nb, hb, hB⟩ := hy1.tupI
        have l1 := hA.len
        have l2 := hB.len
        refine ⟨_, rfl, a, _, rfl, .inr (SqT.of ha), _, rfl, b, _, rfl, .inr (SqT.of hb), rfl, _, rfl, iteD (by rw [l1, l2]) ?_⟩
        refine ⟨_, rfl, _, rfl, a, b, _, _, rfl, .inr ⟨SqT.of ha, SqT.of hb, fun D hD => ?_⟩⟩
        obtain ⟨j, rfl, hs, hl⟩ := hd.tupI
        refine lc_pure (B := []) (walk_zipT (n := ds.length) (xs := xs) (ys := ys) (by rw [l1, l2, Nat.min_self])) hD (fun _ h => nomatch h) (fun H' s' => ⟨SqT.of (s' _ _ ha), SqT.of (s' _ _ hb)⟩) hl
          (fun i => some (.bool true)) (fun i x H' H'' Ny Nn hi s2 bk y ky kn => ?_) (fun H' ws s2 eD hW => ?_)
        · obtain ⟨t, x, y, rfl, ht, rfl, e1, e2⟩ := y
          obtain ⟨d1, f1, g1⟩ := hA.getV e1
          obtain ⟨d2, f2, g2⟩ := hB.getV e2
          have ed : d1 = d2 := Option.some.inj (f1.symm.trans f2)
          subst ed
          refine ⟨t, [x, y], rfl, SqT.of upd_same, rfl, x, _, rfl, y, _, rfl, rfl, rfl, lc_yes ?_⟩
          refine ⟨_, rfl, _, rfl, B, x, y, d1, rfl, (g1.s s2).s (sm_new ht), (g2.s s2).s (sm_new ht), hs _ (List.mem_of_getElem? f1), by omega, fun H3 s3 => ?_⟩
          exact ky _ _ _ rfl ((sm_new ht).trans s3) (.bl _)
        · rw [allT] at hW
          refine ⟨D, _, rfl, SqL.of (by rw [eD, hW.blsV]), ?_⟩
          rw [show (List.replicate ds.length true).all id = true by simp]
          exact q _ (s1.trans s2)
      | none =>
        have tx : TyX K H1 x (.type "NoneType") := hx1.ty
        have ty : TyX K H1 y (.type "NoneType") := hy1.ty
        refine ⟨y, tp, _, _, [.type "list", .type "tuple"], false, rfl, hT, .cons (.ty _) (.cons (.ty _) .nil), ty, kF (by decide +kernel) (by decide +kernel), false, rfl, iteF ?_⟩
        have ey : y = .non := by cases hy1; rfl
        subst ey
        refine ⟨_, rfl, rfl, _, rfl, iteD rfl ?_⟩
        refine iteT ?_
        refine ⟨_, rfl, _, rfl, _, _, hx1.dP, hy1.dP, hd.sh (by omega), hd.sh (by omega), _, rfl, iteE (eqv_sh hd) ?_⟩
        refine ⟨_, rfl, _, _, _, _, false, rfl, .ty _, tx, kit_ty (by decide +kernel), _, rfl, _, _, _, _, false, rfl, .ty _, ty, kit_ty (by decide +kernel), rfl, ?_⟩
        exact q _ s1
      | bool b =>
        have tx : TyX K H1 x (.type "bool") := hx1.ty
        have ty : TyX K H1 y (.type "bool") := hy1.ty
        refine ⟨y, tp, _, _, [.type "list", .type "tuple"], false, rfl, hT, .cons (.ty _) (.cons (.ty _) .nil), ty, kF (by decide +kernel) (by decide +kernel), false, rfl, iteF ?_⟩
        have ey : y = .bl b := by cases hy1; rfl
        subst ey
        refine ⟨_, rfl, rfl, _, rfl, iteN (decide_eq_false (fun h => nomatch h)) ?_⟩
        refine ⟨_, rfl, _, _, _, _, false, rfl, .ty _, ty, kit_ty (by decide +kernel), _, rfl, iteF ?_⟩
        refine ⟨_, rfl, _, _, _, _, true, rfl, .ty _, ty, kit_ty (by decide +kernel), _, rfl, iteT ?_⟩
        refine ⟨_, rfl, _, _, _, _, true, rfl, .ty _, tx, kit_ty (by decide +kernel), _, rfl, iteT ?_⟩
        refine ⟨_, rfl, _, rfl, _, _, hx1.dP, hy1.dP, hd.sh (by omega), hd.sh (by omega), ?_⟩
        rw [eqv_sh hd]
        exact q _ s1
      | int i =>
        have tx : TyX K H1 x (.type "int") := hx1.ty
        have ty : TyX K H1 y (.type "int") := hy1.ty
        refine ⟨y, tp, _, _, [.type "list", .type "tuple"], false, rfl, hT, .cons (.ty _) (.cons (.ty _) .nil), ty, kF (by decide +kernel) (by decide +kernel), false, rfl, iteF ?_⟩
        have ey := hy1.intI
        subst ey
        refine ⟨_, rfl, rfl, _, rfl, iteN (decide_eq_false (fun h => nomatch h)) ?_⟩
        refine ⟨_, rfl, _, _, _, _, false, rfl, .ty _, ty, kit_ty (by decide +kernel), _, rfl, iteF ?_⟩
        refine ⟨_, rfl, _, _, _, _, false, rfl, .ty _, ty, kit_ty (by decide +kernel), _, rfl, iteF ?_⟩
        refine ⟨_, rfl, _, _, _, _, true, rfl, .ty _, tx, kit_ty (by decide +kernel), _, rfl, iteT ?_⟩
        refine ⟨_, rfl, _, _, _, _, false, rfl, .ty _, tx, kit_ty (by decide +kernel), _, rfl, _, rfl, iteT ?_⟩
        refine ⟨_, rfl, _, rfl, _, _, hx1.dP, hy1.dP, hd.sh (by omega), hd.sh (by omega), ?_⟩
        rw [eqv_sh hd]
        exact q _ s1
      | str z =>
        have tx : TyX K H1 x (.type "str") := hx1.ty
        have ty : TyX K H1 y (.type "str") := hy1.ty
        refine ⟨y, tp, _, _, [.type "list", .type "tuple"], false, rfl, hT, .cons (.ty _) (.cons (.ty _) .nil), ty, kF (by decide +kernel) (by decide +kernel), false, rfl, iteF ?_⟩
        have ey : y = .str z := by cases hy1; rfl
        subst ey
        refine ⟨_, rfl, rfl, _, rfl, iteN (decide_eq_false (fun h => nomatch h)) ?_⟩
        refine ⟨_, rfl, _, _, _, _, true, rfl, .ty _, ty, kit_ty (by decide +kernel), _, rfl, iteT ?_⟩
        refine ⟨_, rfl, _, rfl, _, _, hx1.dP, hy1.dP, hd.sh (by omega), hd.sh (by omega), _, rfl, iteE (eqv_sh hd) ?_⟩
        refine ⟨_, rfl, _, _, _, _, true, rfl, .ty _, tx, kit_ty (by decide +kernel), _, rfl, _, _, _, _, true, rfl, .ty _, ty, kit_ty (by decide +kernel), rfl, ?_⟩
        exact q _ s1
      | dict kvs => cases hx
theorem ok_l_same (T : Tx K mg) {k : Nat} : FnOk P w K mg base CX0 (k + 1) T.f_l_same T.d_l_same ["_law_found", "_law_due"] (spSame (k + 1)) := same_all T (k + 1)
/-! ### what the law promises -/
def spLaw (K : PySem.W.Frag) : Sp := fun vs H Q _ => ∃ (a : Addr) (ns : List Int), vs = [.ref a] ∧ SqL K H a (ns.map V.int) ∧ ns.length ≤ 63 ∧ ∀ H', Q (.bl true) H'
/-! ### the law -/
def entD (e : List (List Int × Int) × List Int × Nat) : PyData := .tuple [eRs e.1, eC e.2.1, .list (ansD e.1 e.2.1 e.2.2)]
theorem ans_sh {rs : List (List Int × Int)} {c : List Int} {wd : Nat} (o : AnsOk rs c wd) : ∀ d ∈ ansD rs c wd, Sh d 2 := fun d hd => by
  have w := o.w
  unfold ansD at hd
  simp only [List.mem_cons, List.not_mem_nil, or_false] at hd
  rcases hd with rfl | rfl | rfl | rfl | rfl | rfl
  · exact sh_tup (by simp) fun d hd => by
      simp only [List.mem_cons, List.not_mem_nil, or_false] at hd
      rcases hd with rfl | rfl
      · exact sh_eC (by rw [boxLo_len]; omega)
      · exact sh_eC (by rw [boxHi_len]; omega)
  · exact sh_tup (by unfold midL; simp; omega) fun d hd => by
      obtain ⟨n, _, rfl⟩ := List.mem_map.mp hd
      exact sh_eC (by simp)
  · exact (sh_eC (by simp)).mono (by decide)
  · exact sh_int _ _
  · exact sh_int _ _
  · exact (sh_eC (by simp)).mono (by decide)
theorem Dt.entI {B : List Addr} {H : Hp} {v : V} {e : List (List Int × Int) × List Int × Nat} (h : Dt B H v (entD e)) : ∃ a x y z, v = .ref a ∧ H a = some (.tup [x, y, z]) ∧ Dt B H x (eRs e.1) ∧ Dt B H y (eC e.2.1) ∧ Dt B H z (.list (ansD e.1 e.2.1 e.2.2)) := by
  obtain ⟨a, vs, rfl, _, ea, hA⟩ := Dt.tupI h
  cases hA with
  | cons h1 h2 =>
    cases h2 with
    | cons h3 h4 =>
      cases h4 with
      | cons h5 h6 =>
        cases h6
        exact ⟨a, _, _, _, rfl, ea, h1, h3, h5⟩
set_option maxHeartbeats 4000000 in
theorem ok_law (T : Tx K mg) {f : Addr} {fd : FuncData} (F : Fun K "law" "law" s_law f fd) {k : Nat} (hk : k ≤ 10) : FnOk P w K mg base CX0 (k + 8) f fd ["_law_script"] (spLaw K) := by
  refine F.ok sc_law (fun vs H Q E h => ?_) (fun cdv A outer s H vs Q E hr h => ?_)
  · obtain ⟨a, ns, rfl, _⟩ := h
    rfl
  · obtain ⟨a, ns, rfl, hS, hlen, q⟩ := h
    refine ⟨_, (pss_cons (ps_for PassesOwn.never rfl (pi_range1 (by rfl) T.z_range (pa_cons (pe_op op_add pe_int (pe_callB (len_K K) (by rfl) T.z_len PySem.boot_len (pa_cons (pe_slice (sl_listK K) (pv 0) po_none (po_some pe_int)) pa_nil))) pa_nil)) (pg_name (i := 1) sc_law.nd rfl (.inl rfl)) (pss_cons (ps_set (i := 2) sc_law.nd rfl (.inl rfl) (pe_call (ok_l_left T (k := k + 6)) hr (by rfl) T.g_l_left T.F_l_left.kp T.b_l_left .nil pass0 (pa_cons (pv 0) (pa_cons (pv 1) pa_nil))))
      (pss_cons (ps_set (i := 3) sc_law.nd rfl (.inl rfl) (pe_lst pa_nil))
      (pss_cons (ps_for PassesOwn.never rfl (pi_range1 (by rfl) T.z_range (pa_cons pe_int pa_nil)) (pg_name (i := 4) sc_law.nd rfl (.inl rfl)) (pss_cons (ps_set (i := 5) sc_law.nd rfl (.inl rfl) (pe_call (ok_l_kind T (k := k + 4)) hr (by rfl) T.g_l_kind T.F_l_kind.kp T.b_l_kind .nil pass0 (pa_cons (pv 2) pa_nil)))
      (pss_cons (ps_set (i := 6) sc_law.nd rfl (.inl rfl) (pe_call (ok_l_rows T (k := k + 3)) hr (by rfl) T.g_l_rows T.F_l_rows.kp T.b_l_rows .nil pass0 (pa_cons (pv 2) (pa_cons (pv 5) (pa_cons pe_int pa_nil)))))
      (pss_cons (ps_set (i := 7) sc_law.nd rfl (.inl rfl) (pe_call (ok_l_asked T (k := k + 3)) hr (by rfl) T.g_l_asked T.F_l_asked.kp T.b_l_asked .nil pass0 (pa_cons (pv 2) (pa_cons (pv 5) (pa_cons (pe_lc (own := [("_law_one", 11), ("_law_count", 12)]) (by rfl) sc_law.nd (pi_listK K (pv 6)) (blkOk_by (own := [("_law_one", 11), ("_law_count", 12)]) (N := N_law) (sc := defScope s_law) (by decide +kernel)) (fun _ _ _ _ _ => (pg_tupK K (n := 2) rfl (pgs_cons (pg_name (i := 11) sc_law.nd rfl (.inl rfl)) (pgs_cons (pg_name (i := 12) sc_law.nd rfl (.inl rfl)) pgs_nil)))) (fun _ _ _ _ _ => pts_nil) (fun _ _ _ _ _ => (pv 11))) pa_nil)))))
      (pss_cons (ps_set (i := 8) sc_law.nd rfl (.inl rfl) (pe_callTy (list_K K) (by rfl) T.z_list (by decide +kernel) (pa_cons (pv 6) pa_nil)))
      (pss_cons (ps_set (i := 9) sc_law.nd rfl (.inl rfl) (pe_call (ok_l_answers T (k := k)) hr (by rfl) T.g_l_answers T.F_l_answers.kp T.b_l_answers .nil pass0 (pa_cons (pv 8) (pa_cons (pv 7) pa_nil))))
      (pss_cons (ps_if (pt_not (pt_val (pe_call (ok_l_same T (k := k + 6)) hr (by rfl) T.g_l_same T.F_l_same.kp T.b_l_same .nil pass0 (pa_cons (pe_ix (ix_listK K) (pv 9) pe_int (fun _ _ => rfl)) (pa_cons (pe_call (ok_l_spread T (k := k + 4)) hr (by rfl) T.g_l_spread T.F_l_spread.kp T.b_l_spread .nil pass0 (pa_cons (pv 6) pa_nil)) pa_nil))))) (pss_one (ps_ret pe_bl)) pss_nil)
      (pss_cons (ps_expr (pe_bm PySem.F.plainAttrs_list PySem.F.slot_list_append PySem.F.type_list_append mt_append (pv 8) (pa_cons (pe_tup (pa_cons (pv 7) (pa_cons pe_int pa_nil))) pa_nil)))
      (pss_cons (ps_expr (pe_bm0 PySem.F.plainAttrs_list PySem.F.slot_list_reverse PySem.F.type_list_reverse mt_reverse (pv 8)))
      (pss_one (ps_expr (pe_bm PySem.F.plainAttrs_list PySem.F.slot_list_append PySem.F.type_list_append mt_append (pv 3) (pa_cons (pe_tup (pa_cons (pv 6) (pa_cons (pv 7) (pa_cons (pv 9) pa_nil)))) pa_nil)))))))))))))
      (pss_one (ps_for PassesOwn.never rfl (pi_range1 (by rfl) T.z_range (pa_cons pe_int pa_nil)) (pg_name (i := 4) sc_law.nd rfl (.inl rfl)) (pss_cons (ps_asg (pe_ix (ix_listK K) (pv 3) (pe_call (ok_l_pick T (k := k + 5)) hr (by rfl) T.g_l_pick T.F_l_pick.kp T.b_l_pick .nil pass0 (pa_cons (pv 2) (pa_cons pe_int pa_nil))) (fun _ _ => rfl)) (pg_tupK K (n := 3) rfl (pgs_cons (pg_name (i := 6) sc_law.nd rfl (.inl rfl)) (pgs_cons (pg_name (i := 7) sc_law.nd rfl (.inl rfl)) (pgs_cons (pg_name (i := 9) sc_law.nd rfl (.inl rfl)) pgs_nil)))))
      (pss_cons (ps_set (i := 10) sc_law.nd rfl (.inl rfl) (pe_call (ok_l_pick T (k := k + 5)) hr (by rfl) T.g_l_pick T.F_l_pick.kp T.b_l_pick .nil pass0 (pa_cons (pv 2) (pa_cons pe_int pa_nil))))
      (pss_one (ps_if (pt_not (pt_val (pe_call (ok_l_same T (k := k + 6)) hr (by rfl) T.g_l_same T.F_l_same.kp T.b_l_same .nil pass0 (pa_cons (pe_call (ok_l_one_answer T (k := k)) hr (by rfl) T.g_l_one_answer T.F_l_one_answer.kp T.b_l_one_answer .nil pass0 (pa_cons (pe_callTy (list_K K) (by rfl) T.z_list (by decide +kernel) (pa_cons (pv 6) pa_nil)) (pa_cons (pv 7) (pa_cons (pv 9) (pa_cons (pv 10) pa_nil))))) (pa_cons (pe_ix (ix_listK K) (pv 9) (pv 10) (fun _ _ => rfl)) pa_nil))))) (pss_one (ps_ret pe_bl)) pss_nil))))))))))
      (pss_one (ps_ret pe_bl))), ?_⟩
    refine ⟨_, rfl, 8, rfl, a, _, rfl, hS, fun cp hcp => ?_⟩
    have lc := cutV_length (ns.map V.int) none (some 8)
    rw [List.length_map] at lc
    refine ⟨cp, _, rfl, .inl (SqL.of upd_same), _, _, rfl, rfl, _, rfl, by omega, by omega, ?_⟩
    have s0 := sm_new (o := .lst (cutV (ns.map V.int) none (some 8))) hcp
    refine for_range (lo := 0) (fun i σ H' => ∃ y1 y2 y3 y4 y5 y6 y7 y8 y9 y10 y11 y12, σ = [some (.ref a), y1, y2, y3, y4, y5, y6, y7, y8, y9, y10, y11, y12] ∧ Same H H')
      ⟨none, none, none, none, none, none, none, none, none, none, none, none, rfl, s0⟩ (fun i σ H1 hi h1 => ?_) (fun σ H1 h1 => ?_)
    · obtain ⟨y1, y2, y3, y4, y5, y6, y7, y8, y9, y10, y11, y12, rfl, s1⟩ := h1
      refine ⟨_, rfl, _, rfl, a, ns, _, rfl, s1.seq hS, by omega, fun L x0 y0 hL0 x0n => ?_⟩
      have lf1 : Lf L (upd H1 L (.lst [.int x0, .int y0, .int 0])) 0 := ⟨x0, y0, 0, upd_same, x0n, by omega, by omega⟩
      have s2 := sm_mut (o := .lst [.int x0, .int y0, .int 0]) s1 (s1.free hL0)
      have hLH : H L = none := s1.free hL0
      generalize upd H1 L (.lst [.int x0, .int y0, .int 0]) = H2 at *
      have nB : ∀ b ∈ [L], H b = none := fun b hb => by rw [List.mem_singleton.mp hb]; exact hLH
      refine ⟨Nat.zero_le _, fun S hSn => ?_⟩
      have nS : S ∉ [L] := lf1.bk.ne hSn
      have nSL : L ≠ S := fun z => nS (by rw [z]; simp)
      refine ⟨2, rfl, by decide, by decide, for_range (lo := 0) (n := 2) (fun j σ H' => ∃ y1 y4 y5 y6 y7 y8 y9 y10 y11 y12 es, ∃ ents : List (List (List Int × Int) × List Int × Nat), σ = [some (.ref a), y1, some (.ref L), some (.ref S), y4, y5, y6, y7, y8, y9, y10, y11, y12] ∧ Go [L] H2 H' ∧ Lf L H' (1100 * j) ∧ H' S = some (.lst es) ∧ DtA [S, L] H' es (ents.map entD) ∧ ents.length = j ∧ ∀ e ∈ ents, AnsOk e.1 e.2.1 e.2.2)
        ⟨_, _, _, _, _, _, _, _, _, _, [], [], rfl, Go.new hSn, (lf1.new hSn), upd_same, .nil, rfl, fun _ h => nomatch h⟩ (fun j σ H3 hj h3 => ?_) (fun σ H3 h3 => ?_)⟩
      · obtain ⟨y1, y4, y5, y6, y7, y8, y9, y10, y11, y12, es, ents, rfl, g3, l3, eS3, hE3, le3, ok3⟩ := h3
        refine ⟨_, rfl, L, 1100 * j, rfl, l3, by omega, fun kv H4 wd0 sp g4 l4 w0 w1 p0 p1 d4 => ?_⟩
        obtain ⟨wd, rfl⟩ : ∃ wd : Nat, wd0 = (wd : Int) := ⟨wd0.toNat, by omega⟩
        have eS4 := g4.k S _ nS eS3
        have bk4 : Bk [S, L] H4 := l4.bk.cons eS4
        refine ⟨_, rfl, _, rfl, [S, L], L, 1100 * j + 2, kv, wd, sp, 7, rfl, bk4, fun b hb nb => ?_, l4, by omega, d4, by omega, by omega, p1, by decide, by decide, fun rv H5 rs g5 l5 d5 r0 r1 ho => ?_⟩
        · rcases List.mem_cons.mp hb with z | z
          · rw [z]; exact ⟨_, eS4⟩
          · exact absurd z nb
        obtain ⟨ra, vs, rfl, nra, era, hA⟩ := d5.lstI
        have lv := hA.len
        rw [List.length_map] at lv
        have nra' : ra ∉ [L] := fun z => nra (List.mem_cons_of_mem _ z)
        refine ⟨_, rfl, _, rfl, _, rfl, ra, rfl, ⟨_, SqL.of era⟩, fun D hD => ?_⟩
        refine lc_pure (B := [L]) (walk_list (xs := vs)) hD l5.bk (fun H' s' => SqL.of (s' _ _ era)) (by omega)
          (fun i => ((csOf rs).map eC)[i]?) (fun i x H' H'' Ny Nn hi t1 bk y ky kn => ?_) (fun H6 ws s6 eD6 hW => ?_)
        · obtain ⟨rfl, y⟩ := y
          obtain ⟨a', qa, cc, n, rfl, e1, e2, nq, ec⟩ := cs_list hA y
          have nD : qa ∉ [D, L] := fun m => by
            rcases List.mem_cons.mp m with z | z
            · rw [z, hD] at e2; cases e2
            · exact nq (List.mem_cons_of_mem _ z)
          refine ⟨a', _, rfl, SqT.of (t1 _ _ e1), rfl, _, _, rfl, _, _, rfl, rfl, rfl, lc_yes ⟨_, rfl, ?_⟩⟩
          exact ky _ _ (eC cc) (by rw [List.getElem?_map, ec]; rfl) (Same.refl _) (Dt.ofCol nD (t1 _ _ e2))
        · rw [fm_all (by unfold csOf; simp; omega)] at hW
          have l6 := l5.same s6
          have dcs : Dt [L] H6 (.ref D) (eP (csOf rs)) := .lst (l5.bk.ne hD) eD6 hW.un
          have cok : ∀ c ∈ csOf rs, cOkW (wd : Int) c := fun c hc => by
            obtain ⟨r, hr, rfl⟩ := List.mem_map.mp hc
            have := ho r hr
            exact ⟨by rw [this.1], this.2.1.mono (by decide) (by decide)⟩
          have lcs : (csOf rs).length = rs.length := by unfold csOf; rw [List.length_map]
          have dk6 := (d4.g g5).s s6
          refine ⟨L, 1100 * j + 2 + 1000, kv, .ref D, (wd : Int), sp, csOf rs, rfl, l6, by omega, dk6, by omega, w1, by omega, p1, dcs, by omega, by omega, cok, fun av H7 c g7 l7 d7 n7 c7 => ?_⟩
          have ao : AnsOk rs c wd := ⟨r0, by omega, by omega, ho, by omega, c7⟩
          have g67 : Go [L] H5 H7 := (Go.of s6).trans g7
          have eS7 := g67.k S _ nS (g5.k S _ nS eS4)
          have era7 := g67.k ra _ nra' era
          have g67w : Go [S, L] H5 H7 := g67.w1 (by simp)
          have dr7 : Dt [S, L] H7 (.ref ra) (eRs rs) := d5.g g67w
          have hA7 : DtA [S, L] H7 vs (rs.map eRow) := hA.g g67w
          have dc7 : Dt [S, L] H7 av (eC c) := by
            obtain ⟨ca, rfl, nca, eca⟩ := d7.col
            refine Dt.ofCol (fun m => ?_) eca
            rcases List.mem_cons.mp m with z | z
            · rw [z, eS7] at eca; cases eca
            · exact nca z
          have hE7 : DtA [S, L] H7 es (ents.map entD) := hE3.g (((g4.trans g5).trans g67).w1 (by simp))
          have g27 : Go [L] H2 H7 := ((g3.trans g4).trans g5).trans g67
          -- handed
          refine ⟨_, rfl, ra, _, rfl, .inl (SqL.of era7), fun hd hhd => ?_⟩
          have hd2 : H2 hd = none := g27.free hhd
          have s8 := sm_new (o := .lst vs) hhd
          have e8 : (upd H7 hd (.lst vs)) hd = some (.lst vs) := upd_same
          have l8 := l7.same s8
          have nhd : hd ≠ L := l7.ne hhd
          have nhS : hd ≠ S := fun z => by rw [z, eS7] at hhd; cases hhd
          have dr8 : Dt [hd, S, L] (upd H7 hd (.lst vs)) (.ref ra) (eRs rs) := (dr7.fr hhd).s s8
          have dc8 : Dt [hd, S, L] (upd H7 hd (.lst vs)) av (eC c) := (dc7.fr hhd).s s8
          have hE8 : DtA [hd, S, L] (upd H7 hd (.lst vs)) es (ents.map entD) := (hE7.fr hhd).s s8
          have dh8 : Dt [L] (upd H7 hd (.lst vs)) (.ref hd) (eRs rs) := .lst (l7.bk.ne hhd) e8 ((hA7.s s8).sub fun a m => List.mem_cons_of_mem _ m)
          have eS8 := s8 _ _ eS7
          have g28 := g27.trans (Go.of (B := [L]) s8)
          generalize upd H7 hd (.lst vs) = H8 at *
          have bk8 : Bk [hd, S, L] H8 := (l8.bk.cons eS8).cons e8
          have sub1 : ∀ a ∈ [L], a ∈ [hd, S, L] := fun a m => List.mem_cons_of_mem _ (List.mem_cons_of_mem _ m)
          refine ⟨_, rfl, _, rfl, [L], [hd, S, L], .ref hd, av, rs, c, wd, rfl, dh8, dc8.sub sub1, bk8, ao, fun fv H9 s9 d9 => ?_⟩
          obtain ⟨fa, fvs, rfl, nf, efa, hF⟩ := d9.lstI
          obtain ⟨v2, f2, dv2⟩ := hF.get (i := 2) (d := enc (qp (totN rs (midL rs wd) wd rs.length))) rfl
          refine ⟨_, rfl, fa, _, 2, v2, rfl, rfl, SqL.of efa, atI_nat (j := 2) f2, _, rfl, [hd, S, L], [hd, S, L], .ref ra, rs, wd, rfl, dr8.s s9, bk8.go (Go.of (B := []) s9), r0, by omega, by omega, ho, fun v10 H10 s10 d10 => ?_⟩
          refine ⟨[hd, S, L], v2, v10, _, rfl, dv2.s s10, d10, ((sh_eC (by simp)).mono (by decide : 1 ≤ 2)).mono (by omega), by omega, fun H11 s11 => ?_⟩
          refine ⟨_, rfl, iteF ?_⟩
          have t11 := (s9.trans s10).trans s11
          have e11 := t11 _ _ e8
          have eS11 := t11 _ _ eS8
          have d11 : Dt [hd, S, L] H11 (.ref fa) (.list (ansD rs c wd)) := d9.s (s10.trans s11)
          have l11 := l8.same t11
          -- append to handed
          refine ⟨_, rfl, .inl ⟨rfl, _, SqL.of e11⟩, _, rfl, (by show 2 ≤ sizeLine; decide), fun p12 hp12 => ?_⟩
          have s12 := sm_new (o := .tup [av, .int 5]) hp12
          have e12 := s12 _ _ e11
          have t12 := t11.trans s12
          generalize upd H11 p12 (.tup [av, .int 5]) = H12 at *
          refine ⟨hd, _, _, rfl, rfl, e12, sz (by omega), ?_⟩
          have m13 : Go [hd, S, L] H12 (upd H12 hd (.lst (vs ++ [.ref p12]))) := Go.refl.at (by simp)
          have e13 : (upd H12 hd (.lst (vs ++ [.ref p12]))) hd = some (.lst (vs ++ [.ref p12])) := upd_same
          have g13 : Go [L] H2 (upd H12 hd (.lst (vs ++ [.ref p12]))) := (g28.trans (Go.of t12)).mut hd2
          have l13 : Lf L (upd H12 hd (.lst (vs ++ [.ref p12]))) (1100 * j + 2 + 1000 + 30) := (l8.same t12).up nhd
          have eS13 : (upd H12 hd (.lst (vs ++ [.ref p12]))) S = some (.lst es) := by rw [upd_ne (Ne.symm nhS)]; exact s12 _ _ eS11
          have g8_13 : Go [hd, S, L] H8 (upd H12 hd (.lst (vs ++ [.ref p12]))) := (Go.of t12).trans m13
          have d13 : Dt [hd, S, L] (upd H12 hd (.lst (vs ++ [.ref p12]))) (.ref fa) (.list (ansD rs c wd)) := (d11.s s12).g m13
          generalize upd H12 hd (.lst (vs ++ [.ref p12])) = H13 at *
          -- turned about
          refine ⟨_, rfl, .inl ⟨rfl, _, SqL.of e13⟩, hd, _, rfl, rfl, e13, ?_⟩
          have m14 : Go [hd, S, L] H13 (upd H13 hd (.lst (vs ++ [V.ref p12]).reverse)) := Go.refl.at (by simp)
          have g14 : Go [L] H2 (upd H13 hd (.lst (vs ++ [V.ref p12]).reverse)) := g13.mut hd2
          have l14 : Lf L (upd H13 hd (.lst (vs ++ [V.ref p12]).reverse)) (1100 * j + 2 + 1000 + 30) := l13.up nhd
          have eS14 : (upd H13 hd (.lst (vs ++ [V.ref p12]).reverse)) S = some (.lst es) := by rw [upd_ne (Ne.symm nhS)]; exact eS13
          have g8_14 := g8_13.trans m14
          have d14 := d13.g m14
          generalize upd H13 hd (.lst (vs ++ [V.ref p12]).reverse) = H14 at *
          have dr14 := dr8.g g8_14
          have dc14 := dc8.g g8_14
          have hE14 := hE8.g g8_14
          refine ⟨_, rfl, .inl ⟨rfl, _, SqL.of eS14⟩, _, rfl, _, rfl, _, rfl, (by show 3 ≤ sizeLine; decide), fun p15 hp15 => ?_⟩
          have s15 := sm_new (o := .tup [.ref ra, av, .ref fa]) hp15
          have bk14 : Bk [S, L] H14 := l14.bk.cons eS14
          have d15 : Dt [S, L] (upd H14 p15 (.tup [.ref ra, av, .ref fa])) (.ref p15) (entD (rs, c, wd)) := .tup (bk14.ne hp15) upd_same (.cons (dr14.un.s s15) (.cons (dc14.un.s s15) (.one (d14.un.s s15))))
          have eS15 := s15 _ _ eS14
          have hE15 := hE14.un.s s15
          have l15 := l14.same s15
          have g15 := g14.trans (Go.of (B := [L]) s15)
          generalize upd H14 p15 (.tup [.ref ra, av, .ref fa]) = H15 at *
          have le15 := hE15.len
          rw [List.length_map] at le15
          refine ⟨S, _, _, rfl, rfl, eS15, sz (by omega), ?_⟩
          have m16 : Go [S, L] H15 (upd H15 S (.lst (es ++ [.ref p15]))) := Go.refl.at (by simp)
          refine ⟨_, _, _, _, _, _, _, _, _, _, es ++ [.ref p15], ents ++ [(rs, c, wd)], rfl, g15.mut hSn, (l15.up (Ne.symm nSL)).mono (by omega), upd_same, ?_, by simp; omega, fun e he => ?_⟩
          · rw [List.map_append]
            exact (hE15.g m16).app (.one (d15.g m16))
          · rcases List.mem_append.mp he with z | z
            · exact ok3 e z
            · rw [List.mem_singleton.mp z]
              exact ao
      · obtain ⟨y1, y4, y5, y6, y7, y8, y9, y10, y11, y12, es, ents, rfl, g3, l3, eS3, hE3, le3, ok3⟩ := h3
        have lE := hE3.len
        rw [List.length_map] at lE
        refine ⟨12, rfl, by decide, by decide, for_range (lo := 0) (n := 12) (fun j σ H' => ∃ y1 y4 y5 y6 y7 y8 y9 y10 y11 y12, σ = [some (.ref a), y1, some (.ref L), some (.ref S), y4, y5, y6, y7, y8, y9, y10, y11, y12] ∧ Go [L] H3 H' ∧ Lf L H' (2200 + 2 * j))
          ⟨_, _, _, _, _, _, _, _, _, _, rfl, Go.refl, l3.mono (by omega)⟩ (fun j σ H4 hj h4 => ?_) (fun σ H4 h4 => ?_)⟩
        · obtain ⟨y1, y4, y5, y6, y7, y8, y9, y10, y11, y12, rfl, g4, l4⟩ := h4
          refine ⟨_, rfl, _, rfl, L, 2, 2200 + 2 * j, rfl, l4, by omega, by decide, by decide, fun r5 H5 g5 l5 a5 b5 => ?_⟩
          have g35 := g4.trans g5
          have eS5 := g35.k S _ nS eS3
          have hE5 : DtA [L] H5 es (ents.map entD) := (hE3.g (g35.w1 (by simp))).un
          have hr5 : r5.toNat < ents.length := by omega
          obtain ⟨ev, fe, de⟩ := hE5.get (i := r5.toNat) (d := entD ents[r5.toNat]) (by rw [List.getElem?_map, List.getElem?_eq_getElem hr5]; rfl)
          have ao := ok3 _ (List.getElem_mem hr5)
          generalize ents[r5.toNat] = ent at *
          obtain ⟨ea, rv, cv, fv, rfl, eea, drv, dcv, dfv⟩ := de.entI
          refine ⟨S, _, _, .ref ea, rfl, rfl, SqL.of eS5, at0 a5 fe, ea, _, rfl, SqT.of eea, rfl, _, _, rfl, _, _, rfl, _, _, rfl, rfl, ?_⟩
          refine ⟨_, rfl, L, 6, 2200 + 2 * j + 1, rfl, l5, by omega, by decide, by decide, fun r6 H6 g6 l6 a6 b6 => ?_⟩
          have drv6 := drv.g g6
          have dcv6 := dcv.g g6
          have dfv6 := dfv.g g6
          obtain ⟨ra, vs, rfl, nra, era, hA⟩ := drv6.lstI
          refine ⟨_, rfl, ra, _, rfl, .inl (SqL.of era), fun c7 hc7 => ?_⟩
          have s7 := sm_new (o := .lst vs) hc7
          have d7 : Dt [L] (upd H6 c7 (.lst vs)) (.ref c7) (eRs ent.1) := .lst (l6.bk.ne hc7) upd_same (hA.s s7)
          have l7 := l6.same s7
          have dcv7 := dcv6.s s7
          have dfv7 := dfv6.s s7
          generalize upd H6 c7 (.lst vs) = H7 at *
          refine ⟨_, rfl, _, rfl, _, rfl, [L], [L], .ref c7, cv, fv, ent.1, ent.2.1, ent.2.2, r6, rfl, d7, dcv7, dfv7, l7.bk, ao, a6, b6, fun v8 H8 d s8 ed d8 => ?_⟩
          obtain ⟨fa, fvs, rfl, nf, efa, hF⟩ := (dfv7.s s8).lstI
          obtain ⟨v9, f9, d9⟩ := hF.get ed
          refine ⟨_, rfl, _, rfl, fa, _, r6, v9, rfl, rfl, SqL.of efa, at0 a6 f9, [L], v8, v9, d, rfl, d8, d9, (ans_sh ao d (List.mem_of_getElem? ed)).mono (by omega), by omega, fun H10 s10 => ?_⟩
          refine ⟨_, rfl, iteF ?_⟩
          exact ⟨_, _, _, _, _, _, _, _, _, _, rfl, ((g35.trans g6).trans (Go.of ((s7.trans s8).trans s10))), ((l7.same s8).same s10).mono (by omega)⟩
        · obtain ⟨y1, y4, y5, y6, y7, y8, y9, y10, y11, y12, rfl, g4, l4⟩ := h4
          exact ⟨_, _, _, _, _, _, _, _, _, _, _, _, rfl, (g3.trans g4).sm s2 nB⟩
    · obtain ⟨y1, y2, y3, y4, y5, y6, y7, y8, y9, y10, y11, y12, rfl, s1⟩ := h1
      exact q _

end
theorem all_mk {l : PySem.W.OpenLaw} {w : World} {K : PySem.W.Frag} {h : Heap} {mg : Str → Option Value} {fa : Addr} (X : K.In h) (G : h.Ns mainGlobals mg) (hfa : mg "law" = some (.ref fa))
    {f0 : Addr} {od0 an0 : Option Addr} {sl0 : Array (Option Value)} {oc0 kV0 dc0 pm0 cd0 ct0 : Value}
    (a0 : PySem.W.nsIn K mainGlobals "apart" = some (some (.ref f0))) (l0 : K.lookup f0 = some ⟨oc0, od0, .func (PySem.W.fnOf "apart" "apart" (defArgs s_apart) (defBody s_apart) (defScope s_apart) .none kV0 dc0 pm0 an0 cd0 ct0), sl0⟩) (c0 : PySem.W.codeIn K cd0 "apart" = true) (k0 : PySem.W.keepIn K (.ref f0) = true)
    {f1 : Addr} {od1 an1 : Option Addr} {sl1 : Array (Option Value)} {oc1 kV1 dc1 pm1 cd1 ct1 : Value}
    (a1 : PySem.W.nsIn K mainGlobals "common_measure" = some (some (.ref f1))) (l1 : K.lookup f1 = some ⟨oc1, od1, .func (PySem.W.fnOf "common_measure" "common_measure" (defArgs s_common_measure) (defBody s_common_measure) (defScope s_common_measure) .none kV1 dc1 pm1 an1 cd1 ct1), sl1⟩) (c1 : PySem.W.codeIn K cd1 "common_measure" = true) (k1 : PySem.W.keepIn K (.ref f1) = true)
    {f2 : Addr} {od2 an2 : Option Addr} {sl2 : Array (Option Value)} {oc2 kV2 dc2 pm2 cd2 ct2 : Value}
    (a2 : PySem.W.nsIn K mainGlobals "part" = some (some (.ref f2))) (l2 : K.lookup f2 = some ⟨oc2, od2, .func (PySem.W.fnOf "part" "part" (defArgs s_part) (defBody s_part) (defScope s_part) .none kV2 dc2 pm2 an2 cd2 ct2), sl2⟩) (c2 : PySem.W.codeIn K cd2 "part" = true) (k2 : PySem.W.keepIn K (.ref f2) = true)
    {f3 : Addr} {od3 an3 : Option Addr} {sl3 : Array (Option Value)} {oc3 kV3 dc3 pm3 cd3 ct3 : Value}
    (a3 : PySem.W.nsIn K mainGlobals "plus" = some (some (.ref f3))) (l3 : K.lookup f3 = some ⟨oc3, od3, .func (PySem.W.fnOf "plus" "plus" (defArgs s_plus) (defBody s_plus) (defScope s_plus) .none kV3 dc3 pm3 an3 cd3 ct3), sl3⟩) (c3 : PySem.W.codeIn K cd3 "plus" = true) (k3 : PySem.W.keepIn K (.ref f3) = true)
    {f4 : Addr} {od4 an4 : Option Addr} {sl4 : Array (Option Value)} {oc4 kV4 dc4 pm4 cd4 ct4 : Value}
    (a4 : PySem.W.nsIn K mainGlobals "sum_of" = some (some (.ref f4))) (l4 : K.lookup f4 = some ⟨oc4, od4, .func (PySem.W.fnOf "sum_of" "sum_of" (defArgs s_sum_of) (defBody s_sum_of) (defScope s_sum_of) .none kV4 dc4 pm4 an4 cd4 ct4), sl4⟩) (c4 : PySem.W.codeIn K cd4 "sum_of" = true) (k4 : PySem.W.keepIn K (.ref f4) = true)
    {f5 : Addr} {od5 an5 : Option Addr} {sl5 : Array (Option Value)} {oc5 kV5 dc5 pm5 cd5 ct5 : Value}
    (a5 : PySem.W.nsIn K mainGlobals "times" = some (some (.ref f5))) (l5 : K.lookup f5 = some ⟨oc5, od5, .func (PySem.W.fnOf "times" "times" (defArgs s_times) (defBody s_times) (defScope s_times) .none kV5 dc5 pm5 an5 cd5 ct5), sl5⟩) (c5 : PySem.W.codeIn K cd5 "times" = true) (k5 : PySem.W.keepIn K (.ref f5) = true)
    {f6 : Addr} {od6 an6 : Option Addr} {sl6 : Array (Option Value)} {oc6 kV6 dc6 pm6 cd6 ct6 : Value}
    (a6 : PySem.W.nsIn K mainGlobals "count_of" = some (some (.ref f6))) (l6 : K.lookup f6 = some ⟨oc6, od6, .func (PySem.W.fnOf "count_of" "count_of" (defArgs s_count_of) (defBody s_count_of) (defScope s_count_of) .none kV6 dc6 pm6 an6 cd6 ct6), sl6⟩) (c6 : PySem.W.codeIn K cd6 "count_of" = true) (k6 : PySem.W.keepIn K (.ref f6) = true)
    {f7 : Addr} {od7 an7 : Option Addr} {sl7 : Array (Option Value)} {oc7 kV7 dc7 pm7 cd7 ct7 : Value}
    (a7 : PySem.W.nsIn K mainGlobals "weighed_sum" = some (some (.ref f7))) (l7 : K.lookup f7 = some ⟨oc7, od7, .func (PySem.W.fnOf "weighed_sum" "weighed_sum" (defArgs s_weighed_sum) (defBody s_weighed_sum) (defScope s_weighed_sum) .none kV7 dc7 pm7 an7 cd7 ct7), sl7⟩) (c7 : PySem.W.codeIn K cd7 "weighed_sum" = true) (k7 : PySem.W.keepIn K (.ref f7) = true)
    {f8 : Addr} {od8 an8 : Option Addr} {sl8 : Array (Option Value)} {oc8 kV8 dc8 pm8 cd8 ct8 : Value}
    (a8 : PySem.W.nsIn K mainGlobals "middle_of" = some (some (.ref f8))) (l8 : K.lookup f8 = some ⟨oc8, od8, .func (PySem.W.fnOf "middle_of" "middle_of" (defArgs s_middle_of) (defBody s_middle_of) (defScope s_middle_of) .none kV8 dc8 pm8 an8 cd8 ct8), sl8⟩) (c8 : PySem.W.codeIn K cd8 "middle_of" = true) (k8 : PySem.W.keepIn K (.ref f8) = true)
    {f9 : Addr} {od9 an9 : Option Addr} {sl9 : Array (Option Value)} {oc9 kV9 dc9 pm9 cd9 ct9 : Value}
    (a9 : PySem.W.nsIn K mainGlobals "far_of" = some (some (.ref f9))) (l9 : K.lookup f9 = some ⟨oc9, od9, .func (PySem.W.fnOf "far_of" "far_of" (defArgs s_far_of) (defBody s_far_of) (defScope s_far_of) .none kV9 dc9 pm9 an9 cd9 ct9), sl9⟩) (c9 : PySem.W.codeIn K cd9 "far_of" = true) (k9 : PySem.W.keepIn K (.ref f9) = true)
    {f10 : Addr} {od10 an10 : Option Addr} {sl10 : Array (Option Value)} {oc10 kV10 dc10 pm10 cd10 ct10 : Value}
    (a10 : PySem.W.nsIn K mainGlobals "far_sum" = some (some (.ref f10))) (l10 : K.lookup f10 = some ⟨oc10, od10, .func (PySem.W.fnOf "far_sum" "far_sum" (defArgs s_far_sum) (defBody s_far_sum) (defScope s_far_sum) .none kV10 dc10 pm10 an10 cd10 ct10), sl10⟩) (c10 : PySem.W.codeIn K cd10 "far_sum" = true) (k10 : PySem.W.keepIn K (.ref f10) = true)
    {f11 : Addr} {od11 an11 : Option Addr} {sl11 : Array (Option Value)} {oc11 kV11 dc11 pm11 cd11 ct11 : Value}
    (a11 : PySem.W.nsIn K mainGlobals "spread_of" = some (some (.ref f11))) (l11 : K.lookup f11 = some ⟨oc11, od11, .func (PySem.W.fnOf "spread_of" "spread_of" (defArgs s_spread_of) (defBody s_spread_of) (defScope s_spread_of) .none kV11 dc11 pm11 an11 cd11 ct11), sl11⟩) (c11 : PySem.W.codeIn K cd11 "spread_of" = true) (k11 : PySem.W.keepIn K (.ref f11) = true)
    {f12 : Addr} {od12 an12 : Option Addr} {sl12 : Array (Option Value)} {oc12 kV12 dc12 pm12 cd12 ct12 : Value}
    (a12 : PySem.W.nsIn K mainGlobals "least_numbers" = some (some (.ref f12))) (l12 : K.lookup f12 = some ⟨oc12, od12, .func (PySem.W.fnOf "least_numbers" "least_numbers" (defArgs s_least_numbers) (defBody s_least_numbers) (defScope s_least_numbers) .none kV12 dc12 pm12 an12 cd12 ct12), sl12⟩) (c12 : PySem.W.codeIn K cd12 "least_numbers" = true) (k12 : PySem.W.keepIn K (.ref f12) = true)
    {f13 : Addr} {od13 an13 : Option Addr} {sl13 : Array (Option Value)} {oc13 kV13 dc13 pm13 cd13 ct13 : Value}
    (a13 : PySem.W.nsIn K mainGlobals "greatest_numbers" = some (some (.ref f13))) (l13 : K.lookup f13 = some ⟨oc13, od13, .func (PySem.W.fnOf "greatest_numbers" "greatest_numbers" (defArgs s_greatest_numbers) (defBody s_greatest_numbers) (defScope s_greatest_numbers) .none kV13 dc13 pm13 an13 cd13 ct13), sl13⟩) (c13 : PySem.W.codeIn K cd13 "greatest_numbers" = true) (k13 : PySem.W.keepIn K (.ref f13) = true)
    {f14 : Addr} {od14 an14 : Option Addr} {sl14 : Array (Option Value)} {oc14 kV14 dc14 pm14 cd14 ct14 : Value}
    (a14 : PySem.W.nsIn K mainGlobals "box_of" = some (some (.ref f14))) (l14 : K.lookup f14 = some ⟨oc14, od14, .func (PySem.W.fnOf "box_of" "box_of" (defArgs s_box_of) (defBody s_box_of) (defScope s_box_of) .none kV14 dc14 pm14 an14 cd14 ct14), sl14⟩) (c14 : PySem.W.codeIn K cd14 "box_of" = true) (k14 : PySem.W.keepIn K (.ref f14) = true)
    {f15 : Addr} {od15 an15 : Option Addr} {sl15 : Array (Option Value)} {oc15 kV15 dc15 pm15 cd15 ct15 : Value}
    (a15 : PySem.W.nsIn K mainGlobals "near_box" = some (some (.ref f15))) (l15 : K.lookup f15 = some ⟨oc15, od15, .func (PySem.W.fnOf "near_box" "near_box" (defArgs s_near_box) (defBody s_near_box) (defScope s_near_box) .none kV15 dc15 pm15 an15 cd15 ct15), sl15⟩) (c15 : PySem.W.codeIn K cd15 "near_box" = true) (k15 : PySem.W.keepIn K (.ref f15) = true)
    {f16 : Addr} {od16 an16 : Option Addr} {sl16 : Array (Option Value)} {oc16 kV16 dc16 pm16 cd16 ct16 : Value}
    (a16 : PySem.W.nsIn K mainGlobals "far_box" = some (some (.ref f16))) (l16 : K.lookup f16 = some ⟨oc16, od16, .func (PySem.W.fnOf "far_box" "far_box" (defArgs s_far_box) (defBody s_far_box) (defScope s_far_box) .none kV16 dc16 pm16 an16 cd16 ct16), sl16⟩) (c16 : PySem.W.codeIn K cd16 "far_box" = true) (k16 : PySem.W.keepIn K (.ref f16) = true)
    {f17 : Addr} {od17 an17 : Option Addr} {sl17 : Array (Option Value)} {oc17 kV17 dc17 pm17 cd17 ct17 : Value}
    (a17 : PySem.W.nsIn K mainGlobals "_law_mix" = some (some (.ref f17))) (l17 : K.lookup f17 = some ⟨oc17, od17, .func (PySem.W.fnOf "_law_mix" "_law_mix" (defArgs s_l_mix) (defBody s_l_mix) (defScope s_l_mix) .none kV17 dc17 pm17 an17 cd17 ct17), sl17⟩) (c17 : PySem.W.codeIn K cd17 "_law_mix" = true) (k17 : PySem.W.keepIn K (.ref f17) = true)
    {f18 : Addr} {od18 an18 : Option Addr} {sl18 : Array (Option Value)} {oc18 kV18 dc18 pm18 cd18 ct18 : Value}
    (a18 : PySem.W.nsIn K mainGlobals "_law_left" = some (some (.ref f18))) (l18 : K.lookup f18 = some ⟨oc18, od18, .func (PySem.W.fnOf "_law_left" "_law_left" (defArgs s_l_left) (defBody s_l_left) (defScope s_l_left) .none kV18 dc18 pm18 an18 cd18 ct18), sl18⟩) (c18 : PySem.W.codeIn K cd18 "_law_left" = true) (k18 : PySem.W.keepIn K (.ref f18) = true)
    {f19 : Addr} {od19 an19 : Option Addr} {sl19 : Array (Option Value)} {oc19 kV19 dc19 pm19 cd19 ct19 : Value}
    (a19 : PySem.W.nsIn K mainGlobals "_law_pick" = some (some (.ref f19))) (l19 : K.lookup f19 = some ⟨oc19, od19, .func (PySem.W.fnOf "_law_pick" "_law_pick" (defArgs s_l_pick) (defBody s_l_pick) (defScope s_l_pick) .none kV19 dc19 pm19 an19 cd19 ct19), sl19⟩) (c19 : PySem.W.codeIn K cd19 "_law_pick" = true) (k19 : PySem.W.keepIn K (.ref f19) = true)
    {f20 : Addr} {od20 an20 : Option Addr} {sl20 : Array (Option Value)} {oc20 kV20 dc20 pm20 cd20 ct20 : Value}
    (a20 : PySem.W.nsIn K mainGlobals "_law_kind" = some (some (.ref f20))) (l20 : K.lookup f20 = some ⟨oc20, od20, .func (PySem.W.fnOf "_law_kind" "_law_kind" (defArgs s_l_kind) (defBody s_l_kind) (defScope s_l_kind) .none kV20 dc20 pm20 an20 cd20 ct20), sl20⟩) (c20 : PySem.W.codeIn K cd20 "_law_kind" = true) (k20 : PySem.W.keepIn K (.ref f20) = true)
    {f21 : Addr} {od21 an21 : Option Addr} {sl21 : Array (Option Value)} {oc21 kV21 dc21 pm21 cd21 ct21 : Value}
    (a21 : PySem.W.nsIn K mainGlobals "_law_colour" = some (some (.ref f21))) (l21 : K.lookup f21 = some ⟨oc21, od21, .func (PySem.W.fnOf "_law_colour" "_law_colour" (defArgs s_l_colour) (defBody s_l_colour) (defScope s_l_colour) .none kV21 dc21 pm21 an21 cd21 ct21), sl21⟩) (c21 : PySem.W.codeIn K cd21 "_law_colour" = true) (k21 : PySem.W.keepIn K (.ref f21) = true)
    {f22 : Addr} {od22 an22 : Option Addr} {sl22 : Array (Option Value)} {oc22 kV22 dc22 pm22 cd22 ct22 : Value}
    (a22 : PySem.W.nsIn K mainGlobals "_law_asked" = some (some (.ref f22))) (l22 : K.lookup f22 = some ⟨oc22, od22, .func (PySem.W.fnOf "_law_asked" "_law_asked" (defArgs s_l_asked) (defBody s_l_asked) (defScope s_l_asked) .none kV22 dc22 pm22 an22 cd22 ct22), sl22⟩) (c22 : PySem.W.codeIn K cd22 "_law_asked" = true) (k22 : PySem.W.keepIn K (.ref f22) = true)
    {f23 : Addr} {od23 an23 : Option Addr} {sl23 : Array (Option Value)} {oc23 kV23 dc23 pm23 cd23 ct23 : Value}
    (a23 : PySem.W.nsIn K mainGlobals "_law_rows" = some (some (.ref f23))) (l23 : K.lookup f23 = some ⟨oc23, od23, .func (PySem.W.fnOf "_law_rows" "_law_rows" (defArgs s_l_rows) (defBody s_l_rows) (defScope s_l_rows) .none kV23 dc23 pm23 an23 cd23 ct23), sl23⟩) (c23 : PySem.W.codeIn K cd23 "_law_rows" = true) (k23 : PySem.W.keepIn K (.ref f23) = true)
    {f24 : Addr} {od24 an24 : Option Addr} {sl24 : Array (Option Value)} {oc24 kV24 dc24 pm24 cd24 ct24 : Value}
    (a24 : PySem.W.nsIn K mainGlobals "_law_part" = some (some (.ref f24))) (l24 : K.lookup f24 = some ⟨oc24, od24, .func (PySem.W.fnOf "_law_part" "_law_part" (defArgs s_l_part) (defBody s_l_part) (defScope s_l_part) .none kV24 dc24 pm24 an24 cd24 ct24), sl24⟩) (c24 : PySem.W.codeIn K cd24 "_law_part" = true) (k24 : PySem.W.keepIn K (.ref f24) = true)
    {f25 : Addr} {od25 an25 : Option Addr} {sl25 : Array (Option Value)} {oc25 kV25 dc25 pm25 cd25 ct25 : Value}
    (a25 : PySem.W.nsIn K mainGlobals "_law_plus" = some (some (.ref f25))) (l25 : K.lookup f25 = some ⟨oc25, od25, .func (PySem.W.fnOf "_law_plus" "_law_plus" (defArgs s_l_plus) (defBody s_l_plus) (defScope s_l_plus) .none kV25 dc25 pm25 an25 cd25 ct25), sl25⟩) (c25 : PySem.W.codeIn K cd25 "_law_plus" = true) (k25 : PySem.W.keepIn K (.ref f25) = true)
    {f26 : Addr} {od26 an26 : Option Addr} {sl26 : Array (Option Value)} {oc26 kV26 dc26 pm26 cd26 ct26 : Value}
    (a26 : PySem.W.nsIn K mainGlobals "_law_spread" = some (some (.ref f26))) (l26 : K.lookup f26 = some ⟨oc26, od26, .func (PySem.W.fnOf "_law_spread" "_law_spread" (defArgs s_l_spread) (defBody s_l_spread) (defScope s_l_spread) .none kV26 dc26 pm26 an26 cd26 ct26), sl26⟩) (c26 : PySem.W.codeIn K cd26 "_law_spread" = true) (k26 : PySem.W.keepIn K (.ref f26) = true)
    {f27 : Addr} {od27 an27 : Option Addr} {sl27 : Array (Option Value)} {oc27 kV27 dc27 pm27 cd27 ct27 : Value}
    (a27 : PySem.W.nsIn K mainGlobals "_law_same" = some (some (.ref f27))) (l27 : K.lookup f27 = some ⟨oc27, od27, .func (PySem.W.fnOf "_law_same" "_law_same" (defArgs s_l_same) (defBody s_l_same) (defScope s_l_same) .none kV27 dc27 pm27 an27 cd27 ct27), sl27⟩) (c27 : PySem.W.codeIn K cd27 "_law_same" = true) (k27 : PySem.W.keepIn K (.ref f27) = true)
    {f28 : Addr} {od28 an28 : Option Addr} {sl28 : Array (Option Value)} {oc28 kV28 dc28 pm28 cd28 ct28 : Value}
    (a28 : PySem.W.nsIn K mainGlobals "_law_answers" = some (some (.ref f28))) (l28 : K.lookup f28 = some ⟨oc28, od28, .func (PySem.W.fnOf "_law_answers" "_law_answers" (defArgs s_l_answers) (defBody s_l_answers) (defScope s_l_answers) .none kV28 dc28 pm28 an28 cd28 ct28), sl28⟩) (c28 : PySem.W.codeIn K cd28 "_law_answers" = true) (k28 : PySem.W.keepIn K (.ref f28) = true)
    {f29 : Addr} {od29 an29 : Option Addr} {sl29 : Array (Option Value)} {oc29 kV29 dc29 pm29 cd29 ct29 : Value}
    (a29 : PySem.W.nsIn K mainGlobals "_law_one_answer" = some (some (.ref f29))) (l29 : K.lookup f29 = some ⟨oc29, od29, .func (PySem.W.fnOf "_law_one_answer" "_law_one_answer" (defArgs s_l_one_answer) (defBody s_l_one_answer) (defScope s_l_one_answer) .none kV29 dc29 pm29 an29 cd29 ct29), sl29⟩) (c29 : PySem.W.codeIn K cd29 "_law_one_answer" = true) (k29 : PySem.W.keepIn K (.ref f29) = true)
    {f30 : Addr} {od30 an30 : Option Addr} {sl30 : Array (Option Value)} {oc30 kV30 dc30 pm30 cd30 ct30 : Value}
    (a30 : PySem.W.nsIn K mainGlobals "law" = some (some (.ref f30))) (l30 : K.lookup f30 = some ⟨oc30, od30, .func (PySem.W.fnOf "law" "law" (defArgs s_law) (defBody s_law) (defScope s_law) .none kV30 dc30 pm30 an30 cd30 ct30), sl30⟩) (c30 : PySem.W.codeIn K cd30 "law" = true) (k30 : PySem.W.keepIn K (.ref f30) = true)
    (z_abs : PySem.W.nsIn K mainGlobals "abs" = some none)
    (z_all : PySem.W.nsIn K mainGlobals "all" = some none)
    (z_bool : PySem.W.nsIn K mainGlobals "bool" = some none)
    (z_int : PySem.W.nsIn K mainGlobals "int" = some none)
    (z_isinstance : PySem.W.nsIn K mainGlobals "isinstance" = some none)
    (z_len : PySem.W.nsIn K mainGlobals "len" = some none)
    (z_list : PySem.W.nsIn K mainGlobals "list" = some none)
    (z_max : PySem.W.nsIn K mainGlobals "max" = some none)
    (z_min : PySem.W.nsIn K mainGlobals "min" = some none)
    (z_range : PySem.W.nsIn K mainGlobals "range" = some none)
    (z_sorted : PySem.W.nsIn K mainGlobals "sorted" = some none)
    (z_str : PySem.W.nsIn K mainGlobals "str" = some none)
    (z_sum : PySem.W.nsIn K mainGlobals "sum" = some none)
    (z_tuple : PySem.W.nsIn K mainGlobals "tuple" = some none)
    (z_zip : PySem.W.nsIn K mainGlobals "zip" = some none)
    : ∃ fd : FuncData, (∀ (s : Shared) (v : Value), BindsTo s fd ⟨[v], []⟩ [("_law_script", v)]) ∧ ∀ base : Heap, K.In base → base.Ns mainGlobals mg → FnOk l.prog w K mg base CX0 8 fa fd ["_law_script"] (spLaw K) := by
  have e := hfa.symm.trans (PySem.W.mg_of X G a30)
  cases e
  exact ⟨_, fun s v => .of_eq rfl, fun base _ _ => ok_law (k := 0) {
      f_apart := f0, d_apart := _, F_apart := fun_mk (st := s_apart) l0 c0 k0, b_apart := (fun_mk (st := s_apart) l0 c0 k0).binds (ps := ["one", "other"]) fun _ _ _ _ _ _ us hl => match us, hl with | [_, _], _ => rfl, g_apart := PySem.W.mg_of X G a0,
      f_common_measure := f1, d_common_measure := _, F_common_measure := fun_mk (st := s_common_measure) l1 c1 k1, b_common_measure := (fun_mk (st := s_common_measure) l1 c1 k1).binds (ps := ["one", "other"]) fun _ _ _ _ _ _ us hl => match us, hl with | [_, _], _ => rfl, g_common_measure := PySem.W.mg_of X G a1,
      f_part := f2, d_part := _, F_part := fun_mk (st := s_part) l2 c2 k2, b_part := (fun_mk (st := s_part) l2 c2 k2).binds (ps := ["top", "bottom"]) fun _ _ _ _ _ _ us hl => match us, hl with | [_, _], _ => rfl, g_part := PySem.W.mg_of X G a2,
      f_plus := f3, d_plus := _, F_plus := fun_mk (st := s_plus) l3 c3 k3, b_plus := (fun_mk (st := s_plus) l3 c3 k3).binds (ps := ["one", "other"]) fun _ _ _ _ _ _ us hl => match us, hl with | [_, _], _ => rfl, g_plus := PySem.W.mg_of X G a3,
      f_sum_of := f4, d_sum_of := _, F_sum_of := fun_mk (st := s_sum_of) l4 c4 k4, b_sum_of := (fun_mk (st := s_sum_of) l4 c4 k4).binds (ps := ["fractions"]) fun _ _ _ _ _ _ us hl => match us, hl with | [_], _ => rfl, g_sum_of := PySem.W.mg_of X G a4,
      f_times := f5, d_times := _, F_times := fun_mk (st := s_times) l5 c5 k5, b_times := (fun_mk (st := s_times) l5 c5 k5).binds (ps := ["one", "other"]) fun _ _ _ _ _ _ us hl => match us, hl with | [_, _], _ => rfl, g_times := PySem.W.mg_of X G a5,
      f_count_of := f6, d_count_of := _, F_count_of := fun_mk (st := s_count_of) l6 c6 k6, b_count_of := (fun_mk (st := s_count_of) l6 c6 k6).binds (ps := ["rows"]) fun _ _ _ _ _ _ us hl => match us, hl with | [_], _ => rfl, g_count_of := PySem.W.mg_of X G a6,
      f_weighed_sum := f7, d_weighed_sum := _, F_weighed_sum := fun_mk (st := s_weighed_sum) l7 c7 k7, b_weighed_sum := (fun_mk (st := s_weighed_sum) l7 c7 k7).binds (ps := ["rows", "place"]) fun _ _ _ _ _ _ us hl => match us, hl with | [_, _], _ => rfl, g_weighed_sum := PySem.W.mg_of X G a7,
      f_middle_of := f8, d_middle_of := _, F_middle_of := fun_mk (st := s_middle_of) l8 c8 k8, b_middle_of := (fun_mk (st := s_middle_of) l8 c8 k8).binds (ps := ["rows"]) fun _ _ _ _ _ _ us hl => match us, hl with | [_], _ => rfl, g_middle_of := PySem.W.mg_of X G a8,
      f_far_of := f9, d_far_of := _, F_far_of := fun_mk (st := s_far_of) l9 c9 k9, b_far_of := (fun_mk (st := s_far_of) l9 c9 k9).binds (ps := ["colour", "middle"]) fun _ _ _ _ _ _ us hl => match us, hl with | [_, _], _ => rfl, g_far_of := PySem.W.mg_of X G a9,
      f_far_sum := f10, d_far_sum := _, F_far_sum := fun_mk (st := s_far_sum) l10 c10 k10, b_far_sum := (fun_mk (st := s_far_sum) l10 c10 k10).binds (ps := ["rows", "middle"]) fun _ _ _ _ _ _ us hl => match us, hl with | [_, _], _ => rfl, g_far_sum := PySem.W.mg_of X G a10,
      f_spread_of := f11, d_spread_of := _, F_spread_of := fun_mk (st := s_spread_of) l11 c11 k11, b_spread_of := (fun_mk (st := s_spread_of) l11 c11 k11).binds (ps := ["rows"]) fun _ _ _ _ _ _ us hl => match us, hl with | [_], _ => rfl, g_spread_of := PySem.W.mg_of X G a11,
      f_least_numbers := f12, d_least_numbers := _, F_least_numbers := fun_mk (st := s_least_numbers) l12 c12 k12, b_least_numbers := (fun_mk (st := s_least_numbers) l12 c12 k12).binds (ps := ["colours"]) fun _ _ _ _ _ _ us hl => match us, hl with | [_], _ => rfl, g_least_numbers := PySem.W.mg_of X G a12,
      f_greatest_numbers := f13, d_greatest_numbers := _, F_greatest_numbers := fun_mk (st := s_greatest_numbers) l13 c13 k13, b_greatest_numbers := (fun_mk (st := s_greatest_numbers) l13 c13 k13).binds (ps := ["colours"]) fun _ _ _ _ _ _ us hl => match us, hl with | [_], _ => rfl, g_greatest_numbers := PySem.W.mg_of X G a13,
      f_box_of := f14, d_box_of := _, F_box_of := fun_mk (st := s_box_of) l14 c14 k14, b_box_of := (fun_mk (st := s_box_of) l14 c14 k14).binds (ps := ["colours"]) fun _ _ _ _ _ _ us hl => match us, hl with | [_], _ => rfl, g_box_of := PySem.W.mg_of X G a14,
      f_near_box := f15, d_near_box := _, F_near_box := fun_mk (st := s_near_box) l15 c15 k15, b_near_box := (fun_mk (st := s_near_box) l15 c15 k15).binds (ps := ["colour", "box"]) fun _ _ _ _ _ _ us hl => match us, hl with | [_, _], _ => rfl, g_near_box := PySem.W.mg_of X G a15,
      f_far_box := f16, d_far_box := _, F_far_box := fun_mk (st := s_far_box) l16 c16 k16, b_far_box := (fun_mk (st := s_far_box) l16 c16 k16).binds (ps := ["colour", "box"]) fun _ _ _ _ _ _ us hl => match us, hl with | [_, _], _ => rfl, g_far_box := PySem.W.mg_of X G a16,
      f_l_mix := f17, d_l_mix := _, F_l_mix := fun_mk (st := s_l_mix) l17 c17 k17, b_l_mix := (fun_mk (st := s_l_mix) l17 c17 k17).binds (ps := ["_law_cell", "_law_k"]) fun _ _ _ _ _ _ us hl => match us, hl with | [_, _], _ => rfl, g_l_mix := PySem.W.mg_of X G a17,
      f_l_left := f18, d_l_left := _, F_l_left := fun_mk (st := s_l_left) l18 c18 k18, b_l_left := (fun_mk (st := s_l_left) l18 c18 k18).binds (ps := ["_law_script", "_law_k"]) fun _ _ _ _ _ _ us hl => match us, hl with | [_, _], _ => rfl, g_l_left := PySem.W.mg_of X G a18,
      f_l_pick := f19, d_l_pick := _, F_l_pick := fun_mk (st := s_l_pick) l19 c19 k19, b_l_pick := (fun_mk (st := s_l_pick) l19 c19 k19).binds (ps := ["_law_left_here", "_law_many"]) fun _ _ _ _ _ _ us hl => match us, hl with | [_, _], _ => rfl, g_l_pick := PySem.W.mg_of X G a19,
      f_l_kind := f20, d_l_kind := _, F_l_kind := fun_mk (st := s_l_kind) l20 c20 k20, b_l_kind := (fun_mk (st := s_l_kind) l20 c20 k20).binds (ps := ["_law_left_here"]) fun _ _ _ _ _ _ us hl => match us, hl with | [_], _ => rfl, g_l_kind := PySem.W.mg_of X G a20,
      f_l_colour := f21, d_l_colour := _, F_l_colour := fun_mk (st := s_l_colour) l21 c21 k21, b_l_colour := (fun_mk (st := s_l_colour) l21 c21 k21).binds (ps := ["_law_left_here", "_law_kind_here"]) fun _ _ _ _ _ _ us hl => match us, hl with | [_, _], _ => rfl, g_l_colour := PySem.W.mg_of X G a21,
      f_l_asked := f22, d_l_asked := _, F_l_asked := fun_mk (st := s_l_asked) l22 c22 k22, b_l_asked := (fun_mk (st := s_l_asked) l22 c22 k22).binds (ps := ["_law_left_here", "_law_kind_here", "_law_palette"]) fun _ _ _ _ _ _ us hl => match us, hl with | [_, _, _], _ => rfl, g_l_asked := PySem.W.mg_of X G a22,
      f_l_rows := f23, d_l_rows := _, F_l_rows := fun_mk (st := s_l_rows) l23 c23 k23, b_l_rows := (fun_mk (st := s_l_rows) l23 c23 k23).binds (ps := ["_law_left_here", "_law_kind_here", "_law_most"]) fun _ _ _ _ _ _ us hl => match us, hl with | [_, _, _], _ => rfl, g_l_rows := PySem.W.mg_of X G a23,
      f_l_part := f24, d_l_part := _, F_l_part := fun_mk (st := s_l_part) l24 c24 k24, b_l_part := (fun_mk (st := s_l_part) l24 c24 k24).binds (ps := ["_law_top", "_law_bottom"]) fun _ _ _ _ _ _ us hl => match us, hl with | [_, _], _ => rfl, g_l_part := PySem.W.mg_of X G a24,
      f_l_plus := f25, d_l_plus := _, F_l_plus := fun_mk (st := s_l_plus) l25 c25 k25, b_l_plus := (fun_mk (st := s_l_plus) l25 c25 k25).binds (ps := ["_law_one", "_law_other"]) fun _ _ _ _ _ _ us hl => match us, hl with | [_, _], _ => rfl, g_l_plus := PySem.W.mg_of X G a25,
      f_l_spread := f26, d_l_spread := _, F_l_spread := fun_mk (st := s_l_spread) l26 c26 k26, b_l_spread := (fun_mk (st := s_l_spread) l26 c26 k26).binds (ps := ["_law_rows_here"]) fun _ _ _ _ _ _ us hl => match us, hl with | [_], _ => rfl, g_l_spread := PySem.W.mg_of X G a26,
      f_l_same := f27, d_l_same := _, F_l_same := fun_mk (st := s_l_same) l27 c27 k27, b_l_same := (fun_mk (st := s_l_same) l27 c27 k27).binds (ps := ["_law_found", "_law_due"]) fun _ _ _ _ _ _ us hl => match us, hl with | [_, _], _ => rfl, g_l_same := PySem.W.mg_of X G a27,
      f_l_answers := f28, d_l_answers := _, F_l_answers := fun_mk (st := s_l_answers) l28 c28 k28, b_l_answers := (fun_mk (st := s_l_answers) l28 c28 k28).binds (ps := ["_law_rows_here", "_law_colour_here"]) fun _ _ _ _ _ _ us hl => match us, hl with | [_, _], _ => rfl, g_l_answers := PySem.W.mg_of X G a28,
      f_l_one_answer := f29, d_l_one_answer := _, F_l_one_answer := fun_mk (st := s_l_one_answer) l29 c29 k29, b_l_one_answer := (fun_mk (st := s_l_one_answer) l29 c29 k29).binds (ps := ["_law_rows_here", "_law_colour_here", "_law_first", "_law_which"]) fun _ _ _ _ _ _ us hl => match us, hl with | [_, _, _, _], _ => rfl, g_l_one_answer := PySem.W.mg_of X G a29,
      z_abs := PySem.W.mg_none_of X G z_abs,
      z_all := PySem.W.mg_none_of X G z_all,
      z_bool := PySem.W.mg_none_of X G z_bool,
      z_int := PySem.W.mg_none_of X G z_int,
      z_isinstance := PySem.W.mg_none_of X G z_isinstance,
      z_len := PySem.W.mg_none_of X G z_len,
      z_list := PySem.W.mg_none_of X G z_list,
      z_max := PySem.W.mg_none_of X G z_max,
      z_min := PySem.W.mg_none_of X G z_min,
      z_range := PySem.W.mg_none_of X G z_range,
      z_sorted := PySem.W.mg_none_of X G z_sorted,
      z_str := PySem.W.mg_none_of X G z_str,
      z_sum := PySem.W.mg_none_of X G z_sum,
      z_tuple := PySem.W.mg_none_of X G z_tuple,
      z_zip := PySem.W.mg_none_of X G z_zip } (fun_mk (st := s_law) l30 c30 k30) (by decide)⟩
end Z
open PySem PySem.W PyProof.Rows
set_option maxHeartbeats 0 in
theorem PySem.Challenge.cw_fewcolours_k09_asked_by_turns_holds : PySem.Challenge.rw_fewcolours_k09_asked_by_turns.Holds := by
  w_on; o_law; k_head; (case hw => w_witness2)
  k_fill
  refine L2.walk_of (l := PySem.Challenge.rw_fewcolours_k09_asked_by_turns) (n := 63) (k := 8) (x := "_law_script") (CX := fun _ => L2.CX0) (sp := fun w => Z.spLaw _) rfl (by decide) rfl ⟨rfl, by decide, by decide⟩ (fun w h Y => PySem.W.kIn_of Y) ?F (fun _ _ a ns hl _ hS => ⟨a, ns, rfl, hS, hl, fun _ => rfl⟩) (fun _ _ _ _ _ h => h)
  case F =>
    intro w mg fa h KX G hmg
    refine' Z.all_mk KX G hmg ?a0 ?l0 ?c0 ?k0 ?a1 ?l1 ?c1 ?k1 ?a2 ?l2 ?c2 ?k2 ?a3 ?l3 ?c3 ?k3 ?a4 ?l4 ?c4 ?k4 ?a5 ?l5 ?c5 ?k5 ?a6 ?l6 ?c6 ?k6 ?a7 ?l7 ?c7 ?k7 ?a8 ?l8 ?c8 ?k8 ?a9 ?l9 ?c9 ?k9 ?a10 ?l10 ?c10 ?k10 ?a11 ?l11 ?c11 ?k11 ?a12 ?l12 ?c12 ?k12 ?a13 ?l13 ?c13 ?k13 ?a14 ?l14 ?c14 ?k14 ?a15 ?l15 ?c15 ?k15 ?a16 ?l16 ?c16 ?k16 ?a17 ?l17 ?c17 ?k17 ?a18 ?l18 ?c18 ?k18 ?a19 ?l19 ?c19 ?k19 ?a20 ?l20 ?c20 ?k20 ?a21 ?l21 ?c21 ?k21 ?a22 ?l22 ?c22 ?k22 ?a23 ?l23 ?c23 ?k23 ?a24 ?l24 ?c24 ?k24 ?a25 ?l25 ?c25 ?k25 ?a26 ?l26 ?c26 ?k26 ?a27 ?l27 ?c27 ?k27 ?a28 ?l28 ?c28 ?k28 ?a29 ?l29 ?c29 ?k29 ?a30 ?l30 ?c30 ?k30 ?z_abs ?z_all ?z_bool ?z_int ?z_isinstance ?z_len ?z_list ?z_max ?z_min ?z_range ?z_sorted ?z_str ?z_sum ?z_tuple ?z_zip
    case a0 => k_is
    case l0 => k_is
    case c0 => k_is
    case k0 => k_is
    case a1 => k_is
    case l1 => k_is
    case c1 => k_is
    case k1 => k_is
    case a2 => k_is
    case l2 => k_is
    case c2 => k_is
    case k2 => k_is
    case a3 => k_is
    case l3 => k_is
    case c3 => k_is
    case k3 => k_is
    case a4 => k_is
    case l4 => k_is
    case c4 => k_is
    case k4 => k_is
    case a5 => k_is
    case l5 => k_is
    case c5 => k_is
    case k5 => k_is
    case a6 => k_is
    case l6 => k_is
    case c6 => k_is
    case k6 => k_is
    case a7 => k_is
    case l7 => k_is
    case c7 => k_is
    case k7 => k_is
    case a8 => k_is
    case l8 => k_is
    case c8 => k_is
    case k8 => k_is
    case a9 => k_is
    case l9 => k_is
    case c9 => k_is
    case k9 => k_is
    case a10 => k_is
    case l10 => k_is
    case c10 => k_is
    case k10 => k_is
    case a11 => k_is
    case l11 => k_is
    case c11 => k_is
    case k11 => k_is
    case a12 => k_is
    case l12 => k_is
    case c12 => k_is
    case k12 => k_is
    case a13 => k_is
    case l13 => k_is
    case c13 => k_is
    case k13 => k_is
    case a14 => k_is
    case l14 => k_is
    case c14 => k_is
    case k14 => k_is
    case a15 => k_is
    case l15 => k_is
    case c15 => k_is
    case k15 => k_is
    case a16 => k_is
    case l16 => k_is
    case c16 => k_is
    case k16 => k_is
    case a17 => k_is
    case l17 => k_is
    case c17 => k_is
    case k17 => k_is
    case a18 => k_is
    case l18 => k_is
    case c18 => k_is
    case k18 => k_is
    case a19 => k_is
    case l19 => k_is
    case c19 => k_is
    case k19 => k_is
    case a20 => k_is
    case l20 => k_is
    case c20 => k_is
    case k20 => k_is
    case a21 => k_is
    case l21 => k_is
    case c21 => k_is
    case k21 => k_is
    case a22 => k_is
    case l22 => k_is
    case c22 => k_is
    case k22 => k_is
    case a23 => k_is
    case l23 => k_is
    case c23 => k_is
    case k23 => k_is
    case a24 => k_is
    case l24 => k_is
    case c24 => k_is
    case k24 => k_is
    case a25 => k_is
    case l25 => k_is
    case c25 => k_is
    case k25 => k_is
    case a26 => k_is
    case l26 => k_is
    case c26 => k_is
    case k26 => k_is
    case a27 => k_is
    case l27 => k_is
    case c27 => k_is
    case k27 => k_is
    case a28 => k_is
    case l28 => k_is
    case c28 => k_is
    case k28 => k_is
    case a29 => k_is
    case l29 => k_is
    case c29 => k_is
    case k29 => k_is
    case a30 => k_is
    case l30 => k_is
    case c30 => k_is
    case k30 => k_is
    case z_abs => k_is
    case z_all => k_is
    case z_bool => k_is
    case z_int => k_is
    case z_isinstance => k_is
    case z_len => k_is
    case z_list => k_is
    case z_max => k_is
    case z_min => k_is
    case z_range => k_is
    case z_sorted => k_is
    case z_str => k_is
    case z_sum => k_is
    case z_tuple => k_is
    case z_zip => k_is

