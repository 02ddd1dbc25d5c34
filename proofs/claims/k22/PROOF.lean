import PyProof.Rows.All
import Wide.All
import OpenK.AllK
import Wide.FinOn
import HandS.ForMost
import HandS.Zip
import HandS.IsInst
import HandS.TupAny
import HandS.SortRule
import HandS.Style
import HandS.Walk
import HandS.Evl
import KE.DataMinMax
import HandS.Wide
import HandS.DictTup
import HandS.Small
import KE.SortData
import HandS.TryOnly
import HandS.Conv
import HandS.SortInts
import KE.GoesEnum
import KE.GoesMore
import KE.DataCmp
import HandS.Dict
import HandS.Iter
import HandS.Deep
import PyProof.Rows.RuleB_pow
import HandS.TupMul
import HandS.SortKw
import KE.GoesEnumKw
import HandS.Star
import KE.KDictZip
import PyProof.MaxThree
import PySem.Challenge.RW_fewcolours_k22_papers_of_the_nearest
set_option Elab.async false
set_option linter.all false
set_option maxRecDepth 100000
namespace Z
open PySem PySem.Spec PyProof.Rows L2
/-! ### heaps but for some addresses -/
def Dom (H H' : Hp) : Prop := ∀ a, H a ≠ none → H' a ≠ none
structure Go (B : List Addr) (H H' : Hp) : Prop where
  k : ∀ a o, a ∉ B → H a = some o → H' a = some o
  d : Dom H H'
def Bk (B : List Addr) (H : Hp) : Prop := ∀ a ∈ B, H a ≠ none
section
variable {B C : List Addr} {H H' H1 H2 : Hp} {p L : Addr} {o : HO}
theorem dom_new : Dom H (upd H p o) := fun a h => by
  by_cases e : a = p
  · subst e
    rw [upd_same]
    exact fun z => nomatch z
  · rw [upd_ne e]
    exact h
theorem dom_mut (d : Dom H H') : Dom H (upd H' p o) := fun a h => dom_new a (d a h)
theorem Go.refl : Go B H H := ⟨fun _ _ _ h => h, fun _ h => h⟩
theorem Go.trans (a : Go B H H1) (b : Go B H1 H2) : Go B H H2 := ⟨fun c o n h => b.k c o n (a.k c o n h), fun c h => b.d c (a.d c h)⟩
theorem same_dom (s : Same H H') : Dom H H' := fun a h => by
  cases q : H a with
  | none => exact absurd q h
  | some o => rw [s a o q]; exact fun z => nomatch z
theorem Go.of (s : Same H H') : Go B H H' := ⟨fun a o _ h => s a o h, same_dom s⟩
theorem Go.new (h : H p = none) : Go B H (upd H p o) := ⟨fun a u _ e => by
  rw [upd_ne (ne_of_none e h)]
  exact e, dom_new⟩
theorem Go.mut (g : Go B H H') (h : H p = none) : Go B H (upd H' p o) := ⟨fun a u n e => by
  rw [upd_ne (ne_of_none e h)]
  exact g.k a u n e, dom_mut g.d⟩
theorem Go.at (g : Go B H H') (h : p ∈ B) : Go B H (upd H' p o) := ⟨fun a u n e => by
  rw [upd_ne (show a ≠ p from fun z => n (by rw [z]; exact h))]
  exact g.k a u n e, dom_mut g.d⟩
theorem Go.w (g : Go C H H') (s : ∀ a ∈ C, a ∈ B) : Go B H H' := ⟨fun a o n h => g.k a o (fun q => n (s a q)) h, g.d⟩
theorem Go.w1 (g : Go [L] H H') (s : L ∈ B) : Go B H H' := g.w fun a h => by rw [List.mem_singleton.mp h]; exact s
theorem Go.free (g : Go B H H') (h : H' p = none) : H p = none := by
  cases q : H p with
  | none => rfl
  | some o => exact absurd h (g.d p (by rw [q]; exact fun z => nomatch z))
theorem Bk.go (b : Bk B H) (g : Go C H H') : Bk B H' := fun a h => g.d a (b a h)
theorem Bk.ne (b : Bk B H) (h : H p = none) : p ∉ B := fun q => b p q h
theorem Bk.cons (b : Bk B H) (h : H p = some o) : Bk (p :: B) H := fun a q => by
  rcases List.mem_cons.mp q with e | e
  · subst e
    rw [h]
    exact fun z => nomatch z
  · exact b a e
theorem Bk.up (b : Bk B H) : Bk B (upd H p o) := fun a h => dom_new a (b a h)
theorem sm_new (h : H p = none) : Same H (upd H p o) := fun b x e => by
  rw [upd_ne (ne_of_none e h)]
  exact e
theorem sm_mut (s : Same H H') (h : H p = none) : Same H (upd H' p o) := fun b x e => by
  rw [upd_ne (ne_of_none e h)]
  exact s b x e
/-- what was new behind H, and is in B, may change -/
theorem Go.sm (g : Go B H1 H2) (s : Same H H1) (n : ∀ a ∈ B, H a = none) : Same H H2 := fun a o h => g.k a o (fun q => by rw [n a q] at h; cases h) (s a o h)
theorem Go.cons (g : Go (p :: B) H1 H2) (s : Go B H H1) (h : H p = none) : Go B H H2 := ⟨fun a o n e => g.k a o (fun q => by
  rcases List.mem_cons.mp q with z | z
  · rw [z, h] at e
    cases e
  · exact n z) (s.k a o n e), fun a e => g.d a (s.d a e)⟩
end
/-! ### the list that is drawn from -/
def Lf (L : Addr) (H : Hp) (n : Nat) : Prop := ∃ a b c : Int, H L = some (.lst [.int a, .int b, .int c]) ∧ 0 ≤ a ∧ 0 ≤ c ∧ c ≤ (n : Int)
section
variable {L p : Addr} {H H' : Hp} {n m : Nat} {o : HO} {B : List Addr}
theorem Lf.mono (h : Lf L H n) (l : n ≤ m) : Lf L H m := by
  obtain ⟨a, b, c, e, h1, h2, h3⟩ := h
  exact ⟨a, b, c, e, h1, h2, by omega⟩
theorem Lf.same (h : Lf L H n) (s : Same H H') : Lf L H' n := by
  obtain ⟨a, b, c, e, h1, h2, h3⟩ := h
  exact ⟨a, b, c, s _ _ e, h1, h2, h3⟩
theorem Lf.go (h : Lf L H n) (g : Go B H H') (i : L ∉ B) : Lf L H' n := by
  obtain ⟨a, b, c, e, h1, h2, h3⟩ := h
  exact ⟨a, b, c, g.k _ _ i e, h1, h2, h3⟩
theorem Lf.ne (h : Lf L H n) (e : H p = none) : p ≠ L := fun q => by
  obtain ⟨a, b, c, e', _⟩ := h
  rw [q, e'] at e
  cases e
theorem Lf.up (h : Lf L H n) (e : p ≠ L) : Lf L (upd H p o) n := by
  obtain ⟨a, b, c, e', h1, h2, h3⟩ := h
  refine ⟨a, b, c, ?_, h1, h2, h3⟩
  rw [upd_ne (Ne.symm e)]
  exact e'
theorem Lf.new (h : Lf L H n) (e : H p = none) : Lf L (upd H p o) n := h.up (h.ne e)
theorem Lf.bk (h : Lf L H n) : Bk [L] H := fun a q => by
  obtain ⟨_, _, _, e, _⟩ := h
  rw [List.mem_singleton.mp q, e]
  exact fun z => nomatch z
end
/-! ### data apart from some addresses -/
mutual
inductive Dt (B : List Addr) (H : Hp) : V → PyData → Prop
  | non : Dt B H .non .none
  | bl (b : Bool) : Dt B H (.bl b) (.bool b)
  | int (i : Int) : Dt B H (.int i) (.int i)
  | str (x : Str) : Dt B H (.str x) (.str x)
  | lst {a : Addr} {xs : List V} {ds : List PyData} : a ∉ B → H a = some (.lst xs) → DtA B H xs ds → Dt B H (.ref a) (.list ds)
  | tup {a : Addr} {xs : List V} {ds : List PyData} : a ∉ B → H a = some (.tup xs) → DtA B H xs ds → Dt B H (.ref a) (.tuple ds)
inductive DtA (B : List Addr) (H : Hp) : List V → List PyData → Prop
  | nil : DtA B H [] []
  | cons {v : V} {vs : List V} {d : PyData} {ds : List PyData} : Dt B H v d → DtA B H vs ds → DtA B H (v :: vs) (d :: ds)
end
section
variable {B C : List Addr} {H H' : Hp} {p L : Addr}
mutual
/-- the general way from one to another -/
theorem Dt.to (f : ∀ a o, a ∉ B → H a = some o → a ∉ C ∧ H' a = some o) : ∀ (d : PyData) (v : V), Dt B H v d → Dt C H' v d
  | .none, _, h => by cases h; exact .non
  | .bool b, _, h => by cases h; exact .bl b
  | .int i, _, h => by cases h; exact .int i
  | .str x, _, h => by cases h; exact .str x
  | .list ds, _, h => by
    cases h with
    | lst n hs ha => exact .lst (f _ _ n hs).1 (f _ _ n hs).2 (DtA.to f ds _ ha)
  | .tuple ds, _, h => by
    cases h with
    | tup n hs ha => exact .tup (f _ _ n hs).1 (f _ _ n hs).2 (DtA.to f ds _ ha)
  | .dict _, _, h => by cases h
theorem DtA.to (f : ∀ a o, a ∉ B → H a = some o → a ∉ C ∧ H' a = some o) : ∀ (ds : List PyData) (vs : List V), DtA B H vs ds → DtA C H' vs ds
  | [], _, h => by cases h; exact .nil
  | d :: ds, _, h => by
    cases h with
    | cons h1 h2 => exact .cons (Dt.to f d _ h1) (DtA.to f ds _ h2)
end
mutual
theorem Dt.dp {K : PySem.W.Frag} : ∀ (d : PyData) (v : V), Dt B H v d → Dp K H v d
  | .none, _, h => by cases h; exact .non
  | .bool b, _, h => by cases h; exact .bl b
  | .int i, _, h => by cases h; exact .int i
  | .str x, _, h => by cases h; exact .str x
  | .list ds, _, h => by
    cases h with
    | lst n hs ha => exact .lst (SqL.of hs) (DtA.dp ds _ ha)
  | .tuple ds, _, h => by
    cases h with
    | tup n hs ha => exact .tup (SqT.of hs) (DtA.dp ds _ ha)
  | .dict _, _, h => by cases h
theorem DtA.dp {K : PySem.W.Frag} : ∀ (ds : List PyData) (vs : List V), DtA B H vs ds → DpAll K H vs ds
  | [], _, h => by cases h; exact .nil
  | d :: ds, _, h => by
    cases h with
    | cons h1 h2 => exact .cons (Dt.dp d _ h1) (DtA.dp ds _ h2)
end
variable {d : PyData} {v : V} {ds : List PyData} {vs ws : List V}
theorem Dt.g (h : Dt B H v d) (g : Go B H H') : Dt B H' v d := Dt.to (fun a o n e => ⟨n, g.k a o n e⟩) d v h
theorem DtA.g (h : DtA B H vs ds) (g : Go B H H') : DtA B H' vs ds := DtA.to (fun a o n e => ⟨n, g.k a o n e⟩) ds vs h
theorem Dt.s (h : Dt B H v d) (s : Same H H') : Dt B H' v d := h.g (Go.of s)
theorem DtA.s (h : DtA B H vs ds) (s : Same H H') : DtA B H' vs ds := h.g (Go.of s)
/-- a new address may change, too -/
theorem Dt.fr (h : Dt B H v d) (e : H p = none) : Dt (p :: B) H v d := Dt.to (fun a o n q => ⟨fun z => by
  rcases List.mem_cons.mp z with y | y
  · rw [y, e] at q
    cases q
  · exact n y, q⟩) d v h
theorem DtA.fr (h : DtA B H vs ds) (e : H p = none) : DtA (p :: B) H vs ds := DtA.to (fun a o n q => ⟨fun z => by
  rcases List.mem_cons.mp z with y | y
  · rw [y, e] at q
    cases q
  · exact n y, q⟩) ds vs h
theorem Dt.un (h : Dt (p :: B) H v d) : Dt B H v d := Dt.to (fun a o n q => ⟨fun z => n (List.mem_cons_of_mem _ z), q⟩) d v h
theorem DtA.un (h : DtA (p :: B) H vs ds) : DtA B H vs ds := DtA.to (fun a o n q => ⟨fun z => n (List.mem_cons_of_mem _ z), q⟩) ds vs h
theorem Dt.sub (h : Dt B H v d) (s : ∀ a ∈ C, a ∈ B) : Dt C H v d := Dt.to (fun a o n q => ⟨fun z => n (s a z), q⟩) d v h
theorem DtA.sub (h : DtA B H vs ds) (s : ∀ a ∈ C, a ∈ B) : DtA C H vs ds := DtA.to (fun a o n q => ⟨fun z => n (s a z), q⟩) ds vs h
theorem Dt.dP {K : PySem.W.Frag} (h : Dt B H v d) : Dp K H v d := Dt.dp d v h
theorem DtA.len {vs : List V} : ∀ {ds : List PyData}, DtA B H vs ds → vs.length = ds.length := by
  induction vs with
  | nil => intro ds h; cases h; rfl
  | cons v vs ih => intro ds h; cases h with | cons h1 h2 => rw [List.length_cons, List.length_cons, ih h2]
theorem DtA.get {vs : List V} : ∀ {ds : List PyData} {i : Nat} {d : PyData}, DtA B H vs ds → ds[i]? = some d → ∃ v, vs[i]? = some v ∧ Dt B H v d := by
  induction vs with
  | nil => intro ds i d h e; cases h; simp at e
  | cons v vs ih =>
    intro ds i d h e
    cases h with
    | cons h1 h2 =>
      cases i with
      | zero => cases e; exact ⟨v, rfl, h1⟩
      | succ i => exact ih (i := i) h2 (by simpa using e)
theorem DtA.getV {vs : List V} : ∀ {ds : List PyData} {i : Nat} {v : V}, DtA B H vs ds → vs[i]? = some v → ∃ d, ds[i]? = some d ∧ Dt B H v d := by
  induction vs with
  | nil => intro ds i d h e; simp at e
  | cons v vs ih =>
    intro ds i d h e
    cases h with
    | cons h1 h2 =>
      cases i with
      | zero => cases e; exact ⟨_, rfl, h1⟩
      | succ i => exact ih (i := i) h2 (by simpa using e)
theorem DtA.app {vs ws : List V} : ∀ {ds es : List PyData}, DtA B H vs ds → DtA B H ws es → DtA B H (vs ++ ws) (ds ++ es) := by
  induction vs with
  | nil => intro ds es h h2; cases h; exact h2
  | cons v vs ih =>
    intro ds es h h2
    cases h with
    | cons h1 h3 => exact .cons h1 (ih h3 h2)
theorem DtA.one (h : Dt B H v d) : DtA B H [v] [d] := .cons h .nil
theorem DtA.ints : ∀ ns : List Int, DtA B H (ns.map V.int) (ns.map PyData.int)
  | [] => .nil
  | n :: ns => .cons (.int n) (DtA.ints ns)
theorem DtA.intsV : ∀ {ns : List Int} {vs : List V}, DtA B H vs (ns.map PyData.int) → vs = ns.map V.int
  | [], _, h => by cases h; rfl
  | n :: ns, _, h => by
    cases h with
    | cons h1 h2 =>
      cases h1
      rw [DtA.intsV h2]
      rfl
theorem DtA.blsV : ∀ {ns : List Bool} {vs : List V}, DtA B H vs (ns.map PyData.bool) → vs = ns.map V.bl
  | [], _, h => by cases h; rfl
  | n :: ns, _, h => by
    cases h with
    | cons h1 h2 =>
      cases h1
      rw [DtA.blsV h2]
      rfl
/-- a colour; a list of ints; a palette -/
def eC (ns : List Int) : PyData := .tuple (ns.map .int)
def eI (ns : List Int) : PyData := .list (ns.map .int)
def eP (cs : List (List Int)) : PyData := .list (cs.map eC)
theorem Dt.col {v : V} {ns : List Int} (h : Dt B H v (eC ns)) : ∃ a, v = .ref a ∧ a ∉ B ∧ H a = some (.tup (ns.map V.int)) := by
  cases h with
  | tup n hs ha =>
    have e := DtA.intsV ha
    subst e
    exact ⟨_, rfl, n, hs⟩
theorem Dt.ofCol {a : Addr} {ns : List Int} (n : a ∉ B) (h : H a = some (.tup (ns.map V.int))) : Dt B H (.ref a) (eC ns) := .tup n h (DtA.ints ns)
theorem Dt.ofInts {a : Addr} {ns : List Int} (n : a ∉ B) (h : H a = some (.lst (ns.map V.int))) : Dt B H (.ref a) (eI ns) := .lst n h (DtA.ints ns)
theorem Dt.ints {v : V} {ns : List Int} (h : Dt B H v (eI ns)) : ∃ a, v = .ref a ∧ a ∉ B ∧ H a = some (.lst (ns.map V.int)) := by
  cases h with
  | lst n hs ha =>
    have e := DtA.intsV ha
    subst e
    exact ⟨_, rfl, n, hs⟩
theorem Dt.tupI {v : V} {ds : List PyData} (h : Dt B H v (.tuple ds)) : ∃ a vs, v = .ref a ∧ a ∉ B ∧ H a = some (.tup vs) ∧ DtA B H vs ds := by
  cases h with
  | tup n hs ha => exact ⟨_, _, rfl, n, hs, ha⟩
theorem Dt.lstI {v : V} {ds : List PyData} (h : Dt B H v (.list ds)) : ∃ a vs, v = .ref a ∧ a ∉ B ∧ H a = some (.lst vs) ∧ DtA B H vs ds := by
  cases h with
  | lst n hs ha => exact ⟨_, _, rfl, n, hs, ha⟩
theorem Dt.pal {v : V} {cs : List (List Int)} (h : Dt B H v (eP cs)) : ∃ a vs, v = .ref a ∧ a ∉ B ∧ H a = some (.lst vs) ∧ DtA B H vs (cs.map eC) := Dt.lstI h
theorem Dt.intI {v : V} {i : Int} (h : Dt B H v (.int i)) : v = .int i := by
  cases h
  rfl
end
/-! ### the rules that speak of the written part, with it named -/
def rLenS (K : PySem.W.Frag) : List V → Hp → VK → Prop := fun xs H Q => ∃ p ys, xs = [.ref p] ∧ (SqL K H p ys ∨ SqT K H p ys) ∧ Q (.int ys.length) H
def rListOf (K : PySem.W.Frag) : List V → Hp → VK → Prop := fun xs H Q => ∃ p ys, xs = [.ref p] ∧ (SqL K H p ys ∨ SqT K H p ys) ∧ ∀ l, H l = none → Q (.ref l) (upd H l (.lst ys))
def rTupOf (K : PySem.W.Frag) : List V → Hp → VK → Prop := fun xs H Q => ∃ p ys, xs = [.ref p] ∧ ((SqL K H p ys ∧ ∀ l, H l = none → Q (.ref l) (upd H l (.tup ys))) ∨ (SqT K H p ys ∧ Q (.ref p) H))
section
variable (K : PySem.W.Frag) {X : Cx}
theorem ix_listK (h : X.K = K := by rfl) : IxR X (rIxL K) := h ▸ ix_list
theorem ix_tupK (h : X.K = K := by rfl) : IxR X (rIxT K) := h ▸ ix_tup
theorem sl_listK (h : X.K = K := by rfl) : SlR X (rSlL K) := h ▸ sl_list
theorem sl_tupAK (h : X.K = K := by rfl) : SlR X (rSlA K) := h ▸ sl_tupA
theorem op_catAK (h : X.K = K := by rfl) : OpR X (binaryOp .Add) (rCatA K) := h ▸ op_catA
theorem op_eqDK (hu : X.A.units + 64 < cLine) (h : X.K = K := by rfl) : OpR X (compareOp .Eq) (rEqD K) := h ▸ op_eqD hu
theorem op_neDK (hu : X.A.units + 64 < cLine) (h : X.K = K := by rfl) : OpR X (compareOp .NotEq) (rNeD K) := h ▸ op_neD hu
theorem len_K (h : X.K = K := by rfl) : CallR X (.builtin "len") (rLenS K) := h ▸ call_len_seq
theorem list_K (h : X.K = K := by rfl) : CallR X (.type "list") (rListOf K) := h ▸ call_list_of
theorem tuple_K (h : X.K = K := by rfl) : CallR X (.type "tuple") (rTupOf K) := h ▸ call_tuple_of
theorem cr_sumK (hc : X.calm = true) (h : X.K = K := by rfl) : CallR X (.builtin "sum") (rSum K) := h ▸ cr_sum hc
theorem cr_maxK (hc : X.calm = true) (h : X.K = K := by rfl) : CallR X (.builtin "max") (rMax K) := h ▸ cr_max hc
theorem cr_minK (hc : X.calm = true) (h : X.K = K := by rfl) : CallR X (.builtin "min") (rMin K) := h ▸ cr_min hc
theorem cr_anyK (hc : X.calm = true) (h : X.K = K := by rfl) : CallR X (.builtin "any") (rAny K) := h ▸ cr_any hc
theorem cr_allK (hc : X.calm = true) (h : X.K = K := by rfl) : CallR X (.builtin "all") (rAll K) := h ▸ cr_all hc
theorem call_isiK1 (h : X.K = K := by rfl) : CallR X (.builtin "isinstance") (rIsi K) := h ▸ call_isi
theorem call_isiTK (h : X.K = K := by rfl) : CallR X (.builtin "isinstance") (rIsiT K) := h ▸ call_isiT
theorem cr_sortedK (h : X.K = K := by rfl) : CallR X (.builtin "sorted") (rSortedPO K) := h ▸ cr_sortedPO
theorem mt_indexK (h : X.K = K := by rfl) : MtR X "list.index" (rIndex K) := h ▸ mt_index
theorem pi_listK {tg l : Expr} {tl : TE} (hl : PE X l tl) (h : X.K = K := by rfl) : PI X tg l (iList K tl) := h ▸ pi_list hl
theorem pg_tupK {pos : Pos} {es : List Expr} {kk : Nat} {t : TGs} {n : Nat} (hc : X.calm = true) (h : PGs X es t) (hn : (assignEach es X.env).length = n := by rfl) (hst : (assignEach es X.env).findIdx? (·.1) = none := by rfl) (h2 : X.K = K := by rfl) : PG X (.Tuple es kk pos) (gTup K n t) :=
  h2 ▸ pg_tup hc h hn hst
theorem pi_tupK {tg l : Expr} {tl : TE} (hl : PE X l tl) (h : X.K = K := by rfl) : PI X tg l (iTup K tl) := h ▸ pi_tup hl
end
/-! ### shapes -/
mutual
def wide : PyData → Bool
  | .none | .bool _ | .int _ | .str _ => true
  | .list xs | .tuple xs => decide (xs.length ≤ 100000) && wideAll xs
  | .dict _ => false
def wideAll : List PyData → Bool
  | [] => true
  | x :: xs => wide x && wideAll xs
end
def Sh (d : PyData) (k : Nat) : Prop := d.canLay0 = true ∧ d.depth ≤ k ∧ wide d = true
theorem sh_all : ∀ {ds : List PyData} {k : Nat}, (∀ d ∈ ds, Sh d k) → PyData.canLayAll0 ds = true ∧ PyData.depthAll ds ≤ k ∧ wideAll ds = true
  | [], _, _ => ⟨rfl, Nat.zero_le _, by rw [wideAll]⟩
  | d :: ds, k, h => by
    obtain ⟨h1, h2, h4⟩ := sh_all (ds := ds) (k := k) fun x hx => h x (List.mem_cons_of_mem _ hx)
    have h3 := h d (List.mem_cons_self ..)
    refine ⟨?_, ?_, ?_⟩
    · rw [PyData.canLayAll0, h1, h3.1]; rfl
    · rw [PyData.depthAll]
      exact Nat.max_le.mpr ⟨h3.2.1, h2⟩
    · rw [wideAll, h4, h3.2.2]; rfl
theorem sh_mem : ∀ {ds : List PyData} {k : Nat}, PyData.canLayAll0 ds = true → PyData.depthAll ds ≤ k → wideAll ds = true → ∀ d ∈ ds, Sh d k
  | [], _, _, _, _, _, h => nomatch h
  | d :: ds, k, h1, h2, h3, x, hx => by
    rw [PyData.canLayAll0] at h1
    rw [PyData.depthAll] at h2
    rw [wideAll] at h3
    have a := Bool.and_eq_true_iff.mp h1
    have b := Nat.max_le.mp h2
    have c := Bool.and_eq_true_iff.mp h3
    rcases List.mem_cons.mp hx with e | e
    · rw [e]; exact ⟨a.1, b.1, c.1⟩
    · exact sh_mem a.2 b.2 c.2 x e
theorem sh_tup {ds : List PyData} {k : Nat} (l : ds.length ≤ 100000) (h : ∀ d ∈ ds, Sh d k) : Sh (.tuple ds) (k + 1) := by
  obtain ⟨h1, h2, h3⟩ := sh_all h
  exact ⟨by rw [PyData.canLay0]; exact h1, by rw [PyData.depth]; omega, by rw [wide, h3, decide_eq_true l]; rfl⟩
theorem sh_lst {ds : List PyData} {k : Nat} (l : ds.length ≤ 100000) (h : ∀ d ∈ ds, Sh d k) : Sh (.list ds) (k + 1) := by
  obtain ⟨h1, h2, h3⟩ := sh_all h
  exact ⟨by rw [PyData.canLay0]; exact h1, by rw [PyData.depth]; omega, by rw [wide, h3, decide_eq_true l]; rfl⟩
theorem sh_int (i : Int) (k : Nat) : Sh (.int i) k := ⟨rfl, by rw [PyData.depth]; omega, by rw [wide]⟩
theorem sh_bool (i : Bool) (k : Nat) : Sh (.bool i) k := ⟨rfl, by rw [PyData.depth]; omega, by rw [wide]⟩
theorem sh_none (k : Nat) : Sh .none k := ⟨rfl, by rw [PyData.depth]; omega, by rw [wide]⟩
theorem sh_eC {ns : List Int} (l : ns.length ≤ 100000) : Sh (eC ns) 1 := sh_tup (by simpa using l) fun d hd => by
  obtain ⟨n, _, rfl⟩ := List.mem_map.mp hd
  exact sh_int n 0
theorem sh_eI {ns : List Int} (l : ns.length ≤ 100000) : Sh (eI ns) 1 := sh_lst (by simpa using l) fun d hd => by
  obtain ⟨n, _, rfl⟩ := List.mem_map.mp hd
  exact sh_int n 0
theorem sh_eP {cs : List (List Int)} (l : cs.length ≤ 100000) (h : ∀ c ∈ cs, c.length ≤ 100000) : Sh (eP cs) 2 := sh_lst (by simpa using l) fun d hd => by
  obtain ⟨n, m, rfl⟩ := List.mem_map.mp hd
  exact sh_eC (h n m)
theorem Sh.mono {d : PyData} {j k : Nat} (h : Sh d j) (l : j ≤ k) : Sh d k := ⟨h.1, Nat.le_trans h.2.1 l, h.2.2⟩
theorem Sh.sh {d : PyData} {k : Nat} (h : Sh d k) (l : k ≤ 64) : SeqAt.shaped d = true := by
  unfold SeqAt.shaped
  rw [h.1, decide_eq_true (Nat.le_trans h.2.1 l)]
  rfl
theorem Sh.tupI {ds : List PyData} {k : Nat} (h : Sh (.tuple ds) k) : ∃ j, k = j + 1 ∧ (∀ d ∈ ds, Sh d j) ∧ ds.length ≤ 100000 := by
  obtain ⟨h1, h2, h3⟩ := h
  rw [PyData.canLay0] at h1
  rw [PyData.depth] at h2
  rw [wide] at h3
  have c := Bool.and_eq_true_iff.mp h3
  exact ⟨k - 1, by omega, sh_mem h1 (by omega) c.2, of_decide_eq_true c.1⟩
theorem Sh.lstI {ds : List PyData} {k : Nat} (h : Sh (.list ds) k) : ∃ j, k = j + 1 ∧ (∀ d ∈ ds, Sh d j) ∧ ds.length ≤ 100000 := by
  obtain ⟨h1, h2, h3⟩ := h
  rw [PyData.canLay0] at h1
  rw [PyData.depth] at h2
  rw [wide] at h3
  have c := Bool.and_eq_true_iff.mp h3
  exact ⟨k - 1, by omega, sh_mem h1 (by omega) c.2, of_decide_eq_true c.1⟩
/-! ### isinstance -/
def tyn : PyData → String
  | .none => "NoneType" | .bool _ => "bool" | .int _ => "int" | .str _ => "str" | .list _ => "list" | .tuple _ => "tuple" | .dict _ => "dict"
theorem Dt.ty {K : PySem.W.Frag} {B : List Addr} {H : Hp} {v : V} {d : PyData} (h : Dt B H v d) : TyX K H v (.type (tyn d)) := by
  cases h with
  | non => exact .base .non
  | bl b => exact .base (.bl b)
  | int i => exact .base (.int i)
  | str x => exact .base (.str x)
  | lst n hs ha => exact .base (.lst hs)
  | tup n hs ha => exact .base (.tup hs)
theorem r_isi {K : PySem.W.Frag} {H : Hp} {Q : VK} {x : V} {t n : String} {b : Bool} (h : TyX K H x (.type t)) (e : kitB t n = some b) (q : Q (.bl b) H) : rIsi K [x, .ty n] H Q := ⟨x, .ty n, _, _, b, rfl, .ty n, h, kit_ty e, q⟩
theorem iteD {c A B : Prop} [Decidable c] (hc : c) (h : A) : if decide c = true then A else B := by
  rw [if_pos (decide_eq_true hc)]
  exact h
theorem iteE {A B : Prop} {c : Bool} (hc : c = true) (h : A) : if c = true then A else B := by
  rw [if_pos hc]
  exact h
theorem iteN {A B : Prop} {c : Bool} (hc : c = false) (h : B) : if c = true then A else B := by
  rw [hc, if_neg Bool.false_ne_true]
  exact h
/-! ### comprehensions -/
theorem lc_yes {te : TE} {σ : L2.St} {H : Hp} {Qy : VK} {N : Hp → Prop} (h : te σ H Qy) : tYes σ H (fun b H3 => if b = true then te σ H3 Qy else N H3) := by
  show if true = true then te σ H Qy else N H
  rw [if_pos rfl]
  exact h
theorem walk_zipT {K : PySem.W.Frag} {a b : Addr} {xs ys : List V} {n : Nat} (hn : n = min xs.length ys.length) : Walk (RZ.ItzT K a b) n (fun H => SqT K H a xs ∧ SqT K H b ys) (YPair (fun i => xs[i]?) (fun i => ys[i]?)) := by
  subst hn
  refine ⟨fun i _ hi q => ?_, fun _ q => ⟨xs, ys, q.1, q.2, by omega⟩, fun i H v H' _ q y => ?_⟩
  · have h1 : i < xs.length := by omega
    have h2 : i < ys.length := by omega
    exact ⟨xs, ys, xs[i], ys[i], q.1, q.2, by simp [h1], by simp [h2]⟩
  · obtain ⟨T, x, z, h1, h2, h3, h4, h5⟩ := y
    exact ⟨T, x, z, h1, h2, h3, h4 xs q.1, h5 ys q.2⟩
theorem sz {n : Nat} (h : n ≤ 100000) : n < sizeLine := Nat.lt_of_le_of_lt h (by decide)
/-- a comprehension that leaves all as it was: what it makes, item by item -/
theorem lc_pure {J : It} {n : Nat} {G : Hp → Prop} {Y : Nat → Hp → V → Hp → Prop} (w : Walk J n G Y) {g : TG} {tt : TT} {te : TE} {vs : List Nat} {σ : L2.St} {H1 : Hp} {D : Addr} {Qd : Hp → Prop} {B : List Addr}
    (hD : H1 D = none) (hB : Bk B H1) (hG : ∀ H', Same H1 H' → G H') (hn : n ≤ 100000) (e : Nat → Option PyData)
    (hs : ∀ (i : Nat) (x : V) (H' H'' : Hp) (Ny : V → Hp → Prop) (Nn : Hp → Prop), i < n → Same H1 H' → Bk (D :: B) H' → Y i H' x H'' → (∀ y H4 d, e i = some d → Same H' H4 → Dt (D :: B) H4 y d → Ny y H4) → (∀ H3, e i = none → Same H' H3 → Nn H3) →
      g x (wipe σ vs) H'' fun σ2 H2 => wipe σ2 vs = wipe σ vs ∧ tt σ2 H2 fun b H3 => if b = true then te σ2 H3 Ny else Nn H3)
    (hd : ∀ (H' : Hp) (ws : List V), Same H1 H' → H' D = some (.lst ws) → DtA (D :: B) H' ws ((List.range n).filterMap e) → Qd H') :
    ∃ W : Nat → Nat → Hp → Prop, (∃ m, W 0 m (upd H1 D (.lst []))) ∧ ∀ i m H, W i m H →
      (J.stop i H ∧ Qd H) ∨ (J.go i H ∧ ∃ Nx : Hp → Prop, (∀ H', Nx H' → ∃ m', m' < m ∧ W (i + 1) m' H') ∧ ∀ x H', J.yld i H x H' → g x (wipe σ vs) H' fun σ2 H2 => wipe σ2 vs = wipe σ vs ∧ tt σ2 H2 fun b H3 =>
        if b = true then te σ2 H3 fun y H4 => ∃ acc, H4 D = some (.lst acc) ∧ acc.length < sizeLine ∧ Nx (upd H4 D (.lst (acc ++ [y]))) else Nx H3) := by
  refine lc_it w (fun i H' => Same H1 H' ∧ ∃ ws, H' D = some (.lst ws) ∧ DtA (D :: B) H' ws ((List.range i).filterMap e) ∧ ws.length ≤ i) ⟨sm_new hD, [], upd_same, .nil, Nat.le_refl _⟩ (fun i H' _ h => hG H' h.1) (fun i x H' H'' hi h y => ?_) (fun H' h => ?_)
  · obtain ⟨s1, ws, eD, hA, hl⟩ := h
    have hb : Bk (D :: B) H' := (hB.go (Go.of (B := B) s1)).cons eD
    refine hs i x H' H'' _ _ hi s1 hb y (fun y H4 d ed s4 hy => ?_) (fun H3 ed s3 => ?_)
    · refine ⟨ws, s4 _ _ eD, sz (by omega), sm_mut (s1.trans s4) hD, ws ++ [y], upd_same, ?_, by simp; omega⟩
      rw [List.range_succ, List.filterMap_append]
      have g4 : Go (D :: B) H4 (upd H4 D (.lst (ws ++ [y]))) := Go.refl.at (List.mem_cons_self ..)
      refine DtA.app ((hA.s s4).g g4) ?_
      simp only [List.filterMap_cons, List.filterMap_nil, ed]
      exact .one (hy.g g4)
    · refine ⟨s1.trans s3, ws, s3 _ _ eD, ?_, by omega⟩
      rw [List.range_succ, List.filterMap_append]
      simp only [List.filterMap_cons, List.filterMap_nil, ed, List.append_nil]
      exact hA.s s3
  · obtain ⟨s1, ws, eD, hA, hl⟩ := h
    exact hd H' ws s1 eD hA
theorem fm_take {α : Type} (ys : List α) : ∀ n, (List.range n).filterMap (fun i => ys[i]?) = ys.take n
  | 0 => by simp
  | n + 1 => by
    rw [List.range_succ, List.filterMap_append, fm_take ys n, List.take_add_one]
    cases h : ys[n]? <;> simp [h]
theorem fm_all {α : Type} {ys : List α} {n : Nat} (h : ys.length = n) : (List.range n).filterMap (fun i => ys[i]?) = ys := by
  rw [fm_take, ← h, List.take_length]
theorem at0 {α : Type} {xs : List α} {i : Int} {v : α} (h : 0 ≤ i) (e : xs[i.toNat]? = some v) : atI xs i = some v := by
  have := atI_nat e
  rw [Int.toNat_of_nonneg h] at this
  exact this
theorem bit_ok (b : Bool) : (-(2 ^ 64) : Int) < (if b = true then 1 else 0) ∧ (if b = true then 1 else 0 : Int) < 2 ^ 64 := by cases b <;> decide
theorem md {j : Int} (h : 0 < j) : 0 < j := h
theorem at_in {xs : List V} {r : Int} (h0 : 0 ≤ r) (h1 : r < xs.length) : ∃ v, v ∈ xs ∧ atI xs r = some v := by
  have h : r.toNat < xs.length := by omega
  exact ⟨xs[r.toNat], List.getElem_mem h, at0 h0 (List.getElem?_eq_getElem h)⟩
theorem at_int {ns : List Int} {r : Int} (h0 : 0 ≤ r) (h1 : r < ns.length) : ∃ z, z ∈ ns ∧ atI (ns.map V.int) r = some (.int z) := by
  have h : r.toNat < ns.length := by omega
  exact ⟨ns[r.toNat], List.getElem_mem h, at0 h0 (by rw [List.getElem?_map, List.getElem?_eq_getElem h]; rfl)⟩
theorem at2 (x y : V) (b : Bool) : atI [x, y] (if b = true then 1 else 0) = some (if b = true then y else x) := by cases b <;> rfl
/-- numbers within bounds -/
def cIn (lo hi : Int) (ns : List Int) : Prop := ∀ x ∈ ns, lo ≤ x ∧ x ≤ hi
theorem cIn.app {lo hi x : Int} {ns : List Int} (h : cIn lo hi ns) (h1 : lo ≤ x) (h2 : x ≤ hi) : cIn lo hi (ns ++ [x]) := fun y hy => by
  rcases List.mem_append.mp hy with q | q
  · exact h y q
  · rw [List.mem_singleton.mp q]
    exact ⟨h1, h2⟩
theorem cIn.nil {lo hi : Int} : cIn lo hi [] := fun _ h => nomatch h
theorem cIn.mono {lo hi lo' hi' : Int} {ns : List Int} (h : cIn lo hi ns) (h1 : lo' ≤ lo) (h2 : hi ≤ hi') : cIn lo' hi' ns := fun x hx => by
  have := h x hx
  omega
/-- a comprehension of drawn numbers -/
theorem lc_ints {J : It} {n : Nat} {G : Hp → Prop} {Y : Nat → Hp → V → Hp → Prop} (w : Walk J n G Y) {g : TG} {tt : TT} {te : TE} {vs : List Nat} {σ : L2.St} {H1 : Hp} {D L : Addr} {Qd : Hp → Prop} (N u : Nat) (lo hi : Int)
    (hD : H1 D = none) (hL : Lf L H1 N) (hG : ∀ H', Go [L] H1 H' → G H') (hn : n ≤ 100000)
    (hs : ∀ (i : Nat) (x : V) (H' H'' : Hp) (Ny : V → Hp → Prop) (Nn : Hp → Prop), i < n → Go [L] H1 H' → Lf L H' (N + u * i) → Y i H' x H'' → (∀ (z : Int) H4, Go [L] H' H4 → Lf L H4 (N + u * i + u) → lo ≤ z → z ≤ hi → Ny (.int z) H4) →
      g x (wipe σ vs) H'' fun σ2 H2 => wipe σ2 vs = wipe σ vs ∧ tt σ2 H2 fun b H3 => if b = true then te σ2 H3 Ny else Nn H3)
    (hd : ∀ (H' : Hp) (ns : List Int), Go [L] H1 H' → Lf L H' (N + u * n) → H' D = some (.lst (ns.map V.int)) → ns.length = n → cIn lo hi ns → Qd H') :
    ∃ W : Nat → Nat → Hp → Prop, (∃ m, W 0 m (upd H1 D (.lst []))) ∧ ∀ i m H, W i m H →
      (J.stop i H ∧ Qd H) ∨ (J.go i H ∧ ∃ Nx : Hp → Prop, (∀ H', Nx H' → ∃ m', m' < m ∧ W (i + 1) m' H') ∧ ∀ x H', J.yld i H x H' → g x (wipe σ vs) H' fun σ2 H2 => wipe σ2 vs = wipe σ vs ∧ tt σ2 H2 fun b H3 =>
        if b = true then te σ2 H3 fun y H4 => ∃ acc, H4 D = some (.lst acc) ∧ acc.length < sizeLine ∧ Nx (upd H4 D (.lst (acc ++ [y]))) else Nx H3) := by
  have nD : D ∉ [L] := hL.bk.ne hD
  refine lc_it w (fun i H' => Go [L] H1 H' ∧ Lf L H' (N + u * i) ∧ ∃ ns : List Int, H' D = some (.lst (ns.map V.int)) ∧ ns.length = i ∧ cIn lo hi ns) ⟨Go.new hD, hL.new hD, [], upd_same, rfl, cIn.nil⟩ (fun i H' _ h => hG H' h.1) (fun i x H' H'' hi h y => ?_) (fun H' h => ?_)
  · obtain ⟨g1, l1, ns, eD, en, cn⟩ := h
    refine hs i x H' H'' _ _ hi g1 l1 y (fun z H4 g4 l4 z0 z1 => ?_)
    refine ⟨ns.map V.int, g4.k D _ nD eD, sz (by rw [List.length_map]; omega), (g1.trans g4).mut hD, (l4.up (hL.ne hD)).mono (by rw [Nat.mul_succ]; omega), ns ++ [z], ?_, by simp; omega, cn.app z0 z1⟩
    rw [upd_same, List.map_append]
    rfl
  · obtain ⟨g1, l1, ns, eD, en, cn⟩ := h
    exact hd H' ns g1 l1 eD en cn
theorem mat {a : List Int} {i : Nat} {x : V} (h : i < a.length) (e : (a.map V.int)[i]? = some x) : x = .int a[i] := by
  rw [List.getElem?_map, List.getElem?_eq_getElem h] at e
  exact (Option.some.inj e).symm
end Z

set_option Elab.async false
set_option linter.all false
set_option maxRecDepth 100000
namespace Z
open PySem PySem.Spec PyProof.Rows L2
open PySem.W (dataLt minD alike alikeAll dataLt_tuple dataLt_all_yes dataLt_all_no dataLt_int min_list_data readsAll_at reads_keeps AlikeAll)
/-! ### the least of pairs -/
def enc (p : Int × Int) : PyData := eC [p.1, p.2]
theorem enc_inj {p q : Int × Int} (h : enc p = enc q) : p = q := by
  have h1 : [PyData.int p.1, PyData.int p.2] = [PyData.int q.1, PyData.int q.2] := by
    unfold enc eC at h
    exact PyData.tuple.inj h
  have h2 := (List.cons.inj h1)
  have h3 := (List.cons.inj h2.2)
  exact Prod.ext (PyData.int.inj h2.1) (PyData.int.inj h3.1)
theorem lt_enc (p q : Int × Int) : dataLt (enc p) (enc q) = SrtO.lexB p q := by
  unfold enc eC
  rw [dataLt_tuple]
  simp only [List.map_cons, List.map_nil]
  unfold SrtO.lexB
  by_cases h : p.1 = q.1
  · rw [if_pos h, dataLt_all_yes (by rfl) (by simp [PyData.eqv, h])]
    by_cases h2 : p.2 = q.2
    · rw [dataLt_all_yes (by rfl) (by simp [PyData.eqv, h2]), decide_eq_false (by omega)]
      rfl
    · rw [dataLt_all_no (by rfl) (by simp [PyData.eqv, h2]), dataLt_int]
  · rw [if_neg h, dataLt_all_no (by rfl) (by simp [PyData.eqv, h]), dataLt_int]
def minP (p : Int × Int) (ps : List (Int × Int)) : Int × Int := ps.foldl (fun a y => if SrtO.lexB y a then y else a) p
theorem minD_enc (p : Int × Int) (ps : List (Int × Int)) : minD (enc p) (ps.map enc) = enc (minP p ps) := by
  unfold minD minP
  induction ps generalizing p with
  | nil => rfl
  | cons x r ih =>
    rw [List.map_cons, List.foldl_cons, List.foldl_cons, lt_enc]
    by_cases h : SrtO.lexB x p = true
    · rw [if_pos h, if_pos h]; exact ih x
    · rw [if_neg h, if_neg h]; exact ih p
theorem minP_le (p : Int × Int) (ps : List (Int × Int)) : ∀ q ∈ p :: ps, SrtO.lexB q (minP p ps) = false := by
  unfold minP
  induction ps generalizing p with
  | nil =>
    intro q hq
    rw [List.mem_singleton.mp hq]
    exact SrtO.lexB_no.mpr (by simp only [List.foldl_nil]; omega)
  | cons x r ih =>
    intro q hq
    rw [List.foldl_cons]
    by_cases h : SrtO.lexB x p = true
    · rw [if_pos h]
      rcases List.mem_cons.mp hq with e | e
      · have i1 := SrtO.lexB_no.mp (ih x x (List.mem_cons_self ..))
        have i2 := SrtO.lexB_iff.mp h
        rw [e]
        exact SrtO.lexB_no.mpr (by omega)
      · exact ih x q e
    · rw [if_neg h]
      rcases List.mem_cons.mp hq with e | e
      · exact ih p q (by rw [e]; exact List.mem_cons_self ..)
      · rcases List.mem_cons.mp e with e | e
        · have i1 := SrtO.lexB_no.mp (ih p p (List.mem_cons_self ..))
          have i2 := SrtO.lexB_no.mp (Bool.eq_false_iff.mpr h)
          rw [e]
          exact SrtO.lexB_no.mpr (by omega)
        · exact ih p q (List.mem_cons_of_mem _ e)
theorem alike_enc (p q : Int × Int) : alike (enc p) (enc q) = true := by
  unfold enc eC
  simp [alike, alikeAll]
theorem dep_enc : ∀ ps : List (Int × Int), PyData.depthAll (ps.map enc) ≤ 1
  | [] => Nat.zero_le _
  | p :: ps => by
    rw [List.map_cons, PyData.depthAll]
    exact Nat.max_le.mpr ⟨(sh_eC (ns := [p.1, p.2]) (by simp)).2.1, dep_enc ps⟩
/-- min(xs), xs a list of pairs of ints: one of the least -/
def rMinP (K : PySem.W.Frag) : List V → Hp → VK → Prop := fun vs H Q => ∃ (a : Addr) (xs : List V) (p : Int × Int) (ps : List (Int × Int)), vs = [V.ref a] ∧ SqL K H a xs ∧ DpAll K H xs ((p :: ps).map enc) ∧
  ∀ (i : Nat) (x : V), xs[i]? = some x → (p :: ps)[i]? = some (minP p ps) → Q x H
theorem cr_minP (K : PySem.W.Frag) {X : Cx} (hc : X.calm = true) (hu : X.A.units + 64 < cLine) (hK : X.K = K := by rfl) : CallR X (.builtin "min") (rMinP K) := by
  subst hK
  intro pins s σ H vs us Q I r h
  obtain ⟨a, xs, p, ps, rfl, hs, hd, q⟩ := h
  obtain ⟨its, rv, hl, hz⟩ := I.list hs
  obtain ⟨u, rfl, ru⟩ := vals1 r
  obtain rfl : u = Value.ref a := ru
  obtain ⟨as, hr⟩ := Dp.readsAll I _ xs its hd rv
  rw [List.map_cons] at hr
  have hdep := dep_enc (p :: ps)
  rw [List.map_cons] at hdep
  refine min_list_data (x := enc p) (xs := ps.map enc) (I.ok.hd hc) hl.isList (by simpa using hr) ⟨fun x hx y hy => ?_, fun x hx => ?_⟩ (by omega) fun i v h' tk bs hv rd hk => ?_
  · rw [← List.map_cons] at hx hy
    obtain ⟨x, _, rfl⟩ := List.mem_map.mp hx
    obtain ⟨y, _, rfl⟩ := List.mem_map.mp hy
    exact alike_enc x y
  · rw [← List.map_cons] at hx
    obtain ⟨x, _, rfl⟩ := List.mem_map.mp hx
    intro z
    unfold enc eC at z
    cases z
  · have hv2 : its[i]? = some v := by simpa using hv
    have hi : i < its.length := (List.getElem?_eq_some_iff.mp hv2).1
    have hi2 : i < xs.length := by rw [rv.length]; exact hi
    obtain ⟨w, hw, rw1⟩ := rv.get (List.getElem?_eq_getElem hi2)
    have ew : w = v := Option.some.inj (hw.symm.trans hv2)
    subst ew
    obtain ⟨cs, r1, l1, m1, _⟩ := readsAll_at hr i w hv2
    rw [← List.map_cons] at l1 m1 r1
    rw [List.length_map] at l1
    have eg : ((p :: ps).map enc).getD i .none = enc (p :: ps)[i] := by
      rw [List.getD_eq_getElem?_getD, List.getElem?_map, List.getElem?_eq_getElem l1]
      rfl
    rw [eg] at r1
    rw [minD_enc] at rd
    have ee := SeqAt.Reads.unique _ _ _ _ _ (sh_eC (ns := [((p :: ps)[i]).1, ((p :: ps)[i]).2]) (by simp)).1 (reads_keeps hk r1) rd
    have ep : (p :: ps)[i] = minP p ps := enc_inj ee
    exact ⟨xs[i], H, I.kept (t' := tk) hk, rw1, q i _ (List.getElem?_eq_getElem hi2) (by rw [List.getElem?_eq_getElem l1, ep])⟩
theorem DtA.rev {B : List Addr} {H : Hp} : ∀ {vs : List V} {ds : List PyData}, DtA B H vs ds → DtA B H vs.reverse ds.reverse
  | [], _, h => by
    cases h
    exact .nil
  | v :: vs, _, h => by
    cases h with
    | cons h1 h2 =>
      rw [List.reverse_cons, List.reverse_cons]
      exact (DtA.rev h2).app (.one h1)
theorem DtA.dP {K : PySem.W.Frag} {B : List Addr} {H : Hp} {vs : List V} {ds : List PyData} (h : DtA B H vs ds) : DpAll K H vs ds := DtA.dp ds vs h
/-- a comprehension of drawn data -/
theorem lc_dtsB {J : It} {n : Nat} {G : Hp → Prop} {Y : Nat → Hp → V → Hp → Prop} (w : Walk J n G Y) {g : TG} {tt : TT} {te : TE} {vs : List Nat} {σ : L2.St} {H1 : Hp} {D L : Addr} {B : List Addr} {Qd : Hp → Prop} (N u : Nat) (Pd : PyData → Prop)
    (hD : H1 D = none) (hL : Lf L H1 N) (LB : L ∈ B) (hB : Bk B H1) (hG : ∀ H', Go [L] H1 H' → G H') (hn : n ≤ 100000)
    (hs : ∀ (i : Nat) (x : V) (H' H'' : Hp) (Ny : V → Hp → Prop) (Nn : Hp → Prop), i < n → Go [L] H1 H' → Lf L H' (N + u * i) → Bk (D :: B) H' → Y i H' x H'' → (∀ (v : V) (d : PyData) H4, Go [L] H' H4 → Lf L H4 (N + u * i + u) → Dt (D :: B) H4 v d → Pd d → Ny v H4) →
      g x (wipe σ vs) H'' fun σ2 H2 => wipe σ2 vs = wipe σ vs ∧ tt σ2 H2 fun b H3 => if b = true then te σ2 H3 Ny else Nn H3)
    (hd : ∀ (H' : Hp) (ws : List V) (ds : List PyData), Go [L] H1 H' → Lf L H' (N + u * n) → H' D = some (.lst ws) → DtA (D :: B) H' ws ds → ds.length = n → (∀ d ∈ ds, Pd d) → Qd H') :
    ∃ W : Nat → Nat → Hp → Prop, (∃ m, W 0 m (upd H1 D (.lst []))) ∧ ∀ i m H, W i m H →
      (J.stop i H ∧ Qd H) ∨ (J.go i H ∧ ∃ Nx : Hp → Prop, (∀ H', Nx H' → ∃ m', m' < m ∧ W (i + 1) m' H') ∧ ∀ x H', J.yld i H x H' → g x (wipe σ vs) H' fun σ2 H2 => wipe σ2 vs = wipe σ vs ∧ tt σ2 H2 fun b H3 =>
        if b = true then te σ2 H3 fun y H4 => ∃ acc, H4 D = some (.lst acc) ∧ acc.length < sizeLine ∧ Nx (upd H4 D (.lst (acc ++ [y]))) else Nx H3) := by
  have nD : D ∉ [L] := hL.bk.ne hD
  refine lc_it w (fun i H' => Go [L] H1 H' ∧ Lf L H' (N + u * i) ∧ ∃ ws ds, H' D = some (.lst ws) ∧ DtA (D :: B) H' ws ds ∧ ds.length = i ∧ ∀ d ∈ ds, Pd d) ⟨Go.new hD, hL.new hD, [], [], upd_same, .nil, rfl, fun _ h => (nomatch h)⟩ (fun i H' _ h => hG H' h.1) (fun i x H' H'' hi h y => ?_) (fun H' h => ?_)
  · obtain ⟨g1, l1, ws, ds, eD, hA, en, hp⟩ := h
    refine hs i x H' H'' _ _ hi g1 l1 ((hB.go g1).cons eD) y (fun z d H4 g4 l4 dz pd => ?_)
    have gm : Go (D :: B) H4 (upd H4 D (.lst (ws ++ [z]))) := Go.refl.at (List.mem_cons_self ..)
    have lw := hA.len
    refine ⟨ws, g4.k D _ nD eD, sz (by omega), (g1.trans g4).mut hD, (l4.up (hL.ne hD)).mono (by rw [Nat.mul_succ]; omega), ws ++ [z], ds ++ [d], upd_same, ((hA.g (g4.w1 (List.mem_cons_of_mem _ LB))).g gm).app (.one (dz.g gm)), by simp; omega, fun e he => ?_⟩
    rcases List.mem_append.mp he with he | he
    · exact hp e he
    · rw [List.mem_singleton.mp he]
      exact pd
  · obtain ⟨g1, l1, ws, ds, eD, hA, en, hp⟩ := h
    exact hd H' ws ds g1 l1 eD hA en hp
/-- a part of a list -/
def cutL {α : Type} (xs : List α) (lo hi : Option Int) : List α := (xs.drop (HT.sIx xs.length 0 lo)).take (HT.sIx xs.length xs.length hi - HT.sIx xs.length 0 lo)
theorem cutL_sub {α : Type} {xs : List α} {lo hi : Option Int} {x : α} (h : x ∈ cutL xs lo hi) : x ∈ xs := List.mem_of_mem_drop (List.mem_of_mem_take h)
theorem cutL_len {α : Type} (xs : List α) (lo hi : Option Int) : (cutL xs lo hi).length ≤ xs.length := by
  unfold cutL
  rw [List.length_take, List.length_drop]
  omega
theorem DtA.drop {B : List Addr} {H : Hp} : ∀ (n : Nat) {vs : List V} {ds : List PyData}, DtA B H vs ds → DtA B H (vs.drop n) (ds.drop n)
  | 0, _, _, h => h
  | n + 1, [], _, h => by cases h; exact .nil
  | n + 1, v :: vs, _, h => by
    cases h with
    | cons h1 h2 => exact DtA.drop n h2
theorem DtA.take {B : List Addr} {H : Hp} : ∀ (n : Nat) {vs : List V} {ds : List PyData}, DtA B H vs ds → DtA B H (vs.take n) (ds.take n)
  | 0, _, _, h => .nil
  | n + 1, [], _, h => by cases h; exact .nil
  | n + 1, v :: vs, _, h => by
    cases h with
    | cons h1 h2 => exact .cons h1 (DtA.take n h2)
theorem DtA.cut {B : List Addr} {H : Hp} {vs : List V} {ds : List PyData} (h : DtA B H vs ds) (lo hi : Option Int) : DtA B H (cutV vs lo hi) (cutL ds lo hi) := by
  unfold cutV cutL
  rw [h.len]
  exact DtA.take _ (DtA.drop _ h)
theorem slice_dt {K : PySem.W.Frag} {B : List Addr} {H : Hp} {x : V} {ds : List PyData} {lo hi : Option Int} {Q : VK} (hx : Dt B H x (.tuple ds)) (hB : Bk B H) (q : ∀ v H', Same H H' → Dt B H' v (.tuple (cutL ds lo hi)) → Q v H') : rSlA K x lo hi H Q := by
  obtain ⟨a, vs, rfl, na, ha, hA⟩ := hx.tupI
  refine ⟨a, vs, rfl, SqT.of ha, fun h => q _ H (Same.refl _) ?_, fun _ p hp => q _ _ (sm_new hp) (.tup (hB.ne hp) upd_same ((hA.cut lo hi).s (sm_new hp)))⟩
  have e : cutL ds lo hi = ds := by
    unfold cutL
    rw [← hA.len, h.1, h.2, List.drop_zero, Nat.sub_zero, hA.len, List.take_length]
  rw [e]
  exact hx
theorem cat_dt {K : PySem.W.Frag} {B : List Addr} {H : Hp} {x y : V} {xs ys : List PyData} {Q : VK} (hx : Dt B H x (.tuple xs)) (hy : Dt B H y (.tuple ys)) (hB : Bk B H) (l : xs.length + ys.length ≤ 100000) (q : ∀ v H', Same H H' → Dt B H' v (.tuple (xs ++ ys)) → Q v H') : rCatA K x y H Q := by
  obtain ⟨a, vs, rfl, na, ha, hA⟩ := hx.tupI
  obtain ⟨b, ws, rfl, nb, hb, hC⟩ := hy.tupI
  have l1 := hA.len
  have l2 := hC.len
  refine ⟨a, b, vs, ws, rfl, rfl, SqT.of ha, SqT.of hb, Nat.le_of_lt (sz (by omega)), fun e => ?_, fun _ e => ?_, fun _ _ p hp => q _ _ (sm_new hp) (.tup (hB.ne hp) upd_same ((hA.app hC).s (sm_new hp)))⟩
  · subst e
    have : xs = [] := List.eq_nil_of_length_eq_zero (by rw [← l1]; rfl)
    subst this
    exact q _ H (Same.refl _) hy
  · subst e
    have : ys = [] := List.eq_nil_of_length_eq_zero (by rw [← l2]; rfl)
    subst this
    exact q _ H (Same.refl _) (by rw [List.append_nil]; exact hx)
theorem sh_cut {ds : List PyData} {k : Nat} {lo hi : Option Int} (h : Sh (.tuple ds) k) : Sh (.tuple (cutL ds lo hi)) k := by
  obtain ⟨j, rfl, h1, h2⟩ := h.tupI
  exact sh_tup (Nat.le_trans (cutL_len _ _ _) h2) fun d hd => h1 d (cutL_sub hd)
theorem sh_cat {xs ys : List PyData} {k : Nat} (h1 : Sh (.tuple xs) k) (h2 : Sh (.tuple ys) k) (l : xs.length + ys.length ≤ 100000) : Sh (.tuple (xs ++ ys)) k := by
  obtain ⟨j, rfl, a1, a2⟩ := h1.tupI
  obtain ⟨j', e, b1, b2⟩ := h2.tupI
  have : j = j' := by omega
  subst this
  exact sh_tup (by simpa using l) fun d hd => by
    rcases List.mem_append.mp hd with h | h
    · exact a1 d h
    · exact b1 d h
/-! ### a comprehension in another one -/
def FrAll (sc : Scope) : List Str → Prop
  | [] => True
  | x :: xs => (sc.names.lookup x = some .cell ∨ sc.names.lookup x = some .free) ∧ FrAll sc xs
theorem FrAll.mem {sc : Scope} : ∀ {xs : List Str}, FrAll sc xs → ∀ x ∈ xs, sc.names.lookup x = some .cell ∨ sc.names.lookup x = some .free
  | [], _, _, h => nomatch h
  | y :: ys, h, x, hx => by
    rcases List.mem_cons.mp hx with e | e
    · rw [e]; exact h.1
    · exact FrAll.mem h.2 x e
def frC (fr : List Str) (scope : Scope) : Bool := scope.names.all fun y => match y.2 with
  | .free => decide (y.1 ∈ fr)
  | _ => true
theorem blkOk_in {N : List Str} {sc scope : Scope} {own : List (Str × Nat)} (fr : List Str) (h : blkC N { kind := .function, names := fr.map fun x => (x, .free), isGenerator := false, isCoroutine := false } scope own = true) (h2 : frC fr scope = true) (hf : FrAll sc fr) : BlkOk N sc scope own := by
  have b := blkOk_by h
  refine ⟨b.kind, b.uniq, b.ix, fun y hy e => ?_, b.own⟩
  have := List.all_eq_true.mp h2 y hy
  rw [e] at this
  exact hf.mem _ (of_decide_eq_true this)
end Z

set_option Elab.async false
set_option linter.all false
set_option maxRecDepth 100000
set_option maxHeartbeats 400000
namespace Z
open PySem PySem.Spec PyProof.Rows L2
/-! ### '9' * n, and its number -/
def nines (n : Nat) : Str := ⟨(List.replicate n (Str.ofString "9").cps).foldl (· ++ ·) #[]⟩
theorem nines_int : ∀ i : Fin 41, 1 ≤ i.val → PySem.intText? (nines i.val) = some ((10 : Int) ^ i.val - 1) ∧ (nines i.val).length ≤ 640 := by decide +kernel
def rRep9 : R2 := fun x y H Q => ∃ n : Int, x = .str "9" ∧ y = .int n ∧ 1 ≤ n ∧ n ≤ 40 ∧ Q (.str (nines n.toNat)) H
theorem op_rep9 {X : Cx} : OpR X (binaryOp .Mult) rRep9 := by
  intro pins s σ H x y v u Q I rx ry h
  obtain ⟨n, rfl, rfl, n1, n2, q⟩ := h
  obtain ⟨t, rfl⟩ := rx
  obtain ⟨t', rfl⟩ := ry
  have l9 : (Str.ofString "9").length = 1 := by decide
  refine P.mul_str ?_ (fun _ _ => ?_) (fun _ _ => ?_) ?_
  · rw [decide_eq_false (by omega), decide_eq_false (by omega)]; rfl
  · rw [l9]
    have : (1 : Int) ≤ (2 ^ 63 - 1) / n := Int.le_ediv_of_mul_le (by omega) (by omega)
    omega
  · rw [l9, Nat.one_mul]
    have : n.toNat ≤ 40 := by omega
    show decide (n.toNat > sizeLine) = false
    exact decide_eq_false (fun h => absurd (Nat.lt_of_lt_of_le h this) (by decide))
  · rw [if_neg (by omega)]
    by_cases e : n = 1
    · subst e
      exact ⟨.str (nines 1), H, I, ⟨t, rfl⟩, q⟩
    · have e2 : ((n == 1) || (Str.ofString "9").length == 0) = false := by
        rw [l9]
        simp [e]
      rw [e2, if_neg Bool.false_ne_true]
      refine ⟨?_, .str (nines n.toNat), H, I.tok _, ⟨_, rfl⟩, q⟩
      exact Nat.le_trans (nines_int ⟨n.toNat, by omega⟩ (by show 1 ≤ n.toNat; omega)).2 (by decide)
/-! ### fractions: the greatest measure -/
def ab (t : Int) : Nat := t.natAbs
def gm (t b : Int) : Nat := Nat.gcd t.natAbs b.natAbs
def pn (t b : Int) : Int := (if b < 0 then -t else t) / (gm t b : Int)
def pd (t b : Int) : Int := (if b < 0 then -b else b) / (gm t b : Int)
theorem gm_pos {t b : Int} (h : b ≠ 0) : 0 < gm t b := Nat.gcd_pos_of_pos_right _ (by omega)
theorem gm_le {t b : Int} (h : b ≠ 0) : gm t b ≤ b.natAbs := Nat.gcd_le_right _ (by omega)
theorem pd_pos {t b : Int} (h : b ≠ 0) : 0 < pd t b := by
  have h1 := gm_pos (t := t) h
  have h2 := gm_le (t := t) h
  unfold pd
  have : (1 : Int) ≤ (if b < 0 then -b else b) / (gm t b : Int) := Int.le_ediv_of_mul_le (by omega) (by split <;> omega)
  omega
theorem pd_le {t b : Int} (h : b ≠ 0) : pd t b ≤ (b.natAbs : Int) := by
  have h1 := gm_pos (t := t) h
  unfold pd
  have h2 : (if b < 0 then -b else b) = (b.natAbs : Int) := by split <;> omega
  rw [h2]
  exact Int.ediv_le_self _ (by omega)
theorem ediv_natAbs {x g : Int} (h : 0 < g) : (x / g).natAbs ≤ x.natAbs := by
  rcases Int.le_total 0 x with h1 | h1
  · have a := Int.ediv_nonneg h1 (Int.le_of_lt h)
    have b := Int.ediv_le_self g h1
    omega
  · have a : x ≤ x / g := Int.le_ediv_of_mul_le h (by
      have : x * g ≤ x * 1 := Int.mul_le_mul_of_nonpos_left h1 (by omega)
      omega)
    have b : x / g < 1 := Int.ediv_lt_of_lt_mul h (by omega)
    omega
theorem pn_le {t b : Int} (h : b ≠ 0) : (pn t b).natAbs ≤ t.natAbs := by
  have h1 := gm_pos (t := t) h
  unfold pn
  refine Nat.le_trans (ediv_natAbs (by omega)) ?_
  split <;> omega
/-! ### // by a great number of either sign -/
def CDivN2 (_ j : Int) : Prop := j ≠ 0 ∧ j.natAbs.log2 < 9000
theorem op_fdivM {X : Cx} : OpR X (binaryOp .FloorDiv) (rI CDivN2 fun i j => .int (i.fdiv j)) := opI fun _ _ _ _ _ _ _ hc q => floordiv_int hc.1 q (.inl (PyProof.noPylong_of_log2 hc.2))
theorem fdiv_neg' {t g : Int} (h : 0 < g) : t.fdiv (-g) = (-t) / g := by
  have e : t.fdiv (-g) = (-t).fdiv g := by
    rw [← Int.neg_fdiv_neg (-t) g, Int.neg_neg]
  rw [e, Int.fdiv_eq_ediv_of_nonneg _ (by omega)]
theorem gm_dvd_l (t b : Int) : (gm t b : Int) ∣ t := Int.ofNat_dvd_left.mpr (Nat.gcd_dvd_left _ _)
theorem gm_dvd_r (t b : Int) : (gm t b : Int) ∣ b := Int.ofNat_dvd_left.mpr (Nat.gcd_dvd_right _ _)
theorem pn_mul {t b : Int} (h : b ≠ 0) : pn t b * (gm t b : Int) = if b < 0 then -t else t := by
  unfold pn
  refine Int.ediv_mul_cancel ?_
  split
  · exact Int.dvd_neg.mpr (gm_dvd_l t b)
  · exact gm_dvd_l t b
theorem pd_mul {t b : Int} (h : b ≠ 0) : pd t b * (gm t b : Int) = if b < 0 then -b else b := by
  unfold pd
  refine Int.ediv_mul_cancel ?_
  split
  · exact Int.dvd_neg.mpr (gm_dvd_r t b)
  · exact gm_dvd_r t b
theorem cross {t b : Int} (h : b ≠ 0) : pn t b * b = t * pd t b := by
  have g0 : (gm t b : Int) ≠ 0 := by have := gm_pos (t := t) h; omega
  have e1 := pn_mul (t := t) h
  have e2 := pd_mul (t := t) h
  refine Int.eq_of_mul_eq_mul_right g0 ?_
  have a1 : pn t b * b * (gm t b : Int) = (pn t b * (gm t b : Int)) * b := by rw [Int.mul_assoc, Int.mul_comm b, ← Int.mul_assoc]
  have a2 : t * pd t b * (gm t b : Int) = t * (pd t b * (gm t b : Int)) := Int.mul_assoc ..
  rw [a1, a2, e1, e2]
  split
  · rw [Int.neg_mul, Int.mul_neg]
  · rfl
theorem gm_low {t b : Int} (h : b ≠ 0) : gm (pn t b) (pd t b) = 1 := by
  have gp := gm_pos (t := t) h
  have e1 := pn_mul (t := t) h
  have e2 := pd_mul (t := t) h
  have n1 : (pn t b).natAbs * gm t b = t.natAbs := by
    have := congrArg Int.natAbs e1
    rw [Int.natAbs_mul, Int.natAbs_natCast] at this
    rw [this]
    split <;> omega
  have n2 : (pd t b).natAbs * gm t b = b.natAbs := by
    have := congrArg Int.natAbs e2
    rw [Int.natAbs_mul, Int.natAbs_natCast] at this
    rw [this]
    split <;> omega
  have h3 : gm (pn t b) (pd t b) * gm t b = gm t b := by
    show Nat.gcd (pn t b).natAbs (pd t b).natAbs * gm t b = gm t b
    rw [← Nat.gcd_mul_right, n1, n2]
    rfl
  exact Nat.eq_of_mul_eq_mul_right gp (by rw [h3, Nat.one_mul])
theorem pn_low {t b : Int} (h : b ≠ 0) : pn (pn t b) (pd t b) = pn t b := by
  have hp := pd_pos (t := t) h
  show (if pd t b < 0 then -(pn t b) else pn t b) / (gm (pn t b) (pd t b) : Int) = pn t b
  rw [gm_low h, if_neg (by omega)]
  exact Int.ediv_one _
theorem pd_low {t b : Int} (h : b ≠ 0) : pd (pn t b) (pd t b) = pd t b := by
  have hp := pd_pos (t := t) h
  show (if pd t b < 0 then -(pd t b) else pd t b) / (gm (pn t b) (pd t b) : Int) = pd t b
  rw [gm_low h, if_neg (by omega)]
  exact Int.ediv_one _
end Z

set_option Elab.async false
set_option linter.all false
set_option maxRecDepth 100000
namespace Z
open PySem PySem.Spec PyProof.Rows L2 L2.DX
/-! ### sorted(d.items()), keys tuples of ints, values ints -/
def entI (e : List Int × Int) : List L2.Key × V := (e.1.map Sum.inl, V.int e.2)
def eRow (e : List Int × Int) : PyData := .tuple [eC e.1, .int e.2]
theorem kV_ints (ns : List Int) : (ns.map Sum.inl).map kV = ns.map V.int := by
  rw [List.map_map]
  rfl
theorem reads_ints {h : Heap} : ∀ {ns : List Int} {us : List Value}, Vals (ns.map V.int) us → ReadsAll h us (ns.map .int) []
  | [], _, r => by
    cases r
    exact .nil
  | n :: ns, _, r => by
    cases r with
    | cons r1 r2 =>
      obtain ⟨t, rfl⟩ := r1
      exact ReadsAll.cons (as := []) (bs := []) (.int n t) (reads_ints r2)
theorem zipped {α β : Type} {R : α → β → Prop} : ∀ {as : List α} {bs : List β}, PySem.W.EachIs R as bs → ∃ zs : List (α × β), zs.map Prod.fst = as ∧ zs.map Prod.snd = bs ∧ ∀ z ∈ zs, R z.1 z.2
  | _, _, .nil => ⟨[], rfl, rfl, fun _ h => nomatch h⟩
  | a :: as, b :: bs, .cons h t => by
    obtain ⟨zs, e1, e2, h3⟩ := zipped t
    refine ⟨(a, b) :: zs, by rw [List.map_cons, e1], by rw [List.map_cons, e2], fun z hz => ?_⟩
    rcases List.mem_cons.mp hz with e | e
    · rw [e]; exact h
    · exact h3 z e
theorem fm_some {α : Type} (f : Nat → α) : ∀ n : Nat, (List.range n).filterMap (fun i => some (f i)) = (List.range n).map f := fun n => by
  rw [← List.filterMap_eq_map]
  rfl
def rSortII : List V → Hp → VK → Prop := fun vs H Q => ∃ (p a : Addr) (ks : List (List Int × Int)), vs = [.ref p] ∧ H p = some (itemsO p a) ∧ H a = some (.dT (ks.map entI)) ∧ ks.length ≤ 1000 ∧
  ∀ (H' : Hp) (l : Addr) (ps : List (Addr × List Int × Int)), Same H H' → H l = none → (ps.map (·.2)).Perm ks → H' l = some (.lst (ps.map fun z => V.ref z.1)) →
    (∀ z ∈ ps, ∃ q, H z.1 = none ∧ H' z.1 = some (.tup [.ref q, .int z.2.2]) ∧ H q = some (.tup (z.2.1.map V.int))) → Q (.ref l) H'
section
variable {X : Cx}
theorem set_dictU (hu : X.A.units + 64 < cLine) : PSet X rSetD := set_dict (by omega)
theorem cr_sortedII (hc : X.calm = true) (hu : X.A.units + 64 < cLine) : CallR X (.builtin "sorted") rSortII := by
  intro pins s σ H xs us Q I r h
  obtain ⟨p, a, ks, rfl, hp, ha, h64, q⟩ := h
  obtain rfl := Vals.ref1 r
  have view : s.heap.IsItemsView p a := (show ObjOk X.prog X.w H s.heap p (itemsO p a) from I.hok p _ hp).1
  obtain ⟨z, hd, xs', rel, o, es, ep, ho, hx, hdat, hes, his, hn⟩ := dt_of I.hok ha
  have l1 : (ks.map entI).length = xs'.length := Paired.length rel
  rw [List.length_map] at l1
  have l2 : es.size = xs'.length := size_of_entries hes
  have hh : X.A.handled = none := I.ok.hd hc
  refine DT.sortedI (es := es) (ep := ep) hh view ⟨o, ho, hx, hdat⟩ (by rw [sizeLine_eq]; omega) fun h' tk as hk hlt hl hG => ?_
  have lak : as.length = ks.length := by omega
  have nd : as.Nodup := List.Pairwise.imp (fun h => Nat.ne_of_lt h) hG.rise
  have pr : ∀ (j : Nat) (b : Addr), as[j]? = some b → ∃ (e : List Int × Int) (kq : Addr) (t : Tok), ks[j]? = some e ∧ H kq = some (.tup (e.1.map V.int)) ∧ h'.get? b = some { cls := .type "tuple", data := .seq #[Value.ref kq, Value.int e.2 t] } := by
    intro j b hj
    obtain ⟨en, he, hg⟩ := hG.pairs j b hj
    rw [entry_at hes j] at he
    cases hxj : xs'[j]? with
    | none =>
      rw [hxj] at he
      exact nomatch (show (none : Option DictEntry) = some en from he)
    | some x =>
      rw [hxj] at he
      have een : entryOfKey (tupleKind (mixKind X.prog X.w)) x = en := Option.some.inj he
      obtain ⟨e0, he0, r1, r2, r3⟩ := pget rel hxj
      rw [List.getElem?_map] at he0
      cases hkj : ks[j]? with
      | none =>
        rw [hkj] at he0
        exact nomatch (show (none : Option (List L2.Key × V)) = some e0 from he0)
      | some e =>
        rw [hkj] at he0
        have ee : entI e = e0 := Option.some.inj he0
        rw [← ee] at r2 r3
        obtain ⟨t, r3'⟩ : ∃ t, x.2.2 = Value.int e.2 t := r3
        refine ⟨e, x.2.1, t, rfl, ?_, ?_⟩
        · have r2' : H x.2.1 = some (.tup ((e.1.map Sum.inl).map kV)) := r2
          rw [kV_ints] at r2'
          exact r2'
        · rw [hg, ← een, ← r3']
          all_goals rfl
  have hob : (h'.push { cls := .type "list", data := .seq (as.map Value.ref).toArray }).get? h'.objs.size = some (seqObj "list" (as.map Value.ref).toArray 0) := Heap.get?_push_size _ rfl
  have kb : ∀ b o, s.heap.get? b = some o → (h'.push { cls := .type "list", data := .seq (as.map Value.ref).toArray }).get? b = some o := fun b o e => Heap.get?_push_of_some _ (hk b o e)
  have ne0 : ∀ b o, h'.get? b = some o → b ≠ h'.objs.size := fun b o e => Nat.ne_of_lt (Heap.lt_size e)
  generalize hh2 : h'.push { cls := .type "list", data := .seq (as.map Value.ref).toArray } = h2 at hob kb ⊢
  have ka : ∀ b o, h'.get? b = some o → h2.get? b = some o := fun b o e => by rw [← hh2]; exact Heap.get?_push_of_some _ e
  have rd : ∀ (j : Nat) (b : Addr) (e : List Int × Int), as[j]? = some b → ks[j]? = some e → Reads h2 (.ref b) (eRow e) [] := by
    intro j b e hj he
    obtain ⟨e', kq, t, he', hkq, hg⟩ := pr j b hj
    have ee : e' = e := Option.some.inj (he'.symm.trans he)
    subst ee
    obtain ⟨_, its, rv, ot, hot, hct, nt, hdt⟩ := (show ObjOk X.prog X.w H s.heap kq (.tup (e'.1.map V.int)) from I.hok kq _ hkq)
    refine .tuple (ka _ _ hg) rfl rfl ?_
    refine ReadsAll.cons (as := []) (bs := []) (Reads.tuple (kb _ _ hot) hct hdt ?_) (ReadsAll.cons (as := []) (bs := []) (.int _ t) .nil)
    have := reads_ints (h := h2) rv
    simpa using this
  have lens : (as.map Value.ref).length = ks.length := by rw [List.length_map, lak]
  have zidx : ∀ pz ∈ (as.map Value.ref).zip ks, ∃ (j : Nat) (b : Addr), pz.1 = .ref b ∧ as[j]? = some b ∧ ks[j]? = some pz.2 := by
    intro pz hpz
    obtain ⟨j, hj⟩ := List.mem_iff_getElem?.mp hpz
    obtain ⟨h1, h2'⟩ := List.getElem?_zip_eq_some.mp hj
    rw [List.getElem?_map] at h1
    cases e : as[j]? with
    | none => rw [e] at h1; cases h1
    | some b =>
      rw [e] at h1
      exact ⟨j, b, (Option.some.inj h1).symm, e, h2'⟩
  refine PySem.W.list_sort_data (s := { s with heap := h2, toks := tk }) (A := X.A.in1) (n := 0) (vs := as.map Value.ref) (bs := ks) (enc := eRow) (R := fun v e => ∃ (j : Nat) (b : Addr), v = .ref b ∧ as[j]? = some b ∧ ks[j]? = some e) hob
    (PySem.W.EachIs.of_zip lens zidx) (PySem.W.EachIs.of_zip lens fun pz hpz => ?_) (PySem.W.AllAlike.of fun b b' => ?_) (PySem.W.Sortable.tuples fun b => ⟨_, _, rfl⟩) (by rw [sizeLine_eq]; omega) (fun b _ => ?_) fun out lo eo => ?_
  · obtain ⟨j, b, e1, e2, e3⟩ := zidx pz hpz
    rw [e1]
    exact ⟨[], rd j b _ e2 e3, fun h => nomatch h⟩
  · unfold eRow eC
    simp [PySem.W.alike, PySem.W.alikeAll, PySem.W.alike_ints]
  · have : (eRow b).depth = 2 := by
      unfold eRow eC
      simp [PyData.depth, PyData.depthAll, PySem.W.depth_ints]
    show X.A.units + 1 + 1 + (eRow b).depth < cLine
    omega
  · show EP X pins σ Q (.ref h'.objs.size) { s with heap := sortedHeap h2 h'.objs.size (as.map Value.ref) out.toArray, toks := tk }
    obtain ⟨zs0, z1, z2, z3⟩ := zipped eo
    -- the addresses
    obtain ⟨zs, w1, w2, w3⟩ : ∃ zs : List (Addr × List Int × Int), zs.map (fun z => Value.ref z.1) = out ∧ zs.map (·.2) = ks.mergeSort (PySem.W.dataLe false eRow) ∧ ∀ z ∈ zs, ∃ j : Nat, as[j]? = some z.1 ∧ ks[j]? = some z.2 := by
      rw [← z1, ← z2]
      clear z1 z2 eo lo
      induction zs0 with
      | nil => exact ⟨[], rfl, rfl, fun _ h => nomatch h⟩
      | cons y ys ih =>
        obtain ⟨zs, w1, w2, w3⟩ := ih fun z hz => z3 z (List.mem_cons_of_mem _ hz)
        obtain ⟨j, b, e1, e2, e3⟩ := z3 y (List.mem_cons_self ..)
        refine ⟨(b, y.2) :: zs, by rw [List.map_cons, List.map_cons, w1, e1], by rw [List.map_cons, List.map_cons, w2], fun z hz => ?_⟩
        rcases List.mem_cons.mp hz with e | e
        · rw [e]; exact ⟨j, e2, e3⟩
        · exact w3 z e
    have hperm : (zs.map (·.2)).Perm ks := by
      rw [w2]
      exact List.mergeSort_perm _ _
    have kF : ∀ b o, b ≠ h'.objs.size → h2.get? b = some o → (sortedHeap h2 h'.objs.size (as.map Value.ref) out.toArray).get? b = some o := fun b o hb e => (PyProof.Rows.sortedHeap_old hb (Heap.lt_size e)).trans e
    have kS : ∀ b o, s.heap.get? b = some o → (sortedHeap h2 h'.objs.size (as.map Value.ref) out.toArray).get? b = some o := fun b o e => kF b o (ne0 _ _ (hk b o e)) (kb b o e)
    obtain ⟨eF, heF⟩ := PyProof.Rows.sortedHeap_at (vs := as.map Value.ref) (out := out.toArray) hob
    have I1 : Inv X pins σ H { s with heap := sortedHeap h2 h'.objs.size (as.map Value.ref) out.toArray, toks := tk } := I.kept (t' := tk) kS
    have hn0 : H h'.objs.size = none := I.hok.fresh (Nat.le_of_lt hlt)
    have hlen : (zs.map fun z => V.ref z.1).length ≤ sizeLine := by
      have e := hperm.length_eq
      rw [List.length_map] at e
      rw [List.length_map, sizeLine_eq]
      omega
    have rv : Vals (zs.map fun z => V.ref z.1) out.toArray.toList := by
      show Vals _ out
      rw [← w1]
      exact vals_maps (fun z : Addr × List Int × Int => V.ref z.1) (fun z => Value.ref z.1) zs fun _ _ => rfl
    have I2 : Inv X pins σ (upd H h'.objs.size (.lst (zs.map fun z => V.ref z.1))) { s with heap := sortedHeap h2 h'.objs.size (as.map Value.ref) out.toArray, toks := tk } :=
      I1.take (h' := sortedHeap h2 h'.objs.size (as.map Value.ref) out.toArray) (t' := tk) (fun b ob _ e => e) (I.fpOk (Nat.le_of_lt hlt) hn0) ⟨hlen, out.toArray.toList, eF, rv, heF⟩
    obtain ⟨H2, I3, g, qt⟩ := takeT (P := fun b vs => ∃ (j : Nat) (e : List Int × Int) (kq : Addr), as[j]? = some b ∧ ks[j]? = some e ∧ vs = [.ref kq, .int e.2] ∧ H kq = some (.tup (e.1.map V.int))) I as _ I2 nd fun b hb => by
      obtain ⟨j, hj⟩ := List.mem_iff_getElem?.mp hb
      obtain ⟨e, kq, t, he, hkq, hg⟩ := pr j b hj
      have hbl : s.heap.objs.size ≤ b := Nat.le_of_lt (hG.above b hb)
      refine ⟨hbl, ?_, [.ref kq, .int e.2], ⟨j, e, kq, hj, he, rfl, hkq⟩, fun H3 => ⟨(by rw [sizeLine_eq]; show 2 ≤ 16777216; omega), [Value.ref kq, Value.int e.2 t], .cons rfl (.cons ⟨t, rfl⟩ .nil), ⟨_, kF _ _ (ne0 _ _ hg) (ka _ _ hg), rfl, 0, rfl⟩⟩⟩
      rw [upd_ne (ne0 _ _ hg)]
      exact I.hok.fresh hbl
    have gr : ∀ b o, H b = some o → H2 b = some o := fun b o e => g b o (by rw [upd_ne (ne_of_none e hn0)]; exact e)
    refine ⟨.ref h'.objs.size, H2, I3, rfl, q H2 h'.objs.size zs gr hn0 hperm (g _ _ upd_same) fun z' hz' => ?_⟩
    obtain ⟨i, i1, i2⟩ := w3 z' hz'
    obtain ⟨vs, ⟨j, e, kq, j1, j2, ev, hkq⟩, hH⟩ := qt z'.1 (List.mem_of_getElem? i1)
    have eij : i = j := (List.getElem?_inj (List.getElem?_eq_some_iff.mp i1).1 nd).mp (i1.trans j1.symm)
    subst eij
    have ee : e = z'.2 := Option.some.inj (j2.symm.trans i2)
    rw [ev, ee] at hH
    rw [ee] at hkq
    exact ⟨kq, I.hok.fresh (Nat.le_of_lt (hG.above _ (List.mem_of_getElem? i1))), hH, hkq⟩
end
end Z

set_option Elab.async false
set_option linter.all false
set_option maxRecDepth 100000
set_option maxHeartbeats 400000
namespace Z
open PySem PySem.Spec PyProof.Rows L2
/-! ### fractions as numbers -/
theorem pn_q {t b : Int} (h : b ≠ 0) : pn t b = (Rat.divInt t b).num := by
  rw [Rat.num_divInt]
  unfold pn gm
  rw [show Int.gcd b t = Nat.gcd t.natAbs b.natAbs from Nat.gcd_comm _ _]
  congr 1
  by_cases h0 : b < 0
  · rw [if_pos h0, Int.sign_eq_neg_one_of_neg h0]; omega
  · rw [if_neg h0, Int.sign_eq_one_of_pos (by omega)]; omega
theorem pd_q {t b : Int} (h : b ≠ 0) : pd t b = ((Rat.divInt t b).den : Int) := by
  rw [Rat.den_divInt, if_neg h]
  unfold pd gm
  rw [show Int.gcd b t = Nat.gcd t.natAbs b.natAbs from Nat.gcd_comm _ _, Int.natCast_ediv]
  congr 1
  split <;> omega
/-- x over M, its top at most A -/
def Fr (M A : Nat) (x : Rat) : Prop := ∃ a : Int, x = Rat.divInt a M ∧ a.natAbs ≤ A
theorem Fr.den {M A : Nat} {x : Rat} (h : Fr M A x) (hM : 0 < M) : x.den ≤ M := by
  obtain ⟨a, rfl, _⟩ := h
  rw [Rat.den_divInt, if_neg (by omega)]
  exact Nat.le_trans (Nat.div_le_self _ _) (by omega)
theorem ediv_nat {x : Int} (g : Nat) : (x / (g : Int)).natAbs ≤ x.natAbs := by
  rcases Nat.eq_zero_or_pos g with h | h
  · subst h; simp
  rcases Int.le_total 0 x with h1 | h1
  · have a := Int.ediv_nonneg h1 (Int.natCast_nonneg g)
    have b := Int.ediv_le_self (g : Int) h1
    omega
  · have a : x ≤ x / (g : Int) := Int.le_ediv_of_mul_le (by omega) (by
      have : x * (g : Int) ≤ x * 1 := Int.mul_le_mul_of_nonpos_left h1 (by omega)
      omega)
    have b : x / (g : Int) < 1 := Int.ediv_lt_of_lt_mul (by omega) (by omega)
    omega
theorem Fr.num {M A : Nat} {x : Rat} (h : Fr M A x) (hM : 0 < M) : x.num.natAbs ≤ A := by
  obtain ⟨a, rfl, ha⟩ := h
  rw [Rat.num_divInt, Int.sign_eq_one_of_pos (by omega), Int.one_mul]
  exact Nat.le_trans (ediv_nat _) ha
theorem Fr.add {M A B : Nat} {x y : Rat} (hM : 0 < M) (h : Fr M A x) (h2 : Fr M B y) : Fr M (A + B) (x + y) := by
  obtain ⟨a, rfl, ha⟩ := h
  obtain ⟨b, rfl, hb⟩ := h2
  refine ⟨a + b, ?_, by omega⟩
  have hm : (M : Int) ≠ 0 := by omega
  rw [Rat.divInt_add_divInt _ _ hm hm, ← Int.add_mul, Rat.divInt_mul_right hm]
theorem Fr.mul {M N A B : Nat} {x y : Rat} (h : Fr M A x) (h2 : Fr N B y) : Fr (M * N) (A * B) (x * y) := by
  obtain ⟨a, rfl, ha⟩ := h
  obtain ⟨b, rfl, hb⟩ := h2
  refine ⟨a * b, by rw [Rat.divInt_mul_divInt, Int.natCast_mul], ?_⟩
  rw [Int.natAbs_mul]
  exact Nat.mul_le_mul ha hb
theorem Fr.neg {M A : Nat} {x : Rat} (h : Fr M A x) : Fr M A (-x) := by
  obtain ⟨a, rfl, ha⟩ := h
  exact ⟨-a, by rw [Rat.neg_divInt], by omega⟩
theorem Fr.mono {M A B : Nat} {x : Rat} (h : Fr M A x) (l : A ≤ B) : Fr M B x := by
  obtain ⟨a, e, ha⟩ := h
  exact ⟨a, e, by omega⟩
theorem Fr.int {M A : Nat} {n : Int} (hM : 0 < M) (h : n.natAbs ≤ A) : Fr M (A * M) (n : Rat) := by
  refine ⟨n * M, ?_, ?_⟩
  · have hm : (M : Int) ≠ 0 := by omega
    have : Rat.divInt (n * M) (1 * M) = Rat.divInt n 1 := Rat.divInt_mul_right hm
    rw [Int.one_mul] at this
    rw [this, ← Rat.num_divInt_den (n : Rat)]
    rfl
  · rw [Int.natAbs_mul, Int.natAbs_natCast]
    exact Nat.mul_le_mul_right _ h
theorem Fr.of {t b : Int} {M A : Nat} (hb : 0 < b) (hd : b ∣ (M : Int)) (hM : 0 < M) (hA : t.natAbs * M ≤ A) : Fr M A (Rat.divInt t b) := by
  obtain ⟨k, hk⟩ := hd
  have k0 : 0 < k := by
    have h0 : 0 < b * k := by omega
    rcases Int.lt_or_le 0 k with z | z
    · exact z
    · have := Int.mul_nonpos_of_nonneg_of_nonpos (Int.le_of_lt hb) z
      omega
  refine ⟨t * k, ?_, ?_⟩
  · rw [hk, Rat.divInt_mul_right (by omega)]
  · refine Nat.le_trans ?_ hA
    rw [Int.natAbs_mul]
    refine Nat.mul_le_mul_left _ ?_
    have : k ≤ b * k := by
      have : 1 * k ≤ b * k := Int.mul_le_mul_of_nonneg_right (by omega) (by omega)
      omega
    omega
/-- how far a colour is from a middle, by places -/
def sq (x : Rat) : Rat := x * x
def farN (c : List Int) (m : List Rat) : Nat → Rat
  | 0 => 0
  | i + 1 => farN c m i + sq ((c.getD i 0 : Rat) - m.getD i 0)
theorem Fr.sub {M A B : Nat} {x y : Rat} (hM : 0 < M) (h : Fr M A x) (h2 : Fr M B y) : Fr M (A + B) (x - y) := by
  rw [Rat.sub_eq_add_neg]
  exact h.add hM h2.neg
theorem Fr.zero {M A : Nat} (hM : 0 < M) : Fr M A 0 := by
  refine ⟨0, ?_, by simp⟩
  rw [Rat.zero_divInt]
theorem farN_fr {c : List Int} {m : List Rat} {M A C : Nat} (hM : 0 < M) (hc : ∀ i, (c.getD i 0).natAbs ≤ C) (hm : ∀ z ∈ m, Fr M A z) : ∀ i, Fr (M * M) (i * ((C * M + A) * (C * M + A))) (farN c m i)
  | 0 => Fr.zero (Nat.mul_pos hM hM)
  | i + 1 => by
    rw [Nat.succ_mul]
    have hz : Fr M A (m.getD i 0) := by
      rw [List.getD_eq_getElem?_getD]
      cases e : m[i]? with
      | none => exact Fr.zero hM
      | some z => exact hm z (List.mem_of_getElem? e)
    have g := (Fr.int hM (hc i)).sub hM hz
    exact (farN_fr hM hc hm i).add (Nat.mul_pos hM hM) (g.mul g)
theorem farN_nonneg (c : List Int) (m : List Rat) : ∀ i, 0 ≤ farN c m i
  | 0 => Rat.le_refl
  | i + 1 => Rat.add_nonneg (farN_nonneg c m i) (by
    unfold sq
    rcases Rat.nonneg_total ((c.getD i 0 : Rat) - m.getD i 0) with h | h
    · exact Rat.mul_nonneg h h
    · have := Rat.mul_nonneg h h
      rw [Rat.neg_mul, Rat.mul_neg, Rat.neg_neg] at this
      exact this)
/-- the first of the least -/
def argF (f : Nat → Rat) : Nat → Nat
  | 0 => 0
  | i + 1 => if f i < f (argF f i) then i else argF f i
theorem argF_lt (f : Nat → Rat) : ∀ n, 0 < n → argF f n < n
  | 0, h => absurd h (by omega)
  | n + 1, _ => by
    rw [argF]
    split
    · omega
    · rcases Nat.eq_zero_or_pos n with e | e
      · subst e; exact Nat.zero_lt_one
      · have := argF_lt f n e; omega
/-- small enough to reckon with -/
def lim : Nat := 2 ^ 2000
def lim2 : Nat := 2 ^ 4000
def Qb (x : Rat) : Prop := x.den < lim ∧ x.num.natAbs < lim
theorem Fr.qb {M A : Nat} {x : Rat} (h : Fr M A x) (hM : 0 < M) (h1 : M < lim) (h2 : A < lim) : Qb x := ⟨Nat.lt_of_le_of_lt (h.den hM) h1, Nat.lt_of_le_of_lt (h.num hM) h2⟩
theorem qq (x : Rat) : Rat.divInt x.num (x.den : Int) = x := Rat.num_divInt_den x
theorem add_q (p r : Rat) : Rat.divInt (p.num * r.den + r.num * p.den) (p.den * r.den) = p + r := by
  have h1 : (p.den : Int) ≠ 0 := by have := p.den_nz; omega
  have h2 : (r.den : Int) ≠ 0 := by have := r.den_nz; omega
  rw [← Rat.divInt_add_divInt _ _ h1 h2, qq, qq]
theorem mul_q (p r : Rat) : Rat.divInt (p.num * r.num) (p.den * r.den) = p * r := by
  rw [← Rat.divInt_mul_divInt, qq, qq]
theorem lt_q (p r : Rat) : decide (p.num * r.den < r.num * p.den) = decide (p < r) := decide_eq_decide.mpr (Rat.lt_iff p r).symm
def qp (x : Rat) : Int × Int := (x.num, (x.den : Int))
theorem lim_lim : lim * lim ≤ lim2 := by unfold lim lim2; rw [← Nat.pow_add]; exact Nat.le_refl _
theorem mul_lim {a b : Nat} (h1 : a < lim) (h2 : b < lim) : a * b < lim2 := Nat.lt_of_lt_of_le (Nat.mul_lt_mul'' h1 h2) lim_lim
theorem lim_mul {i j : Int} (h1 : i.natAbs < lim2) (h2 : j.natAbs < lim2) : CMulW i j := wide_mul (a := 4000) (b := 4000) h1 h2 (by decide) (by decide) (by decide)
theorem lim_le : lim ≤ lim2 := Nat.pow_le_pow_right (by decide) (by decide)
theorem to_lim {a b : Nat} (h : a ≤ b) (hb : b < lim := by decide +kernel) : a < lim := Nat.lt_of_le_of_lt h hb
theorem to_lim2 {a b : Nat} (h : a ≤ b) (hb : b < lim2 := by decide +kernel) : a < lim2 := Nat.lt_of_le_of_lt h hb
theorem lim_div {i j : Int} (h : 0 < j) (hb : j.natAbs < lim2) : CDivW i j := wide_div (b := 4000) h hb (by decide) (by decide)
theorem lim_divN {i j : Int} (h : j ≠ 0) (hb : j.natAbs < lim2) : CDivN2 i j := ⟨h, Nat.lt_of_lt_of_le (PySem.Flt.log2_lt_of (k := 4000) (by decide) hb) (by decide)⟩
end Z

set_option Elab.async false
set_option linter.all false
set_option maxRecDepth 100000
set_option maxHeartbeats 400000
namespace Z
open PySem PySem.Spec PyProof.Rows L2
/-! ### lists of lists -/
def eN (ns : List (List Int)) : PyData := .list (ns.map eI)
def eG (ps : List (List (List Int))) : PyData := .list (ps.map eP)
theorem sh_eN {ns : List (List Int)} (l : ns.length ≤ 100000) (h : ∀ c ∈ ns, c.length ≤ 100000) : Sh (eN ns) 2 := sh_lst (by simpa using l) fun d hd => by
  obtain ⟨n, m, rfl⟩ := List.mem_map.mp hd
  exact sh_eI (h n m)
theorem sh_eG {ps : List (List (List Int))} (l : ps.length ≤ 100000) (h : ∀ p ∈ ps, p.length ≤ 100000 ∧ ∀ c ∈ p, c.length ≤ 100000) : Sh (eG ps) 3 := sh_lst (by simpa using l) fun d hd => by
  obtain ⟨n, m, rfl⟩ := List.mem_map.mp hd
  exact sh_eP (h n m).1 (h n m).2
theorem DtA.mk {B : List Addr} {H : Hp} : ∀ {vs : List V} {ds : List PyData}, vs.length = ds.length → (∀ (i : Nat) v d, vs[i]? = some v → ds[i]? = some d → Dt B H v d) → DtA B H vs ds
  | [], [], _, _ => .nil
  | [], _ :: _, h, _ => nomatch h
  | _ :: _, [], h, _ => nomatch h
  | v :: vs, d :: ds, h, f => .cons (f 0 v d rfl rfl) (DtA.mk (by simpa using h) fun i v d h1 h2 => f (i + 1) v d h1 h2)
theorem DtA.two {B : List Addr} {H : Hp} {vs : List V} {ds : List PyData} {i : Nat} {v : V} {d : PyData} (h : DtA B H vs ds) (h1 : vs[i]? = some v) (h2 : ds[i]? = some d) : Dt B H v d := by
  obtain ⟨d', e, h3⟩ := h.getV h1
  rw [h2] at e
  cases e
  exact h3
theorem at2i (x y : Int) (b : Bool) : ∃ z : Int, atI [V.int x, V.int y] (if b = true then 1 else 0) = some (.int z) ∧ (z = x ∨ z = y) := by
  cases b
  · exact ⟨x, rfl, .inl rfl⟩
  · exact ⟨y, rfl, .inr rfl⟩
theorem ixN_last {n : Nat} (h : 0 < n) : ixN n (-1) = some (n - 1) := by
  unfold ixN
  rw [if_neg (by omega), if_pos (by omega)]
  congr 1
  omega
theorem DtA.set {B : List Addr} {H : Hp} {v : V} {d : PyData} : ∀ {vs : List V} {ds : List PyData} (j : Nat), DtA B H vs ds → Dt B H v d → DtA B H (vs.set j v) (ds.set j d)
  | [], _, _, h, _ => by cases h; exact .nil
  | _ :: _, _, 0, h, hv => by cases h with | cons h1 h2 => exact .cons hv h2
  | _ :: _, _, j + 1, h, hv => by cases h with | cons h1 h2 => exact .cons h1 (DtA.set j h2 hv)
theorem Dt.lst2 {B : List Addr} {H : Hp} {v : V} {ds : List PyData} (h : Dt B H v (.list ds)) : ∃ a vs, v = .ref a ∧ a ∉ B ∧ H a = some (.lst vs) ∧ DtA B H vs ds := by
  cases h with
  | lst n hs ha => exact ⟨_, _, rfl, n, hs, ha⟩
theorem cut_fromV {α : Type} (xs : List α) {n : Int} (h0 : 0 ≤ n) : cutL xs (some n) none = xs.drop n.toNat := by
  unfold cutL
  have e : HT.sIx xs.length 0 (some n) = min n.toNat xs.length := by
    show (if n < 0 then (n + (xs.length : Int)).toNat else min n.toNat xs.length) = _
    rw [if_neg (by omega)]
  have e2 : HT.sIx xs.length xs.length none = xs.length := rfl
  rw [e, e2]
  rcases Nat.le_total n.toNat xs.length with h | h
  · rw [Nat.min_eq_left h, List.take_of_length_le (by rw [List.length_drop]; omega)]
  · rw [Nat.min_eq_right h, List.drop_of_length_le (Nat.le_refl _), List.drop_of_length_le h, List.take_nil]
theorem cut_toV {α : Type} (xs : List α) {n : Int} (h0 : 0 ≤ n) : cutL xs none (some n) = xs.take n.toNat := by
  unfold cutL
  have e : HT.sIx xs.length xs.length (some n) = min n.toNat xs.length := by
    show (if n < 0 then (n + (xs.length : Int)).toNat else min n.toNat xs.length) = _
    rw [if_neg (by omega)]
  have e2 : HT.sIx xs.length 0 none = 0 := rfl
  rw [e, e2, List.drop_zero, Nat.sub_zero]
  rcases Nat.le_total n.toNat xs.length with h | h
  · rw [Nat.min_eq_left h]
  · rw [Nat.min_eq_right h, List.take_length, List.take_of_length_le h]
theorem pg_lstK {X : Cx} (K : PySem.W.Frag) {pos : Pos} {es : List Expr} {kk : Nat} {t : TGs} {n : Nat} (hc : X.calm = true) (h : PGs X es t) (hn : (assignEach es X.env).length = n := by rfl) (hst : (assignEach es X.env).findIdx? (·.1) = none := by rfl) (h2 : X.K = K := by rfl) : PG X (.Tuple es kk pos) (gLst K n t) :=
  h2 ▸ pg_lst hc h hn hst
theorem pi_zipAK {X : Cx} (K : PySem.W.Frag) {e e2 : Expr} {ta : TA} {p pos tpos : Pos} {elts : List Expr} {kk : Nat} (hg : Gl X "zip") (hm : X.mg "zip" = none) (ha : PA X [e, e2] ta)
    (hs : starEach [e, e2] X.env = (false, eval e X.env) :: starEach [e2] X.env := by rfl) (hpl : (backTo pos (starEach [e2] X.env)).any (·.1) = false := by rfl) (hK : X.K = K := by rfl) :
    PI X (.Tuple elts kk tpos) (.Call (.Name "zip" p) [e, e2] [] pos) (RZ.iZipA K ta) := by
  subst hK
  exact RZ.pi_zipA hg hm ha hs hpl
theorem yesT {σ : L2.St} {H : Hp} {A N : Hp → Prop} (h : A H) : tYes σ H (fun b H3 => if b = true then A H3 else N H3) := by
  show if true = true then A H else N H
  rw [if_pos rfl]
  exact h
/-- any walk -/
theorem walk_W {J : It} {n : Nat} {G : Hp → Prop} {Y : Nat → Hp → V → Hp → Prop} (w : Walk J n G Y) {R : (Hp → Prop) → V → Hp → Prop} {Qd : Hp → Prop} {H0 : Hp} (Pv : Nat → Hp → Prop) (h0 : Pv 0 H0) (hG : ∀ i H, i ≤ n → Pv i H → G H) (hs : ∀ i x H H', i < n → Pv i H → Y i H x H' → R (Pv (i + 1)) x H') (hd : ∀ H, Pv n H → Qd H) :
    ∃ W : Nat → Nat → Hp → Prop, (∃ m, W 0 m H0) ∧ ∀ i m H, W i m H → (J.stop i H ∧ Qd H) ∨ (J.go i H ∧ ∃ Nx : Hp → Prop, (∀ H', Nx H' → ∃ m', m' < m ∧ W (i + 1) m' H') ∧ ∀ x H', J.yld i H x H' → R Nx x H') := by
  obtain ⟨w1, w2, w3⟩ := w
  refine ⟨fun i m H => i ≤ n ∧ m = n - i ∧ Pv i H, ⟨n, Nat.zero_le _, rfl, h0⟩, fun i m H h => ?_⟩
  obtain ⟨hi, hm, hp⟩ := h
  have g := hG i H hi hp
  by_cases e : i = n
  · subst e
    exact .inl ⟨w2 _ g, hd _ hp⟩
  · refine .inr ⟨w1 i H (by omega) g, Pv (i + 1), fun H' h' => ⟨n - (i + 1), by omega, by omega, rfl, h'⟩, fun x H' y => ?_⟩
    exact hs i x H H' (by omega) hp (w3 i H x H' (by omega) g y)
theorem colsOf {Pc : List Int → Prop} : ∀ {ds : List PyData}, (∀ d ∈ ds, ∃ c, d = eC c ∧ Pc c) → ∃ cs : List (List Int), ds = cs.map eC ∧ ∀ c ∈ cs, Pc c
  | [], _ => ⟨[], rfl, fun _ h => nomatch h⟩
  | d :: ds, h => by
    obtain ⟨m, e, hm⟩ := colsOf (ds := ds) fun x hx => h x (List.mem_cons_of_mem _ hx)
    obtain ⟨z, ez, hz⟩ := h d (List.mem_cons_self ..)
    refine ⟨z :: m, by rw [e, ez]; rfl, fun y hy => ?_⟩
    rcases List.mem_cons.mp hy with q | q
    · rw [q]; exact hz
    · exact hm y q
/-- a list whose items are new lists, each another one; what is in these was there ahead -/
structure Rws (B : List Addr) (H H' : Hp) (D : Addr) (rs : List Addr) (dss : List (List PyData)) : Prop where
  len : rs.length = dss.length
  nd : rs.Nodup
  nD : D ∉ rs
  fr : ∀ r ∈ rs, H r = none
  row : ∀ (i : Nat) r ds, rs[i]? = some r → dss[i]? = some ds → ∃ ws, H' r = some (.lst ws) ∧ DtA B H ws ds
section
variable {B C : List Addr} {H H' H2 : Hp} {D p : Addr} {rs : List Addr} {dss : List (List PyData)}
theorem Rws.s (h : Rws B H H' D rs dss) (s : Same H' H2) : Rws B H H2 D rs dss := ⟨h.len, h.nd, h.nD, h.fr, fun i r ds h1 h2 => by
  obtain ⟨ws, e, a⟩ := h.row i r ds h1 h2
  exact ⟨ws, s _ _ e, a⟩⟩
theorem Rws.up {o : HO} (h : Rws B H H' D rs dss) (n : p ∉ rs) : Rws B H (upd H' p o) D rs dss := ⟨h.len, h.nd, h.nD, h.fr, fun i r ds h1 h2 => by
  obtain ⟨ws, e, a⟩ := h.row i r ds h1 h2
  refine ⟨ws, ?_, a⟩
  rw [upd_ne (fun z => n (by rw [← z]; exact List.mem_of_getElem? h1))]
  exact e⟩
theorem Rws.go (h : Rws B H H' D rs dss) (g : Go C H' H2) (n : ∀ r ∈ rs, r ∉ C) : Rws B H H2 D rs dss := ⟨h.len, h.nd, h.nD, h.fr, fun i r ds h1 h2 => by
  obtain ⟨ws, e, a⟩ := h.row i r ds h1 h2
  exact ⟨ws, g.k _ _ (n r (List.mem_of_getElem? h1)) e, a⟩⟩
theorem Rws.tail {r : Addr} {ds : List PyData} (h : Rws B H H' D (r :: rs) (ds :: dss)) : Rws B H H' D rs dss := ⟨by simpa using h.len, (List.nodup_cons.mp h.nd).2, fun z => h.nD (List.mem_cons_of_mem _ z), fun x hx => h.fr x (List.mem_cons_of_mem _ hx), fun i x ds h1 h2 => h.row (i + 1) x ds h1 h2⟩
theorem Rws.dt (h : Rws B H H' D rs dss) (b : Bk B H) (s : Go B H H') : DtA B H' (rs.map V.ref) (dss.map PyData.list) := by
  refine DtA.mk (by rw [List.length_map, List.length_map]; exact h.len) fun i v d h1 h2 => ?_
  rw [List.getElem?_map] at h1 h2
  cases e1 : rs[i]? with
  | none => rw [e1] at h1; cases h1
  | some r =>
    cases e2 : dss[i]? with
    | none => rw [e2] at h2; cases h2
    | some ds =>
      rw [e1] at h1
      rw [e2] at h2
      cases h1
      cases h2
      obtain ⟨ws, e, a⟩ := h.row i r ds e1 e2
      exact .lst (b.ne (h.fr r (List.mem_of_getElem? e1))) e (a.g s)
end
/-- a comprehension of known values -/
theorem lc_vals {J : It} {n : Nat} {G : Hp → Prop} {Y : Nat → Hp → V → Hp → Prop} (w : Walk J n G Y) {g : TG} {tt : TT} {te : TE} {vs : List Nat} {σ : L2.St} {H1 : Hp} {D : Addr} {Qd : Hp → Prop}
    (hD : H1 D = none) (hG : ∀ H', Same H1 H' → G H') (hn : n ≤ 100000) (f : Nat → V)
    (hs : ∀ (i : Nat) (x : V) (H' H'' : Hp) (Ny : V → Hp → Prop) (Nn : Hp → Prop), i < n → Same H1 H' → Y i H' x H'' → (∀ H4, Same H' H4 → Ny (f i) H4) →
      g x (wipe σ vs) H'' fun σ2 H2 => wipe σ2 vs = wipe σ vs ∧ tt σ2 H2 fun b H3 => if b = true then te σ2 H3 Ny else Nn H3)
    (hd : ∀ (H' : Hp), Same H1 H' → H' D = some (.lst ((List.range n).map f)) → Qd H') :
    ∃ W : Nat → Nat → Hp → Prop, (∃ m, W 0 m (upd H1 D (.lst []))) ∧ ∀ i m H, W i m H →
      (J.stop i H ∧ Qd H) ∨ (J.go i H ∧ ∃ Nx : Hp → Prop, (∀ H', Nx H' → ∃ m', m' < m ∧ W (i + 1) m' H') ∧ ∀ x H', J.yld i H x H' → g x (wipe σ vs) H' fun σ2 H2 => wipe σ2 vs = wipe σ vs ∧ tt σ2 H2 fun b H3 =>
        if b = true then te σ2 H3 fun y H4 => ∃ acc, H4 D = some (.lst acc) ∧ acc.length < sizeLine ∧ Nx (upd H4 D (.lst (acc ++ [y]))) else Nx H3) := by
  refine lc_it w (fun i H' => Same H1 H' ∧ H' D = some (.lst ((List.range i).map f))) ⟨sm_new hD, upd_same⟩ (fun i H' _ h => hG H' h.1) (fun i x H' H'' hi h y => ?_) (fun H' h => hd H' h.1 h.2)
  obtain ⟨s1, eD⟩ := h
  refine hs i x H' H'' _ _ hi s1 y (fun H4 s4 => ?_)
  refine ⟨_, s4 _ _ eD, sz (by rw [List.length_map, List.length_range]; omega), sm_mut (s1.trans s4) hD, ?_⟩
  rw [upd_same, List.range_succ, List.map_append]
  rfl
/-- a comprehension of new lists -/
theorem lc_rows {J : It} {n : Nat} {G : Hp → Prop} {Y : Nat → Hp → V → Hp → Prop} (w : Walk J n G Y) {g : TG} {tt : TT} {te : TE} {vs : List Nat} {σ : L2.St} {H1 : Hp} {D : Addr} {Qd : Hp → Prop} (B : List Addr)
    (hD : H1 D = none) (hG : ∀ H', Same H1 H' → G H') (hn : n ≤ 100000) (e : Nat → List PyData)
    (hs : ∀ (i : Nat) (x : V) (H' H'' : Hp) (Ny : V → Hp → Prop) (Nn : Hp → Prop), i < n → Same H1 H' → Y i H' x H'' → (∀ r ws H4, Same H' H4 → H' r = none → H4 r = some (.lst ws) → DtA B H1 ws (e i) → Ny (.ref r) H4) →
      g x (wipe σ vs) H'' fun σ2 H2 => wipe σ2 vs = wipe σ vs ∧ tt σ2 H2 fun b H3 => if b = true then te σ2 H3 Ny else Nn H3)
    (hd : ∀ (H' : Hp) (rs : List Addr), Same H1 H' → H' D = some (.lst (rs.map V.ref)) → Rws B H1 H' D rs ((List.range n).map e) → Qd H') :
    ∃ W : Nat → Nat → Hp → Prop, (∃ m, W 0 m (upd H1 D (.lst []))) ∧ ∀ i m H, W i m H →
      (J.stop i H ∧ Qd H) ∨ (J.go i H ∧ ∃ Nx : Hp → Prop, (∀ H', Nx H' → ∃ m', m' < m ∧ W (i + 1) m' H') ∧ ∀ x H', J.yld i H x H' → g x (wipe σ vs) H' fun σ2 H2 => wipe σ2 vs = wipe σ vs ∧ tt σ2 H2 fun b H3 =>
        if b = true then te σ2 H3 fun y H4 => ∃ acc, H4 D = some (.lst acc) ∧ acc.length < sizeLine ∧ Nx (upd H4 D (.lst (acc ++ [y]))) else Nx H3) := by
  refine lc_it w (fun i H' => Same H1 H' ∧ ∃ rs, H' D = some (.lst (rs.map V.ref)) ∧ Rws B H1 H' D rs ((List.range i).map e)) ⟨sm_new hD, [], upd_same, ⟨rfl, List.nodup_nil, (fun h => nomatch h), (fun _ h => nomatch h), (fun i r ds h => by simp at h)⟩⟩ (fun i H' _ h => hG H' h.1) (fun i x H' H'' hi h y => ?_) (fun H' h => ?_)
  · obtain ⟨s1, rs, eD, R⟩ := h
    have hl : rs.length = i := by rw [R.len, List.length_map, List.length_range]
    refine hs i x H' H'' _ _ hi s1 y (fun r ws H4 s4 hr er ha => ?_)
    have nr : r ≠ D := fun z => by rw [z, eD] at hr; cases hr
    have nrs : r ∉ rs := fun z => by
      obtain ⟨j, hj, ej⟩ := List.getElem_of_mem z
      obtain ⟨ws', e', _⟩ := R.row j r (e j) (by rw [List.getElem?_eq_getElem hj, ej]) (by rw [List.getElem?_map, List.getElem?_range (by omega)]; rfl)
      rw [e'] at hr
      cases hr
    refine ⟨_, s4 _ _ eD, sz (by rw [List.length_map]; omega), sm_mut (s1.trans s4) hD, rs ++ [r], by rw [upd_same, List.map_append]; rfl, ?_⟩
    have R4 := (R.s s4).up (o := .lst (rs.map V.ref ++ [.ref r])) (R.nD)
    refine ⟨by simp [hl], ?_, ?_, fun z hz => ?_, fun j z ds h1 h2 => ?_⟩
    · rw [List.nodup_append]
      refine ⟨R.nd, by simp, fun a ha b hb => ?_⟩
      rw [List.mem_singleton.mp hb]
      exact fun q => nrs (by rw [← q]; exact ha)
    · intro q
      rcases List.mem_append.mp q with q | q
      · exact R.nD q
      · exact nr (List.mem_singleton.mp q).symm
    · rcases List.mem_append.mp hz with q | q
      · exact R.fr z q
      · rw [List.mem_singleton.mp q]
        exact s1.free hr
    · rw [List.getElem?_append] at h1
      rw [List.range_succ, List.map_append, List.getElem?_append, List.length_map, List.length_range] at h2
      by_cases c : j < rs.length
      · rw [if_pos c] at h1
        rw [if_pos (by omega)] at h2
        exact R4.row j z ds h1 h2
      · rw [if_neg c] at h1
        rw [if_neg (by omega)] at h2
        have j0 : j - rs.length = 0 := by
          cases q : j - rs.length with
          | zero => rfl
          | succ m => rw [q] at h1; simp at h1
        rw [j0] at h1
        rw [show j - i = 0 by omega] at h2
        cases h1
        cases h2
        refine ⟨ws, ?_, ha⟩
        rw [upd_ne nr]
        exact er
  · obtain ⟨s1, rs, eD, R⟩ := h
    exact hd H' rs s1 eD R
end Z

set_option Elab.async false
set_option linter.all false
set_option maxRecDepth 100000
set_option maxHeartbeats 400000
namespace Z
open PySem PySem.Spec PyProof.Rows L2
/-! ### sorted(xs), xs a list of data -/
theorem each_lift {α β γ : Type} {R : α → β → Prop} {R' : γ → β → Prop} {S : γ → α → Prop} (f : ∀ a b, R a b → ∃ c, S c a ∧ R' c b) : ∀ {as : List α} {bs : List β}, PySem.W.EachIs R as bs → ∃ cs : List γ, Paired S cs as ∧ PySem.W.EachIs R' cs bs
  | _, _, .nil => ⟨[], .nil, .nil⟩
  | a :: as, b :: bs, .cons h t => by
    obtain ⟨cs, h1, h2⟩ := each_lift f t
    obtain ⟨c, h3, h4⟩ := f a b h
    exact ⟨c :: cs, .cons h3 h1, .cons h4 h2⟩
theorem rdAll {h : Heap} : ∀ {vs : List Value} {ds : List PyData} {as : List Addr}, ReadsAll h vs ds as → vs.length = ds.length ∧ ∀ (j : Nat) v d, vs[j]? = some v → ds[j]? = some d → ∃ as, Reads h v d as
  | [], _, _, hh => by
    cases hh
    exact ⟨rfl, fun j v d h => by simp at h⟩
  | v :: vs, _, _, hh => by
    cases hh with
    | cons h1 h2 =>
      have ih := rdAll h2
      refine ⟨by rw [List.length_cons, List.length_cons, ih.1], fun j v d e1 e2 => ?_⟩
      cases j with
      | zero =>
        cases e1
        cases e2
        exact ⟨_, h1⟩
      | succ j => exact ih.2 j v d (by simpa using e1) (by simpa using e2)
def rSortedD (K : PySem.W.Frag) : List V → Hp → VK → Prop := fun vs H Q => ∃ (a : Addr) (xs : List V) (β : Type) (enc : β → PyData) (bs : List β), vs = [.ref a] ∧ SqL K H a xs ∧ DpAll K H xs (bs.map enc) ∧ PySem.W.AllAlike (bs.map enc) ∧ PySem.W.Sortable (bs.map enc) ∧ bs.length ≤ 10000 ∧ (∀ b ∈ bs, (enc b).depth ≤ 50) ∧
  ∀ (ys : List V) (p : Addr), PySem.W.EachIs (fun y b => ∃ j : Nat, xs[j]? = some y ∧ bs[j]? = some b) ys (bs.mergeSort (PySem.W.dataLe false enc)) → H p = none → Q (.ref p) (upd H p (.lst ys))
theorem cr_sortedD (K : PySem.W.Frag) {X : Cx} (hu : X.A.units + 64 < cLine) (hK : X.K = K := by rfl) : CallR X (.builtin "sorted") (rSortedD K) := by
  subst hK
  intro pins s σ H vs us Q I r h
  obtain ⟨a, xs, β, enc, bs, rfl, hs, hd, hal, hso, hl, hdep, q⟩ := h
  obtain ⟨its, rv, hp, hz⟩ := I.list hs
  obtain ⟨u, rfl, ru⟩ := vals1 r
  obtain rfl : u = Value.ref a := ru
  obtain ⟨as, hr⟩ := Dp.readsAll I _ xs its hd rv
  have le1 : its.length = xs.length := rv.length.symm
  have ra := @rdAll s.heap
  have le2 : its.length = bs.length := by
    have := (ra hr).1
    rwa [List.length_map] at this
  have zx : ∀ pz ∈ its.zip bs, ∃ j : Nat, its[j]? = some pz.1 ∧ bs[j]? = some pz.2 := by
    intro pz hpz
    obtain ⟨j, hj⟩ := List.mem_iff_getElem?.mp hpz
    obtain ⟨h1, h2⟩ := List.getElem?_zip_eq_some.mp hj
    exact ⟨j, h1, h2⟩
  refine PySem.W.sorted_data (enc := enc) (bs := bs) (R := fun v b => ∃ j : Nat, its[j]? = some v ∧ bs[j]? = some b) hp.isList (PySem.W.EachIs.of_zip le2 zx) (PySem.W.EachIs.of_zip le2 fun pz hpz => ?_) hal hso (by have : sizeLine = 16777216 := rfl; omega) (fun b hb => by have := hdep b hb; omega) fun out lo eo => ?_
  · obtain ⟨j, e1, e2⟩ := zx pz hpz
    exact (ra hr).2 j _ _ e1 (by rw [List.getElem?_map, e2]; rfl)
  · obtain ⟨ys, v1, v2⟩ := each_lift (S := L2.RelV) (R' := fun y b => ∃ j : Nat, xs[j]? = some y ∧ bs[j]? = some b) (fun v b h => by
      obtain ⟨j, e1, e2⟩ := h
      have hj : j < its.length := (List.getElem?_eq_some_iff.mp e1).1
      obtain ⟨u, hu, ru⟩ := rv.get (List.getElem?_eq_getElem (show j < xs.length by omega))
      rw [e1] at hu
      cases hu
      exact ⟨_, ru, j, List.getElem?_eq_getElem (by omega), e2⟩) eo
    obtain ⟨e, he⟩ := sortedAll_at s.heap its out.toArray
    have ly : ys.length = out.length := Paired.length v1
    refine ⟨.ref (s.heap.objs.size + 1), upd H (s.heap.objs.size + 1) (.lst ys), I.laid (fun b o e => sortedAll_old e) (by omega) ⟨by have : sizeLine = 16777216 := rfl; omega, out, e, v1, he⟩, rfl, q ys _ v2 (I.hok.fresh (by omega))⟩
/-- what is sorted is what was there -/
theorem each_mem {xs : List V} {β : Type} {bs cs : List β} {ys : List V} (h : PySem.W.EachIs (fun y b => ∃ j : Nat, xs[j]? = some y ∧ bs[j]? = some b) ys cs) {B : List Addr} {H : Hp} {enc : β → PyData} (hA : DtA B H xs (bs.map enc)) : DtA B H ys (cs.map enc) := by
  induction h with
  | nil => exact .nil
  | cons h t ih =>
    obtain ⟨j, e1, e2⟩ := h
    exact .cons (hA.two e1 (by rw [List.getElem?_map, e2]; rfl)) ih
end Z

set_option Elab.async false
set_option linter.all false
set_option maxRecDepth 100000
namespace Z
open PySem PySem.Spec PyProof.Rows L2
theorem Fr.scale {M A N : Nat} {x : Rat} (h : Fr M A x) (hN : 0 < N) : Fr (M * N) (A * N) x := by
  obtain ⟨a, rfl, ha⟩ := h
  refine ⟨a * N, ?_, ?_⟩
  · rw [Int.natCast_mul, Rat.divInt_mul_right (by omega)]
  · rw [Int.natAbs_mul, Int.natAbs_natCast]
    exact Nat.mul_le_mul_right _ ha
end Z

set_option Elab.async false
set_option linter.all false
set_option maxRecDepth 100000
set_option maxHeartbeats 400000
namespace Z
open PySem PySem.Spec PyProof.Rows L2
/-! ### a def that is called where nothing is being shown -/
structure FnG (P : Program) (w : World) (K : PySem.W.Frag) (mg : Str → Option Value) (base : Heap) (k : Nat) (f : Addr) (fd : FuncData) (ps : List Str) (sp : Sp) : Prop where
  run : ∀ (A : Around) (outer : List Env) (s : Shared) (H : Hp) (args : Args) (us : List Value) (vs : List V) (Q : VK) (E : XK), A.guards = some [] → Room k A → Env0 P w K mg base A outer s H → BindsTo s fd args (ps.zip us) → Vals vs us → sp vs H Q E → codeAny (model P w) A (Code.call (Value.ref f) args) (CR CX0 outer P w H s Q E) s
theorem fn_g {P : Program} {w : World} {K : PySem.W.Frag} {mg : Str → Option Value} {base : Heap} {x qual : Str} {st : Stmt} {f : Addr} {fd : FuncData} {N ps : List Str} {k : Nat} {sp : Sp} (F : Fun K x qual st f fd) (S : FnScope N ps (defScope st))
    (len : ∀ (vs : List V) (H : Hp) (Q : VK) (E : XK), sp vs H Q E → vs.length = ps.length)
    (hbody : ∀ (cdv : Value) (A : Around) (outer : List Env) (s : Shared) (H : Hp) (vs : List V) (Q : VK) (E : XK), A.guards = some [] → Room k (A.deeper (envOfC qual (defScope st) s.heap.objs.size f cdv)) → sp vs H Q E →
      ∃ t, PSs (cxOf CX0 P w K mg base N qual (defScope st) f cdv A outer s H E).nox (defBody st) t ∧ t { nx := fun _ H' => Q V.non H', rt := Q } (L2.start N vs) H) : FnG P w K mg base (k + 1) f fd ps sp := by
  obtain ⟨oc, od, kV, doc, pm, an, cdv, ct, osl, rfl, lk, hcd⟩ := F.ex
  refine ⟨fun A outer s H args us vs Q E hA hr e0 hb r hsp => ?_⟩
  have hl := len vs H Q E hsp
  have KX := PySem.W.Frag.In.keeps e0.mod.kin fun b o e => (e0.bs b o e).left
  have lim := Heap.NoLimit.keeps e0.mod.nolimit fun b o e => (e0.bs b o e).left
  refine codeAny_call_function (Room.depth hr) (KX f _ lk) rfl S.co S.gen rfl (PySem.W.codeRec_of KX hcd) (hb (model P w) A.in1 (fun e s' => CR CX0 outer P w H s Q E (Except.error e) s') _ (wpAny_newFunctionEnv_cells S.kind ?hk fun env he s1 x => ?_))
  case hk =>
    rintro ⟨n, v⟩ hy
    rcases S.par n (List.of_mem_zip hy).left with q | q
    · exact Or.inl q
    · exact Or.inr ⟨q, PySem.W.cellsFrom_some (defScope st).names (s.heap.objs.size + 1) [] (Or.inl q)⟩
  subst he
  refine ⟨Heap.NoLimit.keeps lim x.toInCall.keep, codeAny_func ?_⟩
  obtain ⟨t, ht, hq⟩ := hbody cdv A outer s H vs Q E hA (Room.deeper hr (envOfC qual (defScope st) s.heap.objs.size f cdv)) hsp
  have I := inv_start (CX := CX0) (E := E) S hr.hd e0 hl r x
  refine wpAny_mono ((PSs.nox ht).run [] s1 (L2.start N vs) H { nx := fun _ H' => Q V.non H', rt := Q } I hq) (fun fl s' hs => ?_) (fun e s' hs => hs)
  cases fl with
  | next =>
    obtain ⟨σ', H', J, q⟩ := hs
    exact ⟨V.non, H', J.os, J.bare, J.base, J.hok, rfl, q⟩
  | brk =>
    obtain ⟨_, _, _, q⟩ := hs
    exact q.elim
  | cont =>
    obtain ⟨_, _, _, q⟩ := hs
    exact q.elim
  | ret u =>
    obtain ⟨v, σ', H', J, rv, q⟩ := hs
    exact ⟨v, H', J.os, J.bare, J.base, J.hok, rv, q⟩
theorem law_call2 {P : Program} {w : World} {K : PySem.W.Frag} {mg mb : Str → Option Value} {k : Nat} {fa a : Addr} {fd : FuncData} {x : Str} {sp : Sp} {s₁ : Shared} {vs : List Value} {ns : List Int} (KX : K.In s₁.heap) (hns : s₁.heap.Ns mainGlobals mg) (hb : s₁.heap.Ns builtinsNs mb)
    (hbb : ∀ x : Str, x ≠ Str.ofString "__name__" → mb x = bootBuiltins x) (hlim : s₁.heap.NoLimit) (hg : s₁.gens = #[]) (ha : s₁.heap.get? a = some { cls := Value.type "list", data := Data.seq vs.toArray }) (hi : IntsAre vs ns) (hl : ns.length ≤ sizeLine) (hr : Room k callerA)
    (F : ∀ base : Heap, K.In base → base.Ns mainGlobals mg → FnG P w K mg base k fa fd [x] sp) (hbind : ∀ (s : Shared) (u : Value), BindsTo s fd { pos := [u] } [(x, u)])
    (hsp : ∀ H : Hp, Only H → SqL K H a (ns.map V.int) → sp [V.ref a] H (fun v _ => v = V.bl true) fun _ _ _ => False) :
    codeAny (model P w) callerA (Code.call (Value.ref fa) { pos := [Value.ref a] }) (fun r s' => r = Except.ok (Flow.ret (Value.bool true)) ∧ OldK s₁.heap s'.heap ∧ s'.os = s₁.os ∧ AllBare s'.gens) s₁ := by
  have rv := vals_ints hi
  have lenV := hi.length
  have core : ∀ H : Hp, Only H → SqL K H a (ns.map V.int) → HOk P w H s₁.heap → (∀ b, H b ≠ none → b = a) → (H a ≠ none → List.lookup a K = none) →
      codeAny (model P w) callerA (Code.call (Value.ref fa) { pos := [Value.ref a] }) (fun r s' => r = Except.ok (Flow.ret (Value.bool true)) ∧ OldK s₁.heap s'.heap ∧ s'.os = s₁.os ∧ AllBare s'.gens) s₁ := by
    intro H hO hS hok hA hK
    have noA : ∀ {b : Addr} {o : Obj} {es ep}, s₁.heap.get? b = some o → o.data = Data.dict es ep → H b = none := by
      intro b o es ep e d
      cases q : H b with
      | none => rfl
      | some u =>
        have e' := hA b (by rw [q]; exact fun z => nomatch z)
        subst e'
        rw [ha] at e
        cases e
        cases d
    have nsK : ∀ {b : Addr} {m : Str → Option Value}, s₁.heap.Ns b m → (hidT s₁.heap H).Ns b m := by
      rintro b m ⟨o, es, ep, e, d, r⟩
      exact ⟨o, es, ep, hidT_get e (noA e d), d, r⟩
    have hKb : K.In (hidT s₁.heap H) := by
      intro b o e
      refine hidT_get (KX b o e) ?_
      cases q : H b with
      | none => rfl
      | some u =>
        have e' := hA b (by rw [q]; exact fun z => nomatch z)
        subst e'
        rw [hK (by rw [q]; exact fun z => nomatch z)] at e
        cases e
    have hM : L2.Mod K mg (hidT s₁.heap H) := ⟨hKb, nsK hns, ⟨mb, nsK hb, hbb⟩, by
      obtain ⟨mc, h1, h2⟩ := hlim
      exact ⟨mc, nsK h1, h2⟩⟩
    have e0 : Env0 P w K mg (hidT s₁.heap H) callerA [] s₁ H := ⟨rfl, hM, fun b o e => of_hidT e, Nat.le_of_eq (hidT_size s₁.heap H), trivial, fun b hb => absurd (show b ∈ ([] : List Addr) from hb) (by simp), hok, AllBare.of_eq hg⟩
    refine codeAny_mono ((F _ hKb (nsK hns)).run callerA [] s₁ H { pos := [Value.ref a] } [Value.ref a] [V.ref a] (fun v _ => v = V.bl true) (fun _ _ _ => False) rfl hr e0 (hbind s₁ (Value.ref a)) (Paired.cons rfl Paired.nil) (hsp H hO hS)) fun r s' h => ?_
    cases r with
    | error e => exact False.elim h
    | ok fl =>
      cases fl with
      | next => exact False.elim h
      | brk => exact False.elim h
      | cont => exact False.elim h
      | ret u =>
        obtain ⟨v, H', os, bare, un, hok', r', q⟩ := h
        subst q
        have eu : u = Value.bool true := r'
        subst eu
        refine ⟨rfl, OldK.of_keep fun b o e => ?_, os, bare⟩
        cases q : H b with
        | none => exact un.keep b o e q (fun z => absurd (show b ∈ ([] : List Addr) from z) (by simp)) (by simp)
        | some u =>
          rcases hO b with z | ⟨ob, xs, z⟩
          · rw [q] at z
            cases z
          · have z2 := un.frzs b ob (HO.lst xs) z
            obtain ⟨e1, _⟩ := hok b (HO.frz ob (HO.lst xs)) z
            obtain ⟨e2, _⟩ := hok' b (HO.frz ob (HO.lst xs)) z2
            rw [e] at e1
            cases e1
            exact e2
  cases hk : List.lookup a K with
  | none =>
    refine core (fun b => if b = a then some (HO.frz { cls := Value.type "list", data := Data.seq vs.toArray } (HO.lst (ns.map V.int))) else none) (fun b => ?_) (Or.inl (Or.inr ⟨_, if_pos rfl⟩)) (fun b u z => ?_) (fun b z => ?_) (fun _ => hk)
    · by_cases hb : b = a
      · exact .inr ⟨_, _, if_pos hb⟩
      · exact .inl (if_neg hb)
    · by_cases hb : b = a
      · have z' := (if_pos hb).symm.trans z
        cases z'
        subst hb
        exact ⟨ha, by rw [List.length_map]; exact hl, vs, 0, rv, ha⟩
      · have z' := (if_neg hb).symm.trans z
        cases z'
    · by_cases hb : b = a
      · exact hb
      · exact absurd (if_neg hb) z
  | some o =>
    have e := KX a o hk
    rw [ha] at e
    cases e
    refine core (fun _ => none) (fun _ => .inl rfl) (Or.inr ⟨_, vs.toArray, 0, hk, rfl, rfl, rfl, by rw [List.size_toArray, lenV]; exact hl, rv⟩) (fun b u z => ?_) (fun b z => absurd rfl z) (fun z => absurd rfl z)
    cases z
theorem walk_of2 {l : PySem.W.OpenLaw} {n k : Nat} {q : Program} {loose : List Str} {XP : (Str → Option Value) → Heap → Prop} {YP : World → Heap → Prop} {d : DefRec} {K : Params → PySem.W.Frag} {sp : World → Sp} {x : Str} (hn : l.most = some n) (hn2 : n ≤ sizeLine) (hdf : d.params.defaults = []) (hr : Room k callerA)
    (hY : ∀ (w : World) (h : Heap), YP w h → (K w.params).In h)
    (F : ∀ (w : World) (mg : Str → Option Value) (fa : Addr) (h : Heap), (K w.params).In h → h.Ns mainGlobals mg → mg d.name = some (Value.ref fa) → ∃ fd, (∀ (s : Shared) (u : Value), BindsTo s fd { pos := [u] } [(x, u)]) ∧ ∀ base : Heap, (K w.params).In base → base.Ns mainGlobals mg → FnG l.prog w (K w.params) mg base k fa fd [x] (sp w))
    (hsp : ∀ (w : World) (H : Hp) (a : Addr) (ns : List Int), ns.length ≤ n → Only H → SqL (K w.params) H a (ns.map V.int) → sp w [V.ref a] H (fun v _ => v = V.bl true) fun _ _ _ => False) :
    PySem.W.WalkO q loose XP YP l.row.toRowW d [] fun f vs => call f vs :=
  Att.attach_call hn hdf fun w s₀ s₁ mg mb fa o pm cd doc a vs ns G Y ho hd hcd hmg hobj hints hlen hg => by
    have KX := hY w s₁.heap Y
    obtain ⟨fd, hb, hF⟩ := F w mg fa s₁.heap KX G.T.g hmg
    exact law_call2 KX G.T.g G.T.b G.T.builtins G.T.nolimit hg hobj hints (Nat.le_trans hlen hn2) hr hF hb (fun H hO hS => hsp w H a ns hlen hO hS)
/-! ### str of data -/
def rStrD (K : PySem.W.Frag) : List V → Hp → VK → Prop := fun xs H Q => ∃ (a : Addr) (d : PyData), xs = [.ref a] ∧ Dp K H (.ref a) d ∧ d.showable = true ∧ d.hasDict = false ∧ d.depth ≤ 40 ∧ d.shown.length ≤ sizeLine ∧ Q (.str d.shown) H
theorem cr_strD (K : PySem.W.Frag) {X : Cx} (hg : X.A.guards = some []) (hu : X.A.units + 64 < cLine) (hK : X.K = K := by rfl) : CallR X (.type "str") (rStrD K) := by
  subst hK
  intro pins s σ H xs us Q I r h
  obtain ⟨a, d, rfl, hd, h1, h2, h3, h4, q⟩ := h
  obtain ⟨u, rfl, ru⟩ := vals1 r
  have ru2 := ru
  obtain rfl : u = Value.ref a := ru
  obtain ⟨as, hr⟩ := Dp.reads I d _ _ hd ru2
  exact str_of_reads hr h1 (fun z => by rw [h2] at z; cases z) hg (by omega) (fun _ _ e => e) (fun h' u tk hk => ⟨.str d.shown, H, I.kept hk, ⟨u, rfl⟩, q⟩) h4
/-! ### how long a text is -/
structure Shw (d : PyData) (n : Nat) : Prop where
  a : d.showable = true
  b : d.hasDict = false
  c : d.shown.length ≤ n
theorem Shw.mono {d : PyData} {n m : Nat} (h : Shw d n) (l : n ≤ m) : Shw d m := ⟨h.a, h.b, Nat.le_trans h.c l⟩
theorem shw_all {n : Nat} : ∀ {ds : List PyData}, (∀ d ∈ ds, Shw d n) → PyData.showableAll ds = true ∧ PyData.hasDictAll ds = false ∧ ((PyData.shownAll ds).map (fun x => x.length)).sum ≤ n * ds.length ∧ (PyData.shownAll ds).length = ds.length
  | [], _ => ⟨by rw [PyData.showableAll], by rw [PyData.hasDictAll], by rw [PyData.shownAll]; simp, by rw [PyData.shownAll]; rfl⟩
  | d :: ds, h => by
    obtain ⟨h1, h2, h3, h4⟩ := shw_all (ds := ds) (n := n) fun x hx => h x (List.mem_cons_of_mem _ hx)
    have h0 := h d (List.mem_cons_self ..)
    refine ⟨?_, ?_, ?_, ?_⟩
    · rw [PyData.showableAll, h1, h0.a]; rfl
    · rw [PyData.hasDictAll, h2, h0.b]; rfl
    · rw [PyData.shownAll, List.map_cons, List.sum_cons, List.length_cons, Nat.mul_succ]
      have := h0.c
      omega
    · rw [PyData.shownAll, List.length_cons, List.length_cons, h4]
theorem shw_lst {ds : List PyData} {n : Nat} (h : ∀ d ∈ ds, Shw d n) : Shw (.list ds) (n * ds.length + 2 * ds.length + 3) := by
  obtain ⟨h1, h2, h3, h4⟩ := shw_all h
  refine ⟨by rw [PyData.showable]; exact h1, by rw [PyData.hasDict]; exact h2, ?_⟩
  rw [PyData.shown]
  have := listText_len_le (PyData.shownAll ds)
  rw [h4] at this
  omega
theorem shw_tup {ds : List PyData} {n : Nat} (h : ∀ d ∈ ds, Shw d n) : Shw (.tuple ds) (n * ds.length + 2 * ds.length + 3) := by
  obtain ⟨h1, h2, h3, h4⟩ := shw_all h
  refine ⟨by rw [PyData.showable]; exact h1, by rw [PyData.hasDict]; exact h2, ?_⟩
  rw [PyData.shown]
  have := tupleText_len_le (PyData.shownAll ds)
  rw [h4] at this
  omega
theorem shw_int {i : Int} (h : i.natAbs < 2 ^ 40) : Shw (.int i) 60 := by
  refine ⟨?_, by rw [PyData.hasDict], ?_⟩
  · rw [PyData.showable]
    refine decide_eq_true ?_
    rcases Nat.eq_zero_or_pos i.natAbs with z | z
    · rw [z]; decide
    · have := (Nat.log2_lt (by omega)).mpr h
      omega
  · rw [PyData.shown]
    have h2 := nat_repr_length_le (n := i.natAbs) (k := 40) (by decide) h
    rw [PySem.ofString_length]
    cases i with
    | ofNat m =>
      have e : toString (Int.ofNat m) = m.repr := rfl
      rw [e]
      have e : (Int.ofNat m).natAbs = m := rfl
      rw [e] at h2
      omega
    | negSucc m =>
      have e : toString (Int.negSucc m) = "-" ++ (m + 1).repr := rfl
      rw [e, String.length_append]
      have e : (Int.negSucc m).natAbs = m + 1 := rfl
      rw [e] at h2
      have : "-".length = 1 := rfl
      omega
theorem shw_eC {ns : List Int} (h : cIn (-1000000000) 1000000000 ns) (l : ns.length ≤ 10) : Shw (eC ns) 700 := by
  refine (shw_tup (n := 60) fun d hd => ?_).mono (by rw [List.length_map]; omega)
  obtain ⟨x, hx, rfl⟩ := List.mem_map.mp hd
  have := h x hx
  exact shw_int (by omega)
theorem shw_eI {ns : List Int} (h : cIn (-1000000000) 1000000000 ns) (l : ns.length ≤ 100) : Shw (eI ns) 7000 := by
  refine (shw_lst (n := 60) fun d hd => ?_).mono (by rw [List.length_map]; omega)
  obtain ⟨x, hx, rfl⟩ := List.mem_map.mp hd
  have := h x hx
  exact shw_int (by omega)
theorem shw_eP {cs : List (List Int)} (h : ∀ c ∈ cs, c.length ≤ 10 ∧ cIn (-1000000000) 1000000000 c) (l : cs.length ≤ 100) : Shw (eP cs) 71000 := by
  refine (shw_lst (n := 700) fun d hd => ?_).mono (by rw [List.length_map]; omega)
  obtain ⟨x, hx, rfl⟩ := List.mem_map.mp hd
  exact shw_eC (h x hx).2 (h x hx).1
theorem shw_eG {ps : List (List (List Int))} (h : ∀ p ∈ ps, p.length ≤ 100 ∧ ∀ c ∈ p, c.length ≤ 10 ∧ cIn (-1000000000) 1000000000 c) (l : ps.length ≤ 50) : Shw (eG ps) 4000000 := by
  refine (shw_lst (n := 71000) fun d hd => ?_).mono (by rw [List.length_map]; omega)
  obtain ⟨x, hx, rfl⟩ := List.mem_map.mp hd
  exact shw_eP (h x hx).2 (h x hx).1
end Z

set_option Elab.async false
set_option linter.all false
set_option maxRecDepth 100000
namespace Z
open PySem PySem.Spec PyProof.Rows L2
/-! ### a walk over a list or a tuple -/
def iSeq (K : PySem.W.Frag) (tl : TE) : TI := fun σ H R => iList K tl σ H R ∨ iTup K tl σ H R
theorem pi_seqK (K : PySem.W.Frag) {X : Cx} {tg l : Expr} {tl : TE} (hl : PE X l tl) (h : X.K = K := by rfl) : PI X tg l (iSeq K tl) := by
  subst h
  refine ⟨fun pins s σ H R I h => ?_⟩
  rcases h with h | h
  · exact (pi_list hl).run pins s σ H R I h
  · exact (pi_tup hl).run pins s σ H R I h
/-! ### texts of great numbers -/
theorem shw_intW {i : Int} (h : i.natAbs < 2 ^ 200) : Shw (.int i) 300 := by
  refine ⟨?_, by rw [PyData.hasDict], ?_⟩
  · rw [PyData.showable]
    refine decide_eq_true ?_
    rcases Nat.eq_zero_or_pos i.natAbs with z | z
    · rw [z]; decide
    · have := (Nat.log2_lt (by omega)).mpr h
      omega
  · rw [PyData.shown]
    have h2 := nat_repr_length_le (n := i.natAbs) (k := 200) (by decide) h
    rw [PySem.ofString_length]
    cases i with
    | ofNat m =>
      have e : toString (Int.ofNat m) = m.repr := rfl
      rw [e]
      have e : (Int.ofNat m).natAbs = m := rfl
      rw [e] at h2
      omega
    | negSucc m =>
      have e : toString (Int.negSucc m) = "-" ++ (m + 1).repr := rfl
      rw [e, String.length_append]
      have e : (Int.negSucc m).natAbs = m + 1 := rfl
      rw [e] at h2
      have : "-".length = 1 := rfl
      omega
theorem qp_int (n : Int) : qp (n : Rat) = (n, 1) := rfl
end Z

set_option Elab.async false
set_option linter.all false
set_option maxRecDepth 100000
namespace Z
open PySem PySem.Spec PyProof.Rows L2
/-! ### sorted ints -/
theorem cr_sortedIK (K : PySem.W.Frag) {X : Cx} (h : X.K = K := by rfl) : CallR X (.builtin "sorted") (rSortedI K) := h ▸ cr_sortedI
end Z

set_option Elab.async false
set_option linter.all false
set_option maxRecDepth 100000
namespace Z
open PySem PySem.Spec PyProof.Rows L2
/-! ### zip of three tuples -/
def It3 (K : PySem.W.Frag) (a b c : Addr) : It where
  go := fun i H => ∃ (xs ys ts : List V) (x y t : V), (SqT K H a xs ∧ SqT K H b ys ∧ SqT K H c ts) ∧ xs[i]? = some x ∧ ys[i]? = some y ∧ ts[i]? = some t
  yld := fun i H v H' => ∃ (T : Addr) (x y t : V), v = .ref T ∧ H T = none ∧ H' = upd H T (.tup [x, y, t]) ∧ (∀ l, SqT K H a l → l[i]? = some x) ∧ (∀ l, SqT K H b l → l[i]? = some y) ∧ ∀ l, SqT K H c l → l[i]? = some t
  stop := fun i H => ∃ xs ys ts : List V, (SqT K H a xs ∧ SqT K H b ys ∧ SqT K H c ts) ∧ i ≤ xs.length ∧ i ≤ ys.length ∧ i ≤ ts.length ∧ (i = xs.length ∨ i = ys.length ∨ i = ts.length)
def own3 (z TI TO i1 i2 i3 : Addr) : List Addr := [z, TI, TO, i1, i2, i3]
def at3 (a b c z TI TO i1 i2 i3 : Addr) (i : Nat) (h : Heap) : Prop :=
  IsZip h z TI TO .none ∧ IsTupOf3 h TI (.ref i1) (.ref i2) (.ref i3) ∧ (∃ x y t, IsTupOf3 h TO x y t) ∧ h.IsTupleIter i1 a i ∧ h.IsTupleIter i2 b i ∧ h.IsTupleIter i3 c i
theorem six {z TI TO i1 i2 i3 q : Addr} (h : q ∈ own3 z TI TO i1 i2 i3) : q = z ∨ q = TI ∨ q = TO ∨ q = i1 ∨ q = i2 ∨ q = i3 := by
  simpa [own3] using h
theorem ne_it {h : Heap} {t it l : Addr} {items : Array Value} {i : Nat} (p : h.IsTuple t items) (q : h.IsTupleIter it l i) : t ≠ it := fun e => by
  obtain ⟨o, ho, hcl, _⟩ := p
  obtain ⟨o', ho', hcl', _⟩ := q
  rw [e, ho'] at ho
  have eo := Option.some.inj ho
  rw [eo, hcl] at hcl'
  exact absurd (Value.type.inj hcl') (by decide)
set_option maxHeartbeats 1000000 in
theorem turn3 {P : Program} {w : World} {K : PySem.W.Frag} {elts : List Expr} {kk : Nat} {tpos : Pos} {a b c z TI TO i1 i2 i3 : Addr} (D : ZipSep3 z TI TO i1 i2 i3 [i1, a] [i2, b] [i3, c]) :
    Turn P w K (.Tuple elts kk tpos) (It3 K a b c) (own3 z TI TO i1 i2 i3) z (at3 a b c z TI TO i1 i2 i3) := by
  refine ⟨by simp [own3], fun i h st q hq => ?_, fun i h h' st k => ?_, ?_, ?_, fun A i s Q E st h => wpAny_pyIter_zip st.1 h⟩
  · obtain ⟨hz, hTI, ⟨x, y, t, hTO⟩, ⟨o1, e1, _, d1⟩, ⟨o2, e2, _, d2⟩, ⟨o3, e3, _, d3⟩⟩ := st
    rcases six hq with rfl | rfl | rfl | rfl | rfl | rfl
    · exact ⟨_, hz, fun v q => nomatch q⟩
    · exact ⟨_, hTI, fun v q => nomatch q⟩
    · exact ⟨_, hTO, fun v q => nomatch q⟩
    · exact ⟨o1, e1, fun v q => by rw [d1] at q; cases q⟩
    · exact ⟨o2, e2, fun v q => by rw [d2] at q; cases q⟩
    · exact ⟨o3, e3, fun v q => by rw [d3] at q; cases q⟩
  · obtain ⟨hz, hTI, ⟨x, y, t, hTO⟩, h1, h2, h3⟩ := st
    exact ⟨k z (by simp [own3]) _ hz, k TI (by simp [own3]) _ hTI, ⟨x, y, t, k TO (by simp [own3]) _ hTO⟩, h1.at fun o q => k i1 (by simp [own3]) o q, h2.at fun o q => k i2 (by simp [own3]) o q, h3.at fun o q => k i3 (by simp [own3]) o q⟩
  · intro X hP hw hK hc i pins s σ H E I hf st hg
    subst hP hw hK
    obtain ⟨hz, hTI, ⟨x0, y0, t0, hTO⟩, h1, h2, h3⟩ := st
    obtain ⟨xs, ys, ts, x, y, t, ⟨qx, qy, qt⟩, fx, fy, ft⟩ := hg
    obtain ⟨js1, r1, p1, _⟩ := I.tuple qx
    obtain ⟨js2, r2, p2, _⟩ := I.tuple qy
    obtain ⟨js3, r3, p3, _⟩ := I.tuple qt
    obtain ⟨u1, f1, m1⟩ := r1.get fx
    obtain ⟨u2, f2, m2⟩ := r2.get fy
    obtain ⟨u3, f3, m3⟩ := r3.get ft
    have lz : z < s.heap.objs.size := Heap.lt_size hz
    have hd := I.ok.hd hc
    have n1 : a ≠ i1 := ne_it p1 h1
    have n2 : b ≠ i2 := ne_it p2 h2
    have n3 : c ≠ i3 := ne_it p3 h3
    have k1 : i < js1.toArray.size := by have := (List.getElem?_eq_some_iff.mp f1).1; simpa using this
    have k2 : i < js2.toArray.size := by have := (List.getElem?_eq_some_iff.mp f2).1; simpa using this
    have k3 : i < js3.toArray.size := by have := (List.getElem?_eq_some_iff.mp f3).1; simpa using this
    refine wpAny_pyNext_zipD3_item D (Draws.tuple (A := X.A.in1) hd i1 a n1 js1.toArray) (Draws.tuple (A := X.A.in1) hd i2 b n2 js2.toArray) (Draws.tuple (A := X.A.in1) hd i3 c n3 js3.toArray) hz hTI hTO ⟨h1, p1⟩ ⟨h2, p2⟩ ⟨h3, p3⟩ k1 k2 k3 fun x1 x2 x3 h' tk e1 e2 e3 z' TO' st1 st2 st3 hT hsz hk => ?_
    have w1 : x1 = u1 := Option.some.inj (e1.symm.trans (by simpa using f1))
    have w2 : x2 = u2 := Option.some.inj (e2.symm.trans (by simpa using f2))
    have w3 : x3 = u3 := Option.some.inj (e3.symm.trans (by simpa using f3))
    subst w1 w2 w3
    refine ⟨_, rfl, wpAny_letOwnedTupleGo_zip (s := { s with heap := h', toks := tk }) z' fun h'' z'' sb => ?_⟩
    have up : ∀ q o, q ≠ z → h'.get? q = some o → h''.get? q = some o := fun q o n e => (sb.2 q n).trans e
    have hT2 := up _ _ (Nat.ne_of_gt lz) hT
    have fresh : H s.heap.objs.size = none := I.hok.fresh (Nat.le_refl _)
    have new : ObjOk X.prog X.w (upd H s.heap.objs.size (.tup [x, y, t])) h'' s.heap.objs.size (.tup [x, y, t]) :=
      ⟨by show 3 ≤ sizeLine; decide, [x1, x2, x3], .cons m1 (.cons m2 (.cons m3 .nil)), ⟨_, hT2, rfl, _, rfl⟩⟩
    have kp : ∀ q o, q ∉ own3 z TI TO i1 i2 i3 → s.heap.get? q = some o → h''.get? q = some o := fun q o nq e => by
      have nz : q ≠ z := fun y => nq (by simp [own3, y])
      refine up q o nz (hk q o nz (fun y => nq (by simp [own3, y])) (fun y => nq (by simp [own3, y])) (fun y => nq (by simp [own3, y])) (fun y => nq (by simp [own3, y])) e)
    have zi : ∀ {j : Addr} {fp : List Addr}, j ∈ fp → z ∉ fp → j ≠ z := fun hj hz e => hz (by rw [← e]; exact hj)
    refine ⟨.ref s.heap.objs.size, _, I.turnedNew (t' := tk) (ch := own3 z TI TO i1 i2 i3) kp hf (Nat.le_refl _) new, rfl, ⟨_, x, y, t, rfl, fresh, rfl, fun l hl => by rw [I.tuple_inj hl qx]; exact fx, fun l hl => by rw [I.tuple_inj hl qy]; exact fy, fun l hl => by rw [I.tuple_inj hl qt]; exact ft⟩, ⟨z'', ?_, ⟨x1, x2, x3, up _ _ D.TOz TO'⟩, ?_, ?_, ?_⟩, fun q hq => ?_⟩
    · exact up _ _ D.TIz (hk _ _ D.TIz D.TITO D.TIi1 D.TIi2 D.TIi3 hTI)
    · exact st1.1.at fun o e => up _ _ (zi D.mem1 D.zf1) e
    · exact st2.1.at fun o e => up _ _ (zi D.mem2 D.zf2) e
    · exact st3.1.at fun o e => up _ _ (zi D.mem3 D.zf3) e
    · have lq : q < s.heap.objs.size := by
        rcases six hq with rfl | rfl | rfl | rfl | rfl | rfl
        · exact lz
        · exact Heap.lt_size hTI
        · exact Heap.lt_size hTO
        · obtain ⟨_, e, _⟩ := h1; exact Heap.lt_size e
        · obtain ⟨_, e, _⟩ := h2; exact Heap.lt_size e
        · obtain ⟨_, e, _⟩ := h3; exact Heap.lt_size e
      rw [upd_ne (Nat.ne_of_lt lq)]
      exact (hf q hq).1
  · intro X hP hw hK hc i pins s σ H E I hf st hg
    subst hP hw hK
    obtain ⟨hz, hTI, ⟨x0, y0, t0, hTO⟩, h1, h2, h3⟩ := st
    obtain ⟨xs, ys, ts, ⟨qx, qy, qt⟩, b1, b2, b3, hend⟩ := hg
    obtain ⟨js1, r1, p1, _⟩ := I.tuple qx
    obtain ⟨js2, r2, p2, _⟩ := I.tuple qy
    obtain ⟨js3, r3, p3, _⟩ := I.tuple qt
    have hd := I.ok.hd hc
    have l1 := r1.length
    have l2 := r2.length
    have l3 := r3.length
    have n1 : a ≠ i1 := ne_it p1 h1
    have n2 : b ≠ i2 := ne_it p2 h2
    have n3 : c ≠ i3 := ne_it p3 h3
    refine wpAny_pyNext_zipD3_end D (Draws.tuple (A := X.A.in1) hd i1 a n1 js1.toArray) (Draws.tuple (A := X.A.in1) hd i2 b n2 js2.toArray) (Draws.tuple (A := X.A.in1) hd i3 c n3 js3.toArray) hz hTI hTO ⟨h1, p1⟩ ⟨h2, p2⟩ ⟨h3, p3⟩ (by simp; omega) (by simp; omega) (by simp; omega) (by simp; omega) fun h' tk hk => ?_
    exact ⟨rfl, I.turnedL (t' := tk) (ch := own3 z TI TO i1 i2 i3) (fun q o nq e => hk q o (fun y => nq (by simp [own3, y])) (fun y => nq (by simp [own3, y])) (fun y => nq (by simp [own3, y])) (fun y => nq (by simp [own3, y])) (fun y => nq (by simp [own3, y])) e) hf⟩
set_option maxHeartbeats 400000
def iZip3 (K : PySem.W.Frag) (ta : TA) : TI := fun σ H R => ta σ H fun vs H1 => ∃ a b c xs ys ts, vs = [.ref a, .ref b, .ref c] ∧ SqT K H1 a xs ∧ SqT K H1 b ys ∧ SqT K H1 c ts ∧ R (It3 K a b c) H1
theorem own_le {N y : Nat} (hy : y ∈ own3 (N + 5) (N + 3) (N + 4) N (N + 1) (N + 2)) : N ≤ y := by
  rcases six hy with z | z | z | z | z | z <;> rw [z]
  · exact Nat.le_add_right _ _
  · exact Nat.le_add_right _ _
  · exact Nat.le_add_right _ _
  · exact Nat.le_refl _
  · exact Nat.le_add_right _ _
  · exact Nat.le_add_right _ _
theorem zip3_end {X : Cx} {pins : List (Addr × Obj)} {σ : L2.St} {H1 : Hp} {s1 : Shared} {R : It → Hp → Prop} {a b c : Addr} {xs ys ts : List V} {elts : List Expr} {kk : Nat} {tpos : Pos} (I1 : Inv X pins σ H1 s1) (qx : SqT X.K H1 a xs) (qy : SqT X.K H1 b ys) (qt : SqT X.K H1 c ts) (q : R (It3 X.K a b c) H1) :
    wpAny (model X.prog X.w) X.A (call (.type "zip") [.ref a, .ref b, .ref c]) (fun v s2 => wpAny (model X.prog X.w) X.A (pyIter v) (PIE X pins σ (.Tuple elts kk tpos) R) X.xe s2) X.xe s1 := by
  obtain ⟨js1, m1, p1, _⟩ := I1.tuple qx
  obtain ⟨js2, m2, p2, _⟩ := I1.tuple qy
  obtain ⟨js3, m3, p3, _⟩ := I1.tuple qt
  have la : a < s1.heap.objs.size := by obtain ⟨_, o, _⟩ := p1; exact Heap.lt_size o
  have lb : b < s1.heap.objs.size := by obtain ⟨_, o, _⟩ := p2; exact Heap.lt_size o
  have lc : c < s1.heap.objs.size := by obtain ⟨_, o, _⟩ := p3; exact Heap.lt_size o
  refine zip_begins3 (begins_tuple a js1.toArray) (begins_tuple b js2.toArray) (begins_tuple c js3.toArray) p1 p2 p3 fun h' hz hTI hTO g1 g2 g3 hsz hk => wpAny_pyIter_zip hz ?_
  have one : ∀ {x : Addr}, x < s1.heap.objs.size → ∀ y ∈ [x], y < s1.heap.objs.size := fun hx y hy => by rw [List.mem_singleton.mp hy]; exact hx
  have I2 : Inv X pins σ H1 { s1 with heap := h' } := I1.kept (t' := s1.toks) hk
  have fr : ∀ y, s1.heap.objs.size ≤ y → FpOk X pins H1 y := fun y hle => I1.fpOk hle (I1.hok.fresh hle)
  have sp := zip_sep3 (one la) (one lb) (one lc)
  generalize s1.heap.objs.size = N at *
  exact ⟨N + 5, own3 (N + 5) (N + 3) (N + 4) N (N + 1) (N + 2), at3 a b c (N + 5) (N + 3) (N + 4) N (N + 1) (N + 2), It3 X.K a b c, H1, rfl, I2, turn3 sp, ⟨hz, hTI, ⟨_, _, _, hTO⟩, ⟨_, g1, rfl, rfl⟩, ⟨_, g2, rfl, rfl⟩, ⟨_, g3, rfl, rfl⟩⟩, fun y hy => fr y (own_le hy), q⟩
theorem pi_zip3 (K : PySem.W.Frag) {X : Cx} {e e2 e3 : Expr} {ta : TA} {p pos tpos : Pos} {elts : List Expr} {kk : Nat} (hg : Gl X "zip") (hm : X.mg "zip" = none) (ha : PA X [e, e2, e3] ta)
    (hs : starEach [e, e2, e3] X.env = (false, eval e X.env) :: starEach [e2, e3] X.env := by rfl) (hpl : (backTo pos (starEach [e2, e3] X.env)).any (·.1) = false := by rfl) (hK : X.K = K := by rfl) :
    PI X (.Tuple elts kk tpos) (.Call (.Name "zip" p) [e, e2, e3] [] pos) (iZip3 K ta) := by
  subst hK
  refine ⟨fun pins s σ H R I h => ?_⟩
  refine Call_ (ld_blt I hg hm PyProof.Rows.boot_zip (PyProof.Rows.callWith_type1 (thn (ha.run pos pins s σ H _ I h) fun us s1 ⟨vs, H1, I1, r1, q1⟩ => ?_) hs hpl))
  obtain ⟨a, b, c, xs, ys, ts, rfl, qx, qy, qt, q⟩ := q1
  obtain ⟨u1, us, rfl, ra, r1⟩ : ∃ u1 vs', us = u1 :: vs' ∧ RelV (.ref a) u1 ∧ Vals [.ref b, .ref c] vs' := by
    cases r1 with
    | cons x y => exact ⟨_, _, rfl, x, y⟩
  obtain ⟨u2, us, rfl, rb, r1⟩ : ∃ u1 vs', us = u1 :: vs' ∧ RelV (.ref b) u1 ∧ Vals [.ref c] vs' := by
    cases r1 with
    | cons x y => exact ⟨_, _, rfl, x, y⟩
  obtain ⟨u3, rfl, rc⟩ := vals1 r1
  cases (show u1 = Value.ref a from ra)
  cases (show u2 = Value.ref b from rb)
  cases (show u3 = Value.ref c from rc)
  exact zip3_end I1 qx qy qt q
def YTri (xs ys ts : List V) : Nat → Hp → V → Hp → Prop := fun i H v H' => ∃ T x y t, v = .ref T ∧ H T = none ∧ H' = upd H T (.tup [x, y, t]) ∧ xs[i]? = some x ∧ ys[i]? = some y ∧ ts[i]? = some t
theorem walk_zip3 {K : PySem.W.Frag} {a b c : Addr} {xs ys ts : List V} (h1 : ys.length = xs.length) (h2 : ts.length = xs.length) : Walk (It3 K a b c) xs.length (fun H => SqT K H a xs ∧ SqT K H b ys ∧ SqT K H c ts) (YTri xs ys ts) := by
  refine ⟨fun i H hi q => ⟨xs, ys, ts, xs[i], ys[i]'(by omega), ts[i]'(by omega), q, by simp [hi], by simp, by simp⟩, fun H q => ⟨xs, ys, ts, q, by omega, by omega, by omega, .inl rfl⟩, fun i H v H' _ q y => ?_⟩
  obtain ⟨T, x, z, t, e1, e2, e3, e4, e5, e6⟩ := y
  exact ⟨T, x, z, t, e1, e2, e3, e4 xs q.1, e5 ys q.2.1, e6 ts q.2.2⟩
end Z

set_option Elab.async false
set_option linter.all false
set_option maxRecDepth 100000
set_option maxHeartbeats 400000
namespace Z
open PySem PySem.Spec PyProof.Rows L2
/-! ### x < y, x and y data alike -/
def rLtD (K : PySem.W.Frag) : R2 := fun x y H Q => ∃ da db, Dp K H x da ∧ Dp K H y db ∧ PySem.W.alike da db = true ∧ da ≠ .none ∧ da.depth ≤ 50 ∧ Q (.bl (PySem.W.dataLt da db)) H
theorem op_ltD (K : PySem.W.Frag) {X : Cx} (hu : X.A.units + 64 < cLine) (hK : X.K = K := by rfl) : OpR X (compareOp .Lt) (rLtD K) := by
  subst hK
  intro pins s σ H x y v u Q I rx ry h
  obtain ⟨d, e, hd, he, ha, hn, hdp, q⟩ := h
  obtain ⟨as, r1⟩ := Dp.reads I d x v hd rx
  obtain ⟨bs, r2⟩ := Dp.reads I e y u he ry
  exact PySem.W.lt_data r1 r2 ha hn (by have := Nat.min_le_left d.depth e.depth; omega) ⟨.bl _, H, I, rfl, q⟩
theorem lt_eI (xs ys : List Int) : PySem.W.dataLt (eI xs) (eI ys) = decide (xs < ys) := by
  unfold eI
  rw [PySem.W.dataLt_list]
  exact PySem.W.dataLt_ints xs ys
theorem alike_eI (xs ys : List Int) : PySem.W.alike (eI xs) (eI ys) = true := by
  unfold eI
  simp [PySem.W.alike, PySem.W.alike_ints]
end Z

set_option Elab.async false
set_option linter.all false
set_option maxRecDepth 100000
set_option maxHeartbeats 400000
namespace Z
open PySem PySem.Spec PyProof.Rows L2 L2.DX
theorem op_inDK (K : PySem.W.Frag) {X : Cx} (hu : X.A.units + 65 < cLine) (h : X.K = K := by rfl) : OpR X (compareOp .In) (rInD K) := h ▸ op_inD hu
theorem hu65 {k : Nat} {A : Around} (h : Room k A) : A.units + 65 < cLine := by
  have := h.un
  omega
/-! ### dicts by colours -/
theorem inl_inj {a b : List Int} (h : a.map (Sum.inl (β := Str)) = b.map Sum.inl) : a = b := by
  refine (List.map_inj_right (fun x y e => ?_)).mp h
  exact Sum.inl.inj e
theorem put_keys (ks : List (List Int × Int)) (c : List Int) (n : Int) : ∃ ks' : List (List Int × Int), putK (ks.map entI) (c.map Sum.inl) (.int n) = ks'.map entI ∧ (∀ e ∈ ks', e.1 = c ∨ ∃ f ∈ ks, f.1 = e.1) ∧ (∀ f ∈ ks, ∃ e ∈ ks', e.1 = f.1) ∧ (∃ e ∈ ks', e.1 = c) ∧ ks'.length ≤ ks.length + 1 := by
  unfold putK
  by_cases b : ((ks.map entI).any fun kv => decide (kv.1 = c.map Sum.inl)) = true
  · rw [if_pos b]
    refine ⟨ks.map fun e => if e.1.map (Sum.inl (β := Str)) = c.map Sum.inl then (e.1, n) else e, ?_, fun e he => ?_, fun f hf => ?_, ?_, by simp⟩
    · rw [List.map_map, List.map_map]
      refine List.map_congr_left fun e _ => ?_
      show (if (entI e).1 = c.map Sum.inl then ((entI e).1, V.int n) else entI e) = entI (if e.1.map Sum.inl = c.map Sum.inl then (e.1, n) else e)
      by_cases x : e.1.map (Sum.inl (β := Str)) = c.map Sum.inl
      · rw [if_pos (show (entI e).1 = _ from x), if_pos x]
        rfl
      · rw [if_neg (show ¬ (entI e).1 = _ from x), if_neg x]
    · obtain ⟨f, hf, rfl⟩ := List.mem_map.mp he
      right
      refine ⟨f, hf, ?_⟩
      split <;> rfl
    · refine ⟨_, List.mem_map.mpr ⟨f, hf, rfl⟩, ?_⟩
      split <;> rfl
    · obtain ⟨kv, hkv, hd⟩ := List.any_eq_true.mp b
      obtain ⟨f, hf, rfl⟩ := List.mem_map.mp hkv
      have hd' : f.1.map (Sum.inl (β := Str)) = c.map Sum.inl := of_decide_eq_true hd
      refine ⟨_, List.mem_map.mpr ⟨f, hf, rfl⟩, ?_⟩
      rw [if_pos hd']
      exact inl_inj hd'
  · rw [if_neg b]
    refine ⟨ks ++ [(c, n)], by rw [List.map_append]; rfl, fun e he => ?_, fun f hf => ⟨f, List.mem_append_left _ hf, rfl⟩, ⟨(c, n), by simp, rfl⟩, by simp⟩
    rcases List.mem_append.mp he with x | x
    · exact .inr ⟨e, x, rfl⟩
    · rw [List.mem_singleton.mp x]
      exact .inl rfl
theorem val_int (ks : List (List Int × Int)) (k : List L2.Key) : valV (ks.map entI) k = none ∨ ∃ n : Int, valV (ks.map entI) k = some (.int n) := by
  unfold valV
  cases h : (ks.map entI).find? fun kv => decide (kv.1 = k) with
  | none => exact .inl rfl
  | some kv =>
    obtain ⟨f, _, rfl⟩ := List.mem_map.mp (List.mem_of_find?_eq_some h)
    exact .inr ⟨f.2, rfl⟩
theorem val_at {ks : List (List Int × Int)} {e : List Int × Int} (h : e ∈ ks) : ∃ n : Int, valV (ks.map entI) (e.1.map Sum.inl) = some (.int n) := by
  rcases val_int ks (e.1.map Sum.inl) with z | z
  · exfalso
    unfold valV at z
    rw [Option.map_eq_none_iff, List.find?_eq_none] at z
    exact z (entI e) (List.mem_map.mpr ⟨e, h, rfl⟩) (by simp [entI])
  · exact z
/-- one more of a colour -/
def wS (φ : List Int → Int) (ks : List (List Int × Int)) : Int := (ks.map fun e => e.2 * φ e.1).sum
def gV (ks : List (List Int × Int)) (c : List Int) : V := (valV (ks.map entI) (c.map Sum.inl)).getD (.int 0)
theorem val_cons (e : List Int × Int) (ks : List (List Int × Int)) (c : List Int) : valV ((e :: ks).map entI) (c.map Sum.inl) = if e.1 = c then some (.int e.2) else valV (ks.map entI) (c.map Sum.inl) := by
  unfold valV
  rw [List.map_cons, List.find?_cons]
  by_cases h : e.1 = c
  · rw [if_pos h]
    have : decide ((entI e).1 = c.map Sum.inl) = true := decide_eq_true (by rw [← h]; rfl)
    rw [this]
    rfl
  · rw [if_neg h]
    have : decide ((entI e).1 = c.map Sum.inl) = false := decide_eq_false (fun z => h (inl_inj z))
    rw [this]
theorem val_none {ks : List (List Int × Int)} {c : List Int} (h : c ∉ ks.map Prod.fst) : valV (ks.map entI) (c.map Sum.inl) = none := by
  induction ks with
  | nil => rfl
  | cons e ks ih =>
    rw [val_cons, if_neg (fun z => h (by rw [← z]; simp)), ih (fun z => h (by rw [List.map_cons]; exact List.mem_cons_of_mem _ z))]
theorem val_some {ks : List (List Int × Int)} (nd : (ks.map Prod.fst).Nodup) {e : List Int × Int} (h : e ∈ ks) : valV (ks.map entI) (e.1.map Sum.inl) = some (.int e.2) := by
  induction ks with
  | nil => cases h
  | cons f ks ih =>
    rw [List.map_cons, List.nodup_cons] at nd
    rw [val_cons]
    rcases List.mem_cons.mp h with z | z
    · rw [z, if_pos rfl]
    · rw [if_neg (fun y => nd.1 (by rw [y]; exact List.mem_map.mpr ⟨e, z, rfl⟩)), ih nd.2 z]
def upK (c : List Int) (n : Int) (e : List Int × Int) : List Int × Int := if e.1 = c then (e.1, n) else e
theorem up_fst (c : List Int) (n : Int) (ks : List (List Int × Int)) : (ks.map (upK c n)).map Prod.fst = ks.map Prod.fst := by
  rw [List.map_map]
  refine List.map_congr_left fun e _ => ?_
  show (upK c n e).1 = e.1
  unfold upK
  split <;> rfl
theorem up_sum (φ : List Int → Int) {c : List Int} {n : Int} : ∀ {ks : List (List Int × Int)}, (ks.map Prod.fst).Nodup → ∀ {m : Int}, (c, m) ∈ ks → wS φ (ks.map (upK c n)) = wS φ ks + (n - m) * φ c
  | [], _, _, h => nomatch h
  | e :: ks, nd, m, h => by
    rw [List.map_cons, List.nodup_cons] at nd
    have same : c ∉ ks.map Prod.fst → ks.map (upK c n) = ks := fun hc => by
      refine (List.map_congr_left fun f hf => ?_).trans (List.map_id _)
      unfold upK
      rw [if_neg (fun z => hc (by rw [← z]; exact List.mem_map.mpr ⟨f, hf, rfl⟩))]
      rfl
    unfold wS at *
    rcases List.mem_cons.mp h with z | z
    · have hc : c ∉ ks.map Prod.fst := by have := nd.1; rw [← z] at this; exact this
      rw [List.map_cons, same hc, List.map_cons, List.sum_cons, List.map_cons, List.sum_cons, ← z]
      unfold upK
      rw [if_pos rfl]
      show n * φ c + _ = m * φ c + _ + (n - m) * φ c
      rw [Int.sub_mul]
      omega
    · have ih := up_sum φ (c := c) (n := n) nd.2 z
      unfold wS at ih
      have ne : e.1 ≠ c := fun y => nd.1 (by rw [y]; exact List.mem_map.mpr ⟨_, z, rfl⟩)
      rw [List.map_cons, List.map_cons, List.sum_cons, ih, List.map_cons, List.sum_cons]
      have : upK c n e = e := by unfold upK; rw [if_neg ne]
      rw [this]
      omega
/-- what the dict holds behind one more of c -/
theorem put_count (ks : List (List Int × Int)) (c : List Int) (nd : (ks.map Prod.fst).Nodup) (z : Int) (hz : gV ks c = .int z) : ∃ ks' : List (List Int × Int), putK (ks.map entI) (c.map Sum.inl) (.int (z + 1)) = ks'.map entI ∧ (ks'.map Prod.fst).Nodup ∧ (∀ φ, wS φ ks' = wS φ ks + φ c) ∧ (∀ e ∈ ks', e = (c, z + 1) ∨ e ∈ ks) ∧ (∀ f ∈ ks.map Prod.fst, f ∈ ks'.map Prod.fst) ∧ c ∈ ks'.map Prod.fst ∧ ks'.length ≤ ks.length + 1 := by
  by_cases hc : c ∈ ks.map Prod.fst
  · obtain ⟨e, he, rfl⟩ := List.mem_map.mp hc
    have hv := val_some nd he
    have ez : e.2 = z := by
      unfold gV at hz
      rw [hv] at hz
      exact V.int.inj hz
    have any : ((ks.map entI).any fun kv => decide (kv.1 = e.1.map Sum.inl)) = true := List.any_eq_true.mpr ⟨entI e, List.mem_map.mpr ⟨e, he, rfl⟩, decide_eq_true rfl⟩
    refine ⟨ks.map (upK e.1 (z + 1)), ?_, by rw [up_fst]; exact nd, fun φ => ?_, fun f hf => ?_, fun f hf => by rw [up_fst]; exact hf, by rw [up_fst]; exact hc, by simp⟩
    · unfold putK
      rw [if_pos any, List.map_map, List.map_map]
      refine List.map_congr_left fun f _ => ?_
      show (if (entI f).1 = e.1.map Sum.inl then ((entI f).1, V.int (z + 1)) else entI f) = entI (upK e.1 (z + 1) f)
      unfold upK
      by_cases x : f.1 = e.1
      · rw [if_pos x, if_pos (show (entI f).1 = _ by rw [← x]; rfl)]
        rfl
      · rw [if_neg x, if_neg (show ¬ (entI f).1 = _ from fun y => x (inl_inj y))]
    · rw [up_sum φ nd (m := z) (by rw [← ez]; exact he)]
      have : z + 1 - z = 1 := by omega
      rw [this, Int.one_mul]
    · obtain ⟨g, hg, rfl⟩ := List.mem_map.mp hf
      unfold upK
      split
      · rename_i h
        exact .inl (by rw [h])
      · exact .inr hg
  · have hv := val_none hc
    have ez : z = 0 := by
      unfold gV at hz
      rw [hv] at hz
      exact (V.int.inj hz).symm
    have any : ¬ ((ks.map entI).any fun kv => decide (kv.1 = c.map Sum.inl)) = true := fun h => by
      obtain ⟨kv, hkv, hd⟩ := List.any_eq_true.mp h
      obtain ⟨f, hf, rfl⟩ := List.mem_map.mp hkv
      exact hc (by rw [← inl_inj (of_decide_eq_true hd)]; exact List.mem_map.mpr ⟨f, hf, rfl⟩)
    refine ⟨ks ++ [(c, z + 1)], ?_, ?_, fun φ => ?_, fun f hf => ?_, fun f hf => ?_, by simp, by simp⟩
    · unfold putK
      rw [if_neg any, List.map_append]
      rfl
    · rw [List.map_append, List.nodup_append]
      refine ⟨nd, by simp, fun a ha b hb => ?_⟩
      simp at hb
      rw [hb]
      exact fun y => hc (by rw [← y]; exact ha)
    · unfold wS
      rw [List.map_append, List.sum_append]
      simp [ez]
    · rcases List.mem_append.mp hf with x | x
      · exact .inr x
      · exact .inl (List.mem_singleton.mp x)
    · rw [List.map_append]
      exact List.mem_append_left _ hf
end Z

set_option Elab.async false
set_option linter.all false
set_option maxRecDepth 100000
set_option maxHeartbeats 400000
namespace Z
open PySem PySem.Spec PyProof.Rows L2
/-! ### x <= y, x > y, x and y data alike -/
def rLeD (K : PySem.W.Frag) : R2 := fun x y H Q => ∃ da db, Dp K H x da ∧ Dp K H y db ∧ PySem.W.alike da db = true ∧ da ≠ .none ∧ da.depth ≤ 50 ∧ Q (.bl (!PySem.W.dataLt db da)) H
def rGtD (K : PySem.W.Frag) : R2 := fun x y H Q => ∃ da db, Dp K H x da ∧ Dp K H y db ∧ PySem.W.alike da db = true ∧ da ≠ .none ∧ da.depth ≤ 50 ∧ Q (.bl (PySem.W.dataLt db da)) H
theorem op_leD (K : PySem.W.Frag) {X : Cx} (hu : X.A.units + 64 < cLine) (hK : X.K = K := by rfl) : OpR X (compareOp .LtE) (rLeD K) := by
  subst hK
  intro pins s σ H x y v u Q I rx ry h
  obtain ⟨d, e, hd, he, ha, hn, hdp, q⟩ := h
  obtain ⟨as, r1⟩ := Dp.reads I d x v hd rx
  obtain ⟨bs, r2⟩ := Dp.reads I e y u he ry
  exact PySem.W.le_data r1 r2 ha hn (by have := Nat.min_le_left d.depth e.depth; omega) ⟨.bl _, H, I, rfl, q⟩
theorem op_gtD (K : PySem.W.Frag) {X : Cx} (hu : X.A.units + 64 < cLine) (hK : X.K = K := by rfl) : OpR X (compareOp .Gt) (rGtD K) := by
  subst hK
  intro pins s σ H x y v u Q I rx ry h
  obtain ⟨d, e, hd, he, ha, hn, hdp, q⟩ := h
  obtain ⟨as, r1⟩ := Dp.reads I d x v hd rx
  obtain ⟨bs, r2⟩ := Dp.reads I e y u he ry
  exact PySem.W.gt_data r1 r2 ha hn (by have := Nat.min_le_left d.depth e.depth; omega) ⟨.bl _, H, I, rfl, q⟩
theorem op_notInDK (K : PySem.W.Frag) {X : Cx} (hu : X.A.units + 65 < cLine) (h : X.K = K := by rfl) : OpR X (compareOp .NotIn) (rNotInD K) := h ▸ op_notInD hu
theorem enc_ne (p : Int × Int) : enc p ≠ .none := fun h => by
  unfold enc eC at h
  cases h
end Z

set_option Elab.async false
set_option linter.all false
set_option maxRecDepth 100000
set_option maxHeartbeats 400000
namespace Z
open PySem PySem.Spec PyProof.Rows L2
/-! ### data alone: what stands in a slot (no: unknown; d: data; o: a list of one's own, with what is in it; l: the list that is drawn from) -/
inductive Sl | no | d (x : PyData) | o (xs : List PyData) | l | v (x : V)
def Lfs (L : List Addr) (H : Hp) (n : Nat) : Prop := ∀ a ∈ L, Lf a H n
structure Rel (L B O : List Addr) (H : Hp) (σ : L2.St) (δ : List Sl) (n : Nat) : Prop where
  len : σ.length = δ.length
  dd : ∀ (i : Nat) x, δ[i]? = some (Sl.d x) → ∃ v, σ[i]? = some (some v) ∧ Dt B H v x
  oo : ∀ (i : Nat) xs, δ[i]? = some (Sl.o xs) → ∃ a vs, σ[i]? = some (some (.ref a)) ∧ a ∈ O ∧ H a = some (.lst vs) ∧ DtA B H vs xs
  uq : ∀ (i j : Nat) xs ys a, δ[i]? = some (Sl.o xs) → δ[j]? = some (Sl.o ys) → σ[i]? = some (some (.ref a)) → σ[j]? = some (some (.ref a)) → i = j
  ll : ∀ (i : Nat), δ[i]? = some Sl.l → ∃ a, a ∈ L ∧ σ[i]? = some (some (.ref a))
  vv : ∀ (i : Nat) v, δ[i]? = some (Sl.v v) → σ[i]? = some (some v)
  bk : Bk B H
  ob : ∀ a ∈ O, a ∈ B ∧ a ∉ L
  lb : ∀ a ∈ L, a ∈ B
  lf : Lfs L H n
theorem getset {α : Type} {xs : List α} {i j : Nat} {s t : α} (h : (xs.set i s)[j]? = some t) : (j = i ∧ t = s ∧ i < xs.length) ∨ (j ≠ i ∧ xs[j]? = some t) := by
  by_cases e : i = j
  · subst e
    by_cases hi : i < xs.length
    · rw [List.getElem?_set_self hi] at h
      exact .inl ⟨rfl, (Option.some.inj h).symm, hi⟩
    · rw [List.getElem?_eq_none (by simpa using hi)] at h
      cases h
  · rw [List.getElem?_set_ne e] at h
    exact .inr ⟨fun z => e z.symm, h⟩
section
variable {L B O : List Addr} {H H' : Hp} {σ : L2.St} {δ : List Sl} {n m i : Nat} {v : V} {x : PyData} {xs : List PyData} {a : Addr} {vs : List V}
theorem Lfs.same (h : Lfs L H n) (s : Same H H') : Lfs L H' n := fun a ha => (h a ha).same s
theorem Lfs.mono (h : Lfs L H n) (l : n ≤ m) : Lfs L H m := fun a ha => (h a ha).mono l
theorem Rel.go (h : Rel L B O H σ δ n) (g : Go L H H') (f : Lfs L H' m) : Rel L B O H' σ δ m where
  len := h.len
  dd := fun i x e => by
    obtain ⟨v, e1, dv⟩ := h.dd i x e
    exact ⟨v, e1, dv.g (g.w h.lb)⟩
  oo := fun i xs e => by
    obtain ⟨a, vs, e1, ha, hs, hA⟩ := h.oo i xs e
    exact ⟨a, vs, e1, ha, g.k a _ (h.ob a ha).2 hs, hA.g (g.w h.lb)⟩
  uq := h.uq
  ll := h.ll
  vv := h.vv
  bk := h.bk.go g
  ob := h.ob
  lb := h.lb
  lf := f
theorem Rel.s (h : Rel L B O H σ δ n) (s : Same H H') : Rel L B O H' σ δ n := h.go (Go.of s) (h.lf.same s)
theorem Rel.set_no (h : Rel L B O H σ δ n) (i : Nat) (y : Option V) : Rel L B O H (σ.set i y) (δ.set i .no) n where
  len := by rw [List.length_set, List.length_set]; exact h.len
  dd := fun j x e => by
    rcases getset e with ⟨_, z, _⟩ | ⟨z, e⟩
    · cases z
    · rw [List.getElem?_set_ne (Ne.symm z)]; exact h.dd j x e
  oo := fun j x e => by
    rcases getset e with ⟨_, z, _⟩ | ⟨z, e⟩
    · cases z
    · rw [List.getElem?_set_ne (Ne.symm z)]; exact h.oo j x e
  uq := fun j k xs ys a e1 e2 => by
    rcases getset e1 with ⟨_, z, _⟩ | ⟨z1, e1⟩
    · cases z
    rcases getset e2 with ⟨_, z, _⟩ | ⟨z2, e2⟩
    · cases z
    rw [List.getElem?_set_ne (Ne.symm z1), List.getElem?_set_ne (Ne.symm z2)]
    exact h.uq j k xs ys a e1 e2
  ll := fun j e => by
    rcases getset e with ⟨_, z, _⟩ | ⟨z, e⟩
    · cases z
    · rw [List.getElem?_set_ne (Ne.symm z)]; exact h.ll j e
  vv := fun j u e => by
    rcases getset e with ⟨_, z, _⟩ | ⟨z, e⟩
    · cases z
    · rw [List.getElem?_set_ne (Ne.symm z)]; exact h.vv j u e
  bk := h.bk
  ob := h.ob
  lb := h.lb
  lf := h.lf
theorem Rel.set_d (h : Rel L B O H σ δ n) (i : Nat) (hv : Dt B H v x) : Rel L B O H (σ.set i (some v)) (δ.set i (.d x)) n where
  len := by rw [List.length_set, List.length_set]; exact h.len
  dd := fun j y e => by
    rcases getset e with ⟨rfl, z, l⟩ | ⟨z, e⟩
    · cases z
      exact ⟨v, by rw [List.getElem?_set_self (by rw [h.len]; exact l)], hv⟩
    · rw [List.getElem?_set_ne (Ne.symm z)]; exact h.dd j y e
  oo := fun j x e => by
    rcases getset e with ⟨_, z, _⟩ | ⟨z, e⟩
    · cases z
    · rw [List.getElem?_set_ne (Ne.symm z)]; exact h.oo j x e
  uq := fun j k xs ys a e1 e2 => by
    rcases getset e1 with ⟨_, z, _⟩ | ⟨z1, e1⟩
    · cases z
    rcases getset e2 with ⟨_, z, _⟩ | ⟨z2, e2⟩
    · cases z
    rw [List.getElem?_set_ne (Ne.symm z1), List.getElem?_set_ne (Ne.symm z2)]
    exact h.uq j k xs ys a e1 e2
  ll := fun j e => by
    rcases getset e with ⟨_, z, _⟩ | ⟨z, e⟩
    · cases z
    · rw [List.getElem?_set_ne (Ne.symm z)]; exact h.ll j e
  vv := fun j u e => by
    rcases getset e with ⟨_, z, _⟩ | ⟨z, e⟩
    · cases z
    · rw [List.getElem?_set_ne (Ne.symm z)]; exact h.vv j u e
  bk := h.bk
  ob := h.ob
  lb := h.lb
  lf := h.lf
theorem Rel.set_l (h : Rel L B O H σ δ n) (i : Nat) (ha : a ∈ L) : Rel L B O H (σ.set i (some (.ref a))) (δ.set i .l) n where
  len := by rw [List.length_set, List.length_set]; exact h.len
  dd := fun j x e => by
    rcases getset e with ⟨_, z, _⟩ | ⟨z, e⟩
    · cases z
    · rw [List.getElem?_set_ne (Ne.symm z)]; exact h.dd j x e
  oo := fun j x e => by
    rcases getset e with ⟨_, z, _⟩ | ⟨z, e⟩
    · cases z
    · rw [List.getElem?_set_ne (Ne.symm z)]; exact h.oo j x e
  uq := fun j k xs ys a e1 e2 => by
    rcases getset e1 with ⟨_, z, _⟩ | ⟨z1, e1⟩
    · cases z
    rcases getset e2 with ⟨_, z, _⟩ | ⟨z2, e2⟩
    · cases z
    rw [List.getElem?_set_ne (Ne.symm z1), List.getElem?_set_ne (Ne.symm z2)]
    exact h.uq j k xs ys a e1 e2
  ll := fun j e => by
    rcases getset e with ⟨rfl, _, l⟩ | ⟨z, e⟩
    · exact ⟨a, ha, by rw [List.getElem?_set_self (by rw [h.len]; exact l)]⟩
    · rw [List.getElem?_set_ne (Ne.symm z)]; exact h.ll j e
  vv := fun j u e => by
    rcases getset e with ⟨_, z, _⟩ | ⟨z, e⟩
    · cases z
    · rw [List.getElem?_set_ne (Ne.symm z)]; exact h.vv j u e
  bk := h.bk
  ob := h.ob
  lb := h.lb
  lf := h.lf
theorem Rel.set_o (h : Rel L B O H σ δ n) (i : Nat) (ha : a ∈ O) (hs : H a = some (.lst vs)) (hA : DtA B H vs xs) (hu : ∀ (j : Nat) ys, j ≠ i → δ[j]? = some (Sl.o ys) → σ[j]? ≠ some (some (.ref a))) : Rel L B O H (σ.set i (some (.ref a))) (δ.set i (.o xs)) n where
  len := by rw [List.length_set, List.length_set]; exact h.len
  dd := fun j x e => by
    rcases getset e with ⟨_, z, _⟩ | ⟨z, e⟩
    · cases z
    · rw [List.getElem?_set_ne (Ne.symm z)]; exact h.dd j x e
  oo := fun j x e => by
    rcases getset e with ⟨rfl, z, l⟩ | ⟨z, e⟩
    · cases z
      exact ⟨a, vs, by rw [List.getElem?_set_self (by rw [h.len]; exact l)], ha, hs, hA⟩
    · rw [List.getElem?_set_ne (Ne.symm z)]; exact h.oo j x e
  uq := fun j k xs ys b p1 p2 f1 f2 => by
    rcases getset p1 with ⟨rfl, _, l1⟩ | ⟨z1, e1⟩
    · rw [List.getElem?_set_self (by rw [h.len]; exact l1)] at f1
      cases f1
      rcases getset p2 with ⟨rfl, _, l⟩ | ⟨z2, e2⟩
      · rfl
      · rw [List.getElem?_set_ne (Ne.symm z2)] at f2
        exact absurd f2 (hu k _ z2 e2)
    · rw [List.getElem?_set_ne (Ne.symm z1)] at f1
      rcases getset p2 with ⟨rfl, _, l⟩ | ⟨z2, e2⟩
      · rw [List.getElem?_set_self (by rw [h.len]; exact l)] at f2
        cases f2
        exact absurd f1 (hu j _ z1 e1)
      · rw [List.getElem?_set_ne (Ne.symm z2)] at f2
        exact h.uq j k _ _ b e1 e2 f1 f2
  ll := fun j e => by
    rcases getset e with ⟨_, z, _⟩ | ⟨z, e⟩
    · cases z
    · rw [List.getElem?_set_ne (Ne.symm z)]; exact h.ll j e
  vv := fun j u e => by
    rcases getset e with ⟨_, z, _⟩ | ⟨z, e⟩
    · cases z
    · rw [List.getElem?_set_ne (Ne.symm z)]; exact h.vv j u e
  bk := h.bk
  ob := h.ob
  lb := h.lb
  lf := h.lf
/-- another address to keep clear of -/
theorem Rel.fr (h : Rel L B O H σ δ n) (ha : H a = none) (g : Go L H H') (e : H' a ≠ none) (f : Lfs L H' m) : Rel L (a :: B) O H' σ δ m where
  len := h.len
  dd := fun i x e => by
    obtain ⟨v, e1, dv⟩ := h.dd i x e
    exact ⟨v, e1, (dv.fr ha).g (g.w fun b hb => List.mem_cons_of_mem _ (h.lb b hb))⟩
  oo := fun i xs e => by
    obtain ⟨b, vs, e1, hb, hs, hA⟩ := h.oo i xs e
    exact ⟨b, vs, e1, hb, g.k b _ (h.ob b hb).2 hs, (hA.fr ha).g (g.w fun b hb => List.mem_cons_of_mem _ (h.lb b hb))⟩
  uq := h.uq
  ll := h.ll
  vv := h.vv
  bk := fun b hb => by
    rcases List.mem_cons.mp hb with z | z
    · rw [z]; exact e
    · exact g.d b (h.bk b z)
  ob := fun b hb => ⟨List.mem_cons_of_mem _ (h.ob b hb).1, (h.ob b hb).2⟩
  lb := fun b hb => List.mem_cons_of_mem _ (h.lb b hb)
  lf := f
theorem Rel.fewer (h : Rel L B O H σ δ n) {B' : List Addr} (s : ∀ b ∈ B', b ∈ B) (so : ∀ b ∈ O, b ∈ B') (sl : ∀ b ∈ L, b ∈ B') : Rel L B' O H σ δ n where
  len := h.len
  dd := fun i x e => by
    obtain ⟨v, e1, dv⟩ := h.dd i x e
    exact ⟨v, e1, dv.sub s⟩
  oo := fun i xs e => by
    obtain ⟨b, vs, e1, hb, hs, hA⟩ := h.oo i xs e
    exact ⟨b, vs, e1, hb, hs, hA.sub s⟩
  uq := h.uq
  ll := h.ll
  vv := h.vv
  bk := fun b hb => h.bk b (s b hb)
  ob := fun b hb => ⟨so b hb, (h.ob b hb).2⟩
  lb := sl
  lf := h.lf
/-- a list of one's own is made -/
theorem Rel.mk_o (h : Rel L B O H σ δ n) (i : Nat) (ha : H a = none) (g : Go L H H') (hs : H' a = some (.lst vs)) (hA : DtA (a :: B) H' vs xs) (f : Lfs L H' m) : Rel L (a :: B) (a :: O) H' (σ.set i (some (.ref a))) (δ.set i (.o xs)) m := by
  have aL : a ∉ L := fun z => h.bk a (h.lb a z) ha
  have r := h.fr ha g (by rw [hs]; exact fun z => nomatch z) f
  have r2 : Rel L (a :: B) (a :: O) H' σ δ m := ⟨r.len, r.dd, fun i xs e => by
    obtain ⟨b, vs, e1, hb, hs, hA⟩ := r.oo i xs e
    exact ⟨b, vs, e1, List.mem_cons_of_mem _ hb, hs, hA⟩, r.uq, r.ll, r.vv, r.bk, fun b hb => by
      rcases List.mem_cons.mp hb with z | z
      · rw [z]; exact ⟨List.mem_cons_self .., aL⟩
      · exact r.ob b z, r.lb, r.lf⟩
  refine r2.set_o i (List.mem_cons_self ..) hs hA fun j ys nj e z => ?_
  obtain ⟨b, ws, e1, hb, hsb, _⟩ := h.oo j ys e
  rw [z] at e1
  cases e1
  rw [ha] at hsb
  cases hsb
/-- what is in it changes -/
theorem Rel.mut (h : Rel L B O H σ δ n) {i : Nat} {ys : List PyData} {ws : List V} (e : δ[i]? = some (.o xs)) (ea : σ[i]? = some (some (.ref a))) (hA : DtA B H ws ys) : Rel L B O (upd H a (.lst ws)) σ (δ.set i (.o ys)) n := by
  obtain ⟨b, vs, e1, hb, hs, _⟩ := h.oo i xs e
  rw [ea] at e1
  cases e1
  have g : Go B H (upd H a (.lst ws)) := Go.refl.at (h.ob a hb).1
  have li : i < δ.length := (List.getElem?_eq_some_iff.mp e).1
  have es : σ.set i (some (.ref a)) = σ := by
    apply List.ext_getElem?
    intro j
    by_cases q : i = j
    · subst q
      rw [List.getElem?_set_self (by rw [h.len]; exact li), ea]
    · rw [List.getElem?_set_ne q]
  have hu : ∀ (j : Nat) zs, j ≠ i → δ[j]? = some (Sl.o zs) → σ[j]? ≠ some (some (.ref a)) := fun j zs nj ej z => nj (h.uq j i zs xs a ej e z ea)
  exact {
    len := by rw [List.length_set]; exact h.len
    dd := fun j x ej => by
      rcases getset ej with ⟨_, z, _⟩ | ⟨z, ej⟩
      · cases z
      · obtain ⟨v, e1, dv⟩ := h.dd j x ej
        exact ⟨v, e1, dv.g g⟩
    oo := fun j zs ej => by
      rcases getset ej with ⟨rfl, z, l⟩ | ⟨z, ej⟩
      · cases z
        exact ⟨a, ws, ea, hb, upd_same, hA.g g⟩
      · obtain ⟨c, us, e1, hc, hsc, hC⟩ := h.oo j zs ej
        refine ⟨c, us, e1, hc, ?_, hC.g g⟩
        rw [upd_ne (fun q => hu j zs z ej (by rw [← q]; exact e1))]
        exact hsc
    uq := fun j k zs ts c pj pk f1 f2 => by
      rcases getset pj with ⟨rfl, _, l1⟩ | ⟨z1, ej⟩
      · rcases getset pk with ⟨rfl, _, l⟩ | ⟨z2, ek⟩
        · rfl
        · exact h.uq _ _ _ _ c e ek f1 f2
      · rcases getset pk with ⟨rfl, _, l⟩ | ⟨z2, ek⟩
        · exact h.uq _ _ _ _ c ej e f1 f2
        · exact h.uq _ _ _ _ c ej ek f1 f2
    ll := fun j ej => by
      rcases getset ej with ⟨_, z, _⟩ | ⟨z, ej⟩
      · cases z
      · exact h.ll j ej
    vv := fun j u ej => by
      rcases getset ej with ⟨_, z, _⟩ | ⟨z, ej⟩
      · cases z
      · exact h.vv j u ej
    bk := h.bk.go g
    ob := h.ob
    lb := h.lb
    lf := fun c hc => (h.lf c hc).up (fun q => (h.ob a hb).2 (by rw [q]; exact hc)) }
/-- it changes no more: data from here on -/
theorem Rel.frz (h : Rel L B O H σ δ n) {i : Nat} (e : δ[i]? = some (.o xs)) : ∃ a, a ∈ O ∧ Rel L (B.filter (· ≠ a)) (O.filter (· ≠ a)) H σ (δ.set i (.d (.list xs))) n := by
  obtain ⟨a, vs, e1, ha, hs, hA⟩ := h.oo i xs e
  have sub : ∀ b ∈ B.filter (· ≠ a), b ∈ B := fun b hb => (List.mem_filter.mp hb).1
  refine ⟨a, ha, ?_⟩
  exact {
    len := by rw [List.length_set]; exact h.len
    dd := fun j x ej => by
      rcases getset ej with ⟨rfl, z, _⟩ | ⟨z, ej⟩
      · cases z
        exact ⟨_, e1, .lst (fun q => by have := (List.mem_filter.mp q).2; simp at this) hs (hA.sub sub)⟩
      · obtain ⟨v, f1, dv⟩ := h.dd j x ej
        exact ⟨v, f1, dv.sub sub⟩
    oo := fun j zs ej => by
      rcases getset ej with ⟨_, z, _⟩ | ⟨z, ej⟩
      · cases z
      · obtain ⟨b, us, f1, hb, hsb, hB⟩ := h.oo j zs ej
        refine ⟨b, us, f1, List.mem_filter.mpr ⟨hb, ?_⟩, hsb, hB.sub sub⟩
        have : b ≠ a := fun q => z (h.uq j i zs xs a ej e (by rw [← q]; exact f1) e1)
        simpa using this
    uq := fun j k zs ts c ej ek f1 f2 => by
      rcases getset ej with ⟨_, z, _⟩ | ⟨z1, ej⟩
      · cases z
      rcases getset ek with ⟨_, z, _⟩ | ⟨z2, ek⟩
      · cases z
      exact h.uq _ _ _ _ c ej ek f1 f2
    ll := fun j ej => by
      rcases getset ej with ⟨_, z, _⟩ | ⟨z, ej⟩
      · cases z
      · exact h.ll j ej
    vv := fun j u ej => by
      rcases getset ej with ⟨_, z, _⟩ | ⟨z, ej⟩
      · cases z
      · exact h.vv j u ej
    bk := fun b hb => h.bk b (sub b hb)
    ob := fun b hb => by
      have := List.mem_filter.mp hb
      exact ⟨List.mem_filter.mpr ⟨(h.ob b this.1).1, this.2⟩, (h.ob b this.1).2⟩
    lb := fun b hb => List.mem_filter.mpr ⟨h.lb b hb, by
      have : b ≠ a := fun q => (h.ob a ha).2 (by rw [← q]; exact hb)
      simpa using this⟩
    lf := h.lf }
end
def wipeD (δ : List Sl) : List Nat → List Sl
  | [] => δ
  | v :: vs => (wipeD δ vs).set v .no
theorem Rel.wipe {L B O : List Addr} {H : Hp} {σ : L2.St} {δ : List Sl} {n : Nat} (h : Rel L B O H σ δ n) : ∀ vs : List Nat, Rel L B O H (L2.wipe σ vs) (wipeD δ vs) n
  | [] => h
  | v :: vs => by
    show Rel L B O H ((L2.wipe σ vs).set v none) ((wipeD δ vs).set v .no) n
    exact (h.wipe vs).set_no v none
theorem wipe_set (σ : L2.St) (i : Nat) (x : Option V) : ∀ vs : List Nat, i ∈ vs → L2.wipe (σ.set i x) vs = L2.wipe σ vs
  | [], h => nomatch h
  | v :: vs, h => by
    show (L2.wipe (σ.set i x) vs).set v none = (L2.wipe σ vs).set v none
    by_cases q : i ∈ vs
    · rw [wipe_set σ i x vs q]
    · have e : i = v := by
        rcases List.mem_cons.mp h with z | z
        · exact z
        · exact absurd z q
      subst e
      have k : ∀ us : List Nat, i ∉ us → L2.wipe (σ.set i x) us = (L2.wipe σ us).set i x := by
        intro us
        induction us with
        | nil => intro _; rfl
        | cons u us ih =>
          intro hu
          show (L2.wipe (σ.set i x) us).set u none = ((L2.wipe σ us).set u none).set i x
          rw [ih fun z => hu (List.mem_cons_of_mem _ z), List.set_comm _ _ (fun z : i = u => hu (by rw [z]; exact List.mem_cons_self ..))]
      rw [k vs q, List.set_set]
theorem wipe_wipe (σ : L2.St) : ∀ (us vs : List Nat), (∀ i ∈ us, i ∈ vs) → L2.wipe (L2.wipe σ us) vs = L2.wipe σ vs
  | [], vs, _ => rfl
  | u :: us, vs, h => by
    show L2.wipe ((L2.wipe σ us).set u none) vs = L2.wipe σ vs
    rw [wipe_set _ u none vs (h u (List.mem_cons_self ..)), wipe_wipe σ us vs fun i hi => h i (List.mem_cons_of_mem _ hi)]
/-! ### values handed in -/
inductive VrA (L B : List Addr) (H : Hp) : List V → List Sl → Prop
  | nil : VrA L B H [] []
  | d {v : V} {x : PyData} {vs : List V} {ds : List Sl} : Dt B H v x → VrA L B H vs ds → VrA L B H (v :: vs) (.d x :: ds)
  | l {a : Addr} {vs : List V} {ds : List Sl} : a ∈ L → VrA L B H vs ds → VrA L B H (.ref a :: vs) (.l :: ds)
theorem VrA.len {L B : List Addr} {H : Hp} {vs : List V} {ds : List Sl} (h : VrA L B H vs ds) : vs.length = ds.length := by
  induction h with
  | nil => rfl
  | d _ _ ih => rw [List.length_cons, List.length_cons, ih]
  | l _ _ ih => rw [List.length_cons, List.length_cons, ih]
theorem VrA.go {L B : List Addr} {H H' : Hp} (lb : ∀ a ∈ L, a ∈ B) (g : Go L H H') {vs : List V} {ds : List Sl} (h : VrA L B H vs ds) : VrA L B H' vs ds := by
  induction h with
  | nil => exact .nil
  | d h _ ih => exact .d (h.g (g.w lb)) ih
  | l h _ ih => exact .l h ih
theorem VrA.dts {L B : List Addr} {H : Hp} : ∀ {ds : List PyData} {vs : List V}, VrA L B H vs (ds.map Sl.d) → DtA B H vs ds
  | [], _, h => by cases h; exact .nil
  | x :: ds, _, h => by
    rw [List.map_cons] at h
    cases h with
    | d h1 h2 => exact .cons h1 (VrA.dts h2)
def dts : List Sl → Option (List PyData)
  | [] => some []
  | .d x :: r => (dts r).map fun ys => x :: ys
  | _ :: _ => none
theorem dts_map : ∀ {xs : List Sl} {ds : List PyData}, dts xs = some ds → xs = ds.map Sl.d
  | [], ds, h => by
    cases h
    rfl
  | .d x :: r, ds, h => by
    unfold dts at h
    cases e : dts r with
    | none => rw [e] at h; cases h
    | some ys =>
      rw [e] at h
      cases h
      rw [List.map_cons, dts_map e]
  | .no :: _, _, h => nomatch h
  | .o _ :: _, _, h => nomatch h
  | .l :: _, _, h => nomatch h
  | .v _ :: _, _, h => nomatch h
abbrev DQ := PyData → Nat → Prop
abbrev DE := List Sl → Nat → DQ → Prop
abbrev DA := List Sl → Nat → (List Sl → Nat → Prop) → Prop
abbrev DTt := List Sl → Nat → (Bool → Nat → Prop) → Prop
abbrev DI := List Sl → Nat → (List PyData → Nat → Prop) → Prop
abbrev DG := PyData → List Sl → (List Sl → Prop) → Prop
structure SE (te : TE) (f : DE) : Prop where
  run : ∀ {L B O : List Addr} {H : Hp} {σ : L2.St} {δ : List Sl} {n : Nat} {Q : VK} {K : DQ}, Rel L B O H σ δ n → f δ n K → (∀ d m v H', K d m → Go L H H' → Lfs L H' m → Dt B H' v d → Q v H') → te σ H Q
/-- what tells a new list -/
structure SN (te : TE) (f : DI) : Prop where
  run : ∀ {L B O : List Addr} {H : Hp} {σ : L2.St} {δ : List Sl} {n : Nat} {Q : VK} {K : List PyData → Nat → Prop}, Rel L B O H σ δ n → f δ n K → (∀ xs m a vs H', K xs m → Go L H H' → Lfs L H' m → H a = none → H' a = some (.lst vs) → DtA (a :: B) H' vs xs → Q (.ref a) H') → te σ H Q
structure SA (ta : TA) (f : DA) : Prop where
  run : ∀ {L B O : List Addr} {H : Hp} {σ : L2.St} {δ : List Sl} {n : Nat} {Q : List V → Hp → Prop} {K : List Sl → Nat → Prop}, Rel L B O H σ δ n → f δ n K → (∀ ds m vs H', K ds m → Go L H H' → Lfs L H' m → VrA L B H' vs ds → Q vs H') → ta σ H Q
structure ST (tt : TT) (f : DTt) : Prop where
  run : ∀ {L B O : List Addr} {H : Hp} {σ : L2.St} {δ : List Sl} {n : Nat} {Q : Bool → Hp → Prop} {K : Bool → Nat → Prop}, Rel L B O H σ δ n → f δ n K → (∀ b m H', K b m → Go L H H' → Lfs L H' m → Q b H') → tt σ H Q
structure SG (tg : List Nat) (g : TG) (f : DG) : Prop where
  run : ∀ {L B O : List Addr} {H : Hp} {σ : L2.St} {δ : List Sl} {n : Nat} {Q : L2.St → Hp → Prop} {K : List Sl → Prop} {v : V} {d : PyData}, Rel L B O H σ δ n → Dt B H v d → f d δ K → (∀ σ' δ', K δ' → Rel L B O H σ' δ' n → (∀ vs : List Nat, (∀ i ∈ tg, i ∈ vs) → L2.wipe σ' vs = L2.wipe σ vs) → Q σ' H) → g v σ H Q
structure SR2 (r : R2) (f : PyData → PyData → (PyData → Prop) → Prop) : Prop where
  run : ∀ {B : List Addr} {H : Hp} {x y : V} {dx dy : PyData} {Q : VK} {K : PyData → Prop}, Bk B H → Dt B H x dx → Dt B H y dy → f dx dy K → (∀ d v H', K d → Same H H' → Dt B H' v d → Q v H') → r x y H Q
structure SC (r : List V → Hp → VK → Prop) (f : List PyData → (PyData → Prop) → Prop) : Prop where
  run : ∀ {B : List Addr} {H : Hp} {vs : List V} {ds : List PyData} {Q : VK} {K : PyData → Prop}, Bk B H → DtA B H vs ds → f ds K → (∀ d v H', K d → Same H H' → Dt B H' v d → Q v H') → r vs H Q
structure SCN (r : List V → Hp → VK → Prop) (f : List PyData → (List PyData → Prop) → Prop) : Prop where
  run : ∀ {B : List Addr} {H : Hp} {vs : List V} {ds : List PyData} {Q : VK} {K : List PyData → Prop}, Bk B H → DtA B H vs ds → f ds K → (∀ xs a us H', K xs → Same H H' → H a = none → H' a = some (.lst us) → DtA (a :: B) H' us xs → Q (.ref a) H') → r vs H Q
/-! ### expressions -/
def fVar (i : Nat) : DE := fun δ n K => ∃ x, δ[i]? = some (.d x) ∧ K x n
def fC (x : PyData) : DE := fun _ n K => K x n
def fOp (rd : PyData → PyData → (PyData → Prop) → Prop) (fa fb : DE) : DE := fun δ n K => fa δ n fun x m => fb δ m fun y k => rd x y fun d => K d k
def fUn (rd : PyData → (PyData → Prop) → Prop) (fa : DE) : DE := fun δ n K => fa δ n fun x m => rd x fun d => K d m
theorem sv (i : Nat) : SE (tVar i) (fVar i) := ⟨fun h ⟨x, e, k⟩ q => by
  obtain ⟨v, e1, dv⟩ := h.dd i x e
  exact ⟨v, e1, q x _ v _ k Go.refl h.lf dv⟩⟩
theorem se_int {i : Int} : SE (tC (.int i)) (fC (.int i)) := ⟨fun h k q => q _ _ _ _ k Go.refl h.lf (.int i)⟩
theorem se_bl {i : Bool} : SE (tC (.bl i)) (fC (.bool i)) := ⟨fun h k q => q _ _ _ _ k Go.refl h.lf (.bl i)⟩
theorem se_str {i : Str} : SE (tC (.str i)) (fC (.str i)) := ⟨fun h k q => q _ _ _ _ k Go.refl h.lf (.str i)⟩
theorem se_non : SE (tC .non) (fC .none) := ⟨fun h k q => q _ _ _ _ k Go.refl h.lf .non⟩
theorem se_op {r : R2} {rd} {ta tb : TE} {fa fb : DE} (hr : SR2 r rd) (ha : SE ta fa) (hb : SE tb fb) : SE (tOp r ta tb) (fOp rd fa fb) := ⟨fun {L B O H σ δ n Q K} h k q => ha.run h k fun x m v H1 k1 g1 l1 d1 => hb.run (h.go g1 l1) k1 fun y j u H2 k2 g2 l2 d2 => by
  have h2 := (h.go g1 l1).go g2 l2
  refine hr.run h2.bk (d1.g (g2.w h.lb)) d2 k2 fun d w H3 k3 s3 d3 => ?_
  exact q d j w H3 k3 ((g1.trans g2).trans (Go.of s3)) (l2.same s3) d3⟩
/-- a new list as data -/
def fNw (f : DI) : DE := fun δ n K => f δ n fun xs m => K (.list xs) m
theorem SN.se {te : TE} {f : DI} (h : SN te f) : SE te (fNw f) := ⟨fun {L B O H σ δ n Q K} r k q => h.run r k fun xs m a vs H' k1 g l e1 e2 hA => q _ _ _ _ k1 g l (.lst (r.bk.ne e1) e2 hA.un)⟩
/-! ### lists of arguments -/
def fNil : DA := fun _ n K => K [] n
def fCons (fa : DE) (fr : DA) : DA := fun δ n K => fa δ n fun x m => fr δ m fun xs k => K (.d x :: xs) k
def fConsL (i : Nat) (fr : DA) : DA := fun δ n K => δ[i]? = some .l ∧ fr δ n fun xs k => K (.l :: xs) k
theorem sa_nil : SA tNil fNil := ⟨fun h k q => q _ _ _ _ k Go.refl h.lf .nil⟩
theorem sa_cons {te : TE} {tr : TA} {fa : DE} {fr : DA} (ha : SE te fa) (hr : SA tr fr) : SA (tCons te tr) (fCons fa fr) := ⟨fun h k q => ha.run h k fun x m v H1 k1 g1 l1 d1 => hr.run (h.go g1 l1) k1 fun xs j vs H2 k2 g2 l2 v2 => q _ _ _ _ k2 (g1.trans g2) l2 (.d (d1.g (g2.w h.lb)) v2)⟩
theorem sa_consL {i : Nat} {tr : TA} {fr : DA} (hr : SA tr fr) : SA (tCons (tVar i) tr) (fConsL i fr) := ⟨fun h ⟨e, k⟩ q => by
  obtain ⟨a, ha, ea⟩ := h.ll i e
  exact ⟨_, ea, hr.run h k fun xs j vs H2 k2 g2 l2 v2 => q _ _ _ _ k2 g2 l2 (.l ha v2)⟩⟩
/-! ### displays -/
def fTup (fa : DA) : DE := fun δ n K => fa δ n fun xs m => ∃ ds : List PyData, dts xs = some ds ∧ ds.length ≤ 100000 ∧ K (.tuple ds) m
def fLst (fa : DA) : DI := fun δ n K => fa δ n fun xs m => ∃ ds : List PyData, dts xs = some ds ∧ ds.length ≤ 100000 ∧ K ds m
theorem se_tup {ta : TA} {fa : DA} (ha : SA ta fa) : SE (tTup ta) (fTup fa) := ⟨fun h k q => ha.run h k fun xs m vs H1 ⟨ds, e, l, k1⟩ g1 l1 v1 => by
  cases dts_map e
  have hA := v1.dts
  have lv := hA.len
  refine ⟨Nat.le_of_lt (sz (by omega)), fun p hp => q _ _ _ _ k1 (g1.trans (Go.of (sm_new hp))) (l1.same (sm_new hp)) ?_⟩
  exact .tup ((h.bk.go g1).ne hp) upd_same (hA.s (sm_new hp))⟩
theorem sn_lst {ta : TA} {fa : DA} (ha : SA ta fa) : SN (tLst ta) (fLst fa) := ⟨fun h k q => ha.run h k fun xs m vs H1 ⟨ds, e, l, k1⟩ g1 l1 v1 => by
  cases dts_map e
  have hA := v1.dts
  have lv := hA.len
  exact ⟨Nat.le_of_lt (sz (by omega)), fun p hp => q _ _ p vs _ k1 (g1.trans (Go.of (sm_new hp))) (l1.same (sm_new hp)) (g1.free hp) upd_same ((hA.fr hp).s (sm_new hp))⟩⟩
/-! ### calls -/
def spD (R : List Sl → Nat → DQ → Prop) : Sp := fun vs H Q _ => ∃ (L B : List Addr) (ds : List Sl) (n : Nat) (K : DQ), VrA L B H vs ds ∧ Bk B H ∧ (∀ a ∈ L, a ∈ B) ∧ Lfs L H n ∧ R ds n K ∧ ∀ d m v H', K d m → Go L H H' → Lfs L H' m → Dt B H' v d → Q v H'
def spN (R : List Sl → Nat → (List PyData → Nat → Prop) → Prop) : Sp := fun vs H Q _ => ∃ (L B : List Addr) (ds : List Sl) (n : Nat) (K : List PyData → Nat → Prop), VrA L B H vs ds ∧ Bk B H ∧ (∀ a ∈ L, a ∈ B) ∧ Lfs L H n ∧ R ds n K ∧ ∀ xs m a us H', K xs m → Go L H H' → Lfs L H' m → H a = none → H' a = some (.lst us) → DtA (a :: B) H' us xs → Q (.ref a) H'
def fCall (R : List Sl → Nat → DQ → Prop) (fa : DA) : DE := fun δ n K => fa δ n fun xs m => R xs m K
def fCallN (R : List Sl → Nat → (List PyData → Nat → Prop) → Prop) (fa : DA) : DI := fun δ n K => fa δ n fun xs m => R xs m K
theorem se_call {R} {E : XK} {ta : TA} {fa : DA} (ha : SA ta fa) : SE (tCall (spD R) [] E ta) (fCall R fa) := ⟨fun {L B O H σ δ n Q K} h k q => ha.run h k fun xs m vs H1 k1 g1 l1 v1 => by
  rw [List.append_nil]
  exact ⟨L, B, xs, m, K, v1, h.bk.go g1, h.lb, l1, k1, fun d j v H2 k2 g2 l2 d2 => q d j v H2 k2 (g1.trans g2) l2 d2⟩⟩
theorem sn_call {R} {E : XK} {ta : TA} {fa : DA} (ha : SA ta fa) : SN (tCall (spN R) [] E ta) (fCallN R fa) := ⟨fun {L B O H σ δ n Q K} h k q => ha.run h k fun xs m vs H1 k1 g1 l1 v1 => by
  rw [List.append_nil]
  exact ⟨L, B, xs, m, K, v1, h.bk.go g1, h.lb, l1, k1, fun ys j a us H2 k2 g2 l2 e1 e2 d2 => q ys j a us H2 k2 (g1.trans g2) l2 (g1.free e1) e2 d2⟩⟩
def fCB (rd : List PyData → (PyData → Prop) → Prop) (fa : DA) : DE := fun δ n K => fa δ n fun xs m => ∃ ds : List PyData, dts xs = some ds ∧ rd ds fun d => K d m
def fCBN (rd : List PyData → (List PyData → Prop) → Prop) (fa : DA) : DI := fun δ n K => fa δ n fun xs m => ∃ ds : List PyData, dts xs = some ds ∧ rd ds fun d => K d m
theorem se_cb {r : List V → Hp → VK → Prop} {rd} {ta : TA} {fa : DA} (hr : SC r rd) (ha : SA ta fa) : SE (tCB r ta) (fCB rd fa) := ⟨fun {L B O H σ δ n Q K} h k q => ha.run h k fun xs m vs H1 ⟨ds, e, k1⟩ g1 l1 v1 => by
  cases dts_map e
  exact hr.run (h.bk.go g1) v1.dts k1 fun d v H2 k2 s2 d2 => q d m v H2 k2 (g1.trans (Go.of s2)) (l1.same s2) d2⟩
theorem sn_cb {r : List V → Hp → VK → Prop} {rd} {ta : TA} {fa : DA} (hr : SCN r rd) (ha : SA ta fa) : SN (tCB r ta) (fCBN rd fa) := ⟨fun {L B O H σ δ n Q K} h k q => ha.run h k fun xs m vs H1 ⟨ds, e, k1⟩ g1 l1 v1 => by
  cases dts_map e
  exact hr.run (h.bk.go g1) v1.dts k1 fun ys a us H2 k2 s2 e1 e2 d2 => q ys m a us H2 k2 (g1.trans (Go.of s2)) (l1.same s2) (g1.free e1) e2 d2⟩
/-! ### tests -/
def fTest (fe : DE) : DTt := fun δ n K => fe δ n fun d m => ∃ b, d = .bool b ∧ K b m
def fAndT (fa fb : DTt) : DTt := fun δ n K => fa δ n fun c m => if c = true then fb δ m K else K false m
def fOrT (fa fb : DTt) : DTt := fun δ n K => fa δ n fun c m => if c = true then K true m else fb δ m K
def fNotT (fa : DTt) : DTt := fun δ n K => fa δ n fun c m => K (!c) m
theorem st_B {te : TE} {fe : DE} (h : SE te fe) : ST (tB te) (fTest fe) := ⟨fun r k q => h.run r k fun d m v H1 ⟨b, e, k1⟩ g1 l1 d1 => by
  subst e
  cases d1
  exact ⟨b, rfl, q b m H1 k1 g1 l1⟩⟩
theorem st_test {te : TE} {fe : DE} (h : SE te fe) : ST (tTest te) (fTest fe) := ⟨fun r k q => h.run r k fun d m v H1 ⟨b, e, k1⟩ g1 l1 d1 => by
  subst e
  cases d1
  exact ⟨b, rfl, q b m H1 k1 g1 l1⟩⟩
theorem st_and {t u : TT} {f g : DTt} (h1 : ST t f) (h2 : ST u g) : ST (tAnd t u) (fAndT f g) := ⟨fun r k q => h1.run r k fun c m H1 k1 g1 l1 => by
  cases c with
  | true => exact iteT (h2.run (r.go g1 l1) k1 fun b j H2 k2 g2 l2 => q b j H2 k2 (g1.trans g2) l2)
  | false => exact iteF (q false m H1 k1 g1 l1)⟩
theorem st_or {t u : TT} {f g : DTt} (h1 : ST t f) (h2 : ST u g) : ST (tOr t u) (fOrT f g) := ⟨fun r k q => h1.run r k fun c m H1 k1 g1 l1 => by
  cases c with
  | false => exact iteF (h2.run (r.go g1 l1) k1 fun b j H2 k2 g2 l2 => q b j H2 k2 (g1.trans g2) l2)
  | true => exact iteT (q true m H1 k1 g1 l1)⟩
theorem st_not {t : TT} {f : DTt} (h1 : ST t f) : ST (tNot t) (fNotT f) := ⟨fun r k q => h1.run r k fun c m H1 k1 g1 l1 => q _ _ _ k1 g1 l1⟩
theorem st_yes : ST tYes (fun _ n K => K true n) := ⟨fun r k q => q true _ _ k Go.refl r.lf⟩
def fAndV (fa fb : DE) : DE := fun δ n K => fa δ n fun d m => ∃ c, d = .bool c ∧ if c = true then fb δ m K else K (.bool false) m
def fOrV (fa fb : DE) : DE := fun δ n K => fa δ n fun d m => ∃ c, d = .bool c ∧ if c = true then K (.bool true) m else fb δ m K
def fNotV (fa : DE) : DE := fun δ n K => fa δ n fun d m => ∃ c, d = .bool c ∧ K (.bool (!c)) m
theorem se_and {t u : TE} {f g : DE} (h1 : SE t f) (h2 : SE u g) : SE (tAndV t u) (fAndV f g) := ⟨fun r k q => h1.run r k fun d m v H1 ⟨c, e, k1⟩ g1 l1 d1 => by
  subst e
  cases d1
  refine ⟨c, rfl, ?_⟩
  cases c with
  | true => exact iteT (h2.run (r.go g1 l1) k1 fun b j v H2 k2 g2 l2 d2 => q b j v H2 k2 (g1.trans g2) l2 d2)
  | false => exact iteF (q _ m _ H1 k1 g1 l1 (.bl false))⟩
theorem se_or {t u : TE} {f g : DE} (h1 : SE t f) (h2 : SE u g) : SE (tOrV t u) (fOrV f g) := ⟨fun r k q => h1.run r k fun d m v H1 ⟨c, e, k1⟩ g1 l1 d1 => by
  subst e
  cases d1
  refine ⟨c, rfl, ?_⟩
  cases c with
  | false => exact iteF (h2.run (r.go g1 l1) k1 fun b j v H2 k2 g2 l2 d2 => q b j v H2 k2 (g1.trans g2) l2 d2)
  | true => exact iteT (q _ m _ H1 k1 g1 l1 (.bl true))⟩
theorem se_not {t : TE} {f : DE} (h1 : SE t f) : SE (tNotV t) (fNotV f) := ⟨fun r k q => h1.run r k fun d m v H1 ⟨c, e, k1⟩ g1 l1 d1 => by
  subst e
  cases d1
  exact ⟨c, rfl, q _ _ _ _ k1 g1 l1 (.bl _)⟩⟩
def fIf (ft : DTt) (fa fb : DE) : DE := fun δ n K => ft δ n fun c m => if c = true then fa δ m K else fb δ m K
theorem se_if {t : TT} {ta tb : TE} {ft : DTt} {fa fb : DE} (h1 : ST t ft) (h2 : SE ta fa) (h3 : SE tb fb) : SE (tIf t ta tb) (fIf ft fa fb) := ⟨fun r k q => h1.run r k fun c m H1 k1 g1 l1 => by
  cases c with
  | true => exact iteT (h2.run (r.go g1 l1) k1 fun b j v H2 k2 g2 l2 d2 => q b j v H2 k2 (g1.trans g2) l2 d2)
  | false => exact iteF (h3.run (r.go g1 l1) k1 fun b j v H2 k2 g2 l2 d2 => q b j v H2 k2 (g1.trans g2) l2 d2)⟩
def fChain (r1 r2 : PyData → PyData → (PyData → Prop) → Prop) (fa fb fc : DE) : DE := fun δ n K => fa δ n fun x m => fb δ m fun y j => r1 x y fun d => ∃ c, d = .bool c ∧ if c = true then fc δ j fun z k => r2 y z fun d => K d k else K (.bool false) j
theorem se_chain {r r' : R2} {rd rd'} {ta tb tc : TE} {fa fb fc : DE} (h1 : SR2 r rd) (h2 : SR2 r' rd') (ha : SE ta fa) (hb : SE tb fb) (hc : SE tc fc) : SE (tChain r r' ta tb tc) (fChain rd rd' fa fb fc) := ⟨fun {L B O H σ δ n Q K} h k q => ha.run h k fun x m v H1 k1 g1 l1 d1 => hb.run (h.go g1 l1) k1 fun y j u H2 k2 g2 l2 d2 => by
  have h2' := (h.go g1 l1).go g2 l2
  refine h1.run h2'.bk (d1.g (g2.w h.lb)) d2 k2 fun d w H3 ⟨c, e, k3⟩ s3 d3 => ?_
  subst e
  cases d3
  refine ⟨c, rfl, ?_⟩
  have h3 := h2'.s s3
  have t3 := (g1.trans g2).trans (Go.of s3)
  cases c with
  | false => exact iteF (q _ j _ H3 k3 t3 (l2.same s3) (.bl false))
  | true =>
    refine iteT (hc.run h3 k3 fun z i w H4 k4 g4 l4 d4 => ?_)
    refine h2.run (h3.go g4 l4).bk (((d2.s s3)).g (g4.w h.lb)) d4 k4 fun d w H5 k5 s5 d5 => ?_
    exact q d i w H5 k5 ((t3.trans g4).trans (Go.of s5)) (l4.same s5) d5⟩
theorem st_chain {r r' : R2} {rd rd'} {ta tb tc : TE} {fa fb fc : DE} (h1 : SR2 r rd) (h2 : SR2 r' rd') (ha : SE ta fa) (hb : SE tb fb) (hc : SE tc fc) : ST (tTest (tChain r r' ta tb tc)) (fTest (fChain rd rd' fa fb fc)) := st_test (se_chain h1 h2 ha hb hc)
end Z

set_option Elab.async false
set_option linter.all false
set_option maxRecDepth 100000
set_option maxHeartbeats 400000
namespace Z
open PySem PySem.Spec PyProof.Rows L2
def fYes : DTt := fun _ n K => K true n
theorem st_yesD : ST tYes fYes := ⟨fun r k q => q true _ _ k Go.refl r.lf⟩
/-! ### operators -/
def rdI (g : Int → Int → PyData) : PyData → PyData → (PyData → Prop) → Prop := fun x y K => ∃ i j, x = .int i ∧ y = .int j ∧ K (g i j)
def rdC (C : Int → Int → Prop) (g : Int → Int → PyData) : PyData → PyData → (PyData → Prop) → Prop := fun x y K => ∃ i j, x = .int i ∧ y = .int j ∧ C i j ∧ K (g i j)
section
variable {K : PySem.W.Frag}
theorem sr_int {g : Int → Int → Int} : SR2 (rI0 fun i j => .int (g i j)) (rdI fun i j => .int (g i j)) := ⟨fun hB hx hy ⟨i, j, e1, e2, k⟩ q => by
  subst e1 e2
  cases hx
  cases hy
  exact ⟨i, j, rfl, rfl, q _ _ _ k (Same.refl _) (.int _)⟩⟩
theorem sr_bool {g : Int → Int → Bool} : SR2 (rI0 fun i j => .bl (g i j)) (rdI fun i j => .bool (g i j)) := ⟨fun hB hx hy ⟨i, j, e1, e2, k⟩ q => by
  subst e1 e2
  cases hx
  cases hy
  exact ⟨i, j, rfl, rfl, q _ _ _ k (Same.refl _) (.bl _)⟩⟩
theorem sr_intC {C : Int → Int → Prop} {g : Int → Int → Int} : SR2 (rI C fun i j => .int (g i j)) (rdC C fun i j => .int (g i j)) := ⟨fun hB hx hy ⟨i, j, e1, e2, c, k⟩ q => by
  subst e1 e2
  cases hx
  cases hy
  exact ⟨i, j, rfl, rfl, c, q _ _ _ k (Same.refl _) (.int _)⟩⟩
theorem sr_eqI : SR2 rEq (rdI fun i j => .bool (decide (i = j))) := ⟨fun hB hx hy ⟨i, j, e1, e2, k⟩ q => by
  subst e1 e2
  cases hx
  cases hy
  exact ⟨rfl, by
    have e : decide (V.int i = V.int j) = decide (i = j) := by rw [Bool.eq_iff_iff]; simp
    rw [e]
    exact q _ _ _ k (Same.refl _) (.bl _)⟩⟩
theorem sr_neI : SR2 rNe (rdI fun i j => .bool (!decide (i = j))) := ⟨fun hB hx hy ⟨i, j, e1, e2, k⟩ q => by
  subst e1 e2
  cases hx
  cases hy
  exact ⟨rfl, by
    have e : decide (V.int i = V.int j) = decide (i = j) := by rw [Bool.eq_iff_iff]; simp
    rw [e]
    exact q _ _ _ k (Same.refl _) (.bl _)⟩⟩
def rdS (g : Str → Str → PyData) : PyData → PyData → (PyData → Prop) → Prop := fun x y K => ∃ i j, x = .str i ∧ y = .str j ∧ K (g i j)
theorem sr_eqS : SR2 rEq (rdS fun i j => .bool (decide (i = j))) := ⟨fun hB hx hy ⟨i, j, e1, e2, k⟩ q => by
  subst e1 e2
  cases hx
  cases hy
  exact ⟨rfl, by
    have e : decide (V.str i = V.str j) = decide (i = j) := by rw [Bool.eq_iff_iff]; simp
    rw [e]
    exact q _ _ _ k (Same.refl _) (.bl _)⟩⟩
theorem sr_neS : SR2 rNe (rdS fun i j => .bool (!decide (i = j))) := ⟨fun hB hx hy ⟨i, j, e1, e2, k⟩ q => by
  subst e1 e2
  cases hx
  cases hy
  exact ⟨rfl, by
    have e : decide (V.str i = V.str j) = decide (i = j) := by rw [Bool.eq_iff_iff]; simp
    rw [e]
    exact q _ _ _ k (Same.refl _) (.bl _)⟩⟩
def rdBb (g : Bool → Bool → PyData) : PyData → PyData → (PyData → Prop) → Prop := fun x y K => ∃ i j, x = .bool i ∧ y = .bool j ∧ K (g i j)
theorem sr_eqB : SR2 rEq (rdBb fun i j => .bool (decide (i = j))) := ⟨fun hB hx hy ⟨i, j, e1, e2, k⟩ q => by
  subst e1 e2
  cases hx
  cases hy
  exact ⟨rfl, by
    have e : decide (V.bl i = V.bl j) = decide (i = j) := by rw [Bool.eq_iff_iff]; simp
    rw [e]
    exact q _ _ _ k (Same.refl _) (.bl _)⟩⟩
def rdEqD (g : Bool → Bool) : PyData → PyData → (PyData → Prop) → Prop := fun x y K => SeqAt.shaped x = true ∧ SeqAt.shaped y = true ∧ K (.bool (g (PyData.eqv x y)))
theorem sr_eqD : SR2 (rEqD K) (rdEqD id) := ⟨fun hB hx hy ⟨e1, e2, k⟩ q => ⟨_, _, hx.dP, hy.dP, e1, e2, q _ _ _ k (Same.refl _) (.bl _)⟩⟩
theorem sr_neD : SR2 (rNeD K) (rdEqD not) := ⟨fun hB hx hy ⟨e1, e2, k⟩ q => ⟨_, _, hx.dP, hy.dP, e1, e2, q _ _ _ k (Same.refl _) (.bl _)⟩⟩
def rdCm (g : PyData → PyData → Bool) : PyData → PyData → (PyData → Prop) → Prop := fun x y K => PySem.W.alike x y = true ∧ x ≠ .none ∧ x.depth ≤ 50 ∧ K (.bool (g x y))
theorem sr_ltD : SR2 (rLtD K) (rdCm fun x y => PySem.W.dataLt x y) := ⟨fun hB hx hy ⟨e1, e2, e3, k⟩ q => ⟨_, _, hx.dP, hy.dP, e1, e2, e3, q _ _ _ k (Same.refl _) (.bl _)⟩⟩
theorem sr_leD : SR2 (rLeD K) (rdCm fun x y => !PySem.W.dataLt y x) := ⟨fun hB hx hy ⟨e1, e2, e3, k⟩ q => ⟨_, _, hx.dP, hy.dP, e1, e2, e3, q _ _ _ k (Same.refl _) (.bl _)⟩⟩
theorem sr_gtD : SR2 (rGtD K) (rdCm fun x y => PySem.W.dataLt y x) := ⟨fun hB hx hy ⟨e1, e2, e3, k⟩ q => ⟨_, _, hx.dP, hy.dP, e1, e2, e3, q _ _ _ k (Same.refl _) (.bl _)⟩⟩
def rdIn (g : Bool → Bool) : PyData → PyData → (PyData → Prop) → Prop := fun x y K => ∃ ds, y = .list ds ∧ SeqAt.shaped x = true ∧ SeqAt.shaped (.list ds) = true ∧ K (.bool (g (ds.any fun z => PyData.eqv z x)))
theorem sr_inD : SR2 (rInD K) (rdIn id) := ⟨fun hB hx hy ⟨ds, e, e1, e2, k⟩ q => by
  subst e
  exact ⟨_, _, hx.dP, hy.dP, e1, e2, q _ _ _ k (Same.refl _) (.bl _)⟩⟩
theorem sr_notInD : SR2 (rNotInD K) (rdIn not) := ⟨fun hB hx hy ⟨ds, e, e1, e2, k⟩ q => by
  subst e
  exact ⟨_, _, hx.dP, hy.dP, e1, e2, q _ _ _ k (Same.refl _) (.bl _)⟩⟩
def isNn : PyData → Bool
  | .none => true
  | _ => false
theorem sr_isN : SR2 (fun x y H Q => y = .non ∧ Q (.bl (decide (x = .non))) H) (fun x y K => y = .none ∧ K (.bool (isNn x))) := ⟨fun hB hx hy ⟨e, k⟩ q => by
  subst e
  cases hy
  refine ⟨rfl, q _ _ _ k (Same.refl _) ?_⟩
  cases hx <;> exact .bl _⟩
theorem sr_notN : SR2 (fun x y H Q => y = .non ∧ Q (.bl (!decide (x = .non))) H) (fun x y K => y = .none ∧ K (.bool (!isNn x))) := ⟨fun hB hx hy ⟨e, k⟩ q => by
  subst e
  cases hy
  refine ⟨rfl, q _ _ _ k (Same.refl _) ?_⟩
  cases hx <;> exact .bl _⟩
def rdIxL : PyData → PyData → (PyData → Prop) → Prop := fun x y K => ∃ xs z d, x = .list xs ∧ y = .int z ∧ atI xs z = some d ∧ K d
def rdIxT : PyData → PyData → (PyData → Prop) → Prop := fun x y K => ∃ xs z d, x = .tuple xs ∧ y = .int z ∧ atI xs z = some d ∧ K d
theorem atD {B : List Addr} {H : Hp} {vs : List V} {ds : List PyData} {z : Int} {d : PyData} (hA : DtA B H vs ds) (e : atI ds z = some d) : ∃ v, atI vs z = some v ∧ Dt B H v d := by
  unfold atI at e ⊢
  rw [hA.len]
  cases c : ixN ds.length z with
  | none => rw [c] at e; cases e
  | some j =>
    rw [c] at e
    obtain ⟨v, f, g⟩ := hA.get (i := j) (d := d) e
    exact ⟨v, f, g⟩
theorem sr_ixL : SR2 (rIxL K) rdIxL := ⟨fun hB hx hy ⟨xs, z, d, e1, e2, e3, k⟩ q => by
  subst e1 e2
  cases hy
  obtain ⟨a, vs, rfl, _, ha, hA⟩ := hx.lst2
  obtain ⟨v, f, g⟩ := atD hA e3
  exact ⟨a, vs, z, v, rfl, rfl, SqL.of ha, f, q _ _ _ k (Same.refl _) g⟩⟩
theorem sr_ixT : SR2 (rIxT K) rdIxT := ⟨fun hB hx hy ⟨xs, z, d, e1, e2, e3, k⟩ q => by
  subst e1 e2
  cases hy
  obtain ⟨a, vs, rfl, _, ha, hA⟩ := hx.tupI
  obtain ⟨v, f, g⟩ := atD hA e3
  exact ⟨a, vs, z, v, rfl, rfl, SqT.of ha, f, q _ _ _ k (Same.refl _) g⟩⟩
theorem sr_or {r r' : R2} {rd rd'} (h : SR2 r rd) (h' : SR2 r' rd') : SR2 (fun x y H Q => r x y H Q ∨ r' x y H Q) (fun x y K => rd x y K ∨ rd' x y K) := ⟨fun hB hx hy k q => by
  rcases k with k | k
  · exact .inl (h.run hB hx hy k q)
  · exact .inr (h'.run hB hx hy k q)⟩
def rdCatT : PyData → PyData → (PyData → Prop) → Prop := fun x y K => ∃ xs ys, x = .tuple xs ∧ y = .tuple ys ∧ xs.length + ys.length ≤ 100000 ∧ K (.tuple (xs ++ ys))
theorem sr_catA : SR2 (rCatA K) rdCatT := ⟨fun hB hx hy ⟨xs, ys, e1, e2, l, k⟩ q => by
  subst e1 e2
  exact cat_dt hx hy hB l fun v H' s' d' => q _ _ _ k s' d'⟩
/-- an operator that makes a new list -/
structure SRN (r : R2) (f : PyData → PyData → (List PyData → Prop) → Prop) : Prop where
  run : ∀ {B : List Addr} {H : Hp} {x y : V} {dx dy : PyData} {Q : VK} {K : List PyData → Prop}, Bk B H → Dt B H x dx → Dt B H y dy → f dx dy K → (∀ xs a us H', K xs → Same H H' → H a = none → H' a = some (.lst us) → DtA (a :: B) H' us xs → Q (.ref a) H') → r x y H Q
def fOpN (rd : PyData → PyData → (List PyData → Prop) → Prop) (fa fb : DE) : DI := fun δ n K => fa δ n fun x m => fb δ m fun y k => rd x y fun d => K d k
theorem sn_op {r : R2} {rd} {ta tb : TE} {fa fb : DE} (hr : SRN r rd) (ha : SE ta fa) (hb : SE tb fb) : SN (tOp r ta tb) (fOpN rd fa fb) := ⟨fun {L B O H σ δ n Q K} h k q => ha.run h k fun x m v H1 k1 g1 l1 d1 => hb.run (h.go g1 l1) k1 fun y j u H2 k2 g2 l2 d2 => by
  have h2 := (h.go g1 l1).go g2 l2
  refine hr.run h2.bk (d1.g (g2.w h.lb)) d2 k2 fun d a us H3 k3 s3 e1 e2 d3 => ?_
  exact q d j a us H3 k3 ((g1.trans g2).trans (Go.of s3)) (l2.same s3) ((g1.trans g2).free e1) e2 d3⟩
def rdCatL : PyData → PyData → (List PyData → Prop) → Prop := fun x y K => ∃ xs ys, x = .list xs ∧ y = .list ys ∧ xs.length + ys.length ≤ 100000 ∧ K (xs ++ ys)
theorem srn_cat : SRN rCat rdCatL := ⟨fun hB hx hy ⟨xs, ys, e1, e2, l, k⟩ q => by
  subst e1 e2
  obtain ⟨a, vs, rfl, _, ha, hA⟩ := hx.lst2
  obtain ⟨b, ws, rfl, _, hb, hC⟩ := hy.lst2
  have l1 := hA.len
  have l2 := hC.len
  exact ⟨a, b, vs, ws, rfl, rfl, ha, hb, Nat.le_of_lt (sz (by omega)), fun p hp => q _ p _ _ k (sm_new hp) hp upd_same (((hA.app hC).fr hp).s (sm_new hp))⟩⟩
/-! ### parts -/
abbrev DO := List Sl → Nat → (Option Int → Nat → Prop) → Prop
structure SO (t : TO) (f : DO) : Prop where
  run : ∀ {L B O : List Addr} {H : Hp} {σ : L2.St} {δ : List Sl} {n : Nat} {Q : Option Int → Hp → Prop} {K : Option Int → Nat → Prop}, Rel L B O H σ δ n → f δ n K → (∀ o m H', K o m → Go L H H' → Lfs L H' m → Q o H') → t σ H Q
def fNoPart : DO := fun _ n K => K none n
def fPart (fe : DE) : DO := fun δ n K => fe δ n fun d m => ∃ i, d = .int i ∧ K (some i) m
theorem so_none : SO tNoPart fNoPart := ⟨fun h k q => q _ _ _ k Go.refl h.lf⟩
theorem so_some {te : TE} {fe : DE} (he : SE te fe) : SO (tPart te) (fPart fe) := ⟨fun h k q => he.run h k fun d m v H1 ⟨i, e, k1⟩ g1 l1 d1 => by
  subst e
  cases d1
  exact ⟨i, rfl, q _ _ _ k1 g1 l1⟩⟩
def fSlT (fe : DE) (fl fh : DO) : DE := fun δ n K => fe δ n fun d m => fl δ m fun lo j => fh δ j fun hi k => ∃ xs, d = .tuple xs ∧ K (.tuple (cutL xs lo hi)) k
def fSlL (fe : DE) (fl fh : DO) : DI := fun δ n K => fe δ n fun d m => fl δ m fun lo j => fh δ j fun hi k => ∃ xs, d = .list xs ∧ K (cutL xs lo hi) k
theorem se_slT {te : TE} {tl th : TO} {fe : DE} {fl fh : DO} (he : SE te fe) (hl : SO tl fl) (hh : SO th fh) : SE (tSl (rSlA K) te tl th) (fSlT fe fl fh) := ⟨fun {L B O H σ δ n Q K'} h k q => he.run h k fun d m v H1 k1 g1 l1 d1 => hl.run (h.go g1 l1) k1 fun lo j H2 k2 g2 l2 => hh.run ((h.go g1 l1).go g2 l2) k2 fun hi i H3 ⟨xs, e, k3⟩ g3 l3 => by
  subst e
  have g23 := g2.trans g3
  refine slice_dt (d1.g (g23.w h.lb)) (h.bk.go (g1.trans g23)) fun u H4 s4 d4 => ?_
  exact q _ _ _ _ k3 ((g1.trans g23).trans (Go.of s4)) (l3.same s4) d4⟩
theorem sn_slL {te : TE} {tl th : TO} {fe : DE} {fl fh : DO} (he : SE te fe) (hl : SO tl fl) (hh : SO th fh) : SN (tSl (rSlL K) te tl th) (fSlL fe fl fh) := ⟨fun {L B O H σ δ n Q K'} h k q => he.run h k fun d m v H1 k1 g1 l1 d1 => hl.run (h.go g1 l1) k1 fun lo j H2 k2 g2 l2 => hh.run ((h.go g1 l1).go g2 l2) k2 fun hi i H3 ⟨xs, e, k3⟩ g3 l3 => by
  subst e
  have g23 := g2.trans g3
  obtain ⟨a, vs, rfl, _, ha, hA⟩ := (d1.g (g23.w h.lb)).lst2
  refine ⟨a, vs, rfl, SqL.of ha, fun p hp => ?_⟩
  exact q _ _ _ _ _ k3 ((g1.trans g23).trans (Go.of (sm_new hp))) (l3.same (sm_new hp)) ((g1.trans g23).free hp) upd_same (((hA.cut lo hi).fr hp).s (sm_new hp))⟩
/-! ### lists of one's own, read -/
def fIxO (i : Nat) (fb : DE) : DE := fun δ n K => ∃ xs, δ[i]? = some (.o xs) ∧ fb δ n fun y m => ∃ z d, y = .int z ∧ atI xs z = some d ∧ K d m
theorem se_ixO {i : Nat} {tb : TE} {fb : DE} (hb : SE tb fb) : SE (tOp (rIxL K) (tVar i) tb) (fIxO i fb) := ⟨fun h ⟨xs, e, k⟩ q => by
  obtain ⟨a, vs, ea, ha, hs, hA⟩ := h.oo i xs e
  refine ⟨_, ea, hb.run h k fun y m u H2 ⟨z, d, e2, e3, k2⟩ g2 l2 d2 => ?_⟩
  subst e2
  cases d2
  obtain ⟨v, f, g⟩ := atD (hA.g (g2.w h.lb)) e3
  exact ⟨a, vs, z, v, rfl, rfl, SqL.of (g2.k a _ (h.ob a ha).2 hs), f, q _ _ _ _ k2 g2 l2 g⟩⟩
def fLenO (i : Nat) : DE := fun δ n K => ∃ xs, δ[i]? = some (.o xs) ∧ K (.int xs.length) n
theorem se_lenO {i : Nat} : SE (tCB (rLenS K) (tCons (tVar i) tNil)) (fLenO i) := ⟨fun h ⟨xs, e, k⟩ q => by
  obtain ⟨a, vs, ea, ha, hs, hA⟩ := h.oo i xs e
  refine ⟨_, ea, a, vs, rfl, .inl (SqL.of hs), ?_⟩
  rw [hA.len]
  exact q _ _ _ _ k Go.refl h.lf (.int _)⟩
def fNeO (g : Bool → Bool) (i : Nat) (fb : DE) : DE := fun δ n K => ∃ xs, δ[i]? = some (.o xs) ∧ SeqAt.shaped (.list xs) = true ∧ fb δ n fun y m => SeqAt.shaped y = true ∧ K (.bool (g (PyData.eqv (.list xs) y))) m
theorem se_neO {i : Nat} {tb : TE} {fb : DE} (hb : SE tb fb) : SE (tOp (rNeD K) (tVar i) tb) (fNeO not i fb) := ⟨fun h ⟨xs, e, sh, k⟩ q => by
  obtain ⟨a, vs, ea, ha, hs, hA⟩ := h.oo i xs e
  refine ⟨_, ea, hb.run h k fun y m u H2 ⟨e2, k2⟩ g2 l2 d2 => ?_⟩
  have dx : Dt [] H2 (.ref a) (.list xs) := .lst (fun h => nomatch h) (g2.k a _ (h.ob a ha).2 hs) ((hA.g (g2.w h.lb)).sub fun _ h => nomatch h)
  exact ⟨_, _, dx.dP, d2.dP, sh, e2, q _ _ _ _ k2 g2 l2 (.bl _)⟩⟩
theorem se_eqO {i : Nat} {tb : TE} {fb : DE} (hb : SE tb fb) : SE (tOp (rEqD K) (tVar i) tb) (fNeO id i fb) := ⟨fun h ⟨xs, e, sh, k⟩ q => by
  obtain ⟨a, vs, ea, ha, hs, hA⟩ := h.oo i xs e
  refine ⟨_, ea, hb.run h k fun y m u H2 ⟨e2, k2⟩ g2 l2 d2 => ?_⟩
  have dx : Dt [] H2 (.ref a) (.list xs) := .lst (fun h => nomatch h) (g2.k a _ (h.ob a ha).2 hs) ((hA.g (g2.w h.lb)).sub fun _ h => nomatch h)
  exact ⟨_, _, dx.dP, d2.dP, sh, e2, q _ _ _ _ k2 g2 l2 (.bl _)⟩⟩
/-- a part of one's own list is a new list -/
def fSlO (i : Nat) (fl fh : DO) : DI := fun δ n K => ∃ xs, δ[i]? = some (.o xs) ∧ fl δ n fun lo j => fh δ j fun hi k => K (cutL xs lo hi) k
theorem sn_slO {i : Nat} {tl th : TO} {fl fh : DO} (hl : SO tl fl) (hh : SO th fh) : SN (tSl (rSlL K) (tVar i) tl th) (fSlO i fl fh) := ⟨fun {L B O H σ δ n Q K'} h ⟨xs, e, k⟩ q => by
  obtain ⟨a, vs, ea, ha, hs, hA⟩ := h.oo i xs e
  refine ⟨_, ea, hl.run h k fun lo j H2 k2 g2 l2 => hh.run (h.go g2 l2) k2 fun hi i H3 k3 g3 l3 => ?_⟩
  have g23 := g2.trans g3
  refine ⟨a, vs, rfl, SqL.of (g23.k a _ (h.ob a ha).2 hs), fun p hp => ?_⟩
  exact q _ _ _ _ _ k3 (g23.trans (Go.of (sm_new hp))) (l3.same (sm_new hp)) (g23.free hp) upd_same ((((hA.g (g23.w h.lb)).cut lo hi).fr hp).s (sm_new hp))⟩
/-! ### calls of what Python has -/
def rdLen : List PyData → (PyData → Prop) → Prop := fun ds K => ∃ xs, (ds = [.list xs] ∨ ds = [.tuple xs]) ∧ K (.int xs.length)
theorem sc_len : SC (rLenS K) rdLen := ⟨fun hB hA ⟨xs, e, k⟩ q => by
  rcases e with e | e <;> subst e
  · cases hA with
    | cons h1 h2 =>
      cases h2
      obtain ⟨a, vs, rfl, _, ha, hC⟩ := h1.lst2
      refine ⟨a, vs, rfl, .inl (SqL.of ha), ?_⟩
      rw [hC.len]
      exact q _ _ _ k (Same.refl _) (.int _)
  · cases hA with
    | cons h1 h2 =>
      cases h2
      obtain ⟨a, vs, rfl, _, ha, hC⟩ := h1.tupI
      refine ⟨a, vs, rfl, .inr (SqT.of ha), ?_⟩
      rw [hC.len]
      exact q _ _ _ k (Same.refl _) (.int _)⟩
def rdTup : List PyData → (PyData → Prop) → Prop := fun ds K => ∃ xs, (ds = [.list xs] ∨ ds = [.tuple xs]) ∧ K (.tuple xs)
theorem sc_tup : SC (rTupOf K) rdTup := ⟨fun hB hA ⟨xs, e, k⟩ q => by
  rcases e with e | e <;> subst e
  · cases hA with
    | cons h1 h2 =>
      cases h2
      obtain ⟨a, vs, rfl, _, ha, hC⟩ := h1.lst2
      exact ⟨a, vs, rfl, .inl ⟨SqL.of ha, fun p hp => q _ _ _ k (sm_new hp) (.tup (hB.ne hp) upd_same (hC.s (sm_new hp)))⟩⟩
  · cases hA with
    | cons h1 h2 =>
      cases h2
      have h0 := h1
      obtain ⟨a, vs, rfl, _, ha, hC⟩ := h1.tupI
      exact ⟨a, vs, rfl, .inr ⟨SqT.of ha, q _ _ _ k (Same.refl _) h0⟩⟩⟩
def rdListN : List PyData → (List PyData → Prop) → Prop := fun ds K => ∃ xs, (ds = [.list xs] ∨ ds = [.tuple xs]) ∧ K xs
theorem scn_list : SCN (rListOf K) rdListN := ⟨fun hB hA ⟨xs, e, k⟩ q => by
  rcases e with e | e <;> subst e
  · cases hA with
    | cons h1 h2 =>
      cases h2
      obtain ⟨a, vs, rfl, _, ha, hC⟩ := h1.lst2
      exact ⟨a, vs, rfl, .inl (SqL.of ha), fun p hp => q _ _ _ _ k (sm_new hp) hp upd_same ((hC.fr hp).s (sm_new hp))⟩
  · cases hA with
    | cons h1 h2 =>
      cases h2
      obtain ⟨a, vs, rfl, _, ha, hC⟩ := h1.tupI
      exact ⟨a, vs, rfl, .inr (SqT.of ha), fun p hp => q _ _ _ _ k (sm_new hp) hp upd_same ((hC.fr hp).s (sm_new hp))⟩⟩
theorem one_ints {B : List Addr} {H : Hp} {vs : List V} {ns : List Int} (h : DtA B H vs [eI ns]) : ∃ a, vs = [.ref a] ∧ H a = some (.lst (ns.map V.int)) := by
  cases h with
  | cons h1 h2 =>
    cases h2
    obtain ⟨a, rfl, _, e⟩ := h1.ints
    exact ⟨a, rfl, e⟩
def rdSum : List PyData → (PyData → Prop) → Prop := fun ds K => ∃ ns : List Int, ds = [eI ns] ∧ K (.int ns.sum)
theorem sc_sum : SC (rSum K) rdSum := ⟨fun hB hA ⟨ns, e, k⟩ q => by
  subst e
  obtain ⟨a, rfl, e⟩ := one_ints hA
  exact ⟨a, ns, rfl, SqL.of e, q _ _ _ k (Same.refl _) (.int _)⟩⟩
def rdMax : List PyData → (PyData → Prop) → Prop := fun ds K => ∃ ns : List Int, ds = [eI ns] ∧ 0 < ns.length ∧ ∀ m, m ∈ ns → (∀ y, y ∈ ns → y ≤ m) → K (.int m)
def rdMin : List PyData → (PyData → Prop) → Prop := fun ds K => ∃ ns : List Int, ds = [eI ns] ∧ 0 < ns.length ∧ ∀ m, m ∈ ns → (∀ y, y ∈ ns → m ≤ y) → K (.int m)
theorem sc_max : SC (rMax K) rdMax := ⟨fun hB hA ⟨ns, e, l, k⟩ q => by
  subst e
  obtain ⟨a, rfl, e⟩ := one_ints hA
  exact ⟨a, ns, rfl, SqL.of e, l, fun m h1 h2 => q _ _ _ (k m h1 h2) (Same.refl _) (.int _)⟩⟩
theorem sc_min : SC (rMin K) rdMin := ⟨fun hB hA ⟨ns, e, l, k⟩ q => by
  subst e
  obtain ⟨a, rfl, e⟩ := one_ints hA
  exact ⟨a, ns, rfl, SqL.of e, l, fun m h1 h2 => q _ _ _ (k m h1 h2) (Same.refl _) (.int _)⟩⟩
def rdMinP : List PyData → (PyData → Prop) → Prop := fun ds K => ∃ p ps, ds = [.list ((p :: ps).map enc)] ∧ K (enc (minP p ps))
theorem sc_minP : SC (rMinP K) rdMinP := ⟨fun hB hA ⟨p, ps, e, k⟩ q => by
  subst e
  cases hA with
  | cons h1 h2 =>
    cases h2
    obtain ⟨a, vs, rfl, _, ha, hC⟩ := h1.lst2
    exact ⟨a, vs, p, ps, rfl, SqL.of ha, hC.dP, fun i x ex ep => q _ _ _ k (Same.refl _) (hC.two ex (by rw [List.getElem?_map, ep]; rfl))⟩⟩
def rdAny (g : List Bool → Bool) : List PyData → (PyData → Prop) → Prop := fun ds K => ∃ bs : List Bool, ds = [.list (bs.map .bool)] ∧ K (.bool (g bs))
theorem sc_any : SC (rAny K) (rdAny fun bs => bs.any id) := ⟨fun hB hA ⟨bs, e, k⟩ q => by
  subst e
  cases hA with
  | cons h1 h2 =>
    cases h2
    obtain ⟨a, vs, rfl, _, ha, hC⟩ := h1.lst2
    exact ⟨a, bs, rfl, SqL.of (by rw [ha, hC.blsV]), q _ _ _ k (Same.refl _) (.bl _)⟩⟩
theorem sc_all : SC (rAll K) (rdAny fun bs => bs.all id) := ⟨fun hB hA ⟨bs, e, k⟩ q => by
  subst e
  cases hA with
  | cons h1 h2 =>
    cases h2
    obtain ⟨a, vs, rfl, _, ha, hC⟩ := h1.lst2
    exact ⟨a, bs, rfl, SqL.of (by rw [ha, hC.blsV]), q _ _ _ k (Same.refl _) (.bl _)⟩⟩
theorem sc_abs : SC (fun xs H Q => ∃ i, xs = [.int i] ∧ Q (.int (if i < 0 then -i else i)) H) (fun ds K => ∃ i, ds = [.int i] ∧ K (.int (if i < 0 then -i else i))) := ⟨fun hB hA ⟨i, e, k⟩ q => by
  subst e
  cases hA with
  | cons h1 h2 =>
    cases h2
    cases h1
    exact ⟨i, rfl, q _ _ _ k (Same.refl _) (.int _)⟩⟩
theorem sc_int2 {g : Int → Int → Int} : SC (fun xs H Q => ∃ i j, xs = [.int i, .int j] ∧ Q (.int (g i j)) H) (fun ds K => ∃ i j, ds = [.int i, .int j] ∧ K (.int (g i j))) := ⟨fun hB hA ⟨i, j, e, k⟩ q => by
  subst e
  cases hA with
  | cons h1 h2 =>
    cases h2 with
    | cons h2 h3 =>
      cases h3
      cases h1
      cases h2
      exact ⟨i, j, rfl, q _ _ _ k (Same.refl _) (.int _)⟩⟩
theorem sc_int1 : SC (fun xs H Q => (∃ i, xs = [.int i] ∧ Q (.int i) H) ∨ ∃ k, xs = [.bl k] ∧ Q (.int (if k then 1 else 0)) H) (fun ds K => (∃ i, ds = [.int i] ∧ K (.int i)) ∨ ∃ b : Bool, ds = [.bool b] ∧ K (.int (if b then 1 else 0))) := ⟨fun hB hA k q => by
  rcases k with ⟨i, e, k⟩ | ⟨i, e, k⟩ <;> subst e
  · cases hA with
    | cons h1 h2 =>
      cases h2
      cases h1
      exact .inl ⟨i, rfl, q _ _ _ k (Same.refl _) (.int _)⟩
  · cases hA with
    | cons h1 h2 =>
      cases h2
      cases h1
      exact .inr ⟨i, rfl, q _ _ _ k (Same.refl _) (.int _)⟩⟩
def fIsi (n : String) (fe : DE) : DE := fun δ k K => fe δ k fun d m => ∃ b, kitB (tyn d) n = some b ∧ K (.bool b) m
theorem se_isi {n : String} {te : TE} {fe : DE} (he : SE te fe) : SE (tCB (rIsi K) (tCons te (tCons (tC (.ty n)) tNil))) (fIsi n fe) := ⟨fun h k q => he.run h k fun d m v H1 ⟨b, e, k1⟩ g1 l1 d1 =>
  ⟨v, .ty n, _, _, b, rfl, .ty n, d1.ty, kit_ty e, q _ _ _ _ k1 g1 l1 (.bl b)⟩⟩
def rdSortI : List PyData → (List PyData → Prop) → Prop := fun ds K => ∃ ns : List Int, ds = [eI ns] ∧ ∀ ks : List Int, ks.Perm ns → ks.Pairwise (· ≤ ·) → K (ks.map .int)
theorem scn_sortI : SCN (rSortedI K) rdSortI := ⟨fun hB hA ⟨ns, e, k⟩ q => by
  subst e
  obtain ⟨a, rfl, e⟩ := one_ints hA
  exact ⟨a, ns, rfl, SqL.of e, fun ks p h1 h2 hp => q _ _ _ _ (k ks h1 h2) (sm_new hp) hp upd_same (DtA.ints ks)⟩⟩
def rdSortD : List PyData → (List PyData → Prop) → Prop := fun ds K => ∃ (β : Type) (en : β → PyData) (bs : List β), ds = [.list (bs.map en)] ∧ PySem.W.AllAlike (bs.map en) ∧ PySem.W.Sortable (bs.map en) ∧ bs.length ≤ 10000 ∧ (∀ b ∈ bs, (en b).depth ≤ 50) ∧ K ((bs.mergeSort (PySem.W.dataLe false en)).map en)
theorem scn_sortD : SCN (rSortedD K) rdSortD := ⟨fun hB hA ⟨β, en, bs, e, h1, h2, h3, h4, k⟩ q => by
  subst e
  cases hA with
  | cons g1 g2 =>
    cases g2
    obtain ⟨a, vs, rfl, _, ha, hC⟩ := g1.lst2
    exact ⟨a, vs, β, en, bs, rfl, SqL.of ha, hC.dP, h1, h2, h3, h4, fun ys p he hp => q _ _ _ _ k (sm_new hp) hp upd_same (((each_mem he hC).fr hp).s (sm_new hp))⟩⟩
def fRg1 (fe : DE) : DI := fun δ n K => fe δ n fun d m => ∃ z, d = .int z ∧ RgOk 0 z ∧ K ((List.range z.toNat).map fun i => .int (i : Nat)) m
theorem sn_rg1 {te : TE} {fe : DE} (he : SE te fe) : SN (tLstRg (tRg1 te)) (fRg1 fe) := ⟨fun h k q => he.run h k fun d m v H1 ⟨z, e, hz, k1⟩ g1 l1 d1 => by
  subst e
  cases d1
  refine ⟨z, rfl, hz, fun p hp => q _ _ _ _ _ k1 (g1.trans (Go.of (sm_new hp))) (l1.same (sm_new hp)) (g1.free hp) upd_same ?_⟩
  have e : rgV 0 z = ((List.range z.toNat).map fun i => ((i : Nat) : Int)).map V.int := by
    unfold rgV
    rw [List.map_map, Int.sub_zero]
    refine List.map_congr_left fun i _ => ?_
    show V.int (0 + (i : Int)) = V.int (i : Int)
    rw [Int.zero_add]
  have e2 : ((List.range z.toNat).map fun i => PyData.int ((i : Nat) : Int)) = ((List.range z.toNat).map fun i => ((i : Nat) : Int)).map PyData.int := by rw [List.map_map]; rfl
  rw [e, e2]
  exact DtA.ints _⟩
end
end Z

set_option Elab.async false
set_option linter.all false
set_option maxRecDepth 100000
namespace Z
open PySem PySem.Spec PyProof.Rows L2
/-! ### zip of three lists -/
def It3L (K : PySem.W.Frag) (a b c : Addr) : It where
  go := fun i H => ∃ (xs ys ts : List V) (x y t : V), (SqL K H a xs ∧ SqL K H b ys ∧ SqL K H c ts) ∧ xs[i]? = some x ∧ ys[i]? = some y ∧ ts[i]? = some t
  yld := fun i H v H' => ∃ (T : Addr) (x y t : V), v = .ref T ∧ H T = none ∧ H' = upd H T (.tup [x, y, t]) ∧ (∀ l, SqL K H a l → l[i]? = some x) ∧ (∀ l, SqL K H b l → l[i]? = some y) ∧ ∀ l, SqL K H c l → l[i]? = some t
  stop := fun i H => ∃ xs ys ts : List V, (SqL K H a xs ∧ SqL K H b ys ∧ SqL K H c ts) ∧ i ≤ xs.length ∧ i ≤ ys.length ∧ i ≤ ts.length ∧ (i = xs.length ∨ i = ys.length ∨ i = ts.length)
def own3L (z TI TO i1 i2 i3 : Addr) : List Addr := [z, TI, TO, i1, i2, i3]
def at3L (a b c z TI TO i1 i2 i3 : Addr) (i : Nat) (h : Heap) : Prop :=
  IsZip h z TI TO .none ∧ IsTupOf3 h TI (.ref i1) (.ref i2) (.ref i3) ∧ (∃ x y t, IsTupOf3 h TO x y t) ∧ h.IsListIter i1 a i ∧ h.IsListIter i2 b i ∧ h.IsListIter i3 c i
theorem sixL {z TI TO i1 i2 i3 q : Addr} (h : q ∈ own3L z TI TO i1 i2 i3) : q = z ∨ q = TI ∨ q = TO ∨ q = i1 ∨ q = i2 ∨ q = i3 := by
  simpa [own3L] using h
theorem ne_itL {h : Heap} {t it l : Addr} {items : Array Value} {i : Nat} (p : h.IsList t items) (q : h.IsListIter it l i) : t ≠ it := fun e => by
  obtain ⟨o, ho, hcl, _⟩ := p
  obtain ⟨o', ho', hcl', _⟩ := q
  rw [e, ho'] at ho
  have eo := Option.some.inj ho
  rw [eo, hcl] at hcl'
  exact absurd (Value.type.inj hcl') (by decide)
set_option maxHeartbeats 1000000 in
theorem turn3L {P : Program} {w : World} {K : PySem.W.Frag} {elts : List Expr} {kk : Nat} {tpos : Pos} {a b c z TI TO i1 i2 i3 : Addr} (D : ZipSep3 z TI TO i1 i2 i3 [i1, a] [i2, b] [i3, c]) :
    Turn P w K (.Tuple elts kk tpos) (It3L K a b c) (own3L z TI TO i1 i2 i3) z (at3L a b c z TI TO i1 i2 i3) := by
  refine ⟨by simp [own3L], fun i h st q hq => ?_, fun i h h' st k => ?_, ?_, ?_, fun A i s Q E st h => wpAny_pyIter_zip st.1 h⟩
  · obtain ⟨hz, hTI, ⟨x, y, t, hTO⟩, ⟨o1, e1, _, d1⟩, ⟨o2, e2, _, d2⟩, ⟨o3, e3, _, d3⟩⟩ := st
    rcases sixL hq with rfl | rfl | rfl | rfl | rfl | rfl
    · exact ⟨_, hz, fun v q => nomatch q⟩
    · exact ⟨_, hTI, fun v q => nomatch q⟩
    · exact ⟨_, hTO, fun v q => nomatch q⟩
    · exact ⟨o1, e1, fun v q => by rw [d1] at q; cases q⟩
    · exact ⟨o2, e2, fun v q => by rw [d2] at q; cases q⟩
    · exact ⟨o3, e3, fun v q => by rw [d3] at q; cases q⟩
  · obtain ⟨hz, hTI, ⟨x, y, t, hTO⟩, h1, h2, h3⟩ := st
    exact ⟨k z (by simp [own3L]) _ hz, k TI (by simp [own3L]) _ hTI, ⟨x, y, t, k TO (by simp [own3L]) _ hTO⟩, h1.at fun o q => k i1 (by simp [own3L]) o q, h2.at fun o q => k i2 (by simp [own3L]) o q, h3.at fun o q => k i3 (by simp [own3L]) o q⟩
  · intro X hP hw hK hc i pins s σ H E I hf st hg
    subst hP hw hK
    obtain ⟨hz, hTI, ⟨x0, y0, t0, hTO⟩, h1, h2, h3⟩ := st
    obtain ⟨xs, ys, ts, x, y, t, ⟨qx, qy, qt⟩, fx, fy, ft⟩ := hg
    obtain ⟨js1, r1, pl1, _⟩ := I.list qx
    have p1 := pl1.isList
    obtain ⟨js2, r2, pl2, _⟩ := I.list qy
    have p2 := pl2.isList
    obtain ⟨js3, r3, pl3, _⟩ := I.list qt
    have p3 := pl3.isList
    obtain ⟨u1, f1, m1⟩ := r1.get fx
    obtain ⟨u2, f2, m2⟩ := r2.get fy
    obtain ⟨u3, f3, m3⟩ := r3.get ft
    have lz : z < s.heap.objs.size := Heap.lt_size hz
    have hd := I.ok.hd hc
    have n1 : a ≠ i1 := ne_itL p1 h1
    have n2 : b ≠ i2 := ne_itL p2 h2
    have n3 : c ≠ i3 := ne_itL p3 h3
    have k1 : i < js1.toArray.size := by have := (List.getElem?_eq_some_iff.mp f1).1; simpa using this
    have k2 : i < js2.toArray.size := by have := (List.getElem?_eq_some_iff.mp f2).1; simpa using this
    have k3 : i < js3.toArray.size := by have := (List.getElem?_eq_some_iff.mp f3).1; simpa using this
    refine wpAny_pyNext_zipD3_item D (Draws.list (A := X.A.in1) hd i1 a n1 js1.toArray) (Draws.list (A := X.A.in1) hd i2 b n2 js2.toArray) (Draws.list (A := X.A.in1) hd i3 c n3 js3.toArray) hz hTI hTO ⟨h1, p1⟩ ⟨h2, p2⟩ ⟨h3, p3⟩ k1 k2 k3 fun x1 x2 x3 h' tk e1 e2 e3 z' TO' st1 st2 st3 hT hsz hk => ?_
    have w1 : x1 = u1 := Option.some.inj (e1.symm.trans (by simpa using f1))
    have w2 : x2 = u2 := Option.some.inj (e2.symm.trans (by simpa using f2))
    have w3 : x3 = u3 := Option.some.inj (e3.symm.trans (by simpa using f3))
    subst w1 w2 w3
    refine ⟨_, rfl, wpAny_letOwnedTupleGo_zip (s := { s with heap := h', toks := tk }) z' fun h'' z'' sb => ?_⟩
    have up : ∀ q o, q ≠ z → h'.get? q = some o → h''.get? q = some o := fun q o n e => (sb.2 q n).trans e
    have hT2 := up _ _ (Nat.ne_of_gt lz) hT
    have fresh : H s.heap.objs.size = none := I.hok.fresh (Nat.le_refl _)
    have new : ObjOk X.prog X.w (upd H s.heap.objs.size (.tup [x, y, t])) h'' s.heap.objs.size (.tup [x, y, t]) :=
      ⟨by show 3 ≤ sizeLine; decide, [x1, x2, x3], .cons m1 (.cons m2 (.cons m3 .nil)), ⟨_, hT2, rfl, _, rfl⟩⟩
    have kp : ∀ q o, q ∉ own3L z TI TO i1 i2 i3 → s.heap.get? q = some o → h''.get? q = some o := fun q o nq e => by
      have nz : q ≠ z := fun y => nq (by simp [own3L, y])
      refine up q o nz (hk q o nz (fun y => nq (by simp [own3L, y])) (fun y => nq (by simp [own3L, y])) (fun y => nq (by simp [own3L, y])) (fun y => nq (by simp [own3L, y])) e)
    have zi : ∀ {j : Addr} {fp : List Addr}, j ∈ fp → z ∉ fp → j ≠ z := fun hj hz e => hz (by rw [← e]; exact hj)
    refine ⟨.ref s.heap.objs.size, _, I.turnedNew (t' := tk) (ch := own3L z TI TO i1 i2 i3) kp hf (Nat.le_refl _) new, rfl, ⟨_, x, y, t, rfl, fresh, rfl, fun l hl => by rw [I.list_inj hl qx]; exact fx, fun l hl => by rw [I.list_inj hl qy]; exact fy, fun l hl => by rw [I.list_inj hl qt]; exact ft⟩, ⟨z'', ?_, ⟨x1, x2, x3, up _ _ D.TOz TO'⟩, ?_, ?_, ?_⟩, fun q hq => ?_⟩
    · exact up _ _ D.TIz (hk _ _ D.TIz D.TITO D.TIi1 D.TIi2 D.TIi3 hTI)
    · exact st1.1.at fun o e => up _ _ (zi D.mem1 D.zf1) e
    · exact st2.1.at fun o e => up _ _ (zi D.mem2 D.zf2) e
    · exact st3.1.at fun o e => up _ _ (zi D.mem3 D.zf3) e
    · have lq : q < s.heap.objs.size := by
        rcases sixL hq with rfl | rfl | rfl | rfl | rfl | rfl
        · exact lz
        · exact Heap.lt_size hTI
        · exact Heap.lt_size hTO
        · obtain ⟨_, e, _⟩ := h1; exact Heap.lt_size e
        · obtain ⟨_, e, _⟩ := h2; exact Heap.lt_size e
        · obtain ⟨_, e, _⟩ := h3; exact Heap.lt_size e
      rw [upd_ne (Nat.ne_of_lt lq)]
      exact (hf q hq).1
  · intro X hP hw hK hc i pins s σ H E I hf st hg
    subst hP hw hK
    obtain ⟨hz, hTI, ⟨x0, y0, t0, hTO⟩, h1, h2, h3⟩ := st
    obtain ⟨xs, ys, ts, ⟨qx, qy, qt⟩, b1, b2, b3, hend⟩ := hg
    obtain ⟨js1, r1, pl1, _⟩ := I.list qx
    have p1 := pl1.isList
    obtain ⟨js2, r2, pl2, _⟩ := I.list qy
    have p2 := pl2.isList
    obtain ⟨js3, r3, pl3, _⟩ := I.list qt
    have p3 := pl3.isList
    have hd := I.ok.hd hc
    have l1 := r1.length
    have l2 := r2.length
    have l3 := r3.length
    have n1 : a ≠ i1 := ne_itL p1 h1
    have n2 : b ≠ i2 := ne_itL p2 h2
    have n3 : c ≠ i3 := ne_itL p3 h3
    refine wpAny_pyNext_zipD3_end D (Draws.list (A := X.A.in1) hd i1 a n1 js1.toArray) (Draws.list (A := X.A.in1) hd i2 b n2 js2.toArray) (Draws.list (A := X.A.in1) hd i3 c n3 js3.toArray) hz hTI hTO ⟨h1, p1⟩ ⟨h2, p2⟩ ⟨h3, p3⟩ (by simp; omega) (by simp; omega) (by simp; omega) (by simp; omega) fun h' tk hk => ?_
    exact ⟨rfl, I.turnedL (t' := tk) (ch := own3L z TI TO i1 i2 i3) (fun q o nq e => hk q o (fun y => nq (by simp [own3L, y])) (fun y => nq (by simp [own3L, y])) (fun y => nq (by simp [own3L, y])) (fun y => nq (by simp [own3L, y])) (fun y => nq (by simp [own3L, y])) e) hf⟩
set_option maxHeartbeats 400000
def iZip3L (K : PySem.W.Frag) (ta : TA) : TI := fun σ H R => ta σ H fun vs H1 => ∃ a b c xs ys ts, vs = [.ref a, .ref b, .ref c] ∧ SqL K H1 a xs ∧ SqL K H1 b ys ∧ SqL K H1 c ts ∧ R (It3L K a b c) H1
theorem own_leL {N y : Nat} (hy : y ∈ own3L (N + 5) (N + 3) (N + 4) N (N + 1) (N + 2)) : N ≤ y := by
  rcases sixL hy with z | z | z | z | z | z <;> rw [z]
  · exact Nat.le_add_right _ _
  · exact Nat.le_add_right _ _
  · exact Nat.le_add_right _ _
  · exact Nat.le_refl _
  · exact Nat.le_add_right _ _
  · exact Nat.le_add_right _ _
theorem zip3_endL {X : Cx} {pins : List (Addr × Obj)} {σ : L2.St} {H1 : Hp} {s1 : Shared} {R : It → Hp → Prop} {a b c : Addr} {xs ys ts : List V} {elts : List Expr} {kk : Nat} {tpos : Pos} (I1 : Inv X pins σ H1 s1) (qx : SqL X.K H1 a xs) (qy : SqL X.K H1 b ys) (qt : SqL X.K H1 c ts) (q : R (It3L X.K a b c) H1) :
    wpAny (model X.prog X.w) X.A (call (.type "zip") [.ref a, .ref b, .ref c]) (fun v s2 => wpAny (model X.prog X.w) X.A (pyIter v) (PIE X pins σ (.Tuple elts kk tpos) R) X.xe s2) X.xe s1 := by
  obtain ⟨js1, m1, pl1, _⟩ := I1.list qx
  have p1 := pl1.isList
  obtain ⟨js2, m2, pl2, _⟩ := I1.list qy
  have p2 := pl2.isList
  obtain ⟨js3, m3, pl3, _⟩ := I1.list qt
  have p3 := pl3.isList
  have la : a < s1.heap.objs.size := by obtain ⟨_, o, _⟩ := p1; exact Heap.lt_size o
  have lb : b < s1.heap.objs.size := by obtain ⟨_, o, _⟩ := p2; exact Heap.lt_size o
  have lc : c < s1.heap.objs.size := by obtain ⟨_, o, _⟩ := p3; exact Heap.lt_size o
  refine zip_begins3 (begins_list a js1.toArray) (begins_list b js2.toArray) (begins_list c js3.toArray) p1 p2 p3 fun h' hz hTI hTO g1 g2 g3 hsz hk => wpAny_pyIter_zip hz ?_
  have one : ∀ {x : Addr}, x < s1.heap.objs.size → ∀ y ∈ [x], y < s1.heap.objs.size := fun hx y hy => by rw [List.mem_singleton.mp hy]; exact hx
  have I2 : Inv X pins σ H1 { s1 with heap := h' } := I1.kept (t' := s1.toks) hk
  have fr : ∀ y, s1.heap.objs.size ≤ y → FpOk X pins H1 y := fun y hle => I1.fpOk hle (I1.hok.fresh hle)
  have sp := zip_sep3 (one la) (one lb) (one lc)
  generalize s1.heap.objs.size = N at *
  exact ⟨N + 5, own3L (N + 5) (N + 3) (N + 4) N (N + 1) (N + 2), at3L a b c (N + 5) (N + 3) (N + 4) N (N + 1) (N + 2), It3L X.K a b c, H1, rfl, I2, turn3L sp, ⟨hz, hTI, ⟨_, _, _, hTO⟩, ⟨_, g1, rfl, rfl⟩, ⟨_, g2, rfl, rfl⟩, ⟨_, g3, rfl, rfl⟩⟩, fun y hy => fr y (own_leL hy), q⟩
theorem pi_zip3L (K : PySem.W.Frag) {X : Cx} {e e2 e3 : Expr} {ta : TA} {p pos tpos : Pos} {elts : List Expr} {kk : Nat} (hg : Gl X "zip") (hm : X.mg "zip" = none) (ha : PA X [e, e2, e3] ta)
    (hs : starEach [e, e2, e3] X.env = (false, eval e X.env) :: starEach [e2, e3] X.env := by rfl) (hpl : (backTo pos (starEach [e2, e3] X.env)).any (·.1) = false := by rfl) (hK : X.K = K := by rfl) :
    PI X (.Tuple elts kk tpos) (.Call (.Name "zip" p) [e, e2, e3] [] pos) (iZip3L K ta) := by
  subst hK
  refine ⟨fun pins s σ H R I h => ?_⟩
  refine Call_ (ld_blt I hg hm PyProof.Rows.boot_zip (PyProof.Rows.callWith_type1 (thn (ha.run pos pins s σ H _ I h) fun us s1 ⟨vs, H1, I1, r1, q1⟩ => ?_) hs hpl))
  obtain ⟨a, b, c, xs, ys, ts, rfl, qx, qy, qt, q⟩ := q1
  obtain ⟨u1, us, rfl, ra, r1⟩ : ∃ u1 vs', us = u1 :: vs' ∧ RelV (.ref a) u1 ∧ Vals [.ref b, .ref c] vs' := by
    cases r1 with
    | cons x y => exact ⟨_, _, rfl, x, y⟩
  obtain ⟨u2, us, rfl, rb, r1⟩ : ∃ u1 vs', us = u1 :: vs' ∧ RelV (.ref b) u1 ∧ Vals [.ref c] vs' := by
    cases r1 with
    | cons x y => exact ⟨_, _, rfl, x, y⟩
  obtain ⟨u3, rfl, rc⟩ := vals1 r1
  cases (show u1 = Value.ref a from ra)
  cases (show u2 = Value.ref b from rb)
  cases (show u3 = Value.ref c from rc)
  exact zip3_endL I1 qx qy qt q
def YTriL (xs ys ts : List V) : Nat → Hp → V → Hp → Prop := fun i H v H' => ∃ T x y t, v = .ref T ∧ H T = none ∧ H' = upd H T (.tup [x, y, t]) ∧ xs[i]? = some x ∧ ys[i]? = some y ∧ ts[i]? = some t
theorem walk_zip3L {K : PySem.W.Frag} {a b c : Addr} {xs ys ts : List V} (h1 : ys.length = xs.length) (h2 : ts.length = xs.length) : Walk (It3L K a b c) xs.length (fun H => SqL K H a xs ∧ SqL K H b ys ∧ SqL K H c ts) (YTriL xs ys ts) := by
  refine ⟨fun i H hi q => ⟨xs, ys, ts, xs[i], ys[i]'(by omega), ts[i]'(by omega), q, by simp [hi], by simp, by simp⟩, fun H q => ⟨xs, ys, ts, q, by omega, by omega, by omega, .inl rfl⟩, fun i H v H' _ q y => ?_⟩
  obtain ⟨T, x, z, t, e1, e2, e3, e4, e5, e6⟩ := y
  exact ⟨T, x, z, t, e1, e2, e3, e4 xs q.1, e5 ys q.2.1, e6 ts q.2.2⟩
end Z

set_option Elab.async false
set_option linter.all false
set_option maxRecDepth 100000
namespace Z
open PySem PySem.Spec PyProof.Rows L2
/-! ### great numbers -/
def CPowW (i j : Int) : Prop := 0 ≤ j ∧ j ≤ 1000 ∧ i.natAbs.log2 < 100000
theorem op_powW {X : Cx} : OpR X (binaryOp .Pow) (rI CPowW fun i j => .int (i ^ j.toNat)) := opI fun i j _ _ _ _ _ hc q => by
  refine pow_int hc.1 ?_ q
  have b : Builtin.Int.intBits i ≤ i.natAbs.log2 + 1 := by
    unfold Builtin.Int.intBits
    split <;> omega
  have h1 := hc.1
  have h2 := hc.2.1
  have h3 := hc.2.2
  have h4 : (Builtin.Int.intBits i : Int) ≤ 100000 := by omega
  have h5 : (Builtin.Int.intBits i : Int) * j ≤ 100000 * 1000 := Int.mul_le_mul h4 h2 h1 (by decide)
  exact Int.le_trans h5 (by decide)
def wIn (ns : List Int) : Prop := ∀ x ∈ ns, x.natAbs < 2 ^ 2000
theorem wIn.sub {x y : Int} (hx : x.natAbs < 2 ^ 2000) (hy : y.natAbs < 2 ^ 2000) : (x - y).natAbs < 2 ^ 2001 := by
  rw [Nat.pow_succ 2 2000]
  generalize 2 ^ 2000 = M at *
  omega
theorem powW {x y : Int} (hx : x.natAbs < 2 ^ 2000) (hy : y.natAbs < 2 ^ 2000) : CPowW (x - y) 2 := ⟨by decide, by decide, by
  have := PySem.Flt.log2_lt_of (by decide) (wIn.sub hx hy)
  omega⟩
theorem mulW {x y : Int} (hx : x.natAbs < 2 ^ 2000) (hy : y.natAbs < 2 ^ 2000) : CMulW (x - y) (x - y) := wide_mul (wIn.sub hx hy) (wIn.sub hx hy) (by decide) (by decide) (by decide)
/-! ### a list of lists that is changed -/
structure Gr (B : List Addr) (H : Hp) (wa : Addr) (ras : List Addr) (W : List (List PyData)) : Prop where
  a : H wa = some (.lst (ras.map V.ref))
  nw : wa ∉ B
  nd : (wa :: ras).Nodup
  nb : ∀ r ∈ ras, r ∉ B
  l : ras.length = W.length
  r : ∀ (i : Nat) (ra : Addr) (ds : List PyData), ras[i]? = some ra → W[i]? = some ds → ∃ vs, H ra = some (.lst vs) ∧ DtA (wa :: ras ++ B) H vs ds
theorem Gr.s {B : List Addr} {H H' : Hp} {wa : Addr} {ras : List Addr} {W : List (List PyData)} (g : Gr B H wa ras W) (s : Same H H') : Gr B H' wa ras W := ⟨s _ _ g.a, g.nw, g.nd, g.nb, g.l, fun i ra ds h1 h2 => by
  obtain ⟨vs, e, d⟩ := g.r i ra ds h1 h2
  exact ⟨vs, s _ _ e, d.s s⟩⟩
/-- what else is changed lies in B -/
theorem Gr.g {B : List Addr} {H H' : Hp} {wa : Addr} {ras : List Addr} {W : List (List PyData)} (g : Gr B H wa ras W) (s : Go B H H') : Gr B H' wa ras W := ⟨s.k _ _ g.nw g.a, g.nw, g.nd, g.nb, g.l, fun i ra ds h1 h2 => by
  obtain ⟨vs, e, d⟩ := g.r i ra ds h1 h2
  exact ⟨vs, s.k _ _ (g.nb ra (List.mem_of_getElem? h1)) e, d.g (s.w fun a h => List.mem_append_right _ h)⟩⟩
theorem DtA.put {B : List Addr} {H : Hp} {v : V} {d : PyData} (h : Dt B H v d) : ∀ {vs : List V} {ds : List PyData} (j : Nat), DtA B H vs ds → DtA B H (vs.set j v) (ds.set j d)
  | _, _, _, .nil => .nil
  | _, _, 0, .cons _ h2 => .cons h h2
  | _, _, j + 1, .cons h1 h2 => .cons h1 (DtA.put h j h2)
/-- one thing put in -/
theorem Gr.set {B : List Addr} {H : Hp} {wa : Addr} {ras : List Addr} {W : List (List PyData)} (g : Gr B H wa ras W) {i j : Nat} {ra : Addr} {ds : List PyData} {vs : List V} {v : V} {d : PyData} (h1 : ras[i]? = some ra) (h2 : W[i]? = some ds) (h3 : H ra = some (.lst vs)) (hd : Dt (wa :: ras ++ B) H v d) :
    Gr B (upd H ra (.lst (vs.set j v))) wa ras (W.set i (ds.set j d)) := by
  have mr := List.mem_of_getElem? h1
  have nwr : wa ≠ ra := fun z => (List.nodup_cons.mp g.nd).1 (z ▸ mr)
  have gm : Go (wa :: ras ++ B) H (upd H ra (.lst (vs.set j v))) := Go.refl.at (List.mem_append_left _ (List.mem_cons_of_mem _ mr))
  refine ⟨by rw [upd_ne nwr]; exact g.a, g.nw, g.nd, g.nb, by rw [List.length_set]; exact g.l, fun k rb es k1 k2 => ?_⟩
  by_cases c : k = i
  · subst c
    rw [h1] at k1
    cases k1
    have hk : k < W.length := (List.getElem?_eq_some_iff.mp h2).1
    rw [List.getElem?_set_self hk] at k2
    cases k2
    obtain ⟨us, e, dd⟩ := g.r k ra ds h1 h2
    rw [h3] at e
    cases e
    exact ⟨_, upd_same, DtA.put (hd.g gm) j (dd.g gm)⟩
  · rw [List.getElem?_set_ne (Ne.symm c)] at k2
    obtain ⟨us, e, dd⟩ := g.r k rb es k1 k2
    have nrb : rb ≠ ra := fun z => by
      subst z
      exact c ((List.getElem?_inj (List.getElem?_eq_some_iff.mp k1).1 (List.nodup_cons.mp g.nd).2).mp (k1.trans h1.symm))
    exact ⟨us, by rw [upd_ne nrb]; exact e, dd.g gm⟩
end Z

set_option Elab.async false
set_option linter.all false
set_option maxRecDepth 100000
set_option maxHeartbeats 4000000
namespace Z
open PySem PySem.Spec PyProof.Rows L2
/-! ### a tuple once -/
theorem tuple_mul1 (l : Addr) (items : Array Value) (n : Nat) (dd : Option Addr) (sl : Array (Option Value)) (u : Tok) :
    Meets (Builtin.«tuple.__mul__» ⟨[.ref l, .int 1 u], []⟩) (fun _ R s => s.heap.get? l = some { cls := .type "tuple", dict := dd, data := .seq items n, slots := sl } ∧
      R (.ok (.ret (Value.ref l))) s) :=
  .of_wp fun prog w A R s h => by
    obtain ⟨hp, g, d, tk, os⟩ := s
    obtain ⟨hl, h⟩ := h
    have f1 := AutoSeq1.idx_int
    have c0 : (decide ((1 : Int) < -(2 ^ 63)) || decide ((1 : Int) ≥ 2 ^ 63)) = false := by decide
    have c1 : (items.isEmpty || (1 : Int) == 1) = true := by simp
    wp_walk using wpAny_loadPart' hl
    repeat (first
      | (refine wpAny_ite_false (decide_eq_false (by rw [c0]; exact Bool.false_ne_true)) ?_; wp_walk using wpAny_loadPart' hl)
      | (refine wpAny_ite_true (decide_eq_true (by rw [c1])) ?_; wp_walk using wpAny_loadPart' hl))
    exact ⟨_, rfl, h⟩
def rRepTT (K : PySem.W.Frag) : R2 := fun x y H Q => ∃ l k xs, x = .ref l ∧ y = .int k ∧ SqT K H l xs ∧ xs ≠ [] ∧ 1 ≤ k ∧ k ≤ 1000 ∧ xs.length ≤ 1000 ∧ (k = 1 → Q (.ref l) H) ∧ (2 ≤ k → ∀ p, H p = none → Q (.ref p) (upd H p (.tup (List.replicate k.toNat xs).flatten)))
theorem op_repTT {X : Cx} : OpR X (binaryOp .Mult) (rRepTT X.K) := by
  intro pins s σ H x y v u Q I rx ry h
  obtain ⟨l, k, xs, ex, ey, hT, hne, h1, h2, hz, q1, q2⟩ := h
  by_cases c : k = 1
  · subst c
    subst ex ey
    have q := q1 rfl
    cases rx
    obtain ⟨t, rfl⟩ := ry
    obtain ⟨its, r, ⟨⟨cls, dd, data, sl⟩, ho, hc, n, hd⟩, hs⟩ := I.tuple hT
    simp only at hc hd
    subst hc hd
    refine wpAny_binaryOp_repeat_ref (T := "tuple") (U := "int") (by decide) ⟨_, ho, rfl⟩ (fun s' => typeIs_int s' 1 t) noFill_tuple_mul F.fills_int_mul F.slot_int_rmul repeat_tuple F.slot_int_index.lookup
      (call_meets F.slot_int_rmul (typeIs_int s 1 t) F.entry_int_rmul (F.args_int_rmul_2 _ _) (int_rmul_tuple 1 t l its.toArray n dd sl)
        ⟨ho, rfl, ⟨_, ho, rfl⟩, call_meets F.slot_tuple_mul ⟨_, ho, rfl⟩ F.entry_tuple_mul (F.args_tuple_mul_2 _ _) (tuple_mul1 l its.toArray n dd sl t) ⟨ho, ?_⟩⟩)
    exact ⟨.ref l, H, I, rfl, q⟩
  · exact op_repT pins s σ H x y v u Q I rx ry ⟨l, k, xs, ex, ey, hT, hne, by omega, h2, hz, q2 (by omega)⟩
end Z

set_option Elab.async false
set_option linter.all false
set_option maxRecDepth 100000
set_option maxHeartbeats 1000000
namespace Z
open PySem PySem.Spec PyProof.Rows L2
/-! ### enumerate(xs, start=k) -/
theorem draws_shift {prog : Program} {w : World} {A : Around} {it : Addr} {fp : List Addr} {n : Nat} {P : Nat → Value → Prop} {St : Nat → Heap → Prop} (D : Draws prog w A it fp n P St) (k : Nat) : Draws prog w A it fp (k + n) (fun i v => P (i - k) v) (fun i h => k ≤ i ∧ St (i - k) h) where
  live := fun _ _ st => D.live _ _ st.2
  frame := fun _ _ _ st hk => ⟨st.1, D.frame _ _ _ st.2 hk⟩
  item := fun i s Q E hi st hQ => D.item (i - k) s Q E (by have := st.1; omega) st.2 fun x h' tk p st' sb => hQ x h' tk p ⟨by have := st.1; omega, by
    have := st.1
    rw [show i + 1 - k = i - k + 1 by omega]
    exact st'⟩ sb
  done := fun s Q E st hE => D.done s Q E (by
    have := st.2
    rw [show k + n - k = n by omega] at this
    exact this) hE
def IteS (K : PySem.W.Frag) (a : Addr) (k : Nat) : It :=
  ⟨fun i H => ∃ (xs : List V) (x : V), SqL K H a xs ∧ xs[i]? = some x, fun i H v H' => ∃ T x, v = .ref T ∧ H T = none ∧ H' = upd H T (.tup [.int ((k + i : Nat) : Int), x]) ∧ ∀ xs, SqL K H a xs → xs[i]? = some x, fun i H => ∃ xs : List V, SqL K H a xs ∧ xs.length = i⟩
theorem ne_itLE {h : Heap} {a it l : Addr} {items : Array Value} {i : Nat} (p : h.IsList a items) (q : h.IsListIter it l i) : a ≠ it := fun e => by
  subst e
  obtain ⟨o, ho, hc, _⟩ := p
  obtain ⟨o2, ho2, hc2, _⟩ := q
  rw [ho] at ho2
  cases ho2
  rw [hc] at hc2
  exact absurd hc2 (by decide)
theorem turn_enumS {P : Program} {w : World} {K : PySem.W.Frag} {elts : List Expr} {kk k : Nat} {tpos : Pos} {a e it : Addr} (hea : e ≠ a) (hne : e ≠ it) :
    Turn P w K (.Tuple elts kk tpos) (IteS K a k) [e, it] e (fun i h => (∃ old, IsEnum h e it ((k + i : Nat) : Int) old) ∧ h.IsListIter it a i) := by
  refine ⟨by simp, fun i h st b hb => ?_, fun i h h' st k => ?_, ?_, ?_, fun A i s Q E st h => ?_⟩
  · obtain ⟨⟨old, he⟩, ⟨o, ho, hc, hd⟩⟩ := st
    have e' : b = e ∨ b = it := by simpa using hb
    rcases e' with z | z
    · rw [z]; exact ⟨_, he, fun v q => nomatch q⟩
    · rw [z]; exact ⟨o, ho, fun v q => by rw [hd] at q; cases q⟩
  · obtain ⟨⟨old, he⟩, hi⟩ := st
    exact ⟨⟨old, k e (by simp) _ he⟩, hi.at fun o q => k it (by simp) o q⟩
  · intro X hP hw hK hc i pins s σ H E I hf st hg
    subst hP hw hK
    obtain ⟨⟨old, he⟩, hit⟩ := st
    obtain ⟨xs, x, hq, hx⟩ := hg
    obtain ⟨its, rv, p, hz⟩ := I.list hq
    obtain ⟨u, hu, ru⟩ := rv.get hx
    have hel : e < s.heap.objs.size := Heap.lt_size he
    have hil : it < s.heap.objs.size := by obtain ⟨_, q, _⟩ := hit; exact Heap.lt_size q
    have na : a ≠ it := ne_itLE p.isList hit
    have k1 : i < its.toArray.size := by have := (List.getElem?_eq_some_iff.mp hu).1; simpa using this
    have nf : e ∉ [it, a] := fun m => by
      rcases List.mem_cons.mp m with z | z
      · exact hne z
      · exact hea (List.mem_singleton.mp z)
    refine wpAny_pyNext_enum_itemD (i := k + i) (draws_shift (Draws.list (A := X.A.in1) (I.ok.hd hc) it a na its.toArray) k) he ⟨by omega, by rw [Nat.add_sub_cancel_left]; exact ⟨hit, p.isList⟩⟩ (by omega) hne nf fun v h' tk hv ho hit' hT hsz hk => ?_
    have w1 : v = u := by
      rw [Nat.add_sub_cancel_left] at hv
      exact Option.some.inj (hv.symm.trans (by simpa using hu))
    subst w1
    refine ⟨_, rfl, wpAny_letOwnedTupleGo_enum (s := { s with heap := h', toks := tk + 1 }) ho fun h'' he' sb => ?_⟩
    have hT2 : h''.get? s.heap.objs.size = some { cls := .type "tuple", data := .seq #[.int ((k + i : Nat) : Int) tk, v] } := (sb.2 _ (Nat.ne_of_gt hel)).trans hT
    have new : ObjOk X.prog X.w (upd H s.heap.objs.size (.tup [.int ((k + i : Nat) : Int), x])) h'' s.heap.objs.size (.tup [.int ((k + i : Nat) : Int), x]) :=
      ⟨by show 2 ≤ sizeLine; decide, [.int ((k + i : Nat) : Int) tk, v], .cons ⟨_, rfl⟩ (.cons ru .nil), ⟨_, hT2, rfl, _, rfl⟩⟩
    have I1 : Inv X pins σ (upd H s.heap.objs.size (.tup [.int ((k + i : Nat) : Int), x])) { s with heap := h'', toks := tk + 1 } :=
      I.turnedNew (ch := [e, it]) (fun b ob hb q => (sb.2 b (fun z => hb (by simp [z]))).trans (hk b ob (fun z => hb (by simp [z])) (fun z => hb (by simp [z])) q)) hf (Nat.le_refl _) new
    have hit2 := hit'.2
    rw [show k + i + 1 - k = i + 1 by omega] at hit2
    refine ⟨.ref s.heap.objs.size, _, I1, rfl, ⟨_, x, rfl, I.hok.fresh (Nat.le_refl _), rfl, fun ys hy => by rw [I.list_inj hy hq]; exact hx⟩, ⟨⟨v, ?_⟩, hit2.1.at fun o q => (sb.2 it (Ne.symm hne)).trans q⟩, fun b hb => ?_⟩
    · have e1 : ((k + (i + 1) : Nat) : Int) = ((k + i : Nat) : Int) + 1 := by omega
      rw [e1]; exact he'
    · have hb' : b < s.heap.objs.size := by
        have e' : b = e ∨ b = it := by simpa using hb
        rcases e' with z | z
        · rw [z]; exact hel
        · rw [z]; exact hil
      rw [upd_ne (Nat.ne_of_lt hb')]
      exact (hf b hb).1
  · intro X hP hw hK hc i pins s σ H E I hf st hg
    subst hP hw hK
    obtain ⟨⟨old, he⟩, hit⟩ := st
    obtain ⟨xs, hq, hx⟩ := hg
    obtain ⟨its, rv, p, hz⟩ := I.list hq
    have na : a ≠ it := ne_itLE p.isList hit
    obtain ⟨f0, f1, f2, f3, f4, f5⟩ := hf it (by simp)
    have hl := rv.length
    have ei : its.toArray.size = i := by simp; omega
    exact wpAny_pyNext_enum_endD (Draws.list (A := X.A.in1) (I.ok.hd hc) it a na its.toArray) he (by rw [ei]; exact ⟨hit, p.isList⟩) fun h' eb => ⟨rfl, I.turned (t' := s.toks) (fun b o hb q => eb b o hb q) f0 f1 f3 f4 f5⟩
  · obtain ⟨⟨_, he⟩, _⟩ := st
    exact wpAny_pyIter_enum he h
section
variable {M : Model} {A : Around} {E : Value → Shared → Prop} {s : Shared} {env : Env}
theorem callWith_typeKwB {pos : Pos} {T : String} {first : List Value} {args : List (Bool × Sem Value)} {keywords : List (Option Str × Sem Value)} {Q : Value → Shared → Prop}
    (hplain : args.any (·.1) = false) (hkw : keywords.any (·.1.isNone) = false)
    (h : wpAny M A (evalArgs (.type T) true args keywords) (fun a s₁ => wpAny M A (call (.type T) (first ++ a.pos) a.kw) Q E s₁) E s) :
    wpAny M A (callWith pos (.type T) first args keywords) Q E s := by
  unfold callWith
  refine wpAny_bind (wpAny_holding (wpAny_mono h (fun a s₁ h₁ => wpAny_bind (wpAny_standAt ?_)) fun _ _ x => x))
  simp only [hplain, hkw, Bool.or_false]
  refine wpAny_bind (wpAny_pure ?_)
  exact wpAny_bind (wpAny_mono h₁ (fun r s₂ hr => wpAny_bind (wpAny_holding (wpAny_point (wpAny_pure hr)))) fun _ _ x => x)
theorem callWith_kwT {pos : Pos} {T : String} {e : Expr} {rest : List Expr} {kws : List Keyword} {Q : Value → Shared → Prop}
    (h : wpAny M A (spliced (backTo pos (starEach (e :: rest) env))) (fun vs s₁ => wpAny M A (evalAll ((backToKw pos (keywordEach kws env)).map (·.2)))
      (fun kvs s₂ => wpAny M A (call (.type T) vs (((backToKw pos (keywordEach kws env)).filterMap (·.1)).zip kvs)) Q E s₂) E s₁) E s)
    (he : backTo pos (starEach (e :: rest) env) = (false, eval e env) :: backTo pos (starEach rest env) := by rfl)
    (hplain : (backTo pos (starEach (e :: rest) env)).any (·.1) = false := by rfl)
    (hall : (backToKw pos (keywordEach kws env)).all (·.1.isSome) = true := by rfl)
    (hkw : (backToKw pos (keywordEach kws env)).any (·.1.isNone) = false := by rfl) :
    wpAny M A (callWith pos (.type T) [] (backTo pos (starEach (e :: rest) env)) (backToKw pos (keywordEach kws env))) Q E s := by
  refine callWith_typeKwB hplain hkw ?_
  rw [he] at h ⊢
  exact evalArgs_kwB hall h
end
def iEnumS (K : PySem.W.Frag) (ta tk : TA) : TI := fun σ H R => ta σ H fun vs H1 => tk σ H1 fun zs H2 => ∃ a xs k, vs = [.ref a] ∧ zs = [.int ((k : Nat) : Int)] ∧ k ≤ 1000000 ∧ SqL K H2 a xs ∧ R (IteS K a k) H2
theorem pi_enumS (K : PySem.W.Frag) {X : Cx} {e : Expr} {kws : List Keyword} {ta tk : TA} {p pos tpos : Pos} {elts : List Expr} {kk : Nat} (hg : Gl X "enumerate") (hm : X.mg "enumerate" = none) (ha : PA X [e] ta) (hk : PK X kws tk)
    (he : backTo pos (starEach [e] X.env) = (false, eval e X.env) :: backTo pos (starEach [] X.env) := by rfl) (hpl : (backTo pos (starEach [e] X.env)).any (·.1) = false := by rfl)
    (hall : (backToKw pos (keywordEach kws X.env)).all (·.1.isSome) = true := by rfl) (hnone : (backToKw pos (keywordEach kws X.env)).any (·.1.isNone) = false := by rfl) (hks : (backToKw pos (keywordEach kws X.env)).filterMap (·.1) = [Str.ofString "start"] := by rfl) (hK : X.K = K := by rfl) :
    PI X (.Tuple elts kk tpos) (.Call (.Name "enumerate" p) [e] kws pos) (iEnumS K ta tk) := by
  subst hK
  refine ⟨fun pins s σ H R I h => ?_⟩
  refine wpAny_Call_Name_kw (ld_blt I hg hm PyProof.Rows.boot_enumerate ?_)
  refine callWith_kwT (thn (ha.run pos pins s σ H _ I h) fun us s1 ⟨vs, H1, I1, r1, q1⟩ => thn (hk.run pos pins s1 σ H1 _ I1 q1) fun ws s2 ⟨zs, H2, I2, r2, q2⟩ => ?_) he hpl hall hnone
  rw [hks]
  obtain ⟨a, xs, k, ev, ez, hk1, hq, q⟩ := q2
  subst ev ez
  obtain ⟨u1, rfl, ru⟩ := vals1 r1
  obtain ⟨u2, rfl, rk⟩ := vals1 r2
  cases ru
  obtain ⟨tk2, rfl⟩ := rk
  obtain ⟨its, rv, p', hz⟩ := I2.list hq
  have la : a < s2.heap.objs.size := by obtain ⟨_, o, _⟩ := p'.isList; exact Heap.lt_size o
  refine enum_begins_start (begins_list a its.toArray) p'.isList (by omega) (by omega) fun h' he' hit hsz hk' => wpAny_pyIter_enum he' ?_
  have I3 : Inv X pins σ H2 { s2 with heap := h' } := I2.kept (t' := s2.toks) hk'
  refine ⟨s2.heap.objs.size + 1, [s2.heap.objs.size + 1, s2.heap.objs.size], _, _, H2, rfl, I3, turn_enumS (a := a) (k := k) (e := s2.heap.objs.size + 1) (it := s2.heap.objs.size) (Nat.ne_of_gt (Nat.lt_succ_of_lt la)) (Nat.succ_ne_self _), ⟨⟨.none, he'⟩, ⟨_, hit, rfl, rfl⟩⟩, fun b hb => ?_, q⟩
  have e' : b = s2.heap.objs.size + 1 ∨ b = s2.heap.objs.size := by simpa using hb
  have hle : s2.heap.objs.size ≤ b := by
    rcases e' with z | z
    · rw [z]; exact Nat.le_add_right _ _
    · rw [z]; exact Nat.le_refl _
  exact I2.fpOk hle (I2.hok.fresh hle)
theorem walk_enumS {K : PySem.W.Frag} {a : Addr} {xs : List V} {k : Nat} : Walk (IteS K a k) xs.length (fun H => SqL K H a xs) (YPair (fun i => some (.int ((k + i : Nat) : Int))) (fun i => xs[i]?)) := by
  refine ⟨fun i H hi q => ⟨xs, xs[i], q, by simp⟩, fun H q => ⟨xs, q, rfl⟩, fun i H v H' _ q y => ?_⟩
  obtain ⟨T, x, e1, e2, e3, e4⟩ := y
  exact ⟨T, _, x, e1, e2, e3, rfl, e4 xs q⟩
end Z

set_option Elab.async false
set_option linter.all false
set_option maxRecDepth 100000
set_option maxHeartbeats 400000
namespace Z
open PySem PySem.Spec PyProof.Rows L2
/-- an address that is kept clear of, and is none of one's own, may change -/
theorem Rel.goD {L B O : List Addr} {H H' : Hp} {σ : L2.St} {δ : List Sl} {n m : Nat} {D : Addr} (h : Rel L B O H σ δ n) (hD : D ∈ B) (nO : D ∉ O) (g : Go (D :: L) H H') (f : Lfs L H' m) : Rel L B O H' σ δ m where
  len := h.len
  dd := fun i x e => by
    obtain ⟨v, e1, dv⟩ := h.dd i x e
    exact ⟨v, e1, dv.g (g.w fun a ha => by
      rcases List.mem_cons.mp ha with z | z
      · rw [z]; exact hD
      · exact h.lb a z)⟩
  oo := fun i xs e => by
    obtain ⟨a, vs, e1, ha, hs, hA⟩ := h.oo i xs e
    refine ⟨a, vs, e1, ha, g.k a _ (fun z => ?_) hs, hA.g (g.w fun a ha => by
      rcases List.mem_cons.mp ha with z | z
      · rw [z]; exact hD
      · exact h.lb a z)⟩
    rcases List.mem_cons.mp z with z | z
    · exact nO (by rw [← z]; exact ha)
    · exact (h.ob a ha).2 z
  uq := h.uq
  ll := h.ll
  vv := h.vv
  bk := h.bk.go g
  ob := h.ob
  lb := h.lb
  lf := f
/-! ### walks, as data -/
/-- S: the walked list is data (else one's own, that the walk leaves as it is) -/
structure SI (S : Bool) (wi : TI) (f : DI) : Prop where
  run : ∀ {L B O : List Addr} {H : Hp} {σ : L2.St} {δ : List Sl} {n : Nat} {R : It → Hp → Prop} {K : List PyData → Nat → Prop}, Rel L B O H σ δ n → f δ n K → (∀ ds m J H1 G Y, K ds m → Go L H H1 → Lfs L H1 m → Walk J ds.length G Y → G H1 →
    (∀ W H2, (∀ a ∈ W, a ∈ (if S = true then B else L) ∨ H1 a = none) → Go W H1 H2 → G H2) →
    (∀ W C i H2 x H3, (∀ a ∈ W, a ∈ (if S = true then B else L) ∨ H1 a = none) → (∀ a ∈ C, a ∈ B ∨ H1 a = none) → Bk C H2 → Go W H1 H2 → i < ds.length → Y i H2 x H3 → Same H2 H3 ∧ ∃ d, ds[i]? = some d ∧ Dt C H3 x d) → R J H1) → wi σ H R
theorem dt_to {B W C : List Addr} {H1 H2 : Hp} (hw : ∀ a ∈ W, a ∈ B ∨ H1 a = none) (hc : ∀ a ∈ C, a ∈ B ∨ H1 a = none) (g : Go W H1 H2) : ∀ a o, a ∉ B → H1 a = some o → a ∉ C ∧ H2 a = some o := fun a o n e => by
  refine ⟨fun z => ?_, g.k a o (fun z => ?_) e⟩
  · rcases hc a z with q | q
    · exact n q
    · rw [q] at e
      cases e
  · rcases hw a z with q | q
    · exact n q
    · rw [q] at e
      cases e
theorem subB {S : Bool} {L B W : List Addr} {H1 : Hp} (lb : ∀ a ∈ L, a ∈ B) (hw : ∀ a ∈ W, a ∈ (if S = true then B else L) ∨ H1 a = none) : ∀ a ∈ W, a ∈ B ∨ H1 a = none := fun a ha => by
  cases S with
  | true => exact hw a ha
  | false => exact (hw a ha).imp (fun z => lb a z) id
theorem SI.weak {wi : TI} {f : DI} (h : SI true wi f) : SI false wi f := ⟨fun r k q => h.run r k fun ds m J H1 G Y k1 g1 l1 w G1 st it => q ds m J H1 G Y k1 g1 l1 w G1 (fun W H2 hw g => st W H2 (subB (S := false) r.lb hw) g) fun W C i H2 x H3 hw hc b g hi y => it W C i H2 x H3 (subB (S := false) r.lb hw) hc b g hi y⟩
section
variable {K : PySem.W.Frag} {S : Bool}
def fiL (fe : DE) : DI := fun δ n K => fe δ n fun d m => ∃ xs, d = .list xs ∧ K xs m
def fiT (fe : DE) : DI := fun δ n K => fe δ n fun d m => ∃ xs, d = .tuple xs ∧ K xs m
def fiS (fe : DE) : DI := fun δ n K => fe δ n fun d m => ∃ xs, (d = .list xs ∨ d = .tuple xs) ∧ K xs m
theorem at_len {xs : List V} {ds : List PyData} {B : List Addr} {H : Hp} (hA : DtA B H xs ds) {J : It} {G : Hp → Prop} {Y : Nat → Hp → V → Hp → Prop} (w : Walk J xs.length G Y) : Walk J ds.length G Y := by rw [← hA.len]; exact w
theorem si_list {te : TE} {fe : DE} (he : SE te fe) : SI S (iList K te) (fiL fe) := ⟨fun {L B O H σ δ n R Kk} r k q => he.run r k fun d m v H1 ⟨xs, e, k1⟩ g1 l1 d1 => by
  subst e
  obtain ⟨a, vs, rfl, na, ha, hA⟩ := d1.lst2
  refine ⟨a, rfl, ⟨vs, SqL.of ha⟩, q xs m _ H1 _ _ k1 g1 l1 (at_len hA walk_list) (SqL.of ha) (fun W H2 hw g => SqL.of (dt_to (subB r.lb hw) (C := []) (fun _ h => nomatch h) g a _ na ha).2) fun W C i H2 x H3 hw hc b g hi y => ?_⟩
  obtain ⟨rfl, y⟩ := y
  obtain ⟨d, f, hd⟩ := (DtA.to (dt_to (subB r.lb hw) hc g) _ _ hA).getV y
  exact ⟨Same.refl _, d, f, hd⟩⟩
theorem si_tup {te : TE} {fe : DE} (he : SE te fe) : SI S (iTup K te) (fiT fe) := ⟨fun {L B O H σ δ n R Kk} r k q => he.run r k fun d m v H1 ⟨xs, e, k1⟩ g1 l1 d1 => by
  subst e
  obtain ⟨a, vs, rfl, na, ha, hA⟩ := d1.tupI
  refine ⟨a, rfl, ⟨vs, SqT.of ha⟩, q xs m _ H1 _ _ k1 g1 l1 (at_len hA walk_tup) (SqT.of ha) (fun W H2 hw g => SqT.of (dt_to (subB r.lb hw) (C := []) (fun _ h => nomatch h) g a _ na ha).2) fun W C i H2 x H3 hw hc b g hi y => ?_⟩
  obtain ⟨rfl, y⟩ := y
  obtain ⟨d, f, hd⟩ := (DtA.to (dt_to (subB r.lb hw) hc g) _ _ hA).getV y
  exact ⟨Same.refl _, d, f, hd⟩⟩
/-- a list of one's own -/
def fiO (i : Nat) : DI := fun δ n K => ∃ xs, δ[i]? = some (.o xs) ∧ K xs n
theorem si_own {i : Nat} : SI false (iList K (tVar i)) (fiO i) := ⟨fun {L B O H σ δ n R Kk} r ⟨xs, e, k⟩ q => by
  obtain ⟨a, vs, ea, ha, hs, hA⟩ := r.oo i xs e
  have st : ∀ W H2, (∀ a ∈ W, a ∈ L ∨ H a = none) → Go W H H2 → H2 a = some (.lst vs) := fun W H2 hw g => g.k a _ (fun z => by
    rcases hw a z with y | y
    · exact (r.ob a ha).2 y
    · rw [y] at hs; cases hs) hs
  refine ⟨_, ea, a, rfl, ⟨vs, SqL.of hs⟩, q xs n _ H _ _ k Go.refl r.lf (at_len hA walk_list) (SqL.of hs) (fun W H2 hw g => SqL.of (st W H2 (fun a ha => hw a ha) g)) fun W C i H2 x H3 hw hc b g hi y => ?_⟩
  obtain ⟨rfl, y⟩ := y
  obtain ⟨d, f, hd⟩ := (DtA.to (dt_to (subB (S := false) r.lb hw) hc g) _ _ hA).getV y
  exact ⟨Same.refl _, d, f, hd⟩⟩
def rgD (lo : Int) (n : Nat) : List PyData := (List.range n).map fun i => .int (lo + (i : Nat))
theorem rgD_get {lo : Int} {n i : Nat} (h : i < n) : (rgD lo n)[i]? = some (.int (lo + (i : Nat))) := by
  unfold rgD
  rw [List.getElem?_map, List.getElem?_range h]
  rfl
theorem rgD_len {lo : Int} {n : Nat} : (rgD lo n).length = n := by unfold rgD; rw [List.length_map, List.length_range]
def fiR1 (fa : DA) : DI := fun δ n K => fa δ n fun xs m => ∃ z, xs = [.d (.int z)] ∧ -(2 ^ 62) ≤ z ∧ z < 2 ^ 62 ∧ K (rgD 0 z.toNat) m
def fiR2 (fa : DA) : DI := fun δ n K => fa δ n fun xs m => ∃ y z, xs = [.d (.int y), .d (.int z)] ∧ (-(2 ^ 62) ≤ y ∧ y < 2 ^ 62 ∧ -(2 ^ 62) ≤ z ∧ z < 2 ^ 62) ∧ K (rgD y (z - y).toNat) m
theorem rg_walk {lo : Int} {n : Nat} : Walk (Itr lo n) (rgD lo n).length (fun _ => True) (YFn fun i => .int (lo + i)) := by rw [rgD_len]; exact walk_range
theorem si_r1 {ta : TA} {fa : DA} (ha : SA ta fa) : SI S (iRng1 ta) (fiR1 fa) := ⟨fun {L B O H σ δ n R Kk} r k q => ha.run r k fun xs m vs H1 ⟨z, e, b1, b2, k1⟩ g1 l1 v1 => by
  subst e
  cases v1 with
  | d h1 h2 =>
    cases h2
    cases h1
    refine ⟨z, rfl, b1, b2, q _ m _ H1 _ _ k1 g1 l1 rg_walk trivial (fun _ _ _ _ => trivial) fun W C i H2 x H3 hw hc b g hi y => ?_⟩
    obtain ⟨rfl, rfl⟩ := y
    exact ⟨Same.refl _, _, rgD_get (by rw [rgD_len] at hi; exact hi), .int _⟩⟩
theorem si_r2 {ta : TA} {fa : DA} (ha : SA ta fa) : SI S (iRng2 ta) (fiR2 fa) := ⟨fun {L B O H σ δ n R Kk} r k q => ha.run r k fun xs m vs H1 ⟨y, z, e, bb, k1⟩ g1 l1 v1 => by
  subst e
  cases v1 with
  | d h1 h2 =>
    cases h2 with
    | d h2 h3 =>
      cases h3
      cases h1
      cases h2
      refine ⟨y, z, rfl, bb, q _ m _ H1 _ _ k1 g1 l1 rg_walk trivial (fun _ _ _ _ => trivial) fun W C i H2 x H3 hw hc b g hi y => ?_⟩
      obtain ⟨rfl, rfl⟩ := y
      exact ⟨Same.refl _, _, rgD_get (by rw [rgD_len] at hi; exact hi), .int _⟩⟩
/-- pairs -/
def zpD (n : Nat) (xs ys : List PyData) : List PyData := (List.range n).map fun i => .tuple [xs.getD i .none, ys.getD i .none]
theorem zpD_len {n : Nat} {xs ys : List PyData} : (zpD n xs ys).length = n := by unfold zpD; rw [List.length_map, List.length_range]
theorem gD {xs : List PyData} {i : Nat} {d : PyData} (h : xs[i]? = some d) : xs.getD i .none = d := by rw [List.getD_eq_getElem?_getD, h]; rfl
theorem zpD_get {n i : Nat} {xs ys : List PyData} {x y : PyData} (h : i < n) (hx : xs[i]? = some x) (hy : ys[i]? = some y) : (zpD n xs ys)[i]? = some (.tuple [x, y]) := by
  unfold zpD
  rw [List.getElem?_map, List.getElem?_range h]
  show some (PyData.tuple [xs.getD i .none, ys.getD i .none]) = _
  rw [gD hx, gD hy]
def enD (k : Nat) (xs : List PyData) : List PyData := (List.range xs.length).map fun i => .tuple [.int ((k + i : Nat) : Int), xs.getD i .none]
theorem enD_len {k : Nat} {xs : List PyData} : (enD k xs).length = xs.length := by unfold enD; rw [List.length_map, List.length_range]
theorem enD_get {k i : Nat} {xs : List PyData} {x : PyData} (hx : xs[i]? = some x) : (enD k xs)[i]? = some (.tuple [.int ((k + i : Nat) : Int), x]) := by
  unfold enD
  rw [List.getElem?_map, List.getElem?_range (List.getElem?_eq_some_iff.mp hx).1]
  show some (PyData.tuple [_, xs.getD i .none]) = _
  rw [gD hx]
theorem pair_new {C : List Addr} {H2 : Hp} {T : Addr} {x y : V} {dx dy : PyData} (b : Bk C H2) (hT : H2 T = none) (h1 : Dt C H2 x dx) (h2 : Dt C H2 y dy) : Same H2 (upd H2 T (.tup [x, y])) ∧ Dt C (upd H2 T (.tup [x, y])) (.ref T) (.tuple [dx, dy]) :=
  ⟨sm_new hT, .tup (b.ne hT) upd_same (.cons (h1.s (sm_new hT)) (.cons (h2.s (sm_new hT)) .nil))⟩
def fiE (fa : DA) : DI := fun δ n K => fa δ n fun xs m => ∃ ys, xs = [.d (.list ys)] ∧ K (enD 0 ys) m
theorem si_enum {ta : TA} {fa : DA} (ha : SA ta fa) : SI S (iEnum K ta) (fiE fa) := ⟨fun {L B O H σ δ n R Kk} r k q => ha.run r k fun xs m vs H1 ⟨ys, e, k1⟩ g1 l1 v1 => by
  subst e
  cases v1 with
  | d h1 h2 =>
    cases h2
    obtain ⟨a, vs, rfl, na, ha, hA⟩ := h1.lst2
    refine ⟨a, vs, rfl, SqL.of ha, q _ m _ H1 (fun H => SqL K H a vs) _ k1 g1 l1 (by rw [enD_len]; exact at_len hA walk_enum) (SqL.of ha) (fun W H2 hw g => SqL.of (dt_to (subB r.lb hw) (C := []) (fun _ h => nomatch h) g a _ na ha).2) fun W C i H2 x H3 hw hc b g hi y => ?_⟩
    obtain ⟨T, u, z, rfl, hT, rfl, e1, e2⟩ := y
    obtain ⟨d, f, hd⟩ := (DtA.to (dt_to (subB r.lb hw) hc g) _ _ hA).getV e2
    cases e1
    obtain ⟨s3, d3⟩ := pair_new b hT (.int (i : Nat)) hd
    refine ⟨s3, _, enD_get f, ?_⟩
    rw [Nat.zero_add]
    exact d3⟩
def fiES (fa fk : DA) : DI := fun δ n K => fa δ n fun xs m => fk δ m fun zs j => ∃ ys k, xs = [.d (.list ys)] ∧ zs = [.d (.int ((k : Nat) : Int))] ∧ k ≤ 1000000 ∧ K (enD k ys) j
theorem si_enumS {ta tk : TA} {fa fk : DA} (ha : SA ta fa) (hk : SA tk fk) : SI S (iEnumS K ta tk) (fiES fa fk) := ⟨fun {L B O H σ δ n R Kk} r k q => ha.run r k fun xs m vs H0 k0 g0 l0 v0 => hk.run (r.go g0 l0) k0 fun zs j ws H1 ⟨ys, k, e, e2, hk1, k1⟩ g1 l1 v1 => by
  subst e e2
  cases v1 with
  | d h1 h2 =>
    cases h2
    cases h1
    cases v0 with
    | d h1 h2 =>
      cases h2
      have h1 := h1.g (g1.w r.lb)
      obtain ⟨a, vs, rfl, na, ha, hA⟩ := h1.lst2
      refine ⟨a, vs, k, rfl, rfl, hk1, SqL.of ha, q _ j _ H1 (fun H => SqL K H a vs) _ k1 (g0.trans g1) l1 (by rw [enD_len]; exact at_len hA walk_enumS) (SqL.of ha) (fun W H2 hw g => SqL.of (dt_to (subB r.lb hw) (C := []) (fun _ h => nomatch h) g a _ na ha).2) fun W C i H2 x H3 hw hc b g hi y => ?_⟩
      obtain ⟨T, u, z, rfl, hT, rfl, e1, e2⟩ := y
      obtain ⟨d, f, hd⟩ := (DtA.to (dt_to (subB r.lb hw) hc g) _ _ hA).getV e2
      cases e1
      obtain ⟨s3, d3⟩ := pair_new b hT (.int ((k + i : Nat) : Int)) hd
      exact ⟨s3, _, enD_get f, d3⟩⟩
def fiZ (fa : DA) : DI := fun δ n K => fa δ n fun xs m => ∃ ys zs, (xs = [.d (.list ys), .d (.list zs)] ∨ xs = [.d (.tuple ys), .d (.tuple zs)]) ∧ K (zpD (min ys.length zs.length) ys zs) m
theorem si_zip {ta : TA} {fa : DA} (ha : SA ta fa) : SI S (RZ.iZipA K ta) (fiZ fa) := ⟨fun {L B O H σ δ n R Kk} r k q => ha.run r k fun xs m vs H1 ⟨ys, zs, e, k1⟩ g1 l1 v1 => by
  rcases e with e | e <;> subst e <;> cases v1 with
  | d h1 h2 => cases h2 with
    | d h2 h3 =>
      cases h3
      first
      | obtain ⟨a, vs, rfl, na, ha, hA⟩ := h1.lst2
        obtain ⟨b, ws, rfl, nb, hb, hC⟩ := h2.lst2
        have l1' := hA.len
        have l2' := hC.len
        refine ⟨a, b, vs, ws, rfl, .inl ⟨SqL.of ha, SqL.of hb, q _ m _ H1 (fun H => SqL K H a vs ∧ SqL K H b ws) _ k1 g1 l1 (by rw [zpD_len]; exact walk_zip (xs := vs) (ys := ws) (by rw [l1', l2'])) ⟨SqL.of ha, SqL.of hb⟩ (fun W H2 hw g => ⟨SqL.of (dt_to (subB r.lb hw) (C := []) (fun _ h => nomatch h) g a _ na ha).2, SqL.of (dt_to (subB r.lb hw) (C := []) (fun _ h => nomatch h) g b _ nb hb).2⟩) fun W C i H2 x H3 hw hc bk g hi y => ?_⟩⟩
        obtain ⟨T, u, z, rfl, hT, rfl, e1, e2⟩ := y
        obtain ⟨d, f, hd⟩ := (DtA.to (dt_to (subB r.lb hw) hc g) _ _ hA).getV e1
        obtain ⟨d', f', hd'⟩ := (DtA.to (dt_to (subB r.lb hw) hc g) _ _ hC).getV e2
        obtain ⟨s3, d3⟩ := pair_new bk hT hd hd'
        exact ⟨s3, _, zpD_get (by rw [zpD_len] at hi; exact hi) f f', d3⟩
      | obtain ⟨a, vs, rfl, na, ha, hA⟩ := h1.tupI
        obtain ⟨b, ws, rfl, nb, hb, hC⟩ := h2.tupI
        have l1' := hA.len
        have l2' := hC.len
        refine ⟨a, b, vs, ws, rfl, .inr ⟨SqT.of ha, SqT.of hb, q _ m _ H1 (fun H => SqT K H a vs ∧ SqT K H b ws) _ k1 g1 l1 (by rw [zpD_len]; exact walk_zipT (xs := vs) (ys := ws) (by rw [l1', l2'])) ⟨SqT.of ha, SqT.of hb⟩ (fun W H2 hw g => ⟨SqT.of (dt_to (subB r.lb hw) (C := []) (fun _ h => nomatch h) g a _ na ha).2, SqT.of (dt_to (subB r.lb hw) (C := []) (fun _ h => nomatch h) g b _ nb hb).2⟩) fun W C i H2 x H3 hw hc bk g hi y => ?_⟩⟩
        obtain ⟨T, u, z, rfl, hT, rfl, e1, e2⟩ := y
        obtain ⟨d, f, hd⟩ := (DtA.to (dt_to (subB r.lb hw) hc g) _ _ hA).getV e1
        obtain ⟨d', f', hd'⟩ := (DtA.to (dt_to (subB r.lb hw) hc g) _ _ hC).getV e2
        obtain ⟨s3, d3⟩ := pair_new bk hT hd hd'
        exact ⟨s3, _, zpD_get (by rw [zpD_len] at hi; exact hi) f f', d3⟩⟩
def tpD (n : Nat) (xs ys zs : List PyData) : List PyData := (List.range n).map fun i => .tuple [xs.getD i .none, ys.getD i .none, zs.getD i .none]
theorem tpD_len {n : Nat} {xs ys zs : List PyData} : (tpD n xs ys zs).length = n := by unfold tpD; rw [List.length_map, List.length_range]
theorem tpD_get {n i : Nat} {xs ys zs : List PyData} {x y z : PyData} (h : i < n) (hx : xs[i]? = some x) (hy : ys[i]? = some y) (hz : zs[i]? = some z) : (tpD n xs ys zs)[i]? = some (.tuple [x, y, z]) := by
  unfold tpD
  rw [List.getElem?_map, List.getElem?_range h]
  show some (PyData.tuple [xs.getD i .none, ys.getD i .none, zs.getD i .none]) = _
  rw [gD hx, gD hy, gD hz]
def fiZ3 (fa : DA) : DI := fun δ n K => fa δ n fun xs m => ∃ xs' ys zs, xs = [.d (.tuple xs'), .d (.tuple ys), .d (.tuple zs)] ∧ ys.length = xs'.length ∧ zs.length = xs'.length ∧ K (tpD xs'.length xs' ys zs) m
theorem si_zip3 {ta : TA} {fa : DA} (ha : SA ta fa) : SI S (iZip3 K ta) (fiZ3 fa) := ⟨fun {L B O H σ δ n R Kk} r k q => ha.run r k fun xs m vs H1 ⟨xs', ys, zs, e, n1, n2, k1⟩ g1 l1 v1 => by
  subst e
  cases v1 with
  | d h1 h2 => cases h2 with
    | d h2 h3 => cases h3 with
      | d h3 h4 =>
        cases h4
        obtain ⟨a, vs, rfl, na, ha, hA⟩ := h1.tupI
        obtain ⟨b, ws, rfl, nb, hb, hC⟩ := h2.tupI
        obtain ⟨c, us, rfl, nc, hc, hD⟩ := h3.tupI
        have l1' := hA.len
        have l2' := hC.len
        have l3' := hD.len
        have tr := fun (x : Addr) (ws : List V) (nx : x ∉ B) (hx : H1 x = some (.tup ws)) (W : List Addr) (H2 : Hp) (hw : ∀ a ∈ W, a ∈ (if S = true then B else L) ∨ H1 a = none) (g : Go W H1 H2) => (SqT.of (K := K) (dt_to (subB r.lb hw) (C := []) (fun _ h => nomatch h) g x _ nx hx).2)
        refine ⟨a, b, c, vs, ws, us, rfl, SqT.of ha, SqT.of hb, SqT.of hc, q _ m _ H1 (fun H => SqT K H a vs ∧ SqT K H b ws ∧ SqT K H c us) _ k1 g1 l1 (by rw [tpD_len, ← l1']; exact walk_zip3 (xs := vs) (ys := ws) (ts := us) (by omega) (by omega)) ⟨SqT.of ha, SqT.of hb, SqT.of hc⟩ (fun W H2 hw g => ⟨tr a _ na ha W H2 hw g, tr b _ nb hb W H2 hw g, tr c _ nc hc W H2 hw g⟩) fun W C i H2 x H3 hw hcc bk g hi y => ?_⟩
        obtain ⟨T, u, z, t, rfl, hT, rfl, e1, e2, e3⟩ := y
        obtain ⟨d, f, hd⟩ := (DtA.to (dt_to (subB r.lb hw) hcc g) _ _ hA).getV e1
        obtain ⟨d', f', hd'⟩ := (DtA.to (dt_to (subB r.lb hw) hcc g) _ _ hC).getV e2
        obtain ⟨d2, f2, hd2⟩ := (DtA.to (dt_to (subB r.lb hw) hcc g) _ _ hD).getV e3
        refine ⟨sm_new hT, _, tpD_get (by rw [tpD_len] at hi; exact hi) f f' f2, ?_⟩
        exact .tup (bk.ne hT) upd_same (.cons (hd.s (sm_new hT)) (.cons (hd'.s (sm_new hT)) (.cons (hd2.s (sm_new hT)) .nil)))⟩
end
/-! ### what is assigned to -/
def gdName (i : Nat) : DG := fun d δ K => K (δ.set i (.d d))
abbrev DGs := List PyData → List Sl → (List Sl → Prop) → Prop
structure SGs (tg : List Nat) (g : TGs) (f : DGs) : Prop where
  run : ∀ {L B O : List Addr} {H : Hp} {σ : L2.St} {δ : List Sl} {n : Nat} {Q : L2.St → Hp → Prop} {K : List Sl → Prop} {vs : List V} {ds : List PyData}, Rel L B O H σ δ n → DtA B H vs ds → f ds δ K → (∀ σ' δ', K δ' → Rel L B O H σ' δ' n → (∀ vs : List Nat, (∀ i ∈ tg, i ∈ vs) → L2.wipe σ' vs = L2.wipe σ vs) → Q σ' H) → g vs σ H Q
theorem sg_name {i : Nat} : SG [i] (gName i) (gdName i) := ⟨fun r hd k q => q _ _ k (r.set_d i hd) fun vs h => wipe_set _ _ _ _ (h i (List.mem_singleton.mpr rfl))⟩
def gdNil : DGs := fun ds δ K => ds = [] ∧ K δ
def gdCons (f : DG) (fs : DGs) : DGs := fun ds δ K => ∃ d r, ds = d :: r ∧ f d δ fun δ' => fs r δ' K
theorem sgs_nil : SGs [] gNil gdNil := ⟨fun r hd ⟨e, k⟩ q => by
  subst e
  cases hd
  exact ⟨rfl, q _ _ k r fun _ _ => rfl⟩⟩
theorem sgs_cons {tg ts : List Nat} {g : TG} {gs : TGs} {f : DG} {fs : DGs} (h1 : SG tg g f) (h2 : SGs ts gs fs) : SGs (tg ++ ts) (gCons g gs) (gdCons f fs) := ⟨fun r hd ⟨d, ds, e, k⟩ q => by
  subst e
  cases hd with
  | cons hd hr =>
    refine ⟨_, _, rfl, h1.run r hd k fun σ1 δ1 k1 r1 w1 => h2.run r1 hr k1 fun σ2 δ2 k2 r2 w2 => q σ2 δ2 k2 r2 fun vs hv => ?_⟩
    rw [w2 vs fun i hi => hv i (List.mem_append_right _ hi), w1 vs fun i hi => hv i (List.mem_append_left _ hi)]⟩
def gdTup (n : Nat) (fs : DGs) : DG := fun d δ K => ∃ ds, d = .tuple ds ∧ ds.length = n ∧ fs ds δ K
def gdLst (n : Nat) (fs : DGs) : DG := fun d δ K => ∃ ds, d = .list ds ∧ ds.length = n ∧ fs ds δ K
theorem sg_tup {K : PySem.W.Frag} {tg : List Nat} {n : Nat} {gs : TGs} {fs : DGs} (h : SGs tg gs fs) : SG tg (gTup K n gs) (gdTup n fs) := ⟨fun r hd ⟨ds, e, l, k⟩ q => by
  subst e
  obtain ⟨a, vs, rfl, _, ha, hA⟩ := hd.tupI
  exact ⟨a, vs, rfl, SqT.of ha, by rw [hA.len]; exact l, h.run r hA k q⟩⟩
theorem sg_lst {K : PySem.W.Frag} {tg : List Nat} {n : Nat} {gs : TGs} {fs : DGs} (h : SGs tg gs fs) : SG tg (gLst K n gs) (gdLst n fs) := ⟨fun r hd ⟨ds, e, l, k⟩ q => by
  subst e
  obtain ⟨a, vs, rfl, _, ha, hA⟩ := hd.lst2
  exact ⟨a, vs, rfl, SqL.of ha, by rw [hA.len]; exact l, h.run r hA k q⟩⟩
/-! ### comprehensions -/
def fLc (fi : DI) (gd : DG) (ft : DTt) (fe : DE) (vs : List Nat) : DI := fun δ n K => fi δ n fun ds m => ds.length ≤ 100000 ∧ ∃ Iv : Nat → List PyData → Nat → Prop, Iv 0 [] m ∧
  (∀ i d acc j, ds[i]? = some d → Iv i acc j → gd d (wipeD δ vs) fun δ2 => ft δ2 j fun b k => if b = true then fe δ2 k fun y l => Iv (i + 1) (acc ++ [y]) l else Iv (i + 1) acc k) ∧ ∀ acc j, Iv ds.length acc j → K acc j
theorem sn_lc {wi : TI} {fi : DI} {tg : List Nat} {g : TG} {gd : DG} {tt : TT} {ft : DTt} {te : TE} {fe : DE} {vs : List Nat} (hi : SI false wi fi) (hg : SG tg g gd) (ht : ST tt ft) (he : SE te fe) (htv : ∀ i ∈ tg, i ∈ vs) : SN (tLc wi g tt te vs) (fLc fi gd ft fe vs) := ⟨fun {L B O H0 σ δ n Q K} r k q => hi.run r k fun ds m J H1 G Y ⟨hl, Iv, i0, is, iE⟩ g1 l1 w G1 st it => fun D hD => by
  have r1 := r.go g1 l1
  have lfr : ∀ a ∈ L, a ∈ L ∨ H1 a = none := fun a ha => .inl ha
  have nDL : D ∉ L := fun z => r1.bk D (r.lb D z) hD
  refine lc_it w (fun i H' => ∃ acc j ws, Iv i acc j ∧ Go L H1 H' ∧ Lfs L H' j ∧ H' D = some (.lst ws) ∧ DtA (D :: B) H' ws acc ∧ ws.length ≤ i) ⟨[], m, [], i0, Go.new hD, fun a ha => (l1 a ha).new hD, upd_same, .nil, Nat.le_refl _⟩ (fun i H' _ p => ?_) (fun i x H' H'' hi' p y => ?_) (fun H' p => ?_)
  · obtain ⟨acc, j, ws, _, g, _⟩ := p
    exact st L H' lfr g
  · obtain ⟨acc, j, ws, iv, g, lf, eD, hA, hw⟩ := p
    have rD : Rel L (D :: B) O H' (L2.wipe σ vs) (wipeD δ vs) j := (r1.fr hD g (by rw [eD]; exact fun z => nomatch z) lf).wipe vs
    obtain ⟨s2, d, ed, dd⟩ := it L (D :: B) i H' x H'' lfr (fun a ha => by
      rcases List.mem_cons.mp ha with z | z
      · rw [z]; exact .inr hD
      · exact .inl z) rD.bk g hi' y
    have rD2 := rD.s s2
    refine hg.run rD2 dd (is i d acc j ed iv) fun σ2 δ2 k2 r2 w2 => ⟨by rw [w2 vs htv, wipe_wipe σ vs vs fun _ h => h], ?_⟩
    refine ht.run r2 k2 fun b k' H3 k3 g3 l3 => ?_
    have r3 := r2.go g3 l3
    have eD3 : H3 D = some (.lst ws) := g3.k D _ nDL (s2 _ _ eD)
    have gA : Go (D :: B) H' H3 := (Go.of s2).trans (g3.w r2.lb)
    have gL : Go L H1 H3 := (g.trans (Go.of s2)).trans g3
    cases b with
    | false => exact iteF ⟨acc, k', ws, k3, gL, l3, eD3, hA.g gA, by omega⟩
    | true =>
      refine iteT (he.run r3 k3 fun y l v H4 k4 g4 l4 d4 => ?_)
      have eD4 := g4.k D _ nDL eD3
      have gm : Go (D :: B) H4 (upd H4 D (.lst (ws ++ [v]))) := Go.refl.at (List.mem_cons_self ..)
      refine ⟨ws, eD4, sz (by omega), acc ++ [y], l, ws ++ [v], k4, (gL.trans g4).mut hD, fun a ha => (l4 a ha).up (fun z => nDL (by rw [z]; exact ha)), upd_same, ((hA.g (gA.trans (g4.w r2.lb))).app (.one d4)).g gm, by simp; omega⟩
  · obtain ⟨acc, j, ws, iv, g, lf, eD, hA, hw⟩ := p
    exact q acc j D ws H' (iE acc j iv) (g1.trans g) lf (g1.free hD) eD hA⟩
def fLc2 (fi : DI) (gd : DG) (ft : DTt) (fi1 : DI) (gd1 : DG) (ft1 : DTt) (fe : DE) (vs vs1 : List Nat) : DI := fun δ n K => fi δ n fun ds m => ds.length ≤ 100000 ∧ ∃ Iv : Nat → List PyData → Nat → Prop, Iv 0 [] m ∧ (∀ i acc j, Iv i acc j → acc.length ≤ 100000) ∧
  (∀ i d acc j, ds[i]? = some d → Iv i acc j → gd d (wipeD δ vs) fun δ2 => ft δ2 j fun b k => if b = true then fi1 δ2 k fun es l => ∃ Iv1 : Nat → List PyData → Nat → Prop, Iv1 0 acc l ∧ (∀ p acc q, Iv1 p acc q → acc.length ≤ 100000) ∧
    (∀ p d1 acc q, es[p]? = some d1 → Iv1 p acc q → gd1 d1 (wipeD δ2 vs1) fun δ3 => ft1 δ3 q fun b' t => if b' = true then fe δ3 t fun y u => Iv1 (p + 1) (acc ++ [y]) u else Iv1 (p + 1) acc t) ∧ ∀ acc q, Iv1 es.length acc q → Iv (i + 1) acc q
    else Iv (i + 1) acc k) ∧ ∀ acc j, Iv ds.length acc j → K acc j
theorem sn_lc2 {wi wi1 : TI} {fi fi1 : DI} {tg tg1 : List Nat} {g g1 : TG} {gd gd1 : DG} {tt tt1 : TT} {ft ft1 : DTt} {te : TE} {fe : DE} {vs vs1 : List Nat} (hi : SI false wi fi) (hg : SG tg g gd) (ht : ST tt ft) (hi1 : SI true wi1 fi1) (hg1 : SG tg1 g1 gd1) (ht1 : ST tt1 ft1) (he : SE te fe) (htv : ∀ i ∈ tg, i ∈ vs) (htv1 : ∀ i ∈ tg1, i ∈ vs1) : SN (tLc2 wi g tt wi1 g1 tt1 te vs vs1) (fLc2 fi gd ft fi1 gd1 ft1 fe vs vs1) := ⟨fun {L B O H0 σ δ n Q K} r k q => hi.run r k fun ds m J H1 G Y ⟨hl, Iv, i0, ib, is, iE⟩ ga la w G1 st it => fun D hD => by
  have r1 := r.go ga la
  have lfr : ∀ a ∈ L, a ∈ L ∨ H1 a = none := fun a ha => .inl ha
  have nDL : D ∉ L := fun z => r1.bk D (r.lb D z) hD
  refine walk_W w (fun i H' => ∃ acc j ws, Iv i acc j ∧ Go L H1 H' ∧ Lfs L H' j ∧ H' D = some (.lst ws) ∧ DtA (D :: B) H' ws acc) ⟨[], m, [], i0, Go.new hD, fun a ha => (la a ha).new hD, upd_same, .nil⟩ (fun i H' _ p => ?_) (fun i x H' H'' hi' p y => ?_) (fun H' p => ?_)
  · obtain ⟨acc, j, ws, _, g, _⟩ := p
    exact st L H' lfr g
  · obtain ⟨acc, j, ws, iv, g, lf, eD, hA⟩ := p
    have rD : Rel L (D :: B) O H' (L2.wipe σ vs) (wipeD δ vs) j := (r1.fr hD g (by rw [eD]; exact fun z => nomatch z) lf).wipe vs
    obtain ⟨s2, d, ed, dd⟩ := it L (D :: B) i H' x H'' lfr (fun a ha => by
      rcases List.mem_cons.mp ha with z | z
      · rw [z]; exact .inr hD
      · exact .inl z) rD.bk g hi' y
    have rD2 := rD.s s2
    refine hg.run rD2 dd (is i d acc j ed iv) fun σ2 δ2 k2 r2 w2 => ⟨by rw [w2 vs htv, wipe_wipe σ vs vs fun _ h => h], ?_⟩
    refine ht.run r2 k2 fun b k' H3 k3 g3 l3 => ?_
    have r3 := r2.go g3 l3
    have eD3 : H3 D = some (.lst ws) := g3.k D _ nDL (s2 _ _ eD)
    have gA : Go (D :: B) H' H3 := (Go.of s2).trans (g3.w r2.lb)
    have gL : Go L H1 H3 := (g.trans (Go.of s2)).trans g3
    cases b with
    | false => exact iteF ⟨acc, k', ws, k3, gL, l3, eD3, hA.g gA⟩
    | true =>
      refine iteT (hi1.run r3 k3 fun es l J1 H4 G1' Y1 ⟨Iv1, j0, jb, js, jE⟩ g4 l4 w1 G4 st1 it1 => ?_)
      have r4 := r3.go g4 l4
      have eD4 : H4 D = some (.lst ws) := g4.k D _ nDL eD3
      have dom4 : ∀ H5, Go (D :: L) H4 H5 → Go L H1 H5 := fun H5 g5 => Go.cons (B := L) g5 (gL.trans g4) hD
      have lb5 : ∀ a ∈ D :: L, a ∈ (if true = true then D :: B else L) ∨ H4 a = none := fun a ha => by
        rcases List.mem_cons.mp ha with z | z
        · rw [z]; exact .inl (List.mem_cons_self ..)
        · exact .inl (r4.lb a z)
      have nDO : D ∉ O := fun z => r1.bk D (r.ob D z).1 hD
      refine walk_W w1 (fun p H5 => ∃ acc j ws, Iv1 p acc j ∧ Go (D :: L) H4 H5 ∧ Lfs L H5 j ∧ H5 D = some (.lst ws) ∧ DtA (D :: B) H5 ws acc) ⟨acc, l, ws, j0, Go.refl, l4, eD4, (hA.g gA).g (g4.w r2.lb)⟩ (fun p H5 _ pp => ?_) (fun p x H5 H6 hp pp y => ?_) (fun H5 pp => ?_)
      · obtain ⟨acc, j, ws, _, g5, _⟩ := pp
        exact st1 (D :: L) H5 lb5 g5
      · obtain ⟨acc, j, ws, iv1, g5, lf5, eD5, hA5⟩ := pp
        have r5 : Rel L (D :: B) O H5 σ2 δ2 j := r4.goD (List.mem_cons_self ..) nDO g5 lf5
        obtain ⟨s6, d1, ed1, dd1⟩ := it1 (D :: L) (D :: B) p H5 x H6 lb5 (fun a ha => .inl ha) r5.bk g5 hp y
        have r6 := (r5.s s6).wipe vs1
        refine hg1.run r6 dd1 (js p d1 acc j ed1 iv1) fun σ3 δ3 k5 r7 w7 => ⟨by rw [w7 vs1 htv1, wipe_wipe σ2 vs1 vs1 fun _ h => h], ?_⟩
        refine ht1.run r7 k5 fun b' t H7 k7 g7 l7 => ?_
        have r8 := r7.go g7 l7
        have nDL' := nDL
        have eD7 : H7 D = some (.lst ws) := g7.k D _ nDL (s6 _ _ eD5)
        have g57 : Go (D :: L) H4 H7 := (g5.trans (Go.of s6)).trans (g7.w fun a ha => List.mem_cons_of_mem _ ha)
        have gB : Go (D :: B) H5 H7 := (Go.of s6).trans (g7.w r7.lb)
        cases b' with
        | false => exact iteF ⟨acc, t, ws, k7, g57, l7, eD7, hA5.g gB⟩
        | true =>
          refine iteT (he.run r8 k7 fun yy u v H8 k8 g8 l8 d8 => ?_)
          have eD8 := g8.k D _ nDL eD7
          have gm : Go (D :: B) H8 (upd H8 D (.lst (ws ++ [v]))) := Go.refl.at (List.mem_cons_self ..)
          have lw := hA5.len
          have lb := jb _ _ _ iv1
          refine ⟨ws, eD8, sz (by omega), acc ++ [yy], u, ws ++ [v], k8, (g57.trans (g8.w fun a ha => List.mem_cons_of_mem _ ha)).at (List.mem_cons_self ..), fun a ha => (l8 a ha).up (fun z => nDL (by rw [z]; exact ha)), upd_same, ((hA5.g (gB.trans (g8.w r7.lb))).app (.one d8)).g gm⟩
      · obtain ⟨acc, j, ws, iv1, g5, lf5, eD5, hA5⟩ := pp
        exact ⟨acc, j, ws, jE acc j iv1, dom4 H5 g5, lf5, eD5, hA5⟩
  · obtain ⟨acc, j, ws, iv, g, lf, eD, hA⟩ := p
    exact q acc j D ws H' (iE acc j iv) (ga.trans g) lf (ga.free hD) eD hA⟩
/-- a comprehension that draws nothing: what it makes, item by item -/
theorem lcD {gd : DG} {ft : DTt} {fe : DE} {vs : List Nat} {δ : List Sl} {ds : List PyData} {m : Nat} {K : List PyData → Nat → Prop} (h : ds.length ≤ 100000) (g : Nat → Option PyData)
    (hs : ∀ (i : Nat) d (Ky : PyData → Nat → Prop) (Kn : Nat → Prop), ds[i]? = some d → (∀ y, g i = some y → Ky y m) → (g i = none → Kn m) → gd d (wipeD δ vs) fun δ2 => ft δ2 m fun b k => if b = true then fe δ2 k Ky else Kn k)
    (hk : K ((List.range ds.length).filterMap g) m) : ds.length ≤ 100000 ∧ ∃ Iv : Nat → List PyData → Nat → Prop, Iv 0 [] m ∧
  (∀ i d acc j, ds[i]? = some d → Iv i acc j → gd d (wipeD δ vs) fun δ2 => ft δ2 j fun b k => if b = true then fe δ2 k fun y l => Iv (i + 1) (acc ++ [y]) l else Iv (i + 1) acc k) ∧ ∀ acc j, Iv ds.length acc j → K acc j := by
  refine ⟨h, fun i acc j => acc = (List.range i).filterMap g ∧ j = m, ⟨rfl, rfl⟩, fun i d acc j ed ⟨ea, ej⟩ => ?_, fun acc j ⟨ea, ej⟩ => by rw [ea, ej]; exact hk⟩
  rw [ej]
  refine hs i d _ _ ed (fun y ey => ⟨?_, rfl⟩) (fun e => ⟨?_, rfl⟩)
  · rw [ea, List.range_succ, List.filterMap_append]
    simp only [List.filterMap_cons, List.filterMap_nil, ey]
  · rw [ea, List.range_succ, List.filterMap_append]
    simp only [List.filterMap_cons, List.filterMap_nil, e, List.append_nil]
theorem fmM {α β : Type} (xs : List α) (f : α → β) : (List.range xs.length).filterMap (fun i => (xs[i]?).map f) = xs.map f := by
  have : (fun i : Nat => (xs[i]?).map f) = fun i : Nat => ((xs.map f)[i]?) := by
    funext i
    rw [List.getElem?_map]
  rw [this]
  exact fm_all (by rw [List.length_map])
theorem mpG {α : Type} {xs : List α} {f : α → PyData} {i : Nat} {d : PyData} (h : (xs.map f)[i]? = some d) : ∃ x, xs[i]? = some x ∧ d = f x := by
  rw [List.getElem?_map] at h
  cases e : xs[i]? with
  | none => rw [e] at h; cases h
  | some x => rw [e] at h; exact ⟨x, rfl, (Option.some.inj h).symm⟩
theorem mem_i {α : Type} {xs : List α} {i : Nat} {x : α} (h : xs[i]? = some x) : x ∈ xs := List.mem_of_getElem? h
end Z

set_option Elab.async false
set_option linter.all false
set_option maxRecDepth 100000
set_option maxHeartbeats 400000
namespace Z
open PySem PySem.Spec PyProof.Rows L2
/-! ### statements -/
structure DD where
  nx : List Sl → Nat → Prop
  rt : PyData → Nat → Prop
  rn : List PyData → Nat → Prop
  bk : List Sl → Nat → Prop := fun _ _ => False
  ct : List Sl → Nat → Prop := fun _ _ => False
abbrev DS := DD → List Sl → Nat → Prop
abbrev FR := List Addr → List Addr → Hp → Prop
structure FrOk (L : List Addr) (Fr : FR) : Prop where
  go : ∀ {B O : List Addr} {H H' : Hp}, (∀ a ∈ O, a ∈ B) → Fr B O H → Go (L ++ O) H H' → Fr B O H'
  nw : ∀ {B O : List Addr} {H H' : Hp} {a : Addr}, Fr B O H → H a = none → Go L H H' → Fr (a :: B) (a :: O) H'
  sub : ∀ {B O B' O' : List Addr} {H : Hp}, Fr B O H → (∀ a ∈ B', a ∈ B) → (∀ a ∈ O', a ∈ O) → Fr B' O' H
structure At (L B0 : List Addr) (Fr : FR) (B O : List Addr) (σ : L2.St) (H : Hp) (δ : List Sl) (n : Nat) : Prop where
  fo : FrOk L Fr
  sb : ∀ a ∈ B0, a ∈ B ∧ a ∉ O
  fr : Fr B O H
  rel : Rel L B O H σ δ n
structure Em (L B0 : List Addr) (Fr : FR) (D : Ends) (E : DD) : Prop where
  nx : ∀ {B O σ H δ n}, E.nx δ n → At L B0 Fr B O σ H δ n → D.nx σ H
  rt : ∀ {v H d n}, E.rt d n → Fr [] [] H → Lfs L H n → Dt B0 H v d → D.rt v H
  rn : ∀ {a vs H xs n}, E.rn xs n → Fr [a] [a] H → Lfs L H n → H a = some (.lst vs) → DtA (a :: B0) H vs xs → D.rt (.ref a) H
  bk : ∀ {B O σ H δ n}, E.bk δ n → At L B0 Fr B O σ H δ n → D.bk σ H
  ct : ∀ {B O σ H δ n}, E.ct δ n → At L B0 Fr B O σ H δ n → D.ct σ H
structure SS (T : TS) (f : DS) : Prop where
  run : ∀ {L B0 Fr B O σ H δ n D E}, At L B0 Fr B O σ H δ n → f E δ n → Em L B0 Fr D E → T D σ H
section
variable {L B0 : List Addr} {Fr : FR} {B O : List Addr} {σ σ' : L2.St} {H H' : Hp} {δ δ' : List Sl} {n m : Nat}
theorem At.go (a : At L B0 Fr B O σ H δ n) (g : Go L H H') (f : Lfs L H' m) : At L B0 Fr B O σ H' δ m :=
  ⟨a.fo, a.sb, a.fo.go (fun x hx => (a.rel.ob x hx).1) a.fr (g.w fun x hx => List.mem_append_left _ hx), a.rel.go g f⟩
theorem At.re (a : At L B0 Fr B O σ H δ n) (r : Rel L B O H σ' δ' m) : At L B0 Fr B O σ' H δ' m := ⟨a.fo, a.sb, a.fr, r⟩
end
def fNext : DS := fun E δ n => E.nx δ n
def fSeq (a b : DS) : DS := fun E δ n => a { E with nx := b E } δ n
def fRet (fe : DE) : DS := fun E δ n => fe δ n E.rt
def fRetN : DS := fun E δ n => E.rt .none n
def fRetSN (f : DI) : DS := fun E δ n => f δ n E.rn
def fRetO (i : Nat) : DS := fun E δ n => ∃ xs, δ[i]? = some (.o xs) ∧ E.rn xs n
def fIfS (c : DTt) (a b : DS) : DS := fun E δ n => c δ n fun t m => if t = true then a E δ m else b E δ m
def fAsg (fe : DE) (gd : DG) : DS := fun E δ n => fe δ n fun d m => gd d δ fun δ' => E.nx δ' m
def fAsgO (i : Nat) (f : DI) : DS := fun E δ n => f δ n fun xs m => E.nx (δ.set i (.o xs)) m
def fDrop (fe : DE) : DS := fun E δ n => fe δ n fun _ m => E.nx δ m
def fCut (a b : DS) : DS := fun E δ n => ∃ Mid : List Sl → Nat → Prop, a { E with nx := Mid } δ n ∧ ∀ δ' n', Mid δ' n' → b E δ' n'
def fFrz (i : Nat) (a : DS) : DS := fun E δ n => ∃ xs, δ[i]? = some (.o xs) ∧ a E (δ.set i (.d (.list xs))) n
def fAugI (g : Int → Int → Int) (i : Nat) (fe : DE) : DS := fun E δ n => ∃ z, δ[i]? = some (.d (.int z)) ∧ fe δ n fun d m => ∃ y, d = .int y ∧ E.nx (δ.set i (.d (.int (g z y)))) m
def fPar (i j : Nat) (fa : DA) : DS := fun E δ n => fa δ n fun xs m => ∃ x y, xs = [.d x, .d y] ∧ E.nx ((δ.set i (.d x)).set j (.d y)) m
def fApp (i : Nat) (fe : DE) : DS := fun E δ n => ∃ xs, δ[i]? = some (.o xs) ∧ xs.length ≤ 100000 ∧ fe δ n fun d m => E.nx (δ.set i (.o (xs ++ [d]))) m
def fSetO (i : Nat) (fe fi : DE) : DS := fun E δ n => ∃ xs, δ[i]? = some (.o xs) ∧ fe δ n fun d m => fi δ m fun z k => ∃ y j, z = .int y ∧ ixN xs.length y = some j ∧ E.nx (δ.set i (.o (xs.set j d))) k
def fFor (fi : DI) (gd : DG) (fb : DS) : DS := fun E δ n => fi δ n fun ds m => ∃ Iv : Nat → List Sl → Nat → Prop, Iv 0 δ m ∧ (∀ i d δ' j, ds[i]? = some d → Iv i δ' j → gd d δ' fun δ2 => fb { E with nx := Iv (i + 1), ct := Iv (i + 1), bk := E.nx } δ2 j) ∧ ∀ δ' j, Iv ds.length δ' j → E.nx δ' j
def fWhile (ft : DTt) (fb : DS) : DS := fun E δ n => ∃ Iv : Nat → List Sl → Nat → Prop, (∃ m, Iv m δ n) ∧ ∀ m δ' j, Iv m δ' j → ft δ' j fun b k => if b = true then fb { E with nx := fun δ2 l => ∃ m', m' < m ∧ Iv m' δ2 l, ct := fun δ2 l => ∃ m', m' < m ∧ Iv m' δ2 l, bk := E.nx } δ' k else E.nx δ' k
section
variable {T U : TS} {a b : DS} {te : TE} {fe : DE} {tt : TT} {ft : DTt} {fi : DI} {K : PySem.W.Frag}
theorem ss_next : SS tNext fNext := ⟨fun at' k e => e.nx k at'⟩
theorem ss_seq (h1 : SS T a) (h2 : SS U b) : SS (tSeq T U) (fSeq a b) := ⟨fun at' k e => h1.run at' k ⟨fun k2 at2 => h2.run at2 k2 e, e.rt, e.rn, e.bk, e.ct⟩⟩
theorem ss_cut (h1 : SS T a) (h2 : SS U b) : SS (Evl.tCut T U) (fCut a b) := ⟨fun {L B0 Fr B O σ H δ n D E} at' ⟨Mid, k, k2⟩ e => ⟨fun σ' H' => ∃ B' O' δ' n', Mid δ' n' ∧ At L B0 Fr B' O' σ' H' δ' n', h1.run at' k ⟨fun k2 at2 => ⟨_, _, _, _, k2, at2⟩, e.rt, e.rn, e.bk, e.ct⟩, fun σ' H' ⟨B', O', δ', n', hm, at2⟩ => h2.run at2 (k2 _ _ hm) e⟩⟩
theorem ss_ret (h : SE te fe) : SS (tRet te) (fRet fe) := ⟨fun at' k e => h.run at'.rel k fun d m v H' k2 g l dv => by
  have a2 := at'.go g l
  exact e.rt k2 (a2.fo.sub a2.fr (fun _ h => nomatch h) (fun _ h => nomatch h)) l (dv.sub fun a ha => (at'.sb a ha).1)⟩
theorem ss_retN : SS tRetN fRetN := ⟨fun at' k e => e.rt k (at'.fo.sub at'.fr (fun _ h => nomatch h) (fun _ h => nomatch h)) at'.rel.lf .non⟩
theorem ss_retSN (h : SN te fi) : SS (tRet te) (fRetSN fi) := ⟨fun at' k e => h.run at'.rel k fun xs m a vs H' k2 g l e1 e2 hA => by
  have f2 := at'.fo.nw at'.fr e1 g
  refine e.rn k2 (at'.fo.sub f2 (fun b hb => ?_) (fun b hb => ?_)) l e2 (hA.sub fun b hb => ?_)
  · rw [List.mem_singleton.mp hb]; exact List.mem_cons_self ..
  · rw [List.mem_singleton.mp hb]; exact List.mem_cons_self ..
  · rcases List.mem_cons.mp hb with z | z
    · rw [z]; exact List.mem_cons_self ..
    · exact List.mem_cons_of_mem _ (at'.sb b z).1⟩
theorem ss_retO {i : Nat} : SS (tRet (tVar i)) (fRetO i) := ⟨fun at' ⟨xs, ei, k⟩ e => by
  obtain ⟨a, vs, ea, ha, hs, hA⟩ := at'.rel.oo i xs ei
  refine ⟨_, ea, e.rn k (at'.fo.sub at'.fr (fun b hb => ?_) (fun b hb => ?_)) at'.rel.lf hs (hA.sub fun b hb => ?_)⟩
  · rw [List.mem_singleton.mp hb]; exact (at'.rel.ob a ha).1
  · rw [List.mem_singleton.mp hb]; exact ha
  · rcases List.mem_cons.mp hb with z | z
    · rw [z]; exact (at'.rel.ob a ha).1
    · exact (at'.sb b z).1⟩
theorem ss_if (hc : ST tt ft) (h1 : SS T a) (h2 : SS U b) : SS (tIfS tt T U) (fIfS ft a b) := ⟨fun at' k e => hc.run at'.rel k fun t m H' k2 g l => by
  cases t with
  | true => exact iteT (h1.run (at'.go g l) k2 e)
  | false => exact iteF (h2.run (at'.go g l) k2 e)⟩
theorem ss_asg {tg : List Nat} {g : TG} {gd : DG} (h : SE te fe) (hg : SG tg g gd) : SS (tAsg te g) (fAsg fe gd) := ⟨fun at' k e => h.run at'.rel k fun d m v H' k2 g l dv => by
  have a2 := at'.go g l
  exact hg.run a2.rel dv k2 fun σ' δ' k3 r3 _ => e.nx k3 (a2.re r3)⟩
theorem ss_asgO {i : Nat} (h : SN te fi) : SS (tAsg te (gName i)) (fAsgO i fi) := ⟨fun at' k e => h.run at'.rel k fun xs m a vs H' k2 g l e1 e2 hA => by
  refine e.nx k2 ⟨at'.fo, fun b hb => ⟨List.mem_cons_of_mem _ (at'.sb b hb).1, fun z => ?_⟩, at'.fo.nw at'.fr e1 g, at'.rel.mk_o i e1 g e2 hA l⟩
  rcases List.mem_cons.mp z with z | z
  · rw [z] at hb
    exact at'.rel.bk a (at'.sb a hb).1 e1
  · exact (at'.sb b hb).2 z⟩
theorem ss_drop (h : SE te fe) : SS (tDrop te) (fDrop fe) := ⟨fun at' k e => h.run at'.rel k fun d m v H' k2 g l dv => e.nx k2 (at'.go g l)⟩
theorem ss_frz (i : Nat) (h : SS T a) : SS T (fFrz i a) := ⟨fun at' ⟨xs, ei, k⟩ e => by
  obtain ⟨c, hc, r⟩ := at'.rel.frz ei
  refine h.run ⟨at'.fo, fun b hb => ?_, at'.fo.sub at'.fr (fun b hb => (List.mem_filter.mp hb).1) (fun b hb => (List.mem_filter.mp hb).1), r⟩ k e
  have q : b ≠ c := fun z => (at'.sb b hb).2 (by rw [z]; exact hc)
  exact ⟨List.mem_filter.mpr ⟨(at'.sb b hb).1, by simpa using q⟩, fun z => (at'.sb b hb).2 (List.mem_filter.mp z).1⟩⟩
theorem ss_augI {i : Nat} {g : Int → Int → Int} (h : SE te fe) : SS (tAug i te (ipI g)) (fAugI g i fe) := ⟨fun at' ⟨z, ei, k⟩ e => by
  obtain ⟨v, ev, dv⟩ := at'.rel.dd i _ ei
  cases dv
  refine ⟨_, ev, h.run at'.rel k fun d m v H' ⟨y, e2, k2⟩ g l dv => ?_⟩
  subst e2
  cases dv
  have a2 := at'.go g l
  exact ⟨z, y, rfl, rfl, e.nx k2 (a2.re (a2.rel.set_d i (.int _)))⟩⟩
theorem ss_par {i j : Nat} {ta : TA} {fa : DA} (h : SA ta fa) : SS (tPar i j ta) (fPar i j fa) := ⟨fun at' k e => h.run at'.rel k fun xs m vs H' ⟨x, y, e1, k2⟩ g l hv => by
  subst e1
  cases hv with
  | d h1 h2 => cases h2 with
    | d h2 h3 =>
      cases h3
      have a2 := at'.go g l
      exact ⟨_, _, rfl, e.nx k2 (a2.re ((a2.rel.set_d i h1).set_d j h2))⟩⟩
theorem At.mut {L B0 : List Addr} {Fr : FR} {B O : List Addr} {σ : L2.St} {H : Hp} {δ : List Sl} {n : Nat} (at' : At L B0 Fr B O σ H δ n) {i : Nat} {xs ys : List PyData} {a : Addr} {ws : List V} (ei : δ[i]? = some (.o xs)) (ea : σ[i]? = some (some (.ref a))) (ha : a ∈ O) (hA : DtA B H ws ys) : At L B0 Fr B O σ (upd H a (.lst ws)) (δ.set i (.o ys)) n :=
  ⟨at'.fo, at'.sb, at'.fo.go (fun b hb => (at'.rel.ob b hb).1) at'.fr (Go.refl.at (List.mem_append_right _ ha)), at'.rel.mut ei ea hA⟩
theorem ss_app {i : Nat} (h : SE te fe) : SS (tDrop (tBM K "list" rAppend (tVar i) (tCons te tNil))) (fApp i fe) := ⟨fun at' ⟨xs, ei, lx, k⟩ e => by
  obtain ⟨a, vs, ea, ha, hs, hA⟩ := at'.rel.oo i xs ei
  refine ⟨_, ea, .inl ⟨rfl, vs, SqL.of hs⟩, h.run at'.rel k fun d m v H' k2 g l dv => ?_⟩
  have a2 := at'.go g l
  have hs2 := g.k a _ (at'.rel.ob a ha).2 hs
  have hA2 := hA.g (g.w at'.rel.lb)
  have lv := hA.len
  exact ⟨a, vs, v, rfl, rfl, hs2, sz (by omega), e.nx k2 (a2.mut ei ea ha (hA2.app (.one dv)))⟩⟩
theorem ss_setO {i : Nat} {ti : TE} {fz : DE} (h : SE te fe) (hi : SE ti fz) : SS (tAsg te (gSub (tVar i) ti rSetL)) (fSetO i fe fz) := ⟨fun at' ⟨xs, ei, k⟩ e => by
  obtain ⟨a, vs, ea, ha, hs, hA⟩ := at'.rel.oo i xs ei
  refine h.run at'.rel k fun d m v H' k2 g l dv => ⟨_, ea, ?_⟩
  have a2 := at'.go g l
  refine hi.run a2.rel k2 fun z m2 u H2 ⟨y, j, e1, e2, k3⟩ g2 l2 du => ?_
  subst e1
  cases du
  have a3 := a2.go g2 l2
  have g12 := g.trans g2
  have hs3 := g12.k a _ (at'.rel.ob a ha).2 hs
  have hA3 := hA.g (g12.w at'.rel.lb)
  refine ⟨a, vs, y, j, rfl, rfl, hs3, by rw [hA.len]; exact e2, e.nx k3 (a3.mut ei ea ha (hA3.set j (dv.g (g2.w at'.rel.lb))))⟩⟩
/-- the frame of a loop -/
theorem frLoop {L B1 : List Addr} {H1 : Hp} {Fr : FR} (lb : ∀ a ∈ L, a ∈ B1) (fo : FrOk L Fr) : FrOk L (fun B O H => Fr B O H ∧ Go B1 H1 H ∧ (∀ a ∈ B, a ∈ B1 ∨ H1 a = none)) where
  go := fun ho ⟨f, g, h⟩ g2 => ⟨fo.go ho f g2, ⟨fun a o na e => g2.k a o (fun z => by
    rcases List.mem_append.mp z with z | z
    · exact na (lb a z)
    · rcases h a (ho a z) with q | q
      · exact na q
      · rw [q] at e; cases e) (g.k a o na e), fun a e => g2.d a (g.d a e)⟩, h⟩
  nw := fun ⟨f, g, h⟩ e g2 => ⟨fo.nw f e g2, g.trans (g2.w lb), fun b hb => by
    rcases List.mem_cons.mp hb with z | z
    · rw [z]; exact .inr (g.free e)
    · exact h b z⟩
  sub := fun ⟨f, g, h⟩ s1 s2 => ⟨fo.sub f s1 s2, g, fun b hb => h b (s1 b hb)⟩
def fParO (i j : Nat) (fa fb : DI) : DS := fun E δ n => fa δ n fun xs m => fb δ m fun ys k => E.nx ((δ.set i (.o xs)).set j (.o ys)) k
theorem ss_parO {i j : Nat} {ta tb : TE} {fa fb : DI} (ha : SN ta fa) (hb : SN tb fb) : SS (tPar i j (tCons ta (tCons tb tNil))) (fParO i j fa fb) := ⟨fun at' k e => ha.run at'.rel k fun xs m a vs H' k2 g l e1 e2 hA => by
  have r1 := at'.rel.mk_o i e1 g e2 hA l
  have r0 := at'.rel.fr e1 g (by rw [e2]; exact fun z => nomatch z) l
  refine hb.run r0 k2 fun ys k b ws H2 k3 g2 l2 f1 f2 hB => ⟨_, _, rfl, ?_⟩
  have h2 := r1.mk_o j f1 g2 f2 hB l2
  have na : ∀ c ∈ _, c ≠ a := fun c hc z => by
    rw [z] at hc
    exact at'.rel.bk a (at'.sb a hc).1 e1
  have nb : ∀ c ∈ _, c ≠ b := fun c hc z => by
    rw [z] at hc
    exact at'.rel.bk b (at'.sb b hc).1 (g.free f1)
  refine e.nx k3 ⟨at'.fo, fun c hc => ⟨List.mem_cons_of_mem _ (List.mem_cons_of_mem _ (at'.sb c hc).1), fun z => ?_⟩, at'.fo.nw (at'.fo.nw at'.fr e1 g) f1 g2, h2⟩
  rcases List.mem_cons.mp z with z | z
  · exact nb c hc z
  · rcases List.mem_cons.mp z with z | z
    · exact na c hc z
    · exact (at'.sb c hc).2 z⟩
def fPar3 (i j l : Nat) (fa : DA) : DS := fun E δ n => fa δ n fun xs m => ∃ x y z, xs = [.d x, .d y, .d z] ∧ E.nx (((δ.set i (.d x)).set j (.d y)).set l (.d z)) m
theorem ss_par3 {i j l : Nat} {ta : TA} {fa : DA} (h : SA ta fa) : SS (tPar3 i j l ta) (fPar3 i j l fa) := ⟨fun at' k e => h.run at'.rel k fun xs m vs H' ⟨x, y, z, e1, k2⟩ g l hv => by
  subst e1
  cases hv with
  | d h1 h2 => cases h2 with
    | d h2 h3 => cases h3 with
      | d h3 h4 =>
        cases h4
        have a2 := at'.go g l
        exact ⟨_, _, _, rfl, e.nx k2 (a2.re (((a2.rel.set_d i h1).set_d j h2).set_d _ h3))⟩⟩
def fExt (i : Nat) (fe : DE) : DS := fun E δ n => ∃ xs, δ[i]? = some (.o xs) ∧ fe δ n fun d m => ∃ ys, d = .list ys ∧ xs.length + ys.length ≤ 100000 ∧ E.nx (δ.set i (.o (xs ++ ys))) m
theorem ss_ext {i : Nat} (h : SE te fe) : SS (tDrop (tBM K "list" rExtend (tVar i) (tCons te tNil))) (fExt i fe) := ⟨fun at' ⟨xs, ei, k⟩ e => by
  obtain ⟨a, vs, ea, ha, hs, hA⟩ := at'.rel.oo i xs ei
  refine ⟨_, ea, .inl ⟨rfl, vs, SqL.of hs⟩, h.run at'.rel k fun d m v H' ⟨ys, e1, l1, k2⟩ g l dv => ?_⟩
  subst e1
  have a2 := at'.go g l
  have hs2 := g.k a _ (at'.rel.ob a ha).2 hs
  have hA2 := hA.g (g.w at'.rel.lb)
  have lv := hA.len
  obtain ⟨b, ws, rfl, nb, hb, hB⟩ := dv.lst2
  have lw := hB.len
  exact ⟨a, b, vs, ws, rfl, rfl, hs2, hb, Nat.le_of_lt (sz (by omega)), e.nx k2 (a2.mut ei ea ha (hA2.app hB))⟩⟩
/-- extend by a tuple is wanted as a list; insert -/
def rIns : V → List V → Hp → VK → Prop := fun x vs H Q => ∃ (l : Addr) (xs : List V) (i : Int) (y : V), x = .ref l ∧ vs = [.int i, y] ∧ H l = some (.lst xs) ∧ xs.length < sizeLine ∧ 0 ≤ i ∧ i < 2 ^ 63 ∧ Q .non (upd H l (.lst (xs.take i.toNat ++ [y] ++ xs.drop i.toNat)))
def fIns (i : Nat) (fz fe : DE) : DS := fun E δ n => ∃ xs, δ[i]? = some (.o xs) ∧ xs.length ≤ 100000 ∧ fz δ n fun z m => fe δ m fun d k => ∃ y, z = .int y ∧ 0 ≤ y ∧ y < 2 ^ 63 ∧ E.nx (δ.set i (.o (xs.take y.toNat ++ [d] ++ xs.drop y.toNat))) k
theorem ss_ins {i : Nat} {tz : TE} {fz : DE} (hz : SE tz fz) (h : SE te fe) : SS (tDrop (tBM K "list" rIns (tVar i) (tCons tz (tCons te tNil)))) (fIns i fz fe) := ⟨fun at' ⟨xs, ei, lx, k⟩ e => by
  obtain ⟨a, vs, ea, ha, hs, hA⟩ := at'.rel.oo i xs ei
  refine ⟨_, ea, .inl ⟨rfl, vs, SqL.of hs⟩, hz.run at'.rel k fun z m u H1 k1 g1 l1 du => ?_⟩
  have a1 := at'.go g1 l1
  refine h.run a1.rel k1 fun d m v H' ⟨y, e1, y0, y1, k2⟩ g l dv => ?_
  subst e1
  cases du
  have a2 := a1.go g l
  have g12 := g1.trans g
  have hs2 := g12.k a _ (at'.rel.ob a ha).2 hs
  have hA2 := hA.g (g12.w at'.rel.lb)
  have lv := hA.len
  exact ⟨a, vs, y, v, rfl, rfl, hs2, sz (by omega), y0, y1, e.nx k2 (a2.mut ei ea ha (((DtA.take _ hA2).app (.one dv)).app (DtA.drop _ hA2)))⟩⟩
/-- -x -/
theorem se_neg {te : TE} {fe : DE} (h : SE te fe) : SE (tUn (rU fun i => .int (-i)) te) (fUn (fun x K => ∃ i, x = .int i ∧ K (.int (-i))) fe) := ⟨fun r k q => h.run r k fun d m v H1 ⟨i, e, k1⟩ g1 l1 d1 => by
  subst e
  cases d1
  exact ⟨i, rfl, q _ _ _ _ k1 g1 l1 (.int _)⟩⟩
theorem ss_for {wi : TI} {tg : List Nat} {g : TG} {gd : DG} (hi : SI true wi fi) (hg : SG tg g gd) (hb : SS T a) : SS (tFor wi g T) (fFor fi gd a) := ⟨fun {L B0 Fr B O σ H δ n D E} at' k e => hi.run at'.rel k fun ds m J H1 G Y ⟨Iv, i0, is, iE⟩ g1 l1 w G1 st it => by
  have a1 := at'.go g1 l1
  have fo2 := frLoop (B1 := B) (H1 := H1) at'.rel.lb at'.fo
  have dn : ∀ {B' O' σ' H' δ' j}, At L B0 (fun C O H => Fr C O H ∧ Go B H1 H ∧ (∀ a ∈ C, a ∈ B ∨ H1 a = none)) B' O' σ' H' δ' j → At L B0 Fr B' O' σ' H' δ' j := fun a => ⟨at'.fo, a.sb, a.fr.1, a.rel⟩
  refine for_it w (fun i σ' H' => ∃ B' O' δ' j, Iv i δ' j ∧ At L B0 (fun C O H => Fr C O H ∧ Go B H1 H ∧ (∀ a ∈ C, a ∈ B ∨ H1 a = none)) B' O' σ' H' δ' j) ⟨B, O, δ, m, i0, ⟨fo2, a1.sb, ⟨a1.fr, Go.refl, fun a ha => .inl ha⟩, a1.rel⟩⟩ (fun i σ' H' _ p => ?_) (fun i x σ' H' H'' hi' p y => ?_) (fun σ' H' p => ?_)
  · obtain ⟨B', O', δ', j, _, a2⟩ := p
    exact st B H' (fun a ha => .inl ha) a2.fr.2.1
  · obtain ⟨B', O', δ', j, iv, a2⟩ := p
    obtain ⟨s2, d, ed, dd⟩ := it B B' i H' x H'' (fun a ha => .inl ha) a2.fr.2.2 a2.rel.bk a2.fr.2.1 hi' y
    have a3 := a2.go (Go.of s2) (a2.rel.lf.same s2)
    refine hg.run a3.rel dd (is i d δ' j ed iv) fun σ2 δ2 k2 r2 _ => hb.run (a3.re r2) k2 ⟨fun k a => ⟨_, _, _, _, k, a⟩, fun k f => e.rt k f.1, fun k f => e.rn k f.1, fun k a => e.nx k (dn a), fun k a => ⟨_, _, _, _, k, a⟩⟩
  · obtain ⟨B', O', δ', j, iv, a2⟩ := p
    exact e.nx (iE δ' j iv) (dn a2)⟩
theorem ss_while (hc : ST tt ft) (hb : SS T a) : SS (tWhile tt T) (fWhile ft a) := ⟨fun {L B0 Fr B O σ H δ n D E} at' ⟨Iv, ⟨m0, i0⟩, is⟩ e => by
  refine ⟨fun m σ' H' => ∃ B' O' δ' j, Iv m δ' j ∧ At L B0 Fr B' O' σ' H' δ' j, ⟨m0, _, _, _, _, i0, at'⟩, fun m σ' H' ⟨B', O', δ', j, iv, a2⟩ => ?_⟩
  refine hc.run a2.rel (is m δ' j iv) fun b k H2 k2 g l => ?_
  cases b with
  | false => exact iteF (e.nx k2 (a2.go g l))
  | true =>
    refine iteT ⟨fun σ3 H3 => ∃ m', m' < m ∧ ∃ B' O' δ' j, Iv m' δ' j ∧ At L B0 Fr B' O' σ3 H3 δ' j, fun σ3 H3 ⟨m', lt, p⟩ => ⟨m', lt, p⟩, hb.run (a2.go g l) k2 ⟨fun k a => ?_, e.rt, e.rn, e.nx, fun k a => ?_⟩⟩
    · obtain ⟨m', lt, iv⟩ := k
      exact ⟨m', lt, _, _, _, _, iv, a⟩
    · obtain ⟨m', lt, iv⟩ := k
      exact ⟨m', lt, _, _, _, _, iv, a⟩⟩
end
/-! ### a def by its data alone -/
def startD (N : List Str) (ds : List Sl) : List Sl := ds ++ List.replicate (N.length - ds.length) .no
theorem VrA.get {L B : List Addr} {H : Hp} {vs : List V} {ds : List Sl} (h : VrA L B H vs ds) : ∀ (i : Nat) s, ds[i]? = some s → ∃ v, vs[i]? = some v ∧ ((∃ x, s = .d x ∧ Dt B H v x) ∨ (s = .l ∧ ∃ a, a ∈ L ∧ v = .ref a)) := by
  induction h with
  | nil => intro i s e; simp at e
  | d h _ ih =>
    intro i s e
    cases i with
    | zero => cases e; exact ⟨_, rfl, .inl ⟨_, rfl, h⟩⟩
    | succ i => exact ih i s (by simpa using e)
  | l h _ ih =>
    intro i s e
    cases i with
    | zero => cases e; exact ⟨_, rfl, .inr ⟨rfl, _, h, rfl⟩⟩
    | succ i => exact ih i s (by simpa using e)
theorem start_rel {L B : List Addr} {H : Hp} {vs : List V} {ds : List Sl} {n : Nat} (N : List Str) (h : VrA L B H vs ds) (hB : Bk B H) (lb : ∀ a ∈ L, a ∈ B) (lf : Lfs L H n) : Rel L B [] H (L2.start N vs) (startD N ds) n := by
  have hl := h.len
  have key : ∀ (i : Nat) s, (startD N ds)[i]? = some s → s ≠ .no → ds[i]? = some s ∧ ∀ v, vs[i]? = some v → (L2.start N vs)[i]? = some (some v) := by
    intro i s e ns
    unfold startD at e
    rw [List.getElem?_append] at e
    by_cases c : i < ds.length
    · rw [if_pos c] at e
      refine ⟨e, fun v ev => ?_⟩
      unfold L2.start
      rw [List.getElem?_append, if_pos (by rw [List.length_map, hl]; exact c), List.getElem?_map, ev]
      rfl
    · rw [if_neg c] at e
      have := List.mem_of_getElem? e
      rw [List.mem_replicate] at this
      exact absurd this.2 ns
  exact {
    len := by unfold startD L2.start; simp [hl]
    dd := fun i x e => by
      obtain ⟨e1, f⟩ := key i _ e (fun z => nomatch z)
      obtain ⟨v, ev, q⟩ := h.get i _ e1
      rcases q with ⟨y, ey, dy⟩ | ⟨z, _⟩
      · cases ey
        exact ⟨v, f v ev, dy⟩
      · cases z
    oo := fun i xs e => by
      obtain ⟨e1, f⟩ := key i _ e (fun z => nomatch z)
      obtain ⟨v, ev, q⟩ := h.get i _ e1
      rcases q with ⟨y, ey, dy⟩ | ⟨z, _⟩
      · cases ey
      · cases z
    uq := fun i j xs ys a e => by
      obtain ⟨e1, f⟩ := key i _ e (fun z => nomatch z)
      obtain ⟨v, ev, q⟩ := h.get i _ e1
      rcases q with ⟨y, ey, dy⟩ | ⟨z, _⟩
      · cases ey
      · cases z
    ll := fun i e => by
      obtain ⟨e1, f⟩ := key i _ e (fun z => nomatch z)
      obtain ⟨v, ev, q⟩ := h.get i _ e1
      rcases q with ⟨y, ey, dy⟩ | ⟨z, a, ha, rfl⟩
      · cases ey
      · exact ⟨a, ha, f _ ev⟩
    vv := fun i u e => by
      obtain ⟨e1, f⟩ := key i _ e (fun z => nomatch z)
      obtain ⟨v, ev, q⟩ := h.get i _ e1
      rcases q with ⟨y, ey, dy⟩ | ⟨z, _⟩
      · cases ey
      · cases z
    bk := hB
    ob := fun _ h => nomatch h
    lb := lb
    lf := lf }
theorem frDef {L : List Addr} {H0 : Hp} : FrOk L (fun B O H => Go L H0 H ∧ ∀ a ∈ O, H0 a = none) where
  go := fun _ ⟨g, h⟩ g2 => ⟨⟨fun a o na e => g2.k a o (fun z => by
    rcases List.mem_append.mp z with z | z
    · exact na z
    · rw [h a z] at e; cases e) (g.k a o na e), fun a e => g2.d a (g.d a e)⟩, h⟩
  nw := fun ⟨g, h⟩ e g2 => ⟨g.trans g2, fun b hb => by
    rcases List.mem_cons.mp hb with z | z
    · rw [z]; exact g.free e
    · exact h b z⟩
  sub := fun ⟨g, h⟩ _ s2 => ⟨g, fun b hb => h b (s2 b hb)⟩
section
variable {P : Program} {w : World} {K : PySem.W.Frag} {mg : Str → Option Value} {base : Heap} {x qual : Str} {st : Stmt} {f : Addr} {fd : FuncData} {N ps : List Str} {k : Nat}
theorem okD {R : List Sl → Nat → DQ → Prop} (F : Fun K x qual st f fd) (S : FnScope N ps (defScope st)) (fs : DS)
    (hbody : ∀ (cdv : Value) (A : Around) (outer : List Env) (s : Shared) (H : Hp) (E : XK), Room k (A.deeper (envOfC qual (defScope st) s.heap.objs.size f cdv)) → ∃ t, PSs (cxOf CX0 P w K mg base N qual (defScope st) f cdv A outer s H E).nox (defBody st) t ∧ SS t fs)
    (len : ∀ ds n Q, R ds n Q → ds.length = ps.length) (hd : ∀ ds n Q, R ds n Q → fs { nx := fun _ m => Q .none m, rt := Q, rn := fun xs m => Q (.list xs) m } (startD N ds) n) : FnOk P w K mg base CX0 (k + 1) f fd ps (spD R) := by
  refine F.ok S (fun vs H Q E h => ?_) (fun cdv A outer s H vs Q E hr h => ?_)
  · obtain ⟨L, B, ds, n, K', hv, _, _, _, hR, _⟩ := h
    rw [hv.len]
    exact len ds n K' hR
  · obtain ⟨L, B, ds, n, K', hv, hB, lb, lf, hR, q⟩ := h
    obtain ⟨t, ht, hs⟩ := hbody cdv A outer s H E hr
    refine ⟨t, ht, hs.run (L := L) (B0 := B) (B := B) (O := []) (Fr := fun B O H' => Go L H H' ∧ ∀ a ∈ O, H a = none) ⟨frDef, fun a ha => ⟨ha, (fun h => nomatch h)⟩, ⟨Go.refl, (fun _ h => nomatch h)⟩, start_rel N hv hB lb lf⟩ (hd ds n K' hR) ⟨fun k a => ?_, fun k f l d => ?_, fun k f l e hA => ?_, fun h _ => h.elim, fun h _ => h.elim⟩⟩
    · exact q _ _ _ _ k a.fr.1 a.rel.lf .non
    · exact q _ _ _ _ k f.1 l d
    · exact q _ _ _ _ k f.1 l (.lst (hB.ne (f.2 _ (List.mem_singleton.mpr rfl))) e hA.un)
/-- a def that tells a new list -/
theorem okN {R : List Sl → Nat → (List PyData → Nat → Prop) → Prop} (F : Fun K x qual st f fd) (S : FnScope N ps (defScope st)) (fs : DS)
    (hbody : ∀ (cdv : Value) (A : Around) (outer : List Env) (s : Shared) (H : Hp) (E : XK), Room k (A.deeper (envOfC qual (defScope st) s.heap.objs.size f cdv)) → ∃ t, PSs (cxOf CX0 P w K mg base N qual (defScope st) f cdv A outer s H E).nox (defBody st) t ∧ SS t fs)
    (len : ∀ ds n Q, R ds n Q → ds.length = ps.length) (hd : ∀ ds n Q, R ds n Q → fs { nx := fun _ _ => False, rt := fun _ _ => False, rn := Q } (startD N ds) n) : FnOk P w K mg base CX0 (k + 1) f fd ps (spN R) := by
  refine F.ok S (fun vs H Q E h => ?_) (fun cdv A outer s H vs Q E hr h => ?_)
  · obtain ⟨L, B, ds, n, K', hv, _, _, _, hR, _⟩ := h
    rw [hv.len]
    exact len ds n K' hR
  · obtain ⟨L, B, ds, n, K', hv, hB, lb, lf, hR, q⟩ := h
    obtain ⟨t, ht, hs⟩ := hbody cdv A outer s H E hr
    refine ⟨t, ht, hs.run (L := L) (B0 := B) (B := B) (O := []) (Fr := fun B O H' => Go L H H' ∧ ∀ a ∈ O, H a = none) ⟨frDef, fun a ha => ⟨ha, (fun h => nomatch h)⟩, ⟨Go.refl, (fun _ h => nomatch h)⟩, start_rel N hv hB lb lf⟩ (hd ds n K' hR) ⟨fun k a => k.elim, fun k f l d => k.elim, fun k f l e hA => ?_, fun h _ => h.elim, fun h _ => h.elim⟩⟩
    exact q _ _ _ _ _ k f.1 l (f.2 _ (List.mem_singleton.mpr rfl)) e hA
end
/-- a new list is data, too -/
theorem spN_spD {R : List Sl → Nat → (List PyData → Nat → Prop) → Prop} {vs : List V} {H : Hp} {Q : VK} {E : XK} (h : spD (fun ds n K => R ds n fun xs m => K (.list xs) m) vs H Q E) : spN R vs H Q E := by
  obtain ⟨L, B, ds, n, K, hv, hB, lb, lf, hR, q⟩ := h
  exact ⟨L, B, ds, n, fun xs m => K (.list xs) m, hv, hB, lb, lf, hR, fun xs m a us H' k g l e1 e2 hA => q _ _ _ _ k g l (.lst (hB.ne e1) e2 hA.un)⟩
end Z

set_option Elab.async false
set_option linter.all false
set_option maxRecDepth 100000
set_option maxHeartbeats 400000
namespace Z
open PySem PySem.Spec PyProof.Rows L2
/-! ### list(reversed(xs)) -/
theorem lri_no_len : typeLookup (.type "list_reverseiterator") "__len__" = pure none := by rw [typeLookup_type, builtinLookup_eq_fast]; kernel_rfl
theorem lri_hint : typeLookup (.type "list_reverseiterator") "__length_hint__" = pure (some (.builtin "list_reverseiterator.__length_hint__")) := by rw [typeLookup_type, builtinLookup_eq_fast]; kernel_rfl
section
variable {prog : Program} {w : World} {A : Around}
theorem extend_rev {R S l : Addr} {items : Array Value} {res : Value} {Rz : Result → Shared → Prop} (hh : A.handled = none) (hSR : S ≠ R) (hlS : l ≠ S) (hlR : l ≠ R) :
    ∀ (k : Nat) (s : Shared) (acc : List Value) (c : Nat), k ≤ items.size → s.heap.IsRevIter R l ((k : Int) - 1) → s.heap.IsList l items → s.heap.get? S = some { cls := .type "list", dict := none, data := .seq acc.toArray c, slots := #[] } → acc.length + k ≤ 100000 →
    (∀ h' c', (∀ b o, b ≠ R → b ≠ S → s.heap.get? b = some o → h'.get? b = some o) → h'.get? S = some { cls := .type "list", dict := none, data := .seq (acc ++ (items.toList.take k).reverse).toArray c', slots := #[] } → Rz (.ok (.ret res)) { s with heap := h' }) →
    codeAny (model prog w) A (.builtin "list.extend.loop" ⟨[.ref S, .ref R, res], []⟩) Rz s := by
  intro k
  induction k with
  | zero =>
    intro s acc c hk hit hl eS la hR
    refine codeAny_builtin F.entry_extend_loop ?_
    rw [Around.under_plainId F.plain_extend_loop _]
    show wpAny _ A.in1 (pyNext (.ref R) >>= _) _ _ s
    refine wpAny_bind (wpAny_pyNext_rev_end hh (by simpa using hit) fun h' hx => ?_)
    refine wpAny_pure (hR h' c (fun b o hb _ e => hx b o hb e) ?_)
    rw [List.take_zero, List.reverse_nil, List.append_nil]
    exact hx S _ hSR eS
  | succ k ih =>
    intro s acc c hk hit hl eS la hR
    refine codeAny_builtin F.entry_extend_loop ?_
    rw [Around.under_plainId F.plain_extend_loop _]
    show wpAny _ A.in1 (pyNext (.ref R) >>= _) _ _ s
    have hk2 : k < items.size := by omega
    have hit' : s.heap.IsRevIter R l (k : Int) := by
      have : ((k + 1 : Nat) : Int) - 1 = (k : Int) := by omega
      rw [this] at hit
      exact hit
    refine wpAny_bind (wpAny_pyNext_rev_item (i := k) (x := items[k]) hit' hl (Array.getElem?_eq_getElem hk2) fun h' it' sb => ?_)
    have eS' : h'.get? S = some { cls := .type "list", dict := none, data := .seq acc.toArray c, slots := #[] } := (sb.2 S hSR).trans eS
    have lz : acc.toArray.size ≤ sizeLine := by simp only [List.size_toArray]; rw [sizeLine_eq]; omega
    show wpAny _ A.in1 (updateSeq S (·.push items[k]) >>= _) _ _ _
    refine wpAny_bind ?_
    have up : ∀ b o, b ≠ S → h'.get? b = some o → (h'.update S (Obj.mapSeq fun x => x.push items[k])).get? b = some o := fun b o hb e => (Heap.get?_update_other _ _ (Ne.symm hb)).trans e
    have eS2 := Heap.get?_update_self (Obj.mapSeq fun x => x.push items[k]) eS' rfl
    obtain ⟨c2, eS3⟩ : ∃ c2, (h'.update S (Obj.mapSeq fun x => x.push items[k])).get? S = some { cls := .type "list", dict := none, data := .seq (acc ++ [items[k]]).toArray c2, slots := #[] } := by
      rw [eS2]
      unfold Obj.mapSeq
      simp only [List.push_toArray]
      exact ⟨_, rfl⟩
    have etk : acc ++ (items.toList.take (k + 1)).reverse = (acc ++ [items[k]]) ++ (items.toList.take k).reverse := by
      rw [List.take_add_one, List.getElem?_eq_getElem (by simpa using hk2)]
      simp
    refine wpAny_updateSeq (s := { s with heap := h' }) eS' rfl (wpAny_pure ⟨plainId_quiet F.plain_extend_loop _, ih _ (acc ++ [items[k]]) c2 (by omega) (it'.at fun o e => up _ _ hSR.symm e) (hl.at fun o e => up _ _ hlS ((sb.2 l hlR).trans e)) eS3 (by simp; omega) fun h'' c' hk'' eS'' => ?_⟩) lz (by show (Array.push _ _).size ≤ sizeLine + 1; rw [Array.size_push]; omega)
    refine hR h'' c' (fun b o hb hbS e => hk'' b o hb hbS (up b o hbS ((sb.2 b hb).trans e))) ?_
    rw [etk]
    exact eS''
theorem lri_sub : isSubtype (.type "list_reverseiterator") (.type "list_reverseiterator") = pure true := by kernel_rfl
theorem call_list_rev {E : Value → Shared → Prop} {s : Shared} {R l : Addr} {items : Array Value} {Q : Value → Shared → Prop} (hh : A.handled = none) (hit : s.heap.IsRevIter R l ((items.size : Int) - 1)) (hl : s.heap.IsList l items) (hlR : l ≠ R) (hn : items.size ≤ 100000)
    (hQ : ∀ h' c, (∀ b o, b ≠ R → s.heap.get? b = some o → h'.get? b = some o) → h'.get? s.heap.objs.size = some { cls := .type "list", dict := none, data := .seq items.toList.reverse.toArray c, slots := #[] } → Q (.ref s.heap.objs.size) { s with heap := h' }) :
    wpAny (model prog w) A (call (.type "list") [.ref R]) Q E s := by
  have lR : R < s.heap.objs.size := by obtain ⟨_, o, _⟩ := hit; exact Heap.lt_size o
  have ll : l < s.heap.objs.size := by obtain ⟨_, o, _⟩ := hl; exact Heap.lt_size o
  refine callType_codes (Q₁ := fun obj s₁ => obj = .ref s.heap.objs.size ∧ s₁ = { s with heap := s.heap.push { cls := .type "list", data := .seq #[] } }) F.called_list (F.typeCall_list_1 _) F.entry_list_init
    (code_list_new _ ⟨rfl, rfl⟩) fun obj s₁ h₁ => ?_
  obtain ⟨rfl, rfl⟩ := h₁
  have hS : (s.heap.push { cls := .type "list", data := .seq #[] }).get? s.heap.objs.size = some { cls := .type "list", data := .seq #[] } := Heap.get?_push_size _ rfl
  refine ⟨⟨_, hS, rfl⟩, F.args_list_init_2 _ _, ?_⟩
  generalize hSS : s.heap.objs.size = S at *
  have up0 : ∀ b o, s.heap.get? b = some o → (s.heap.push { cls := .type "list", data := .seq #[] }).get? b = some o := fun b o e => Heap.get?_push_of_some _ e
  have old : ∀ b o, s.heap.get? b = some o → b ≠ S := fun b o e => by rw [← hSS]; exact Nat.ne_of_lt (Heap.lt_size e)
  generalize s.heap.push { cls := .type "list", data := .seq #[] } = h1 at *
  show wpAny _ A.in1.in1 (do let old ← Builtin.List.listItems (.ref S); Builtin.List.listUpdate (.ref S) (fun _ => #[]); letGo old.toList.reverse; Builtin.List.listExtendWith (.ref S) (.ref R) .none) _ _ _
  refine wpAny_bind ?_
  unfold Builtin.List.listItems
  refine wpAny_bind (wpAny_seqItems (s := { s with heap := h1 }) hS rfl (wpAny_pure ?_))
  show wpAny _ A.in1.in1 (updateSeq S (fun _ => #[]) >>= fun _ => letGo (#[] : Array Value).toList.reverse >>= fun _ => Builtin.List.listExtendWith (.ref S) (.ref R) .none) _ _ _
  refine wpAny_bind (wpAny_updateSeq (s := { s with heap := h1 }) hS rfl ?_)
  have hS2 := Heap.get?_update_self (Obj.mapSeq (fun _ => (#[] : Array Value))) hS rfl
  have up2 : ∀ b o, b ≠ S → h1.get? b = some o → (h1.update S (Obj.mapSeq (fun _ => (#[] : Array Value)))).get? b = some o := fun b o hb e => (Heap.get?_update_other _ _ (Ne.symm hb)).trans e
  refine wpAny_bind (wpAny_letGo ?_)
  have up3 : ∀ b o, s.heap.get? b = some o → (h1.update S (Obj.mapSeq (fun _ => (#[] : Array Value)))).get? b = some o := fun b o e => up2 b o (old b o e) (up0 b o e)
  generalize hh2 : h1.update S (Obj.mapSeq (fun _ => (#[] : Array Value))) = h2 at *
  have it2 : h2.IsRevIter R l ((items.size : Int) - 1) := hit.at fun o e => up3 _ _ e
  have hl2 : h2.IsList l items := hl.at fun o e => up3 _ _ e
  have hT : Shared.TypeIs { s with heap := h2 } (.ref R) "list_reverseiterator" := by
    obtain ⟨o, e, c, _⟩ := it2
    exact ⟨o, e, c⟩
  have hSR : S ≠ R := Nat.ne_of_gt lR
  unfold Builtin.List.listExtendWith
  refine wpAny_bind (wpAny_typeOf hT ?_)
  have b1 : Builtin.List.listSameRef (.ref S) (.ref R) = false := by simp [Builtin.List.listSameRef, hSR]
  have b2 : (Value.type "list_reverseiterator" == Value.type "list") = false := by decide
  have b3 : (Value.type "list_reverseiterator" == Value.type "tuple") = false := by decide
  simp only [b1, b2, b3, Bool.or_false, Bool.false_eq_true, if_false]
  refine wpAny_bind (wpAny_pyIter_revIter (s := { s with heap := h2 }) it2 ?_)
  refine wpAny_bind (wpAny_holding ?_)
  unfold Builtin.List.listLengthHint
  refine wpAny_bind (wpAny_specialOf hT lri_no_len ?_)
  show wpAny _ A.in1.in1 (specialOf (Value.ref R) (Str.ofString "__length_hint__") >>= _) _ _ _
  refine wpAny_bind (wpAny_specialOf hT lri_hint ?_)
  show wpAny _ A.in1.in1 (isInstance (Value.ref R) (.type "list_reverseiterator") >>= _) _ _ _
  refine wpAny_bind (wpAny_isInstance hT lri_sub ?_)
  rw [if_neg (by decide)]
  show wpAny _ A.in1.in1 (pure false) _ _ _
  refine wpAny_pure ?_
  rw [if_neg (by decide)]
  have hlS : l ≠ S := Nat.ne_of_lt ll
  refine wpAny_pure ⟨plainId_quiet F.plain_extend_loop _, extend_rev (A := A.in1) (items := items) hh hSR hlS hlR items.size _ [] _ (Nat.le_refl _) it2 hl2 hS2 (by simp; omega) fun h' c hk' eS' => ⟨rfl, hQ h' c (fun b o hb e => hk' b o hb (old b o e) (up3 b o e)) ?_⟩⟩
  rw [List.nil_append, List.take_of_length_le (by simp)] at eS'
  exact eS'
end
def tListRev (K : PySem.W.Frag) (ta : TA) : TE := fun σ H Q => ta σ H fun vs H1 => ∃ (a : Addr) (xs : List V), vs = [.ref a] ∧ SqL K H1 a xs ∧ xs.length ≤ 100000 ∧ ∀ l, H1 l = none → Q (.ref l) (upd H1 l (.lst xs.reverse))
theorem pe_listRev (K : PySem.W.Frag) {X : Cx} {e : Expr} {ta : TA} {p p2 pos pos2 : Pos} (hc : X.calm = true) (hgl : Gl X "list") (hml : X.mg "list" = none) (hgz : Gl X "reversed") (hmz : X.mg "reversed" = none) (ha : PA X [e] ta)
    (hs : starEach [e] X.env = [(false, eval e X.env)] := by rfl)
    (na : starEach [.Call (.Name "reversed" p2) [e] [] pos2] X.env = (false, eval (.Call (.Name "reversed" p2) [e] [] pos2) X.env) :: starEach [] X.env := by rfl) (hK : X.K = K := by rfl) :
    PE X (.Call (.Name "list" p) [.Call (.Name "reversed" p2) [e] [] pos2] [] pos) (tListRev K ta) := by
  subst hK
  refine ⟨fun pins s σ H Q I h => ?_⟩
  refine Call_ (ld_blt I hgl hml PyProof.Rows.boot_list (PyProof.Rows.callWith_type1 (args_cons (Call_ (ld_blt I hgz hmz PyProof.Rows.boot_reversed (PyProof.Rows.callWith_type1 (thn (ha.run pos2 pins s σ H _ I h) fun us s1 ⟨vs, H1, I1, r1, a, xs, ev, qx, lx, q⟩ => ?_) hs))) na) na))
  subst ev
  obtain ⟨u, rfl, ru⟩ := vals1 r1
  obtain rfl : u = Value.ref a := ru
  obtain ⟨js, rv, pl, hz⟩ := I1.list qx
  refine call_reversed_list pl.isList (args_nil ?_)
  have lj := rv.length
  have la : a < s1.heap.objs.size := by obtain ⟨_, o, _⟩ := pl.isList; exact Heap.lt_size o
  have up : ∀ b o, s1.heap.get? b = some o → (s1.heap.push (revObj a ((js.toArray.size : Int) - 1))).get? b = some o := fun b o e => Heap.get?_push_of_some _ e
  have hR : (s1.heap.push (revObj a ((js.toArray.size : Int) - 1))).get? s1.heap.objs.size = some (revObj a ((js.toArray.size : Int) - 1)) := Heap.get?_push_size _ rfl
  refine call_list_rev (s := { s1 with heap := s1.heap.push (revObj a ((js.toArray.size : Int) - 1)) }) (R := s1.heap.objs.size) (l := a) (items := js.toArray) (I1.ok.hd hc) ⟨_, hR, rfl, rfl⟩ (pl.isList.at fun o e => up _ _ e) (Nat.ne_of_lt la) (by simp; omega) fun h' c hk eS => ?_
  have hsz : s1.heap.objs.size ≤ (s1.heap.push (revObj a ((js.toArray.size : Int) - 1))).objs.size := Nat.le_of_lt (Heap.lt_size hR)
  refine ⟨.ref _, upd H1 _ (.lst xs.reverse), I1.laid (t' := s1.toks) (fun b o e => hk b o (Nat.ne_of_lt (Heap.lt_size e)) (up b o e)) hsz ⟨?_, js.reverse, c, rv.reverse, ?_⟩, rfl, q _ (I1.hok.fresh hsz)⟩
  · rw [List.length_reverse, sizeLine_eq]
    omega
  · simpa using eS
end Z

set_option Elab.async false
set_option linter.all false
set_option maxRecDepth 100000
set_option maxHeartbeats 4000000
namespace Z
open PySem PySem.Spec PyProof.Rows L2
/-! ### xs.extend(t), t a tuple -/
theorem list_extend_tupX (l : Addr) (items : Array Value) (n : Nat) (b : Addr) (items2 : Array Value) (n2 : Nat) (dd : Option Addr) (sl : Array (Option Value)) (hs0 : ¬(!items.isEmpty && Builtin.List.listTooLong (items.size + items2.size)) = true) (hs1 : items.size ≤ sizeLine) (hs2 : items.size + items2.size ≤ sizeLine + 1) :
    Meets (Builtin.«list.extend» ⟨[.ref l, .ref b], []⟩) (fun _ R s => s.heap.get? l = some { cls := .type "list", dict := none, data := .seq items n, slots := #[] } ∧ s.heap.get? b = some { cls := .type "tuple", dict := dd, data := .seq items2 n2, slots := sl } ∧ R (.ok (.ret Value.none)) { s with heap := s.heap.update l (Obj.mapSeq fun x => x ++ items2), toks := s.toks }) :=
  .of_wp fun prog w A R s h => by
    obtain ⟨hp, g, d, tk, os⟩ := s; obtain ⟨hl, hb, h⟩ := h; have f1 := AutoSeq1.idx_int; have f2 := AutoSeq1.sub_tuple_tuple; have f3 := AutoSeq1.sub_list_list; have f4 := AutoSeq1.sub_tuple_list; have f5 := AutoSeq1.sub_list_tuple;
    have hz' : (items ++ items2).size ≤ sizeLine + 1 := by rw [Array.size_append]; exact hs2
    wp_walk using (wpAny_updateSeq hl rfl (hz := hs1) (_hz' := hz')), wpAny_loadPart' hl, wpAny_loadPart' hb; exact ⟨_, rfl, h⟩
def rExtendT (K : PySem.W.Frag) : V → List V → Hp → VK → Prop := fun x vs H Q => ∃ l b xs zs, x = .ref l ∧ vs = [.ref b] ∧ H l = some (.lst xs) ∧ SqT K H b zs ∧ xs.length + zs.length ≤ sizeLine ∧ Q .non (upd H l (.lst (xs ++ zs)))
theorem mt_extendT (K : PySem.W.Frag) {X : Cx} (hK : X.K = K := by rfl) : MtR X "list.extend" (rExtendT K) := by
  subst hK
  intro pins s σ H x vs v us Q I rx rv h
  obtain ⟨l, b, xs, zs, rfl, rfl, hH, hB, hz, q⟩ := h
  cases rx
  obtain ⟨u, rfl, ru⟩ := rv.one
  cases ru
  obtain ⟨z, its, n, r, hl, e⟩ := I.lstM hH
  obtain ⟨its2, r2, ⟨⟨cls, dd, data, sl⟩, ho, hc, n2, hd⟩, hs⟩ := I.tuple hB
  simp only at hc hd
  subst hc hd
  have hl2 := r2.length
  have hsz : its.toArray.size + its2.toArray.size ≤ sizeLine := by rw [List.size_toArray, List.size_toArray]; omega
  have hlong : ¬ (!its.toArray.isEmpty && Builtin.List.listTooLong (its.toArray.size + its2.toArray.size)) = true := by
    rw [notLongL hsz, Bool.and_false]
    exact Bool.false_ne_true
  refine call_meets F.slot_list_extend ⟨_, e, rfl⟩ F.entry_list_extend (F.args_list_extend_2 _ _)
    (list_extend_tupX l its.toArray n b its2.toArray n2 dd sl hlong (by rw [List.size_toArray]; omega) (by omega)) ⟨e, ho, ?_⟩
  refine ⟨.non, _, I.lset (its' := its ++ its2) hH e (by simp) (r.append r2) ?_, rfl, q⟩
  rw [List.length_append]
  omega
def fExtT (i : Nat) (fe : DE) : DS := fun E δ n => ∃ xs, δ[i]? = some (.o xs) ∧ fe δ n fun d m => ∃ ys, d = .tuple ys ∧ xs.length + ys.length ≤ 100000 ∧ E.nx (δ.set i (.o (xs ++ ys))) m
theorem ss_extT {K : PySem.W.Frag} {te : TE} {fe : DE} {i : Nat} (h : SE te fe) : SS (tDrop (tBM K "list" (rExtendT K) (tVar i) (tCons te tNil))) (fExtT i fe) := ⟨fun at' ⟨xs, ei, k⟩ e => by
  obtain ⟨a, vs, ea, ha, hs, hA⟩ := at'.rel.oo i xs ei
  refine ⟨_, ea, .inl ⟨rfl, vs, SqL.of hs⟩, h.run at'.rel k fun d m v H' ⟨ys, e1, l1, k2⟩ g l dv => ?_⟩
  subst e1
  have a2 := at'.go g l
  have hs2 := g.k a _ (at'.rel.ob a ha).2 hs
  have hA2 := hA.g (g.w at'.rel.lb)
  have lv := hA.len
  obtain ⟨b, ws, rfl, nb, hb, hB⟩ := dv.tupI
  have lw := hB.len
  exact ⟨a, b, vs, ws, rfl, rfl, hs2, SqT.of hb, Nat.le_of_lt (sz (by omega)), e.nx k2 (a2.mut ei ea ha (hA2.app hB))⟩⟩
end Z

set_option Elab.async false
set_option linter.all false
set_option maxRecDepth 100000
set_option maxHeartbeats 400000
namespace Z
open PySem PySem.Spec PyProof.Rows L2
/-! ### the greatest, the least of three -/
def mx3 (a b c : Int) : Int := if b > a then (if c > b then c else b) else (if c > a then c else a)
def mn3 (a b c : Int) : Int := if b < a then (if c < b then c else b) else (if c < a then c else a)
def r3I (g : Int → Int → Int → Int) : List V → Hp → VK → Prop := fun xs H Q => ∃ i j l, xs = [.int i, .int j, .int l] ∧ Q (.int (g i j l)) H
theorem call_max3 {X : Cx} (hc : X.calm = true) : CallR X (.builtin "max") (r3I mx3) := by
  intro pins s σ H xs us Q I r h
  obtain ⟨i, j, l, rfl, q⟩ := h
  obtain ⟨u1, u2, u3, rfl, ⟨t1, rfl⟩, ⟨t2, rfl⟩, ⟨t3, rfl⟩⟩ : ∃ u1 u2 u3, us = [u1, u2, u3] ∧ RelV (.int i) u1 ∧ RelV (.int j) u2 ∧ RelV (.int l) u3 := by
    cases r with
    | cons r1 r => cases r with
      | cons r2 r => cases r with
        | cons r3 r => cases r; exact ⟨_, _, _, rfl, r1, r2, r3⟩
  refine max_three_ints (I.ok.hd hc) fun h' tk k => ⟨_, H, I.kept k, ?_, q⟩
  unfold mx3
  split <;> split <;> exact ⟨_, rfl⟩
theorem call_min3 {X : Cx} (hc : X.calm = true) : CallR X (.builtin "min") (r3I mn3) := by
  intro pins s σ H xs us Q I r h
  obtain ⟨i, j, l, rfl, q⟩ := h
  obtain ⟨u1, u2, u3, rfl, ⟨t1, rfl⟩, ⟨t2, rfl⟩, ⟨t3, rfl⟩⟩ : ∃ u1 u2 u3, us = [u1, u2, u3] ∧ RelV (.int i) u1 ∧ RelV (.int j) u2 ∧ RelV (.int l) u3 := by
    cases r with
    | cons r1 r => cases r with
      | cons r2 r => cases r with
        | cons r3 r => cases r; exact ⟨_, _, _, rfl, r1, r2, r3⟩
  refine min_three_ints (I.ok.hd hc) fun h' tk k => ⟨_, H, I.kept k, ?_, q⟩
  unfold mn3
  split <;> split <;> exact ⟨_, rfl⟩
theorem sc_int3 {g : Int → Int → Int → Int} : SC (r3I g) (fun ds K => ∃ i j l, ds = [.int i, .int j, .int l] ∧ K (.int (g i j l))) := ⟨fun hB hA ⟨i, j, l, e, k⟩ q => by
  subst e
  cases hA with
  | cons h1 h2 => cases h2 with
    | cons h2 h3 => cases h3 with
      | cons h3 h4 =>
        cases h4
        cases h1
        cases h2
        cases h3
        exact ⟨i, j, l, rfl, q _ _ _ k (Same.refl _) (.int _)⟩⟩
/-! ### defs that show something: called where nothing is being shown -/
structure FnS (P : Program) (w : World) (K : PySem.W.Frag) (mg : Str → Option Value) (base : Heap) (k : Nat) (f : Addr) (fd : FuncData) (ps : List Str) (sp : Sp) : Prop where
  len : ∀ vs H Q E, sp vs H Q E → vs.length = ps.length
  g : FnG P w K mg base k f fd ps sp
section
variable {X : Cx} {k : Nat} {f : Addr} {fd : FuncData} {ps : List Str} {sp : Sp} {dvs : List V} {ds : List Value} {x : Str} {p pos : Pos} {e : Expr} {es : List Expr} {t : TA}
theorem run_fnS {pins : List (Addr × Obj)} {σ : L2.St} {H : Hp} {s : Shared} {Q : VK} {us : List Value} {vs : List V} (F : FnS X.prog X.w X.K X.mg X.base k f fd ps sp) (hA : X.A.guards = some []) (hr : Room k X.A) (hb : Binds X.K fd ps ds) (hd : Vals dvs ds)
    (I : Inv X pins σ H s) (r : Vals vs us) (h : sp (vs ++ dvs) H Q E0) : wpAny (model X.prog X.w) X.A (call (.ref f) us) (EP X pins σ Q) X.xe s := by
  have r2 : Vals (vs ++ dvs) (us ++ ds) := r.append hd
  have hl : (us ++ ds).length = ps.length := by rw [← r2.length]; exact F.len _ _ _ _ h
  refine wpAny_call (codeAny_mono (F.g.run X.A X.stack s H ⟨us, []⟩ (us ++ ds) (vs ++ dvs) Q E0 hA hr I.env0 (hb s us I.kIn hl) r2 h) fun r s' hq => ?_)
  cases r with
  | error e => exact hq.elim
  | ok fl =>
    cases fl with
    | ret u => exact I.after hq
    | next => exact False.elim hq
    | brk => exact False.elim hq
    | cont => exact False.elim hq
theorem pe_callS (F : FnS X.prog X.w X.K X.mg X.base k f fd ps sp) (hA : X.A.guards = some []) (hr : Room k X.A) (hg : Gl X x) (hm : X.mg x = some (.ref f)) (hk : PySem.W.keepIn X.K (.ref f) = true) (hb : Binds X.K fd ps ds) (hd : Vals dvs ds)
    (ha : PA X (e :: es) t) (hdb : (x == ("__debug__" : Str)) = false := by decide) (he : starEach (e :: es) X.env = (false, eval e X.env) :: starEach es X.env := by rfl) (hpl : (backTo pos (starEach es X.env)).any (·.1) = false := by rfl) :
    PE X (.Call (.Name x p) (e :: es) [] pos) (tCall sp dvs E0 t) := by
  refine ⟨fun pins s σ H Q I h => ?_⟩
  refine wpAny_Call_Name_kw (ld_glob I hg hm ?_ hdb)
  refine PySem.W.callWith_K (h₀ := X.base) I.ok.mod.kin hk (thn (ha.run pos pins s σ H _ I h) fun us s1 ⟨vs, H1, I1, r, q⟩ => ⟨I1.kIn, ?_⟩) he hpl
  exact run_fnS F hA hr hb hd I1 r q
end
section
variable {P : Program} {w : World} {K : PySem.W.Frag} {mg : Str → Option Value} {base : Heap} {x qual : Str} {st : Stmt} {f : Addr} {fd : FuncData} {N ps : List Str} {k : Nat}
theorem okDS {R : List Sl → Nat → DQ → Prop} (F : Fun K x qual st f fd) (S : FnScope N ps (defScope st)) (fs : DS)
    (hbody : ∀ (cdv : Value) (A : Around) (outer : List Env) (s : Shared) (H : Hp) (E : XK), A.guards = some [] → Room k (A.deeper (envOfC qual (defScope st) s.heap.objs.size f cdv)) → ∃ t, PSs (cxOf CX0 P w K mg base N qual (defScope st) f cdv A outer s H E).nox (defBody st) t ∧ SS t fs)
    (len : ∀ ds n Q, R ds n Q → ds.length = ps.length) (hd : ∀ ds n Q, R ds n Q → fs { nx := fun _ m => Q .none m, rt := Q, rn := fun xs m => Q (.list xs) m } (startD N ds) n) : FnS P w K mg base (k + 1) f fd ps (spD R) := by
  have hl : ∀ (vs : List V) (H : Hp) (Q : VK) (E : XK), spD R vs H Q E → vs.length = ps.length := fun vs H Q E h => by
    obtain ⟨L, B, ds, n, K', hv, _, _, _, hR, _⟩ := h
    rw [hv.len]
    exact len ds n K' hR
  refine ⟨hl, fn_g F S hl (fun cdv A outer s H vs Q E hA hr h => ?_)⟩
  obtain ⟨L, B, ds, n, K', hv, hB, lb, lf, hR, q⟩ := h
  obtain ⟨t, ht, hs⟩ := hbody cdv A outer s H E hA hr
  refine ⟨t, ht, hs.run (L := L) (B0 := B) (B := B) (O := []) (Fr := fun B O H' => Go L H H' ∧ ∀ a ∈ O, H a = none) ⟨frDef, fun a ha => ⟨ha, (fun h => nomatch h)⟩, ⟨Go.refl, (fun _ h => nomatch h)⟩, start_rel N hv hB lb lf⟩ (hd ds n K' hR) ⟨fun k a => ?_, fun k f l d => ?_, fun k f l e hA => ?_, fun h _ => h.elim, fun h _ => h.elim⟩⟩
  · exact q _ _ _ _ k a.fr.1 a.rel.lf .non
  · exact q _ _ _ _ k f.1 l d
  · exact q _ _ _ _ k f.1 l (.lst (hB.ne (f.2 _ (List.mem_singleton.mpr rfl))) e hA.un)
end
def rdStr : List PyData → (PyData → Prop) → Prop := fun ds K => ∃ d : PyData, ds = [d] ∧ (∃ xs, d = .list xs ∨ d = .tuple xs) ∧ d.showable = true ∧ d.hasDict = false ∧ d.depth ≤ 40 ∧ d.shown.length ≤ sizeLine ∧ K (.str d.shown)
theorem sc_str {K : PySem.W.Frag} : SC (rStrD K) rdStr := ⟨fun hB hA ⟨d, e, ⟨xs, e2⟩, h1, h2, h3, h4, k⟩ q => by
  subst e
  cases hA with
  | cons g1 g2 =>
    cases g2
    have dp := g1.dP (K := K)
    rcases e2 with e2 | e2
    · subst e2
      obtain ⟨a, vs, rfl, _, ha, hC⟩ := g1.lst2
      exact ⟨a, _, rfl, dp, h1, h2, h3, h4, q _ _ _ k (Same.refl _) (.str _)⟩
    · subst e2
      obtain ⟨a, vs, rfl, _, ha, hC⟩ := g1.tupI
      exact ⟨a, _, rfl, dp, h1, h2, h3, h4, q _ _ _ k (Same.refl _) (.str _)⟩⟩
/-! ### a law that goes through its numbers, with a left-over list each -/
/-- the loop's body behind the left-over list L, by its data alone; a: the script -/
theorem law_turn {L a : Addr} {H0 H : Hp} {σ : L2.St} {δ : List Sl} {T : TS} {f : DS} {n : Nat} {D : Ends} (hs : SS T f) (hl : Lf L H n) (h0 : H0 L = none) (s0 : Same H0 H) (len : σ.length = δ.length) (hn : ∀ (i : Nat) s, δ[i]? = some s → s = .no ∨ (∃ z, s = .d (.int z) ∧ σ[i]? = some (some (.int z))) ∨ (s = .l ∧ σ[i]? = some (some (.ref L))) ∨ (∃ v, s = .v v ∧ σ[i]? = some (some v)))
    (hd : f { nx := fun δ' _ => δ'[0]? = some (.v (.ref a)) ∧ δ'.length = δ.length, rt := fun _ _ => False, rn := fun _ _ => False, ct := fun δ' _ => δ'[0]? = some (.v (.ref a)) ∧ δ'.length = δ.length } δ n) (hx : ∀ σ' H', σ'[0]? = some (some (.ref a)) → σ'.length = σ.length → Same H0 H' → D.nx σ' H' ∧ D.ct σ' H') : T D σ H := by
  have s1 : ∀ {B O : List Addr} {H' : Hp}, (Go [L] H H' ∧ ∀ a ∈ O, H a = none) → Same H0 H' := fun {B O H'} h a o e => h.1.k a o (fun z => by
    rw [List.mem_singleton.mp z, h0] at e
    cases e) (s0 a o e)
  refine hs.run (L := [L]) (B0 := [L]) (B := [L]) (O := []) (Fr := fun B O H' => Go [L] H H' ∧ ∀ a ∈ O, H a = none) (n := n) (δ := δ) ⟨frDef, fun a ha => ⟨ha, (fun h => nomatch h)⟩, ⟨Go.refl, (fun _ h => nomatch h)⟩, ?_⟩ hd ⟨fun k a => ?_, fun h => h.elim, fun h => h.elim, fun h => h.elim, fun k a => ?_⟩
  · exact {
      len := len
      dd := fun i x e => by
        rcases hn i _ e with h | ⟨z, h, g⟩ | ⟨h, g⟩ | ⟨z, h, g⟩ <;> cases h
        exact ⟨_, g, .int _⟩
      oo := fun i x e => by
        rcases hn i _ e with h | ⟨z, h, g⟩ | ⟨h, g⟩ | ⟨z, h, g⟩ <;> cases h
      uq := fun i j xs ys a e => by
        rcases hn i _ e with h | ⟨z, h, g⟩ | ⟨h, g⟩ | ⟨z, h, g⟩ <;> cases h
      ll := fun i e => by
        rcases hn i _ e with h | ⟨z, h, g⟩ | ⟨h, g⟩ | ⟨z, h, g⟩ <;> cases h
        exact ⟨L, List.mem_singleton.mpr rfl, g⟩
      vv := fun i u e => by
        rcases hn i _ e with h | ⟨z, h, g⟩ | ⟨h, g⟩ | ⟨z, h, g⟩ <;> cases h
        exact g
      bk := hl.bk
      ob := fun _ h => nomatch h
      lb := fun _ h => h
      lf := fun a ha => by rw [List.mem_singleton.mp ha]; exact hl }
  · exact (hx _ _ (a.rel.vv 0 _ k.1) (by rw [a.rel.len, k.2, len]) (s1 (B := []) a.fr)).1
  · exact (hx _ _ (a.rel.vv 0 _ k.1) (by rw [a.rel.len, k.2, len]) (s1 (B := []) a.fr)).2
end Z

set_option Elab.async false
set_option linter.all false
set_option maxRecDepth 100000
namespace Z
open PySem PySem.Spec PyProof.Rows L2
def topS (i : Nat) : Stmt := PySem.Challenge.pw_fewcolours_k22_papers_of_the_nearest.main.body.getD i (.Pass ⟨0, 0, 0, 0⟩)
abbrev s_is_number : Stmt := topS 1
abbrev N_is_number : List Str := ["thing"]
theorem sc_is_number : FnScope N_is_number ["thing"] (defScope s_is_number) := ⟨rfl, rfl, rfl, by decide +kernel, rfl, by decide +kernel, by decide +kernel⟩
abbrev s_are_rising : Stmt := topS 2
abbrev N_are_rising : List Str := ["things", "thing", "a", "b"]
theorem sc_are_rising : FnScope N_are_rising ["things"] (defScope s_are_rising) := ⟨rfl, rfl, rfl, by decide +kernel, rfl, by decide +kernel, by decide +kernel⟩
abbrev s_is_colour : Stmt := topS 3
abbrev N_is_colour : List Str := ["thing", "wide", "number"]
theorem sc_is_colour : FnScope N_is_colour ["thing", "wide"] (defScope s_is_colour) := ⟨rfl, rfl, rfl, by decide +kernel, rfl, by decide +kernel, by decide +kernel⟩
abbrev s_apart : Stmt := topS 4
abbrev N_apart : List Str := ["one", "other", "a", "b"]
theorem sc_apart : FnScope N_apart ["one", "other"] (defScope s_apart) := ⟨rfl, rfl, rfl, by decide +kernel, rfl, by decide +kernel, by decide +kernel⟩
abbrev s_is_box : Stmt := topS 6
abbrev N_is_box : List Str := ["thing", "wide", "low", "high", "a", "b"]
theorem sc_is_box : FnScope N_is_box ["thing", "wide"] (defScope s_is_box) := ⟨rfl, rfl, rfl, by decide +kernel, rfl, by decide +kernel, by decide +kernel⟩
abbrev s_holds : Stmt := topS 7
abbrev N_holds : List Str := ["box", "colour", "low", "high", "a", "n", "b"]
theorem sc_holds : FnScope N_holds ["box", "colour"] (defScope s_holds) := ⟨rfl, rfl, rfl, by decide +kernel, rfl, by decide +kernel, by decide +kernel⟩
abbrev s_near_box : Stmt := topS 8
abbrev N_near_box : List Str := ["colour", "box", "low", "high", "closest", "a", "n", "b"]
theorem sc_near_box : FnScope N_near_box ["colour", "box"] (defScope s_near_box) := ⟨rfl, rfl, rfl, by decide +kernel, rfl, by decide +kernel, by decide +kernel⟩
abbrev s_rank_of : Stmt := topS 10
abbrev N_rank_of : List Str := ["palette", "colour", "number"]
theorem sc_rank_of : FnScope N_rank_of ["palette", "colour", "number"] (defScope s_rank_of) := ⟨rfl, rfl, rfl, by decide +kernel, rfl, by decide +kernel, by decide +kernel⟩
abbrev s_are_some : Stmt := topS 12
abbrev N_are_some : List Str := ["palette", "numbers"]
theorem sc_are_some : FnScope N_are_some ["palette", "numbers"] (defScope s_are_some) := ⟨rfl, rfl, rfl, by decide +kernel, rfl, by decide +kernel, by decide +kernel⟩
abbrev s_is_passed : Stmt := topS 13
abbrev N_is_passed : List Str := ["palette", "thing", "box", "numbers"]
theorem sc_is_passed : FnScope N_is_passed ["palette", "thing"] (defScope s_is_passed) := ⟨rfl, rfl, rfl, by decide +kernel, rfl, by decide +kernel, by decide +kernel⟩
abbrev s_is_paper : Stmt := topS 14
abbrev N_is_paper : List Str := ["palette", "thing", "looked", "passed", "both", "each", "box", "numbers", "number"]
theorem sc_is_paper : FnScope N_is_paper ["palette", "thing"] (defScope s_is_paper) := ⟨rfl, rfl, rfl, by decide +kernel, rfl, by decide +kernel, by decide +kernel⟩
abbrev s_is_behind : Stmt := topS 15
abbrev N_is_behind : List Str := ["palette", "colour", "told", "box", "numbers", "number"]
theorem sc_is_behind : FnScope N_is_behind ["palette", "colour", "told", "box", "numbers"] (defScope s_is_behind) := ⟨rfl, rfl, rfl, by decide +kernel, rfl, by decide +kernel, by decide +kernel⟩
abbrev s_shows_nearest : Stmt := topS 16
abbrev N_shows_nearest : List Str := ["palette", "colour", "number", "paper", "looked", "passed", "told", "other", "box", "numbers"]
theorem sc_shows_nearest : FnScope N_shows_nearest ["palette", "colour", "number", "paper"] (defScope s_shows_nearest) := ⟨rfl, rfl, rfl, by decide +kernel, rfl, by decide +kernel, by decide +kernel⟩
abbrev s_l_mix : Stmt := topS 18
abbrev N_l_mix : List Str := ["_law_cell", "_law_k", "_law_m"]
theorem sc_l_mix : FnScope N_l_mix ["_law_cell", "_law_k"] (defScope s_l_mix) := ⟨rfl, rfl, rfl, by decide +kernel, rfl, by decide +kernel, by decide +kernel⟩
abbrev s_l_left : Stmt := topS 19
abbrev N_l_left : List Str := ["_law_script", "_law_k", "_law_cell"]
theorem sc_l_left : FnScope N_l_left ["_law_script", "_law_k"] (defScope s_l_left) := ⟨rfl, rfl, rfl, by decide +kernel, rfl, by decide +kernel, by decide +kernel⟩
abbrev s_l_pick : Stmt := topS 20
abbrev N_l_pick : List Str := ["_law_left_here", "_law_many", "_law_digit"]
theorem sc_l_pick : FnScope N_l_pick ["_law_left_here", "_law_many"] (defScope s_l_pick) := ⟨rfl, rfl, rfl, by decide +kernel, rfl, by decide +kernel, by decide +kernel⟩
abbrev s_l_kind : Stmt := topS 21
abbrev N_l_kind : List Str := ["_law_left_here"]
theorem sc_l_kind : FnScope N_l_kind ["_law_left_here"] (defScope s_l_kind) := ⟨rfl, rfl, rfl, by decide +kernel, rfl, by decide +kernel, by decide +kernel⟩
abbrev s_l_colour : Stmt := topS 22
abbrev N_l_colour : List Str := ["_law_left_here", "_law_kind_here", "_law_wide", "_law_span", "_law_place"]
theorem sc_l_colour : FnScope N_l_colour ["_law_left_here", "_law_kind_here"] (defScope s_l_colour) := ⟨rfl, rfl, rfl, by decide +kernel, rfl, by decide +kernel, by decide +kernel⟩
abbrev s_l_palette : Stmt := topS 23
abbrev N_l_palette : List Str := ["_law_left_here", "_law_kind_here", "_law_many", "_law_found", "_law_k", "_law_colour_here"]
theorem sc_l_palette : FnScope N_l_palette ["_law_left_here", "_law_kind_here"] (defScope s_l_palette) := ⟨rfl, rfl, rfl, by decide +kernel, rfl, by decide +kernel, by decide +kernel⟩
abbrev s_l_asked : Stmt := topS 24
abbrev N_l_asked : List Str := ["_law_left_here", "_law_kind_here", "_law_palette_here", "_law_one", "_law_other", "_law_way", "_law_number", "_law_a", "_law_b", "_law_place"]
theorem sc_l_asked : FnScope N_l_asked ["_law_left_here", "_law_kind_here", "_law_palette_here"] (defScope s_l_asked) := ⟨rfl, rfl, rfl, by decide +kernel, rfl, by decide +kernel, by decide +kernel⟩
abbrev s_l_apart : Stmt := topS 25
abbrev N_l_apart : List Str := ["_law_one", "_law_other", "_law_a", "_law_b"]
theorem sc_l_apart : FnScope N_l_apart ["_law_one", "_law_other"] (defScope s_l_apart) := ⟨rfl, rfl, rfl, by decide +kernel, rfl, by decide +kernel, by decide +kernel⟩
abbrev s_l_nearest : Stmt := topS 26
abbrev N_l_nearest : List Str := ["_law_palette_here", "_law_colour_here", "_law_k", "_law_one"]
theorem sc_l_nearest : FnScope N_l_nearest ["_law_palette_here", "_law_colour_here"] (defScope s_l_nearest) := ⟨rfl, rfl, rfl, by decide +kernel, rfl, by decide +kernel, by decide +kernel⟩
abbrev s_l_shuffled : Stmt := topS 27
abbrev N_l_shuffled : List Str := ["_law_left_here", "_law_some", "_law_found", "_law_one"]
theorem sc_l_shuffled : FnScope N_l_shuffled ["_law_left_here", "_law_some"] (defScope s_l_shuffled) := ⟨rfl, rfl, rfl, by decide +kernel, rfl, by decide +kernel, by decide +kernel⟩
abbrev s_l_box : Stmt := topS 28
abbrev N_l_box : List Str := ["_law_colours", "_law_wide", "_law_low", "_law_place", "_law_colour_here"]
theorem sc_l_box : FnScope N_l_box ["_law_colours"] (defScope s_l_box) := ⟨rfl, rfl, rfl, by decide +kernel, rfl, by decide +kernel, by decide +kernel⟩
abbrev s_l_near : Stmt := topS 29
abbrev N_l_near : List Str := ["_law_colour_here", "_law_box_here", "_law_far", "_law_number", "_law_low", "_law_high", "_law_by"]
theorem sc_l_near : FnScope N_l_near ["_law_colour_here", "_law_box_here"] (defScope s_l_near) := ⟨rfl, rfl, rfl, by decide +kernel, rfl, by decide +kernel, by decide +kernel⟩
abbrev s_l_all_of : Stmt := topS 30
abbrev N_l_all_of : List Str := ["_law_palette_here"]
theorem sc_l_all_of : FnScope N_l_all_of ["_law_palette_here"] (defScope s_l_all_of) := ⟨rfl, rfl, rfl, by decide +kernel, rfl, by decide +kernel, by decide +kernel⟩
abbrev s_l_turns : Stmt := topS 31
abbrev N_l_turns : List Str := ["_law_palette_here", "_law_colour_here", "_law_k", "_law_one"]
theorem sc_l_turns : FnScope N_l_turns ["_law_palette_here", "_law_colour_here"] (defScope s_l_turns) := ⟨rfl, rfl, rfl, by decide +kernel, rfl, by decide +kernel, by decide +kernel⟩
abbrev s_l_paper_made : Stmt := topS 32
abbrev N_l_paper_made : List Str := ["_law_left_here", "_law_palette_here", "_law_colour_here", "_law_number", "_law_told", "_law_rest", "_law_looked", "_law_passed", "_law_many", "_law_some", "_law_low", "_law_high", "_law_box_here", "_law_one", "_law_n"]
theorem sc_l_paper_made : FnScope N_l_paper_made ["_law_left_here", "_law_palette_here", "_law_colour_here", "_law_number"] (defScope s_l_paper_made) := ⟨rfl, rfl, rfl, by decide +kernel, rfl, by decide +kernel, by decide +kernel⟩
abbrev s_l_as_due : Stmt := topS 33
abbrev N_l_as_due : List Str := ["_law_palette_here", "_law_colour_here", "_law_number", "_law_paper", "_law_due", "_law_ahead", "_law_found"]
theorem sc_l_as_due : FnScope N_l_as_due ["_law_palette_here", "_law_colour_here", "_law_number", "_law_paper", "_law_due"] (defScope s_l_as_due) := ⟨rfl, rfl, rfl, by decide +kernel, rfl, by decide +kernel, by decide +kernel⟩
abbrev s_l_ties_right : Stmt := topS 34
abbrev N_l_ties_right : List Str := ["_law_palette_here", "_law_colour_here", "_law_turns_here", "_law_square", "_law_number", "_law_ties", "_law_others", "_law_told", "_law_passed", "_law_far", "_law_one"]
theorem sc_l_ties_right : FnScope N_l_ties_right ["_law_palette_here", "_law_colour_here"] (defScope s_l_ties_right) := ⟨rfl, rfl, rfl, by decide +kernel, rfl, by decide +kernel, by decide +kernel⟩
abbrev s_law : Stmt := topS 35
abbrev N_law : List Str := ["_law_script", "_law_k", "_law_left_here", "_law_kind_here", "_law_palette_here", "_law_turn", "_law_colour_here", "_law_number", "_law_paper", "_law_other", "_law_beside"]
theorem sc_law : FnScope N_law ["_law_script"] (defScope s_law) := ⟨rfl, rfl, rfl, by decide +kernel, rfl, by decide +kernel, by decide +kernel⟩
structure Tx (K : PySem.W.Frag) (mg : Str → Option Value) where
  f_is_number : Addr
  d_is_number : FuncData
  F_is_number : Fun K "is_number" "is_number" s_is_number f_is_number d_is_number
  b_is_number : Binds K d_is_number ["thing"] []
  g_is_number : mg "is_number" = some (.ref f_is_number)
  f_are_rising : Addr
  d_are_rising : FuncData
  F_are_rising : Fun K "are_rising" "are_rising" s_are_rising f_are_rising d_are_rising
  b_are_rising : Binds K d_are_rising ["things"] []
  g_are_rising : mg "are_rising" = some (.ref f_are_rising)
  f_is_colour : Addr
  d_is_colour : FuncData
  F_is_colour : Fun K "is_colour" "is_colour" s_is_colour f_is_colour d_is_colour
  b_is_colour : Binds K d_is_colour ["thing", "wide"] []
  g_is_colour : mg "is_colour" = some (.ref f_is_colour)
  f_apart : Addr
  d_apart : FuncData
  F_apart : Fun K "apart" "apart" s_apart f_apart d_apart
  b_apart : Binds K d_apart ["one", "other"] []
  g_apart : mg "apart" = some (.ref f_apart)
  f_is_box : Addr
  d_is_box : FuncData
  F_is_box : Fun K "is_box" "is_box" s_is_box f_is_box d_is_box
  b_is_box : Binds K d_is_box ["thing", "wide"] []
  g_is_box : mg "is_box" = some (.ref f_is_box)
  f_holds : Addr
  d_holds : FuncData
  F_holds : Fun K "holds" "holds" s_holds f_holds d_holds
  b_holds : Binds K d_holds ["box", "colour"] []
  g_holds : mg "holds" = some (.ref f_holds)
  f_near_box : Addr
  d_near_box : FuncData
  F_near_box : Fun K "near_box" "near_box" s_near_box f_near_box d_near_box
  b_near_box : Binds K d_near_box ["colour", "box"] []
  g_near_box : mg "near_box" = some (.ref f_near_box)
  f_rank_of : Addr
  d_rank_of : FuncData
  F_rank_of : Fun K "rank_of" "rank_of" s_rank_of f_rank_of d_rank_of
  b_rank_of : Binds K d_rank_of ["palette", "colour", "number"] []
  g_rank_of : mg "rank_of" = some (.ref f_rank_of)
  f_are_some : Addr
  d_are_some : FuncData
  F_are_some : Fun K "are_some" "are_some" s_are_some f_are_some d_are_some
  b_are_some : Binds K d_are_some ["palette", "numbers"] []
  g_are_some : mg "are_some" = some (.ref f_are_some)
  f_is_passed : Addr
  d_is_passed : FuncData
  F_is_passed : Fun K "is_passed" "is_passed" s_is_passed f_is_passed d_is_passed
  b_is_passed : Binds K d_is_passed ["palette", "thing"] []
  g_is_passed : mg "is_passed" = some (.ref f_is_passed)
  f_is_paper : Addr
  d_is_paper : FuncData
  F_is_paper : Fun K "is_paper" "is_paper" s_is_paper f_is_paper d_is_paper
  b_is_paper : Binds K d_is_paper ["palette", "thing"] []
  g_is_paper : mg "is_paper" = some (.ref f_is_paper)
  f_is_behind : Addr
  d_is_behind : FuncData
  F_is_behind : Fun K "is_behind" "is_behind" s_is_behind f_is_behind d_is_behind
  b_is_behind : Binds K d_is_behind ["palette", "colour", "told", "box", "numbers"] []
  g_is_behind : mg "is_behind" = some (.ref f_is_behind)
  f_shows_nearest : Addr
  d_shows_nearest : FuncData
  F_shows_nearest : Fun K "shows_nearest" "shows_nearest" s_shows_nearest f_shows_nearest d_shows_nearest
  b_shows_nearest : Binds K d_shows_nearest ["palette", "colour", "number", "paper"] []
  g_shows_nearest : mg "shows_nearest" = some (.ref f_shows_nearest)
  f_l_mix : Addr
  d_l_mix : FuncData
  F_l_mix : Fun K "_law_mix" "_law_mix" s_l_mix f_l_mix d_l_mix
  b_l_mix : Binds K d_l_mix ["_law_cell", "_law_k"] []
  g_l_mix : mg "_law_mix" = some (.ref f_l_mix)
  f_l_left : Addr
  d_l_left : FuncData
  F_l_left : Fun K "_law_left" "_law_left" s_l_left f_l_left d_l_left
  b_l_left : Binds K d_l_left ["_law_script", "_law_k"] []
  g_l_left : mg "_law_left" = some (.ref f_l_left)
  f_l_pick : Addr
  d_l_pick : FuncData
  F_l_pick : Fun K "_law_pick" "_law_pick" s_l_pick f_l_pick d_l_pick
  b_l_pick : Binds K d_l_pick ["_law_left_here", "_law_many"] []
  g_l_pick : mg "_law_pick" = some (.ref f_l_pick)
  f_l_kind : Addr
  d_l_kind : FuncData
  F_l_kind : Fun K "_law_kind" "_law_kind" s_l_kind f_l_kind d_l_kind
  b_l_kind : Binds K d_l_kind ["_law_left_here"] []
  g_l_kind : mg "_law_kind" = some (.ref f_l_kind)
  f_l_colour : Addr
  d_l_colour : FuncData
  F_l_colour : Fun K "_law_colour" "_law_colour" s_l_colour f_l_colour d_l_colour
  b_l_colour : Binds K d_l_colour ["_law_left_here", "_law_kind_here"] []
  g_l_colour : mg "_law_colour" = some (.ref f_l_colour)
  f_l_palette : Addr
  d_l_palette : FuncData
  F_l_palette : Fun K "_law_palette" "_law_palette" s_l_palette f_l_palette d_l_palette
  b_l_palette : Binds K d_l_palette ["_law_left_here", "_law_kind_here"] []
  g_l_palette : mg "_law_palette" = some (.ref f_l_palette)
  f_l_asked : Addr
  d_l_asked : FuncData
  F_l_asked : Fun K "_law_asked" "_law_asked" s_l_asked f_l_asked d_l_asked
  b_l_asked : Binds K d_l_asked ["_law_left_here", "_law_kind_here", "_law_palette_here"] []
  g_l_asked : mg "_law_asked" = some (.ref f_l_asked)
  f_l_apart : Addr
  d_l_apart : FuncData
  F_l_apart : Fun K "_law_apart" "_law_apart" s_l_apart f_l_apart d_l_apart
  b_l_apart : Binds K d_l_apart ["_law_one", "_law_other"] []
  g_l_apart : mg "_law_apart" = some (.ref f_l_apart)
  f_l_nearest : Addr
  d_l_nearest : FuncData
  F_l_nearest : Fun K "_law_nearest" "_law_nearest" s_l_nearest f_l_nearest d_l_nearest
  b_l_nearest : Binds K d_l_nearest ["_law_palette_here", "_law_colour_here"] []
  g_l_nearest : mg "_law_nearest" = some (.ref f_l_nearest)
  f_l_shuffled : Addr
  d_l_shuffled : FuncData
  F_l_shuffled : Fun K "_law_shuffled" "_law_shuffled" s_l_shuffled f_l_shuffled d_l_shuffled
  b_l_shuffled : Binds K d_l_shuffled ["_law_left_here", "_law_some"] []
  g_l_shuffled : mg "_law_shuffled" = some (.ref f_l_shuffled)
  f_l_box : Addr
  d_l_box : FuncData
  F_l_box : Fun K "_law_box" "_law_box" s_l_box f_l_box d_l_box
  b_l_box : Binds K d_l_box ["_law_colours"] []
  g_l_box : mg "_law_box" = some (.ref f_l_box)
  f_l_near : Addr
  d_l_near : FuncData
  F_l_near : Fun K "_law_near" "_law_near" s_l_near f_l_near d_l_near
  b_l_near : Binds K d_l_near ["_law_colour_here", "_law_box_here"] []
  g_l_near : mg "_law_near" = some (.ref f_l_near)
  f_l_all_of : Addr
  d_l_all_of : FuncData
  F_l_all_of : Fun K "_law_all_of" "_law_all_of" s_l_all_of f_l_all_of d_l_all_of
  b_l_all_of : Binds K d_l_all_of ["_law_palette_here"] []
  g_l_all_of : mg "_law_all_of" = some (.ref f_l_all_of)
  f_l_turns : Addr
  d_l_turns : FuncData
  F_l_turns : Fun K "_law_turns" "_law_turns" s_l_turns f_l_turns d_l_turns
  b_l_turns : Binds K d_l_turns ["_law_palette_here", "_law_colour_here"] []
  g_l_turns : mg "_law_turns" = some (.ref f_l_turns)
  f_l_paper_made : Addr
  d_l_paper_made : FuncData
  F_l_paper_made : Fun K "_law_paper_made" "_law_paper_made" s_l_paper_made f_l_paper_made d_l_paper_made
  b_l_paper_made : Binds K d_l_paper_made ["_law_left_here", "_law_palette_here", "_law_colour_here", "_law_number"] []
  g_l_paper_made : mg "_law_paper_made" = some (.ref f_l_paper_made)
  f_l_as_due : Addr
  d_l_as_due : FuncData
  F_l_as_due : Fun K "_law_as_due" "_law_as_due" s_l_as_due f_l_as_due d_l_as_due
  b_l_as_due : Binds K d_l_as_due ["_law_palette_here", "_law_colour_here", "_law_number", "_law_paper", "_law_due"] []
  g_l_as_due : mg "_law_as_due" = some (.ref f_l_as_due)
  f_l_ties_right : Addr
  d_l_ties_right : FuncData
  F_l_ties_right : Fun K "_law_ties_right" "_law_ties_right" s_l_ties_right f_l_ties_right d_l_ties_right
  b_l_ties_right : Binds K d_l_ties_right ["_law_palette_here", "_law_colour_here"] []
  g_l_ties_right : mg "_law_ties_right" = some (.ref f_l_ties_right)
  z_abs : mg "abs" = none
  z_all : mg "all" = none
  z_bool : mg "bool" = none
  z_enumerate : mg "enumerate" = none
  z_int : mg "int" = none
  z_isinstance : mg "isinstance" = none
  z_len : mg "len" = none
  z_list : mg "list" = none
  z_max : mg "max" = none
  z_min : mg "min" = none
  z_range : mg "range" = none
  z_sorted : mg "sorted" = none
  z_str : mg "str" = none
  z_sum : mg "sum" = none
  z_tuple : mg "tuple" = none
  z_zip : mg "zip" = none
section
variable {P : Program} {w : World} {K : PySem.W.Frag} {mg : Str → Option Value} {base : Heap}
/-! ### mix -/
def spMix : Sp := fun vs H Q _ => ∃ c n : Int, vs = [.int c, .int n] ∧ 0 ≤ n ∧ n < 2000000000 ∧ ∀ r : Int, 0 ≤ r → r < 1999999973 → Q (.int r) H
theorem ok_l_mix (T : Tx K mg) {k : Nat} : FnOk P w K mg base CX0 (k + 1) T.f_l_mix T.d_l_mix ["_law_cell", "_law_k"] spMix := by
  refine T.F_l_mix.ok sc_l_mix (fun vs H Q E h => ?_) (fun cdv A outer s H vs Q E hr h => ?_)
  · obtain ⟨c, n, rfl, _⟩ := h
    rfl
  · obtain ⟨c, n, rfl, h1, h2, q⟩ := h
    refine ⟨_, (pss_cons (ps_set (i := 2) sc_l_mix.nd rfl (.inl rfl) (pe_op op_mod (pe_op op_mul (pe_op op_add (pe_op op_add (pe_op op_mod (pv 0) pe_int) (pe_op op_mul (pe_op op_mul (pv 1) (pv 1)) pe_int)) pe_int) pe_int) pe_int))
      (pss_one (ps_ret (pe_op op_mod (pe_op op_mul (pv 2) (pv 2)) pe_int)))), ?_⟩
    refine ⟨.int c, rfl, _, _, rfl, rfl, md (by decide), .int n, rfl, .int n, rfl, _, _, rfl, rfl, .inl ⟨by omega, by omega⟩, _, _, rfl, rfl, .inr ⟨by decide, by decide⟩, _, _, rfl, rfl, _, _, rfl, rfl, _, _, rfl, rfl, .inr ⟨by decide, by decide⟩, _, _, rfl, rfl, md (by decide), ?_⟩
    refine ⟨_, rfl, _, rfl, _, _, rfl, rfl, .inl ⟨?_, ?_⟩, _, _, rfl, rfl, md (by decide), ?_⟩
    · omega
    · omega
    · exact q _ (Int.emod_nonneg _ (by decide)) (Int.emod_lt_of_pos _ (by decide))
/-! ### left -/
def spLeft (K : PySem.W.Frag) : Sp := fun vs H Q _ => ∃ (a : Addr) (ns : List Int) (n : Int), vs = [.ref a, .int n] ∧ SqL K H a (ns.map V.int) ∧ 0 ≤ n ∧ ∀ (p : Addr) (x y : Int), H p = none → 0 ≤ x → Q (.ref p) (upd H p (.lst [.int x, .int y, .int 0]))
theorem left_end {c n : Int} {H : Hp} {Q : VK} (q : ∀ (p : Addr) (x y : Int), H p = none → 0 ≤ x → Q (.ref p) (upd H p (.lst [.int x, .int y, .int 0]))) (p : Addr) (hp : H p = none) (b : Bool) :
    Q (.ref p) (upd H p (.lst [.int ((if c < 0 then -c else c) * (if b = true then 1 else 0)), .int (c + 1000003 * n), .int 0])) := by
  refine q p _ _ hp ?_
  cases b <;> simp <;> split <;> omega
theorem ok_l_left (T : Tx K mg) {k : Nat} : FnOk P w K mg base CX0 (k + 1) T.f_l_left T.d_l_left ["_law_script", "_law_k"] (spLeft K) := by
  refine T.F_l_left.ok sc_l_left (fun vs H Q E h => ?_) (fun cdv A outer s H vs Q E hr h => ?_)
  · obtain ⟨a, ns, n, rfl, _⟩ := h
    rfl
  · obtain ⟨a, ns, n, rfl, hS, h1, q⟩ := h
    refine ⟨_, (pss_cons (ps_set (i := 2) sc_l_left.nd rfl (.inl rfl) (pe_ifExp (pt_cmpR op_lt (pv 1) (pe_callB (len_K K) (by rfl) T.z_len PySem.boot_len (pa_cons (pv 0) pa_nil)) (nomark _)) (pe_ix (ix_listK K) (pv 0) (pv 1) (fun _ _ => rfl)) pe_int))
      (pss_one (ps_ret (pe_lst (pa_cons (pe_op op_mul (pe_callB call_abs (by rfl) T.z_abs (by decide +kernel) (pa_cons (pv 2) pa_nil)) (pe_callTy call_int1 (by rfl) T.z_int (by decide +kernel) (pa_cons (pe_cmpR op_ge (pe_callB call_abs (by rfl) T.z_abs (by decide +kernel) (pa_cons (pv 2) pa_nil)) (pe_op op_pow pe_int pe_int) (nomark _)) pa_nil))) (pa_cons (pe_op op_add (pv 2) (pe_op op_mul pe_int (pv 1))) (pa_cons pe_int pa_nil))))))), ?_⟩
    refine ⟨_, rfl, _, rfl, a, _, rfl, .inl hS, _, _, rfl, rfl, _, rfl, ite2 (fun e => ?_) (fun e => ?_)⟩
    · have e1 : n < (ns.map V.int).length := of_decide_eq_true e
      rw [List.length_map] at e1
      have g : atI (ns.map V.int) n = some (.int (ns[n.toNat]'(by omega))) := at0 h1 (by rw [List.getElem?_map, List.getElem?_eq_getElem]; rfl)
      refine ⟨_, rfl, _, rfl, a, _, _, _, rfl, rfl, hS, g, ?_⟩
      exact ⟨_, rfl, _, rfl, _, rfl, _, rfl, _, _, rfl, rfl, ⟨by decide, by decide, by decide⟩, _, _, rfl, rfl, .inr ⟨_, rfl, _, _, rfl, rfl, .inr (bit_ok _), _, rfl, _, rfl, _, _, rfl, rfl, .inl ⟨by decide, by decide⟩, _, _, rfl, rfl, (by show 3 ≤ sizeLine; decide), fun p hp => left_end q p hp _⟩⟩
    · exact ⟨_, rfl, _, rfl, _, rfl, _, rfl, _, _, rfl, rfl, ⟨by decide, by decide, by decide⟩, _, _, rfl, rfl, .inr ⟨_, rfl, _, _, rfl, rfl, .inr (bit_ok _), _, rfl, _, rfl, _, _, rfl, rfl, .inl ⟨by decide, by decide⟩, _, _, rfl, rfl, (by show 3 ≤ sizeLine; decide), fun p hp => left_end q p hp _⟩⟩
/-! ### pick -/
def spPick : Sp := fun vs H Q _ => ∃ (L : Addr) (m : Int) (n : Nat), vs = [.ref L, .int m] ∧ Lf L H n ∧ n < 1000000000 ∧ 0 < m ∧ m < 1073741824 ∧ ∀ (r : Int) (H' : Hp), Go [L] H H' → Lf L H' (n + 1) → 0 ≤ r → r < m → Q (.int r) H'
theorem ok_l_pick (T : Tx K mg) {k : Nat} : FnOk P w K mg base CX0 (k + 2) T.f_l_pick T.d_l_pick ["_law_left_here", "_law_many"] spPick := by
  refine T.F_l_pick.ok sc_l_pick (fun vs H Q E h => ?_) (fun cdv A outer s H vs Q E hr h => ?_)
  · obtain ⟨L, m, n, rfl, _⟩ := h
    rfl
  · obtain ⟨L, m, n, rfl, ⟨a, b, c, hL, a0, c0, cn⟩, hn, m0, m1, q⟩ := h
    refine ⟨_, (pss_cons (ps_asg (pe_op op_add (pe_ix (ix_listK K) (pv 0) pe_int (fun _ _ => rfl)) pe_int) (pg_sub (pv 0) pe_int set_list))
      (pss_cons (ps_if (pt_cmpR op_gt (pe_ix (ix_listK K) (pv 0) pe_int (fun _ _ => rfl)) pe_int (nomark _)) (pss_cons (ps_set (i := 2) sc_l_pick.nd rfl (.inl rfl) (pe_op op_mod (pe_ix (ix_listK K) (pv 0) pe_int (fun _ _ => rfl)) (pv 1)))
      (pss_cons (ps_asg (pe_op op_fdiv (pe_ix (ix_listK K) (pv 0) pe_int (fun _ _ => rfl)) (pv 1)) (pg_sub (pv 0) pe_int set_list))
      (pss_one (ps_ret (pv 2))))) pss_nil)
      (pss_one (ps_ret (pe_op op_mod (pe_op op_fdiv (pe_call (ok_l_mix T (k := k)) hr (by rfl) T.g_l_mix T.F_l_mix.kp T.b_l_mix .nil pass0 (pa_cons (pe_call (ok_l_mix T (k := k)) hr (by rfl) T.g_l_mix T.F_l_mix.kp T.b_l_mix .nil pass0 (pa_cons (pe_ix (ix_listK K) (pv 0) pe_int (fun _ _ => rfl)) (pa_cons (pe_ix (ix_listK K) (pv 0) pe_int (fun _ _ => rfl)) pa_nil))) (pa_cons (pe_op op_add (pe_ix (ix_listK K) (pv 0) pe_int (fun _ _ => rfl)) pe_int) pa_nil))) pe_int) (pv 1)))))), ?_⟩
    refine ⟨_, rfl, L, _, 2, .int c, rfl, rfl, SqL.of hL, rfl, _, _, rfl, rfl, _, rfl, L, _, _, 2, rfl, rfl, hL, rfl, ?_⟩
    generalize hH : upd H L (.lst (List.set [V.int a, V.int b, V.int c] 2 (V.int (c + 1)))) = H1
    have hL1 : H1 L = some (.lst [.int a, .int b, .int (c + 1)]) := by rw [← hH]; exact upd_same
    have g1 : Go [L] H H1 := by rw [← hH]; exact Go.refl.at (List.mem_singleton.mpr rfl)
    refine ⟨_, rfl, L, _, 0, .int a, rfl, rfl, SqL.of hL1, rfl, _, _, rfl, rfl, _, rfl, ite2 (fun e => ?_) (fun e => ?_)⟩
    · have e1 : 0 < a := of_decide_eq_true e
      refine ⟨_, rfl, L, _, 0, .int a, rfl, rfl, SqL.of hL1, rfl, _, rfl, _, _, rfl, rfl, md m0, ?_⟩
      refine ⟨_, rfl, L, _, 0, .int a, rfl, rfl, SqL.of hL1, rfl, _, rfl, _, _, rfl, rfl, ⟨m0, m1⟩, _, rfl, L, _, _, 0, rfl, rfl, hL1, rfl, ?_⟩
      refine ⟨_, rfl, ?_⟩
      exact q _ _ (g1.at (List.mem_singleton.mpr rfl)) ⟨a / m, b, c + 1, upd_same, Int.ediv_nonneg a0 (by omega), by omega, by omega⟩ (Int.emod_nonneg _ (by omega)) (Int.emod_lt_of_pos _ m0)
    · refine ⟨_, rfl, L, _, 1, .int b, rfl, rfl, SqL.of hL1, rfl, _, rfl, L, _, 2, .int (c + 1), rfl, rfl, SqL.of hL1, rfl, _, _, rfl, by omega, by omega, fun r1 _ _ => ?_⟩
      refine ⟨_, rfl, L, _, 2, .int (c + 1), rfl, rfl, SqL.of hL1, rfl, _, _, rfl, rfl, _, _, rfl, by omega, by omega, fun r2 _ _ => ?_⟩
      refine ⟨_, _, rfl, rfl, ⟨by decide, by decide⟩, _, rfl, _, _, rfl, rfl, md m0, ?_⟩
      exact q _ _ g1 ⟨a, b, c + 1, hL1, a0, by omega, by omega⟩ (Int.emod_nonneg _ (by omega)) (Int.emod_lt_of_pos _ m0)
/-! ### apart, both ways -/
def ap (a b : List Int) : Int := ((a.zip b).map fun p => (p.1 - p.2) ^ 2).sum
theorem ap_len (a b : List Int) : ((a.zip b).map fun p => (p.1 - p.2) ^ 2).length = min a.length b.length := by simp
theorem sq_ok {x y : Int} (h1 : -100000000 ≤ x) (h2 : x ≤ 100000000) (h3 : -100000000 ≤ y) (h4 : y ≤ 100000000) : CPow (x - y) 2 := ⟨by decide, by decide, by omega⟩
theorem zat {a b : List Int} {i : Nat} {f : Int × Int → PyData} (h1 : i < a.length) (h2 : i < b.length) : ((a.zip b).map f)[i]? = some (f (a[i], b[i])) := by
  rw [List.getElem?_map, List.getElem?_eq_getElem (by simp; omega)]
  simp
def spApart : Sp := fun vs H Q _ => ∃ (B : List Addr) (x y : V) (a b : List Int), vs = [x, y] ∧ Dt B H x (eC a) ∧ Dt B H y (eC b) ∧ a.length = b.length ∧ b.length ≤ 100 ∧ cIn (-100000000) 100000000 a ∧ cIn (-100000000) 100000000 b ∧ ∀ H', Same H H' → Q (.int (ap a b)) H'
theorem ok_apart (T : Tx K mg) {k : Nat} : FnOk P w K mg base CX0 (k + 1) T.f_apart T.d_apart ["one", "other"] spApart := by
  refine T.F_apart.ok sc_apart (fun vs H Q E h => ?_) (fun cdv A outer s H vs Q E hr h => ?_)
  · obtain ⟨B, x, y, a, b, rfl, _⟩ := h
    rfl
  · obtain ⟨B, x, y, a, b, rfl, ha, hb, hl, hz, ca, cb, q⟩ := h
    obtain ⟨pa, rfl, na, ta⟩ := ha.col
    obtain ⟨pb, rfl, nb, tb⟩ := hb.col
    refine ⟨_, (pss_one (ps_ret (pe_callB (cr_sumK K rfl) (by rfl) T.z_sum (by decide +kernel) (pa_cons (pe_lc (own := [("a", 2), ("b", 3)]) (by rfl) sc_apart.nd (RZ.pi_zipA (by rfl) T.z_zip (pa_cons (pv 0) (pa_cons (pv 1) pa_nil))) (blkOk_by (own := [("a", 2), ("b", 3)]) (N := N_apart) (sc := defScope s_apart) (by decide +kernel)) (fun _ _ _ _ _ => (pg_tupK K (n := 2) rfl (pgs_cons (pg_name (i := 2) sc_apart.nd rfl (.inl rfl)) (pgs_cons (pg_name (i := 3) sc_apart.nd rfl (.inl rfl)) pgs_nil)))) (fun _ _ _ _ _ => pts_nil) (fun _ _ _ _ _ => (pe_op op_pow (pe_op op_sub (pv 2) (pv 3)) pe_int))) pa_nil)))), ?_⟩
    refine ⟨_, rfl, _, rfl, pa, pb, _, _, rfl, .inr ⟨SqT.of ta, SqT.of tb, fun D hD => ?_⟩⟩
    refine lc_pure (B := []) (walk_zipT (n := a.length) (xs := a.map V.int) (ys := b.map V.int) (by simp; omega)) hD (fun _ h => nomatch h) (fun H' s' => ⟨SqT.of (s' _ _ ta), SqT.of (s' _ _ tb)⟩) (by omega)
      (fun i => ((a.zip b).map fun p => PyData.int ((p.1 - p.2) ^ 2))[i]?) (fun i x H' H'' Ny Nn hi s1 bk y ky kn => ?_) (fun H' ws s1 eD hA => ?_)
    · obtain ⟨t, x, y, rfl, ht, rfl, e1, e2⟩ := y
      have i2 : i < b.length := by omega
      have x1 := mat hi e1
      have x2 := mat i2 e2
      have c1 := ca _ (List.getElem_mem hi)
      have c2 := cb _ (List.getElem_mem i2)
      refine ⟨t, [x, y], rfl, SqT.of upd_same, rfl, x, _, rfl, y, _, rfl, rfl, rfl, lc_yes ?_⟩
      refine ⟨_, rfl, _, rfl, _, _, x1, x2, _, _, rfl, rfl, sq_ok c1.1 c1.2 c2.1 c2.2, ?_⟩
      exact ky _ _ _ (zat hi i2) (sm_new ht) (.int _)
    · rw [fm_all (by simp; omega)] at hA
      have hA2 : DtA (D :: []) H' ws (((a.zip b).map fun p => (p.1 - p.2) ^ 2).map PyData.int) := by rw [List.map_map]; exact hA
      refine ⟨D, _, rfl, SqL.of (by rw [eD, hA2.intsV]), ?_⟩
      exact q _ s1
/-! ### the law's own apart -/
theorem ok_l_apart (T : Tx K mg) {k : Nat} : FnOk P w K mg base CX0 (k + 1) T.f_l_apart T.d_l_apart ["_law_one", "_law_other"] spApart := by
  refine T.F_l_apart.ok sc_l_apart (fun vs H Q E h => ?_) (fun cdv A outer s H vs Q E hr h => ?_)
  · obtain ⟨B, x, y, a, b, rfl, _⟩ := h
    rfl
  · obtain ⟨B, x, y, a, b, rfl, ha, hb, hl, hz, ca, cb, q⟩ := h
    obtain ⟨pa, rfl, na, ta⟩ := ha.col
    obtain ⟨pb, rfl, nb, tb⟩ := hb.col
    refine ⟨_, (pss_one (ps_ret (pe_callB (cr_sumK K rfl) (by rfl) T.z_sum (by decide +kernel) (pa_cons (pe_lc (own := [("_law_a", 2), ("_law_b", 3)]) (by rfl) sc_l_apart.nd (RZ.pi_zipA (by rfl) T.z_zip (pa_cons (pv 0) (pa_cons (pv 1) pa_nil))) (blkOk_by (own := [("_law_a", 2), ("_law_b", 3)]) (N := N_l_apart) (sc := defScope s_l_apart) (by decide +kernel)) (fun _ _ _ _ _ => (pg_tupK K (n := 2) rfl (pgs_cons (pg_name (i := 2) sc_l_apart.nd rfl (.inl rfl)) (pgs_cons (pg_name (i := 3) sc_l_apart.nd rfl (.inl rfl)) pgs_nil)))) (fun _ _ _ _ _ => pts_nil) (fun _ _ _ _ _ => (pe_op op_mul (pe_op op_sub (pv 2) (pv 3)) (pe_op op_sub (pv 2) (pv 3))))) pa_nil)))), ?_⟩
    refine ⟨_, rfl, _, rfl, pa, pb, _, _, rfl, .inr ⟨SqT.of ta, SqT.of tb, fun D hD => ?_⟩⟩
    refine lc_pure (B := []) (walk_zipT (n := a.length) (xs := a.map V.int) (ys := b.map V.int) (by simp; omega)) hD (fun _ h => nomatch h) (fun H' s' => ⟨SqT.of (s' _ _ ta), SqT.of (s' _ _ tb)⟩) (by omega)
      (fun i => ((a.zip b).map fun p => PyData.int ((p.1 - p.2) ^ 2))[i]?) (fun i x H' H'' Ny Nn hi s1 bk y ky kn => ?_) (fun H' ws s1 eD hA => ?_)
    · obtain ⟨t, x, y, rfl, ht, rfl, e1, e2⟩ := y
      have i2 : i < b.length := by omega
      have x1 := mat hi e1
      have x2 := mat i2 e2
      have c1 := ca _ (List.getElem_mem hi)
      have c2 := cb _ (List.getElem_mem i2)
      refine ⟨t, [x, y], rfl, SqT.of upd_same, rfl, x, _, rfl, y, _, rfl, rfl, rfl, lc_yes ?_⟩
      refine ⟨_, rfl, _, rfl, _, _, x1, x2, _, rfl, _, rfl, _, _, x1, x2, _, _, rfl, rfl, .inl ⟨by omega, by omega⟩, ?_⟩
      exact ky _ _ _ (zat hi i2) (sm_new ht) (by rw [Int.pow_succ, Int.pow_succ, Int.pow_zero, Int.one_mul]; exact .int _)
    · rw [fm_all (by simp; omega)] at hA
      have hA2 : DtA (D :: []) H' ws (((a.zip b).map fun p => (p.1 - p.2) ^ 2).map PyData.int) := by rw [List.map_map]; exact hA
      refine ⟨D, _, rfl, SqL.of (by rw [eD, hA2.intsV]), ?_⟩
      exact q _ s1
/-! ### the nearest -/
def near (cs : List (List Int)) (c : List Int) (i : Nat) : Prop := ∃ h : i < cs.length, ∀ (j : Nat) (hj : j < cs.length), ap cs[i] c < ap cs[j] c ∨ (ap cs[i] c = ap cs[j] c ∧ i ≤ j)
theorem near_one {cs : List (List Int)} {c : List Int} {i j : Nat} (h1 : near cs c i) (h2 : near cs c j) : i = j := by
  obtain ⟨a, f⟩ := h1
  obtain ⟨b, g⟩ := h2
  have x := f j b
  have y := g i a
  omega
def pOk (cs : List (List Int)) (c : List Int) : Prop := cs.length ≤ 1000 ∧ c.length ≤ 100 ∧ cIn (-100000000) 100000000 c ∧ ∀ x ∈ cs, x.length = c.length ∧ cIn (-100000000) 100000000 x
def spNear : Sp := fun vs H Q _ => ∃ (B : List Addr) (pl cv : V) (cs : List (List Int)) (c : List Int), vs = [pl, cv] ∧ Dt B H pl (eP cs) ∧ Dt B H cv (eC c) ∧ pOk cs c ∧ 0 < cs.length ∧
  ∀ H' (i : Nat), Same H H' → near cs c i → Q (.int i) H'
/-! ### the law's own nearest -/
def prF (cs : List (List Int)) (c : List Int) (i : Nat) : Option (Int × Int) := (cs[i]?).map fun x => (ap x c, (i : Int))
def prs (cs : List (List Int)) (c : List Int) : List (Int × Int) := (List.range cs.length).filterMap (prF cs c)
theorem prs_map (cs : List (List Int)) (c : List Int) : (List.range cs.length).filterMap (fun i => (prF cs c i).map enc) = (prs cs c).map enc := by
  unfold prs
  rw [List.map_filterMap]
theorem prs_at (cs : List (List Int)) (c : List Int) : prs cs c = cs.zipIdx.map fun x => (ap x.1 c, (x.2 : Int)) := by
  have e : prF cs c = fun i => (cs.zipIdx.map fun x => (ap x.1 c, (x.2 : Int)))[i]? := by
    funext i
    unfold prF
    rw [List.getElem?_map, List.getElem?_zipIdx]
    cases cs[i]? <;> simp
  unfold prs
  rw [e, fm_all (by simp)]
theorem near_min {cs : List (List Int)} {c : List Int} {p : Int × Int} {ps : List (Int × Int)} {i : Nat} (e : prs cs c = p :: ps) (h : (p :: ps)[i]? = some (minP p ps)) : near cs c i ∧ (minP p ps).2 = i := by
  have le := minP_le p ps
  rw [← e, prs_at] at le h
  have hi : i < cs.length := by
    have := (List.getElem?_eq_some_iff.mp h).1
    simpa using this
  rw [List.getElem?_map, List.getElem?_zipIdx, List.getElem?_eq_getElem hi] at h
  have em : (ap cs[i] c, (i : Int)) = minP p ps := by
    have := Option.some.inj h
    simpa using this
  rw [← em] at le
  refine ⟨⟨hi, fun j hj => ?_⟩, by rw [← em]⟩
  have := SrtO.lexB_no.mp (le (ap cs[j] c, (j : Int)) (List.mem_map.mpr ⟨(cs[j], j), by
    rw [List.mem_iff_getElem?]
    exact ⟨j, by rw [List.getElem?_zipIdx, List.getElem?_eq_getElem hj]; simp⟩, rfl⟩))
  simp only at this
  omega
theorem ok_l_nearest (T : Tx K mg) {k : Nat} : FnOk P w K mg base CX0 (k + 2) T.f_l_nearest T.d_l_nearest ["_law_palette_here", "_law_colour_here"] spNear := by
  refine T.F_l_nearest.ok sc_l_nearest (fun vs H Q E h => ?_) (fun cdv A outer s H vs Q E hr h => ?_)
  · obtain ⟨B, pl, cv, cs, c, rfl, _⟩ := h
    rfl
  · obtain ⟨B, pl, cv, cs, c, rfl, hp, hc, ⟨o1, o2, o3, o4⟩, c0, q⟩ := h
    obtain ⟨pa, vs, rfl, np, ep, hA⟩ := hp.pal
    have lv := hA.len
    rw [List.length_map] at lv
    refine ⟨_, (pss_one (ps_ret (pe_ix (ix_tupK K) (pe_callB (cr_minP K rfl hr.units) (by rfl) T.z_min (by decide +kernel) (pa_cons (pe_lc (own := [("_law_k", 2), ("_law_one", 3)]) (by rfl) sc_l_nearest.nd (pi_enum (by rfl) T.z_enumerate (pa_cons (pv 0) pa_nil)) (blkOk_by (own := [("_law_k", 2), ("_law_one", 3)]) (N := N_l_nearest) (sc := defScope s_l_nearest) (by decide +kernel)) (fun _ _ _ _ _ => (pg_tupK K (n := 2) rfl (pgs_cons (pg_name (i := 2) sc_l_nearest.nd rfl (.inl rfl)) (pgs_cons (pg_name (i := 3) sc_l_nearest.nd rfl (.inl rfl)) pgs_nil)))) (fun _ _ _ _ _ => pts_nil) (fun _ _ _ _ _ => (pe_tup (pa_cons (pe_call (ok_l_apart T (k := k)) hr (by rfl) T.g_l_apart T.F_l_apart.kp T.b_l_apart .nil pass0 (pa_cons (pv 3) (pa_cons (pv 1) pa_nil))) (pa_cons (pv 2) pa_nil))))) pa_nil)) pe_int (fun _ _ => rfl)))), ?_⟩
    refine ⟨_, rfl, pa, _, rfl, SqL.of ep, fun D hD => ?_⟩
    refine lc_pure (B := []) (walk_enum (xs := vs)) hD (fun _ h => nomatch h) (fun H' s' => SqL.of (s' _ _ ep)) (by omega)
      (fun i => (prF cs c i).map enc) (fun i x H' H'' Ny Nn hi s1 bk y ky kn => ?_) (fun H1 ws s1 eD hW => ?_)
    · obtain ⟨t, x, y, rfl, ht, rfl, e1, e2⟩ := y
      obtain ⟨d1, f1, g1⟩ := hA.getV e2
      have hi2 : i < cs.length := by omega
      rw [List.getElem?_map, List.getElem?_eq_getElem hi2] at f1
      have ed : d1 = eC cs[i] := (Option.some.inj f1).symm
      subst ed
      have ex : V.int i = x := Option.some.inj e1
      subst ex
      have oc := o4 _ (List.getElem_mem hi2)
      refine ⟨t, _, rfl, SqT.of upd_same, rfl, _, _, rfl, y, _, rfl, rfl, rfl, lc_yes ?_⟩
      refine ⟨_, rfl, _, rfl, B, y, cv, cs[i], c, rfl, (g1.s s1).s (sm_new ht), (hc.s s1).s (sm_new ht), oc.1, o2, oc.2, o3, fun H3 s3 => ?_⟩
      refine ⟨_, rfl, (by show 2 ≤ sizeLine; decide), fun t2 ht2 => ?_⟩
      have s4 := (sm_new ht).trans s3
      refine ky _ _ (enc (ap cs[i] c, (i : Int))) ?_ (s4.trans (sm_new ht2)) (Dt.ofCol ((bk.go (Go.of (B := []) s4)).ne ht2) upd_same)
      unfold prF
      rw [List.getElem?_eq_getElem hi2]
      rfl
    · rw [lv, prs_map] at hW
      have hl : (prs cs c).length = cs.length := by rw [prs_at]; simp
      obtain ⟨p, ps, e⟩ : ∃ p ps, prs cs c = p :: ps := by
        cases h : prs cs c with
        | nil => rw [h] at hl; simp at hl; omega
        | cons p ps => exact ⟨p, ps, rfl⟩
      rw [e] at hW
      refine ⟨D, ws, p, ps, rfl, SqL.of eD, hW.dP, fun i x hx hm => ?_⟩
      obtain ⟨hn, h2⟩ := near_min e hm
      obtain ⟨d, fd', gd⟩ := hW.getV hx
      rw [List.getElem?_map, hm] at fd'
      have ed : d = enc (minP p ps) := (Option.some.inj fd').symm
      subst ed
      obtain ⟨t, rfl, _, et⟩ := gd.col
      refine ⟨t, _, 1, .int (minP p ps).2, rfl, rfl, SqT.of et, rfl, ?_⟩
      rw [h2]
      exact q _ i s1 hn
/-! ### numbers and colours of any data -/
def isNum : PyData → Bool
  | .int _ => true
  | _ => false
def isCol (d : PyData) (n : Int) : Bool := match d with
  | .tuple ds => decide ((ds.length : Int) = n) && ds.all isNum
  | _ => false
def spNum : Sp := fun vs H Q _ => ∃ (B : List Addr) (v : V) (d : PyData), vs = [v] ∧ Dt B H v d ∧ Q (.bl (isNum d)) H
def spIsCol : Sp := fun vs H Q _ => ∃ (B : List Addr) (v : V) (d : PyData) (n : Int) (j : Nat), vs = [v, .int n] ∧ Dt B H v d ∧ Sh d j ∧ j ≤ 60 ∧ ∀ H', Same H H' → Q (.bl (isCol d n)) H'
theorem fm_bind {α β : Type} (ds : List α) (f : α → Option β) : (List.range ds.length).filterMap (fun i => (ds[i]?).bind f) = ds.filterMap f := by
  have h := List.filterMap_filterMap (f := fun i : Nat => ds[i]?) (g := f) (l := List.range ds.length)
  rw [fm_all rfl] at h
  exact h.symm
theorem isCol_no {ds : List PyData} {n : Int} (h : (ds.length : Int) ≠ n) : isCol (.tuple ds) n = false := by
  unfold isCol
  simp [h]
theorem isCol_yes {ds : List PyData} {n : Int} (h : (ds.length : Int) = n) : isCol (.tuple ds) n = ds.all isNum := by
  unfold isCol
  simp [h]
theorem ok_is_number (T : Tx K mg) {k : Nat} : FnOk P w K mg base CX0 (k + 1) T.f_is_number T.d_is_number ["thing"] spNum := by
  refine T.F_is_number.ok sc_is_number (fun vs H Q E h => ?_) (fun cdv A outer s H vs Q E hr h => ?_)
  · obtain ⟨B, v, d, rfl, _⟩ := h
    rfl
  · obtain ⟨B, v, d, rfl, hv, q⟩ := h
    refine ⟨_, (pss_one (ps_ret (pe_and (pe_callB (call_isiK1 K) (by rfl) T.z_isinstance (by decide +kernel) (pa_cons (pv 0) (pa_cons (pe_bltn (v := .ty "int") (by rfl) T.z_int (by decide +kernel) rfl) pa_nil))) (pe_one (pe_not (pe_callB (call_isiK1 K) (by rfl) T.z_isinstance (by decide +kernel) (pa_cons (pv 0) (pa_cons (pe_bltn (v := .ty "bool") (by rfl) T.z_bool (by decide +kernel) rfl) pa_nil)))))))), ?_⟩
    cases d with
    | none =>
      have tx : TyX K H v (.type "NoneType") := hv.ty
      exact ⟨_, rfl, _, _, _, _, false, rfl, .ty _, tx, kit_ty (by decide +kernel), _, rfl, iteF q⟩
    | bool b =>
      have tx : TyX K H v (.type "bool") := hv.ty
      exact ⟨_, rfl, _, _, _, _, true, rfl, .ty _, tx, kit_ty (by decide +kernel), _, rfl, iteT ⟨_, rfl, _, _, _, _, true, rfl, .ty _, tx, kit_ty (by decide +kernel), _, rfl, q⟩⟩
    | int i =>
      have tx : TyX K H v (.type "int") := hv.ty
      exact ⟨_, rfl, _, _, _, _, true, rfl, .ty _, tx, kit_ty (by decide +kernel), _, rfl, iteT ⟨_, rfl, _, _, _, _, false, rfl, .ty _, tx, kit_ty (by decide +kernel), _, rfl, q⟩⟩
    | str z =>
      have tx : TyX K H v (.type "str") := hv.ty
      exact ⟨_, rfl, _, _, _, _, false, rfl, .ty _, tx, kit_ty (by decide +kernel), _, rfl, iteF q⟩
    | list ds =>
      have tx : TyX K H v (.type "list") := hv.ty
      exact ⟨_, rfl, _, _, _, _, false, rfl, .ty _, tx, kit_ty (by decide +kernel), _, rfl, iteF q⟩
    | tuple ds =>
      have tx : TyX K H v (.type "tuple") := hv.ty
      exact ⟨_, rfl, _, _, _, _, false, rfl, .ty _, tx, kit_ty (by decide +kernel), _, rfl, iteF q⟩
    | dict kvs => cases hv
theorem ok_is_colour (T : Tx K mg) {k : Nat} : FnOk P w K mg base CX0 (k + 2) T.f_is_colour T.d_is_colour ["thing", "wide"] spIsCol := by
  refine T.F_is_colour.ok sc_is_colour (fun vs H Q E h => ?_) (fun cdv A outer s H vs Q E hr h => ?_)
  · obtain ⟨B, v, d, n, j, rfl, _⟩ := h
    rfl
  · obtain ⟨B, v, d, n, j, rfl, hv, hd, hj, q⟩ := h
    refine ⟨_, (pss_cons (ps_if (PW.pt (pw_or (pt_not (pt_val (pe_callB (call_isiK1 K) (by rfl) T.z_isinstance (by decide +kernel) (pa_cons (pv 0) (pa_cons (pe_bltn (v := .ty "tuple") (by rfl) T.z_tuple (by decide +kernel) rfl) pa_nil))))) (pw_or1 (pt_cmpR op_ne (pe_callB (len_K K) (by rfl) T.z_len PySem.boot_len (pa_cons (pv 0) pa_nil)) (pv 1) (nomark _))))) (pss_one (ps_ret pe_bl)) pss_nil)
      (pss_one (ps_ret (pe_callB (cr_allK K rfl) (by rfl) T.z_all (by decide +kernel) (pa_cons (pe_lc (own := [("number", 2)]) (by rfl) sc_is_colour.nd (pi_tupK K (pv 0)) (blkOk_by (own := [("number", 2)]) (N := N_is_colour) (sc := defScope s_is_colour) (by decide +kernel)) (fun _ _ _ _ _ => (pg_name (i := 2) sc_is_colour.nd rfl (.inl rfl))) (fun _ _ _ _ _ => pts_nil) (fun _ _ _ _ _ => (pe_call (ok_is_number T (k := k)) hr (by rfl) T.g_is_number T.F_is_number.kp T.b_is_number .nil pass0 (pa_cons (pv 2) pa_nil)))) pa_nil))))), ?_⟩
    cases d with
    | tuple ds =>
      have tx : TyX K H v (.type "tuple") := hv.ty
      obtain ⟨a, xs, rfl, na, ha, hA⟩ := hv.tupI
      have l1 := hA.len
      obtain ⟨j, rfl, hs, hl⟩ := hd.tupI
      refine ⟨_, rfl, _, _, _, _, true, rfl, .ty _, tx, kit_ty (by decide +kernel), _, rfl, iteF ?_⟩
      refine ⟨_, rfl, a, _, rfl, .inr (SqT.of ha), _, rfl, rfl, _, rfl, ite2 (fun e => ?_) (fun e => ?_)⟩
      · have e1 : (ds.length : Int) ≠ n := fun z => by
          rw [l1, z] at e
          simp at e
        have := q _ (Same.refl _)
        rw [isCol_no e1] at this
        exact this
      have el : (ds.length : Int) = n := by
        rw [l1] at e
        simpa using e
      refine ⟨_, rfl, a, rfl, ⟨_, SqT.of ha⟩, fun D hD => ?_⟩
      refine lc_pure (B := []) (walk_tup (xs := xs)) hD (fun _ h => nomatch h) (fun H' s' => SqT.of (s' _ _ ha)) (by omega)
        (fun i => (ds.map fun d => PyData.bool (isNum d))[i]?) (fun i x H' H'' Ny Nn hi t1 bk y ky kn => ?_) (fun H8 ws s8 eS hW => ?_)
      · obtain ⟨rfl, y⟩ := y
        obtain ⟨d1, f1, h1⟩ := hA.getV y
        refine ⟨rfl, lc_yes ⟨_, rfl, B, x, d1, rfl, h1.s t1, ?_⟩⟩
        exact ky _ _ _ (by rw [List.getElem?_map, f1]; rfl) (Same.refl _) (.bl _)
      · rw [fm_all (by simp; omega)] at hW
        have hW2 : DtA [D] H8 ws ((ds.map isNum).map PyData.bool) := by rw [List.map_map]; exact hW
        refine ⟨D, _, rfl, SqL.of (by rw [eS, hW2.blsV]), ?_⟩
        rw [show (ds.map isNum).all id = isCol (.tuple ds) n by rw [isCol_yes el, List.all_map]; rfl]
        exact q _ s8
    | none =>
      have tx : TyX K H v (.type "NoneType") := hv.ty
      exact ⟨_, rfl, _, _, _, _, false, rfl, .ty _, tx, kit_ty (by decide +kernel), _, rfl, iteT (iteT (q _ (Same.refl _)))⟩
    | bool b =>
      have tx : TyX K H v (.type "bool") := hv.ty
      exact ⟨_, rfl, _, _, _, _, false, rfl, .ty _, tx, kit_ty (by decide +kernel), _, rfl, iteT (iteT (q _ (Same.refl _)))⟩
    | int i =>
      have tx : TyX K H v (.type "int") := hv.ty
      exact ⟨_, rfl, _, _, _, _, false, rfl, .ty _, tx, kit_ty (by decide +kernel), _, rfl, iteT (iteT (q _ (Same.refl _)))⟩
    | str z =>
      have tx : TyX K H v (.type "str") := hv.ty
      exact ⟨_, rfl, _, _, _, _, false, rfl, .ty _, tx, kit_ty (by decide +kernel), _, rfl, iteT (iteT (q _ (Same.refl _)))⟩
    | list ds =>
      have tx : TyX K H v (.type "list") := hv.ty
      exact ⟨_, rfl, _, _, _, _, false, rfl, .ty _, tx, kit_ty (by decide +kernel), _, rfl, iteT (iteT (q _ (Same.refl _)))⟩
    | dict kvs => cases hv
/-! ### rising numbers, of a list or a tuple -/
theorem allT' (n : Nat) : (List.range n).filterMap (fun _ => some (PyData.bool true)) = (List.replicate n true).map PyData.bool := by
  induction n with
  | zero => rfl
  | succ n ih =>
    rw [List.range_succ, List.filterMap_append, ih, List.replicate_succ', List.map_append]
    rfl
def risB (ns : List Int) : Bool := ((ns.zip (ns.drop 1)).map fun p => decide (p.1 < p.2)).all id
theorem risB_cons (a b : Int) (ns : List Int) : risB (a :: b :: ns) = (decide (a < b) && risB (b :: ns)) := rfl
theorem cutL1 {α : Type} (xs : List α) : cutL xs (some 1) none = xs.drop 1 := by
  unfold cutL
  have e1 : HT.sIx xs.length 0 (some 1) = min 1 xs.length := HT.sIx_nat xs.length 0 1
  have e2 : HT.sIx xs.length xs.length none = xs.length := rfl
  rw [e1, e2]
  cases xs with
  | nil => rfl
  | cons x t =>
    have : min 1 (x :: t).length = 1 := by rw [List.length_cons]; omega
    rw [this, List.take_of_length_le]
    rw [List.length_drop]
    exact Nat.le_refl _
theorem cut1 (xs : List V) : cutV xs (some 1) none = xs.drop 1 := by
  have h := cutL1 xs
  exact h
def spRis2 : Sp := fun vs H Q _ => ∃ (B : List Addr) (v : V) (ns : List Int), vs = [v] ∧ (Dt B H v (eI ns) ∨ Dt B H v (eC ns)) ∧ Bk B H ∧ ns.length ≤ 1000 ∧ ∀ H', Same H H' → Q (.bl (risB ns)) H'
theorem ok_are_rising (T : Tx K mg) {k : Nat} : FnOk P w K mg base CX0 (k + 2) T.f_are_rising T.d_are_rising ["things"] spRis2 := by
  refine T.F_are_rising.ok sc_are_rising (fun vs H Q E h => ?_) (fun cdv A outer s H vs Q E hr h => ?_)
  · obtain ⟨B, v, ns, rfl, _⟩ := h
    rfl
  · obtain ⟨B, v, ns, rfl, hv, hB, l, q⟩ := h
    refine ⟨_, (pss_cons (ps_if (pt_not (pt_val (pe_callB (cr_allK K rfl) (by rfl) T.z_all (by decide +kernel) (pa_cons (pe_lc (own := [("thing", 1)]) (by rfl) sc_are_rising.nd (pi_seqK K (pv 0)) (blkOk_by (own := [("thing", 1)]) (N := N_are_rising) (sc := defScope s_are_rising) (by decide +kernel)) (fun _ _ _ _ _ => (pg_name (i := 1) sc_are_rising.nd rfl (.inl rfl))) (fun _ _ _ _ _ => pts_nil) (fun _ _ _ _ _ => (pe_call (ok_is_number T (k := k)) hr (by rfl) T.g_is_number T.F_is_number.kp T.b_is_number .nil pass0 (pa_cons (pv 1) pa_nil)))) pa_nil)))) (pss_one (ps_ret pe_bl)) pss_nil)
      (pss_one (ps_ret (pe_callB (cr_allK K rfl) (by rfl) T.z_all (by decide +kernel) (pa_cons (pe_lc (own := [("a", 2), ("b", 3)]) (by rfl) sc_are_rising.nd (RZ.pi_zipA (by rfl) T.z_zip (pa_cons (pv 0) (pa_cons (pe_slice (SlR.or (sl_listK K) (sl_tupAK K)) (pv 0) (po_some pe_int) po_none) pa_nil))) (blkOk_by (own := [("a", 2), ("b", 3)]) (N := N_are_rising) (sc := defScope s_are_rising) (by decide +kernel)) (fun _ _ _ _ _ => (pg_tupK K (n := 2) rfl (pgs_cons (pg_name (i := 2) sc_are_rising.nd rfl (.inl rfl)) (pgs_cons (pg_name (i := 3) sc_are_rising.nd rfl (.inl rfl)) pgs_nil)))) (fun _ _ _ _ _ => pts_nil) (fun _ _ _ _ _ => (pe_cmpR op_lt (pv 2) (pv 3) (nomark _)))) pa_nil))))), ?_⟩
    rcases hv with hv | hv
    · obtain ⟨a, rfl, na, ea⟩ := hv.ints
      refine .inl ⟨_, rfl, a, rfl, ⟨_, SqL.of ea⟩, fun D hD => ?_⟩
      refine lc_pure (B := []) (walk_list (xs := ns.map V.int)) hD (fun _ h => nomatch h) (fun H' s' => SqL.of (s' _ _ ea)) (by rw [List.length_map]; omega) (fun i => some (.bool true)) (fun i x H' H'' Ny Nn hi s2 bk y ky kn => ?_) (fun H1 ws s1 eD hW => ?_)
      · obtain ⟨rfl, y⟩ := y
        rw [List.length_map] at hi
        have ex := mat hi y
        subst ex
        exact ⟨rfl, lc_yes ⟨_, rfl, [], _, .int ns[i], rfl, .int _, ky _ _ _ rfl (Same.refl _) (.bl _)⟩⟩
      rw [allT'] at hW
      refine ⟨D, _, rfl, SqL.of (by rw [eD, hW.blsV]), ?_⟩
      rw [show (List.replicate (ns.map V.int).length true).all id = true by simp]
      refine ⟨_, rfl, iteF ?_⟩
      have ea1 := s1 _ _ ea
      refine ⟨_, rfl, _, rfl, 1, rfl, .inl ⟨a, _, rfl, SqL.of ea1, fun sl hsl => ?_⟩⟩
      have s2 := sm_new (o := .lst (cutV (ns.map V.int) (some 1) none)) hsl
      have esl : (upd H1 sl (.lst (cutV (ns.map V.int) (some 1) none))) sl = some (.lst ((ns.drop 1).map V.int)) := by rw [upd_same, cut1, List.map_drop]
      generalize upd H1 sl (.lst (cutV (ns.map V.int) (some 1) none)) = H2 at *
      have ea2 := s2 _ _ ea1
      refine ⟨a, sl, _, _, rfl, .inl ⟨SqL.of ea2, SqL.of esl, fun D2 hD2 => ?_⟩⟩
      refine lc_pure (B := []) (walk_zip (n := min ns.length (ns.drop 1).length) (xs := ns.map V.int) (ys := (ns.drop 1).map V.int) (by simp)) hD2 (fun _ h => nomatch h) (fun H' s' => ⟨SqL.of (s' _ _ ea2), SqL.of (s' _ _ esl)⟩) (by omega)
        (fun i => (((ns.zip (ns.drop 1)).map fun p => decide (p.1 < p.2)).map PyData.bool)[i]?) (fun i x H' H'' Ny Nn hi t1 bk y ky kn => ?_) (fun H3 ws3 s3 eD3 hW3 => ?_)
      · obtain ⟨t, x, y, rfl, ht, rfl, e1, e2⟩ := y
        have i1 : i < ns.length := by omega
        have i2 : i < (ns.drop 1).length := by omega
        have x1 := mat i1 e1
        have x2 := mat i2 e2
        subst x1 x2
        refine ⟨t, _, rfl, SqT.of upd_same, rfl, _, _, rfl, _, _, rfl, rfl, rfl, lc_yes ?_⟩
        refine ⟨_, rfl, _, rfl, _, _, rfl, rfl, ?_⟩
        refine ky _ _ _ ?_ (sm_new ht) (.bl _)
        rw [List.getElem?_map, List.getElem?_map, List.getElem?_eq_getElem (by rw [List.length_zip]; exact hi)]
        simp
      · rw [fm_all (by simp)] at hW3
        refine ⟨D2, _, rfl, SqL.of (by rw [eD3, hW3.blsV]), ?_⟩
        exact q _ ((s1.trans s2).trans s3)
    · obtain ⟨a, rfl, na, ea⟩ := hv.col
      refine .inr ⟨_, rfl, a, rfl, ⟨_, SqT.of ea⟩, fun D hD => ?_⟩
      refine lc_pure (B := B) (walk_tup (xs := ns.map V.int)) hD hB (fun H' s' => SqT.of (s' _ _ ea)) (by rw [List.length_map]; omega) (fun i => some (.bool true)) (fun i x H' H'' Ny Nn hi s2 bk y ky kn => ?_) (fun H1 ws s1 eD hW => ?_)
      · obtain ⟨rfl, y⟩ := y
        rw [List.length_map] at hi
        have ex := mat hi y
        subst ex
        exact ⟨rfl, lc_yes ⟨_, rfl, [], _, .int ns[i], rfl, .int _, ky _ _ _ rfl (Same.refl _) (.bl _)⟩⟩
      rw [allT'] at hW
      refine ⟨D, _, rfl, SqL.of (by rw [eD, hW.blsV]), ?_⟩
      rw [show (List.replicate (ns.map V.int).length true).all id = true by simp]
      refine ⟨_, rfl, iteF ?_⟩
      have ea1 := s1 _ _ ea
      have hv1 := hv.s s1
      have hB1 : Bk B H1 := fun a ha => by
        have h0 := hB a ha
        cases e : H a with
        | none => exact absurd e h0
        | some o => rw [s1 _ _ e]; exact Option.some_ne_none _
      refine ⟨_, rfl, _, rfl, 1, rfl, .inr (slice_dt hv1 hB1 fun v2 H2 s2 hv2 => ?_)⟩
      rw [cutL1, ← List.map_drop] at hv2
      obtain ⟨sl, rfl, nsl, esl⟩ := Dt.col (ns := ns.drop 1) hv2
      have ea2 := s2 _ _ ea1
      refine ⟨a, sl, _, _, rfl, .inr ⟨SqT.of ea2, SqT.of esl, fun D2 hD2 => ?_⟩⟩
      refine lc_pure (B := []) (walk_zipT (n := min ns.length (ns.drop 1).length) (xs := ns.map V.int) (ys := (ns.drop 1).map V.int) (by simp)) hD2 (fun _ h => nomatch h) (fun H' s' => ⟨SqT.of (s' _ _ ea2), SqT.of (s' _ _ esl)⟩) (by omega)
        (fun i => (((ns.zip (ns.drop 1)).map fun p => decide (p.1 < p.2)).map PyData.bool)[i]?) (fun i x H' H'' Ny Nn hi t1 bk y ky kn => ?_) (fun H3 ws3 s3 eD3 hW3 => ?_)
      · obtain ⟨t, x, y, rfl, ht, rfl, e1, e2⟩ := y
        have i1 : i < ns.length := by omega
        have i2 : i < (ns.drop 1).length := by omega
        have x1 := mat i1 e1
        have x2 := mat i2 e2
        subst x1 x2
        refine ⟨t, _, rfl, SqT.of upd_same, rfl, _, _, rfl, _, _, rfl, rfl, rfl, lc_yes ?_⟩
        refine ⟨_, rfl, _, rfl, _, _, rfl, rfl, ?_⟩
        refine ky _ _ _ ?_ (sm_new ht) (.bl _)
        rw [List.getElem?_map, List.getElem?_map, List.getElem?_eq_getElem (by rw [List.length_zip]; exact hi)]
        simp
      · rw [fm_all (by simp)] at hW3
        refine ⟨D2, _, rfl, SqL.of (by rw [eD3, hW3.blsV]), ?_⟩
        exact q _ ((s1.trans s2).trans s3)
/-! ### one or more of the palette's numbers, rising -/
def someB (m : Nat) (ns : List Int) : Bool := decide (0 < ns.length) && (risB ns && (decide (0 ≤ ns.headD 0) && decide (ns.getLastD 0 < (m : Int))))
theorem some_nil (m : Nat) : someB m [] = false := rfl
theorem some_ne {m : Nat} {ns : List Int} (h : 0 < ns.length) : someB m ns = (risB ns && (decide (0 ≤ ns.headD 0) && decide (ns.getLastD 0 < (m : Int)))) := by
  unfold someB
  rw [decide_eq_true h, Bool.true_and]
def spSome : Sp := fun vs H Q _ => ∃ (B : List Addr) (pl v : V) (cs : List (List Int)) (ns : List Int), vs = [pl, v] ∧ Dt B H pl (eP cs) ∧ (Dt B H v (eI ns) ∨ Dt B H v (eC ns)) ∧ Bk B H ∧ cs.length ≤ 1000 ∧ ns.length ≤ 1000 ∧ ∀ H', Same H H' → Q (.bl (someB cs.length ns)) H'
theorem ok_are_some (T : Tx K mg) {k : Nat} : FnOk P w K mg base CX0 (k + 3) T.f_are_some T.d_are_some ["palette", "numbers"] spSome := by
  refine T.F_are_some.ok sc_are_some (fun vs H Q E h => ?_) (fun cdv A outer s H vs Q E hr h => ?_)
  · obtain ⟨B, pl, v, cs, ns, rfl, _⟩ := h
    rfl
  · obtain ⟨B, pl, v, cs, ns, rfl, hp, hv, hB, lc, l, q⟩ := h
    obtain ⟨pa, ps, rfl, np, ep, hpA⟩ := hp.pal
    have lp := hpA.len
    rw [List.length_map] at lp
    have h0 : 0 < ns.length → (ns.map V.int)[0]? = some (.int (ns.headD 0)) := fun l0 => by
      match ns, l0 with
      | x :: xs, _ => rfl
    have hl : 0 < ns.length → atI (ns.map V.int) (-1) = some (.int (ns.getLastD 0)) := fun l0 => by
      obtain ⟨ys, z, ez⟩ : ∃ ys z, ns = ys ++ [z] := ⟨_, _, (List.dropLast_concat_getLast (List.length_pos_iff.mp l0)).symm⟩
      rw [ez, List.map_append, List.getLastD_eq_getLast?, List.getLast?_append]
      exact atI_last _ _
    refine ⟨_, (pss_cons (ps_if (PW.pt (pw_or (pt_cmpR op_eq (pe_callB (len_K K) (by rfl) T.z_len PySem.boot_len (pa_cons (pv 1) pa_nil)) pe_int (nomark _)) (pw_or1 (pt_not (pt_val (pe_call (ok_are_rising T (k := k)) hr (by rfl) T.g_are_rising T.F_are_rising.kp T.b_are_rising .nil pass0 (pa_cons (pv 1) pa_nil))))))) (pss_one (ps_ret pe_bl)) pss_nil)
      (pss_one (ps_ret (pe_and (pe_cmpR op_ge (pe_ix (IxR.or (ix_listK K) (ix_tupK K)) (pv 1) pe_int (fun _ _ => rfl)) pe_int (nomark _)) (pe_one (pe_cmpR op_lt (pe_ix (IxR.or (ix_listK K) (ix_tupK K)) (pv 1) (pe_un un_neg pe_int) (fun _ _ => rfl)) (pe_callB (len_K K) (by rfl) T.z_len PySem.boot_len (pa_cons (pv 0) pa_nil)) (nomark _))))))), ?_⟩
    rcases hv with hv | hv
    · have hv0 := hv
      obtain ⟨a, rfl, na, ea⟩ := hv.ints
      refine ⟨_, rfl, a, _, rfl, .inl (SqL.of ea), rfl, _, rfl, ite2 (fun e => ?_) (fun e => ?_)⟩
      · have e0 : ns = [] := by simpa using e
        subst e0
        exact q _ (Same.refl _)
      · have l0 : 0 < ns.length := by
          have : ns ≠ [] := by simpa using e
          exact List.length_pos_iff.mpr this
        rw [some_ne l0] at q
        refine ⟨_, rfl, B, _, ns, rfl, .inl hv0, hB, l, fun H1 s1 => ?_⟩
        have ea1 := s1 _ _ ea
        have ep1 := s1 _ _ ep
        refine ⟨_, rfl, ?_⟩
        cases c : risB ns with
        | false =>
          rw [c] at q
          exact iteT (q _ s1)
        | true =>
          rw [c, Bool.true_and] at q
          refine iteF ?_
          refine ⟨_, rfl, .inl ⟨a, _, 0, _, rfl, rfl, SqL.of ea1, atI_nat (j := 0) (h0 l0), ?_⟩⟩
          refine ⟨_, _, rfl, rfl, _, rfl, ite2 (fun e => ?_) (fun e => ?_)⟩
          · rw [decide_eq_true (of_decide_eq_true e), Bool.true_and] at q
            refine ⟨_, rfl, _, rfl, .inl ⟨a, _, _, _, rfl, rfl, SqL.of ea1, hl l0, ?_⟩⟩
            refine ⟨_, rfl, pa, _, rfl, .inl (SqL.of ep1), _, _, rfl, rfl, ?_⟩
            have := q _ s1
            rw [← lp] at this
            exact this
          · have z := q _ s1
            rw [show decide (0 ≤ ns.headD 0) = false from Bool.eq_false_iff.mpr e, Bool.false_and] at z
            exact z
    · have hv0 := hv
      obtain ⟨a, rfl, na, ea⟩ := hv.col
      refine ⟨_, rfl, a, _, rfl, .inr (SqT.of ea), rfl, _, rfl, ite2 (fun e => ?_) (fun e => ?_)⟩
      · have e0 : ns = [] := by simpa using e
        subst e0
        exact q _ (Same.refl _)
      · have l0 : 0 < ns.length := by
          have : ns ≠ [] := by simpa using e
          exact List.length_pos_iff.mpr this
        rw [some_ne l0] at q
        refine ⟨_, rfl, B, _, ns, rfl, .inr hv0, hB, l, fun H1 s1 => ?_⟩
        have ea1 := s1 _ _ ea
        have ep1 := s1 _ _ ep
        refine ⟨_, rfl, ?_⟩
        cases c : risB ns with
        | false =>
          rw [c] at q
          exact iteT (q _ s1)
        | true =>
          rw [c, Bool.true_and] at q
          refine iteF ?_
          refine ⟨_, rfl, .inr ⟨a, _, 0, _, rfl, rfl, SqT.of ea1, atI_nat (j := 0) (h0 l0), ?_⟩⟩
          refine ⟨_, _, rfl, rfl, _, rfl, ite2 (fun e => ?_) (fun e => ?_)⟩
          · rw [decide_eq_true (of_decide_eq_true e), Bool.true_and] at q
            refine ⟨_, rfl, _, rfl, .inr ⟨a, _, _, _, rfl, rfl, SqT.of ea1, hl l0, ?_⟩⟩
            refine ⟨_, rfl, pa, _, rfl, .inl (SqL.of ep1), _, _, rfl, rfl, ?_⟩
            have := q _ s1
            rw [← lp] at this
            exact this
          · have z := q _ s1
            rw [show decide (0 ≤ ns.headD 0) = false from Bool.eq_false_iff.mpr e, Bool.false_and] at z
            exact z
/-! ### boxes of any data -/
def leL (a b : List Int) : Bool := (a.zip b).all fun p => decide (p.1 ≤ p.2)
def leD : PyData → PyData → Bool
  | .tuple ls, .tuple hs => (ls.zip hs).all fun p => match p with
    | (.int x, .int y) => decide (x ≤ y)
    | _ => false
  | _, _ => false
def isBox (d : PyData) (n : Int) : Bool := match d with
  | .tuple [l, h] => isCol l n && (isCol h n && leD l h)
  | _ => false
theorem isBox_eq (l h : PyData) (n : Int) : isBox (.tuple [l, h]) n = (isCol l n && (isCol h n && leD l h)) := rfl
theorem leD_eC : ∀ a b : List Int, leD (eC a) (eC b) = leL a b := by
  intro a b
  unfold leD eC leL
  simp only [List.zip_map, List.all_map]
  rfl
theorem isCol_inv {d : PyData} {n : Int} (h : isCol d n = true) : ∃ ns : List Int, d = eC ns ∧ (ns.length : Int) = n := by
  cases d with
  | tuple ds =>
    unfold isCol at h
    have h1 := Bool.and_eq_true_iff.mp h
    have h2 : (ds.length : Int) = n := of_decide_eq_true h1.1
    obtain ⟨ns, e⟩ : ∃ ns : List Int, ds = ns.map PyData.int := by
      clear h h2
      replace h1 := h1.2
      induction ds with
      | nil => exact ⟨[], rfl⟩
      | cons d ds ih =>
        rw [List.all_cons] at h1
        have h3 := Bool.and_eq_true_iff.mp h1
        obtain ⟨ns, e⟩ := ih h3.2
        cases d with
        | int i => exact ⟨i :: ns, by rw [List.map_cons, ← e]⟩
        | _ => exact absurd h3.1 (by simp [isNum])
    subst e
    rw [List.length_map] at h2
    exact ⟨ns, rfl, h2⟩
  | _ => exact absurd h (by simp [isCol])
theorem isBox_len {ds : List PyData} {n : Int} (h : ds.length ≠ 2) : isBox (.tuple ds) n = false := by
  match ds, h with
  | [], _ => rfl
  | [_], _ => rfl
  | [_, _], h => exact absurd rfl h
  | _ :: _ :: _ :: _, _ => rfl
theorem two_of {ds : List PyData} (h : ds.length = 2) : ∃ l u, ds = [l, u] := by
  match ds, h with
  | [l, u], _ => exact ⟨l, u, rfl⟩
theorem DtA.twoB {B : List Addr} {H : Hp} {vs : List V} {l u : PyData} (h : DtA B H vs [l, u]) : ∃ x y, vs = [x, y] ∧ Dt B H x l ∧ Dt B H y u := by
  cases h with
  | cons h1 h2 =>
    cases h2 with
    | cons h3 h4 =>
      cases h4
      exact ⟨_, _, rfl, h1, h3⟩
theorem leL_iff : ∀ {a b : List Int}, a.length = b.length → (leL a b = true ↔ ∀ (i : Nat) (x y : Int), a[i]? = some x → b[i]? = some y → x ≤ y)
  | [], [], _ => ⟨fun _ i x y h => by simp at h, fun _ => rfl⟩
  | x :: a, y :: b, h => by
    have ih := leL_iff (a := a) (b := b) (by simpa using h)
    unfold leL at ih ⊢
    rw [List.zip_cons_cons, List.all_cons, Bool.and_eq_true_iff, ih]
    constructor
    · rintro ⟨h1, h2⟩ i u v hu hv
      cases i with
      | zero =>
        cases hu
        cases hv
        exact of_decide_eq_true h1
      | succ i => exact h2 i u v hu hv
    · intro h1
      exact ⟨decide_eq_true (h1 0 x y rfl rfl), fun i u v hu hv => h1 (i + 1) u v hu hv⟩
def spIsBox : Sp := fun vs H Q _ => ∃ (B : List Addr) (v : V) (d : PyData) (n : Int) (j : Nat), vs = [v, .int n] ∧ Dt B H v d ∧ Sh d j ∧ j ≤ 60 ∧ n ≤ 1000 ∧ ∀ H', Same H H' → Q (.bl (isBox d n)) H'
theorem ok_is_box (T : Tx K mg) {k : Nat} : FnOk P w K mg base CX0 (k + 3) T.f_is_box T.d_is_box ["thing", "wide"] spIsBox := by
  refine T.F_is_box.ok sc_is_box (fun vs H Q E h => ?_) (fun cdv A outer s H vs Q E hr h => ?_)
  · obtain ⟨B, v, d, n, j, rfl, _⟩ := h
    rfl
  · obtain ⟨B, v, d, n, j, rfl, hv, hd, hj, hn, q⟩ := h
    refine ⟨_, (pss_cons (ps_if (PW.pt (pw_or (pt_not (pt_val (pe_callB (call_isiK1 K) (by rfl) T.z_isinstance (by decide +kernel) (pa_cons (pv 0) (pa_cons (pe_bltn (v := .ty "tuple") (by rfl) T.z_tuple (by decide +kernel) rfl) pa_nil))))) (pw_or1 (pt_cmpR op_ne (pe_callB (len_K K) (by rfl) T.z_len PySem.boot_len (pa_cons (pv 0) pa_nil)) pe_int (nomark _))))) (pss_one (ps_ret pe_bl)) pss_nil)
      (pss_cons (ps_asg (pv 0) (pg_tupK K (n := 2) rfl (pgs_cons (pg_name (i := 2) sc_is_box.nd rfl (.inl rfl)) (pgs_cons (pg_name (i := 3) sc_is_box.nd rfl (.inl rfl)) pgs_nil))))
      (pss_cons (ps_if (PW.pt (pw_or (pt_not (pt_val (pe_call (ok_is_colour T (k := k)) hr (by rfl) T.g_is_colour T.F_is_colour.kp T.b_is_colour .nil pass0 (pa_cons (pv 2) (pa_cons (pv 1) pa_nil))))) (pw_or1 (pt_not (pt_val (pe_call (ok_is_colour T (k := k)) hr (by rfl) T.g_is_colour T.F_is_colour.kp T.b_is_colour .nil pass0 (pa_cons (pv 3) (pa_cons (pv 1) pa_nil)))))))) (pss_one (ps_ret pe_bl)) pss_nil)
      (pss_one (ps_ret (pe_callB (cr_allK K rfl) (by rfl) T.z_all (by decide +kernel) (pa_cons (pe_lc (own := [("a", 4), ("b", 5)]) (by rfl) sc_is_box.nd (RZ.pi_zipA (by rfl) T.z_zip (pa_cons (pv 2) (pa_cons (pv 3) pa_nil))) (blkOk_by (own := [("a", 4), ("b", 5)]) (N := N_is_box) (sc := defScope s_is_box) (by decide +kernel)) (fun _ _ _ _ _ => (pg_tupK K (n := 2) rfl (pgs_cons (pg_name (i := 4) sc_is_box.nd rfl (.inl rfl)) (pgs_cons (pg_name (i := 5) sc_is_box.nd rfl (.inl rfl)) pgs_nil)))) (fun _ _ _ _ _ => pts_nil) (fun _ _ _ _ _ => (pe_cmpR op_le (pv 4) (pv 5) (nomark _)))) pa_nil))))))), ?_⟩
    cases d with
    | tuple ds =>
      have tx : TyX K H v (.type "tuple") := hv.ty
      obtain ⟨a, xs, rfl, na, ha, hA⟩ := hv.tupI
      have l1 := hA.len
      obtain ⟨j, rfl, hs, hl⟩ := hd.tupI
      refine ⟨_, rfl, _, _, _, _, true, rfl, .ty _, tx, kit_ty (by decide +kernel), _, rfl, iteF ?_⟩
      refine ⟨_, rfl, a, _, rfl, .inr (SqT.of ha), rfl, _, rfl, ite2 (fun e => ?_) (fun e => ?_)⟩
      · have e1 : ds.length ≠ 2 := fun z => by
          rw [l1, z] at e
          exact absurd e (by decide)
        have := q _ (Same.refl _)
        rw [isBox_len e1] at this
        exact this
      have el : ds.length = 2 := by
        rw [l1] at e
        have : ((ds.length : Nat) : Int) = 2 := by simpa using e
        omega
      obtain ⟨dl, dh, rfl⟩ := two_of el
      obtain ⟨lv, hv2, rfl, dlo, dhi⟩ := hA.twoB
      refine ⟨_, rfl, a, _, rfl, SqT.of ha, rfl, _, _, rfl, _, _, rfl, rfl, ?_⟩
      refine ⟨_, rfl, _, rfl, B, lv, dl, n, j, rfl, dlo, hs _ (by simp), by omega, fun H1 s1 => ?_⟩
      refine ⟨_, rfl, ?_⟩
      cases c1 : isCol dl n with
      | false => exact iteT (iteT (by
          have := q _ s1
          rw [show isBox (.tuple [dl, dh]) n = false by rw [isBox_eq, c1]; rfl] at this
          exact this))
      | true =>
        refine iteF ?_
        refine ⟨_, rfl, _, rfl, B, hv2, dh, n, j, rfl, dhi.s s1, hs _ (by simp), by omega, fun H2 s2 => ?_⟩
        refine ⟨_, rfl, ?_⟩
        have t2 := s1.trans s2
        cases c2 : isCol dh n with
        | false => exact iteT (by
            have := q _ t2
            rw [show isBox (.tuple [dl, dh]) n = false by rw [isBox_eq, c1, c2]; rfl] at this
            exact this)
        | true =>
          refine iteF ?_
          obtain ⟨lo, rfl, n1⟩ := isCol_inv c1
          obtain ⟨hi, rfl, n2⟩ := isCol_inv c2
          obtain ⟨la, rfl, _, ela⟩ := (dlo.s t2).col
          obtain ⟨ua, rfl, _, eua⟩ := (dhi.s t2).col
          refine ⟨_, rfl, _, rfl, la, ua, _, _, rfl, .inr ⟨SqT.of ela, SqT.of eua, fun D hD => ?_⟩⟩
          refine lc_pure (B := []) (walk_zipT (n := lo.length) (xs := lo.map V.int) (ys := hi.map V.int) (by simp; omega)) hD (fun _ h => nomatch h) (fun H' s' => ⟨SqT.of (s' _ _ ela), SqT.of (s' _ _ eua)⟩) (by omega)
            (fun i => ((lo.zip hi).map fun p => PyData.bool (decide (p.1 ≤ p.2)))[i]?) (fun i x H' H'' Ny Nn hi' t1 bk y ky kn => ?_) (fun H8 ws s8 eS hW => ?_)
          · obtain ⟨t, x, y, rfl, ht, rfl, e1, e2⟩ := y
            have i2 : i < hi.length := by omega
            have x1 := mat hi' e1
            have x2 := mat i2 e2
            refine ⟨t, [x, y], rfl, SqT.of upd_same, rfl, x, _, rfl, y, _, rfl, rfl, rfl, lc_yes ?_⟩
            refine ⟨_, rfl, _, rfl, _, _, x1, x2, ?_⟩
            refine ky _ _ _ ?_ (sm_new ht) (.bl _)
            rw [List.getElem?_map, List.getElem?_eq_getElem (by simp; omega)]
            simp
          · rw [fm_all (by simp; omega)] at hW
            have hW2 : DtA [D] H8 ws (((lo.zip hi).map fun p => decide (p.1 ≤ p.2)).map PyData.bool) := by rw [List.map_map]; exact hW
            refine ⟨D, _, rfl, SqL.of (by rw [eS, hW2.blsV]), ?_⟩
            rw [show ((lo.zip hi).map fun p => decide (p.1 ≤ p.2)).all id = isBox (.tuple [eC lo, eC hi]) n by
              rw [isBox_eq, c1, c2, leD_eC, List.all_map]
              rfl]
            exact q _ (t2.trans s8)
    | none =>
      have tx : TyX K H v (.type "NoneType") := hv.ty
      exact ⟨_, rfl, _, _, _, _, false, rfl, .ty _, tx, kit_ty (by decide +kernel), _, rfl, iteT (iteT (q _ (Same.refl _)))⟩
    | bool b =>
      have tx : TyX K H v (.type "bool") := hv.ty
      exact ⟨_, rfl, _, _, _, _, false, rfl, .ty _, tx, kit_ty (by decide +kernel), _, rfl, iteT (iteT (q _ (Same.refl _)))⟩
    | int i =>
      have tx : TyX K H v (.type "int") := hv.ty
      exact ⟨_, rfl, _, _, _, _, false, rfl, .ty _, tx, kit_ty (by decide +kernel), _, rfl, iteT (iteT (q _ (Same.refl _)))⟩
    | str z =>
      have tx : TyX K H v (.type "str") := hv.ty
      exact ⟨_, rfl, _, _, _, _, false, rfl, .ty _, tx, kit_ty (by decide +kernel), _, rfl, iteT (iteT (q _ (Same.refl _)))⟩
    | list ds =>
      have tx : TyX K H v (.type "list") := hv.ty
      exact ⟨_, rfl, _, _, _, _, false, rfl, .ty _, tx, kit_ty (by decide +kernel), _, rfl, iteT (iteT (q _ (Same.refl _)))⟩
    | dict kvs => cases hv
/-! ### one passed over -/
def eBx (b : List Int × List Int) : PyData := .tuple [eC b.1, eC b.2]
def ePs (p : (List Int × List Int) × List Int) : PyData := .tuple [eBx p.1, eC p.2]
def spPassed : Sp := fun vs H Q _ => ∃ (B : List Addr) (pl v : V) (cs : List (List Int)) (c0 : List Int) (p : (List Int × List Int) × List Int), vs = [pl, v] ∧ Dt B H pl (eP cs) ∧ Dt B H v (ePs p) ∧ Bk B H ∧ cs[0]? = some c0 ∧ c0.length ≤ 50 ∧ isBox (eBx p.1) (c0.length : Int) = true ∧ p.1.1.length ≤ 60 ∧ p.1.2.length ≤ 60 ∧ cs.length ≤ 1000 ∧ p.2.length ≤ 1000 ∧ ∀ H', Same H H' → Q (.bl (someB cs.length p.2)) H'
theorem sh_eBx {b : List Int × List Int} (h1 : b.1.length ≤ 60) (h2 : b.2.length ≤ 60) : Sh (eBx b) 2 := by
  refine sh_tup (by simp) fun d hd => ?_
  rcases List.mem_cons.mp hd with z | z
  · rw [z]; exact sh_eC (by omega)
  · rw [List.mem_singleton.mp z]; exact sh_eC (by omega)
theorem ok_is_passed (T : Tx K mg) {k : Nat} : FnOk P w K mg base CX0 (k + 4) T.f_is_passed T.d_is_passed ["palette", "thing"] spPassed := by
  refine T.F_is_passed.ok sc_is_passed (fun vs H Q E h => ?_) (fun cdv A outer s H vs Q E hr h => ?_)
  · obtain ⟨B, pl, v, cs, c0, p, rfl, _⟩ := h
    rfl
  · obtain ⟨B, pl, v, cs, c0, p, rfl, hp, hv, hB, e0, lw, hb, lw1, lw2, lc, l, q⟩ := h
    obtain ⟨pa, ps, rfl, np, ep, hpA⟩ := hp.pal
    have tx : TyX K H v (.type "tuple") := hv.ty
    obtain ⟨a, xs, rfl, na, ea, hA⟩ := hv.tupI
    obtain ⟨bv, nv, rfl, dbx, dns⟩ := hA.twoB
    refine ⟨_, (pss_cons (ps_if (PW.pt (pw_or (pt_not (pt_val (pe_callB (call_isiK1 K) (by rfl) T.z_isinstance (by decide +kernel) (pa_cons (pv 1) (pa_cons (pe_bltn (v := .ty "tuple") (by rfl) T.z_tuple (by decide +kernel) rfl) pa_nil))))) (pw_or1 (pt_cmpR op_ne (pe_callB (len_K K) (by rfl) T.z_len PySem.boot_len (pa_cons (pv 1) pa_nil)) pe_int (nomark _))))) (pss_one (ps_ret pe_bl)) pss_nil)
      (pss_cons (ps_asg (pv 1) (pg_tupK K (n := 2) rfl (pgs_cons (pg_name (i := 2) sc_is_passed.nd rfl (.inl rfl)) (pgs_cons (pg_name (i := 3) sc_is_passed.nd rfl (.inl rfl)) pgs_nil))))
      (pss_one (ps_ret (pe_and (pe_call (ok_is_box T (k := k)) hr (by rfl) T.g_is_box T.F_is_box.kp T.b_is_box .nil pass0 (pa_cons (pv 2) (pa_cons (pe_callB (len_K K) (by rfl) T.z_len PySem.boot_len (pa_cons (pe_ix (ix_listK K) (pv 0) pe_int (fun _ _ => rfl)) pa_nil)) pa_nil))) (pe_and (pe_callB (call_isiK1 K) (by rfl) T.z_isinstance (by decide +kernel) (pa_cons (pv 3) (pa_cons (pe_bltn (v := .ty "tuple") (by rfl) T.z_tuple (by decide +kernel) rfl) pa_nil))) (pe_one (pe_call (ok_are_some T (k := k)) hr (by rfl) T.g_are_some T.F_are_some.kp T.b_are_some .nil pass0 (pa_cons (pv 0) (pa_cons (pv 3) pa_nil)))))))))), ?_⟩
    refine ⟨_, rfl, _, _, _, _, true, rfl, .ty _, tx, kit_ty (by decide +kernel), _, rfl, iteF ?_⟩
    refine ⟨_, rfl, a, _, rfl, .inr (SqT.of ea), rfl, _, rfl, iteF ?_⟩
    refine ⟨_, rfl, a, _, rfl, SqT.of ea, rfl, _, _, rfl, _, _, rfl, rfl, ?_⟩
    obtain ⟨v0, f1, g1⟩ := hpA.get (i := 0) (d := eC c0) (by rw [List.getElem?_map, e0]; rfl)
    obtain ⟨ca, rfl, nca, eca⟩ := g1.col
    refine ⟨_, rfl, _, rfl, pa, _, _, _, rfl, rfl, SqL.of ep, atI_nat (j := 0) f1, ca, _, rfl, .inr (SqT.of eca), B, bv, eBx p.1, ((c0.map V.int).length : Nat), 2, rfl, dbx, sh_eBx lw1 lw2, by omega, by rw [List.length_map]; omega, fun H1 s1 => ?_⟩
    rw [List.length_map, hb]
    have tx2 : TyX K H1 nv (.type "tuple") := (dns.s s1).ty
    refine ⟨_, rfl, iteT ?_⟩
    refine ⟨_, rfl, _, _, _, _, true, rfl, .ty _, tx2, kit_ty (by decide +kernel), _, rfl, iteT ?_⟩
    refine ⟨_, rfl, _, rfl, B, _, nv, cs, p.2, rfl, hp.s s1, .inr (dns.s s1), hB.go (Go.of (B := []) s1), lc, l, fun H2 s2 => ?_⟩
    exact q _ (s1.trans s2)
/-! ### papers that are as they must be -/
abbrev Pap := List Int × List ((List Int × List Int) × List Int)
def ePap (r : Pap) : PyData := .tuple [eI r.1, .list (r.2.map ePs)]
def allN (m : Nat) : List Int := (List.range m).map fun (i : Nat) => (i : Int)
structure PapOk (m wd : Nat) (r : Pap) : Prop where
  lk : someB m r.1 = true
  wf : ∀ p ∈ r.2, isBox (eBx p.1) (wd : Int) = true ∧ p.1.1.length = wd ∧ p.1.2.length = wd ∧ someB m p.2 = true
  each : (r.1 ++ r.2.flatMap (·.2)).Perm (allN m)
theorem allN_length (m : Nat) : (allN m).length = m := by unfold allN; rw [List.length_map, List.length_range]
theorem flat_take {α β : Type} (f : α → List β) {xs : List α} {i : Nat} (h : i < xs.length) : (xs.take (i + 1)).flatMap f = (xs.take i).flatMap f ++ f xs[i] := by
  rw [List.take_succ_eq_append_getElem h, List.flatMap_append]
  simp
theorem flat_len {α β : Type} (f : α → List β) {xs : List α} (i : Nat) : ((xs.take i).flatMap f).length ≤ (xs.flatMap f).length := by
  have : xs.flatMap f = (xs.take i).flatMap f ++ (xs.drop i).flatMap f := by rw [← List.flatMap_append, List.take_append_drop]
  rw [this, List.length_append]
  omega
theorem PapOk.len {m wd : Nat} {r : Pap} (h : PapOk m wd r) : r.1.length + (r.2.flatMap (·.2)).length = m := by
  have := h.each.length_eq
  rw [List.length_append, allN_length] at this
  exact this
theorem someB_pos {m : Nat} {ns : List Int} (h : someB m ns = true) : 0 < ns.length := by
  unfold someB at h
  exact of_decide_eq_true (Bool.and_eq_true_iff.mp h).1
theorem flat_ge {α β : Type} (f : α → List β) : ∀ {xs : List α}, (∀ x ∈ xs, 0 < (f x).length) → xs.length ≤ (xs.flatMap f).length
  | [], _ => Nat.le_refl _
  | x :: xs, h => by
    have := flat_ge f (xs := xs) fun y hy => h y (List.mem_cons_of_mem _ hy)
    have := h x (List.mem_cons_self ..)
    rw [List.flatMap_cons, List.length_append, List.length_cons]
    omega
theorem PapOk.len2 {m wd : Nat} {r : Pap} (h : PapOk m wd r) : r.2.length ≤ m := by
  have := h.len
  have := flat_ge (fun p : (List Int × List Int) × List Int => p.2) (xs := r.2) fun p hp => someB_pos (h.wf p hp).2.2.2
  omega
theorem PapOk.one {m wd : Nat} {r : Pap} (h : PapOk m wd r) {p : (List Int × List Int) × List Int} (hp : p ∈ r.2) : p.2.length ≤ m := by
  have := h.len
  obtain ⟨xs, ys, e⟩ := List.append_of_mem hp
  rw [e] at this
  simp at this
  omega
theorem allN_pw (m : Nat) : (allN m).Pairwise (· ≤ ·) := by
  unfold allN
  rw [List.pairwise_map]
  exact List.pairwise_lt_range.imp fun h => by omega
theorem sorted_allN {m : Nat} {ns ks : List Int} (p : ks.Perm ns) (h : ks.Pairwise (· ≤ ·)) (e : ns.Perm (allN m)) : ks = allN m :=
  (p.trans e).eq_of_pairwise (fun a b _ _ x y => by omega) h (allN_pw m)
theorem rgV_all (m : Nat) : rgV 0 (m : Int) = (allN m).map V.int := by
  unfold rgV allN
  rw [List.map_map]
  have : ((m : Int) - 0).toNat = m := by omega
  rw [this]
  refine List.map_congr_left fun i _ => ?_
  show V.int (0 + (i : Int)) = V.int (i : Int)
  rw [Int.zero_add]
def spPaper : Sp := fun vs H Q _ => ∃ (B : List Addr) (pl v : V) (cs : List (List Int)) (c0 : List Int) (r : Pap), vs = [pl, v] ∧ Dt B H pl (eP cs) ∧ Dt B H v (ePap r) ∧ Bk B H ∧ cs[0]? = some c0 ∧ c0.length ≤ 50 ∧ cs.length ≤ 1000 ∧ PapOk cs.length c0.length r ∧ ∀ H', Same H H' → Q (.bl true) H'
set_option maxHeartbeats 1000000 in
theorem ok_is_paper (T : Tx K mg) {k : Nat} : FnOk P w K mg base CX0 (k + 5) T.f_is_paper T.d_is_paper ["palette", "thing"] spPaper := by
  refine T.F_is_paper.ok sc_is_paper (fun vs H Q E h => ?_) (fun cdv A outer s H vs Q E hr h => ?_)
  · obtain ⟨B, pl, v, cs, c0, p, rfl, _⟩ := h
    rfl
  · obtain ⟨B, pl, v, cs, c0, r, rfl, hp, hv, hB, e0, lw, lc, ok, q⟩ := h
    obtain ⟨pa, ps, rfl, np, ep, hpA⟩ := hp.pal
    have tx : TyX K H v (.type "tuple") := hv.ty
    obtain ⟨a, xs, rfl, na, ea, hA⟩ := hv.tupI
    obtain ⟨lv, sv, rfl, dlk, dps⟩ := hA.twoB
    have tl : TyX K H lv (.type "list") := dlk.ty
    have ts : TyX K H sv (.type "list") := dps.ty
    have lps := hpA.len
    rw [List.length_map] at lps
    have l1 := ok.len
    have l2 := ok.len2
    refine ⟨_, (pss_cons (ps_if (PW.pt (pw_or (pt_not (pt_val (pe_callB (call_isiK1 K) (by rfl) T.z_isinstance (by decide +kernel) (pa_cons (pv 1) (pa_cons (pe_bltn (v := .ty "tuple") (by rfl) T.z_tuple (by decide +kernel) rfl) pa_nil))))) (pw_or1 (pt_cmpR op_ne (pe_callB (len_K K) (by rfl) T.z_len PySem.boot_len (pa_cons (pv 1) pa_nil)) pe_int (nomark _))))) (pss_one (ps_ret pe_bl)) pss_nil)
      (pss_cons (ps_asg (pv 1) (pg_tupK K (n := 2) rfl (pgs_cons (pg_name (i := 2) sc_is_paper.nd rfl (.inl rfl)) (pgs_cons (pg_name (i := 3) sc_is_paper.nd rfl (.inl rfl)) pgs_nil))))
      (pss_cons (ps_if (PW.pt (pw_or (pt_not (pt_val (pe_callB (call_isiK1 K) (by rfl) T.z_isinstance (by decide +kernel) (pa_cons (pv 2) (pa_cons (pe_bltn (v := .ty "list") (by rfl) T.z_list (by decide +kernel) rfl) pa_nil))))) (pw_or (pt_not (pt_val (pe_callB (call_isiK1 K) (by rfl) T.z_isinstance (by decide +kernel) (pa_cons (pv 3) (pa_cons (pe_bltn (v := .ty "list") (by rfl) T.z_list (by decide +kernel) rfl) pa_nil))))) (pw_or1 (pt_not (pt_val (pe_call (ok_are_some T (k := k + 1)) hr (by rfl) T.g_are_some T.F_are_some.kp T.b_are_some .nil pass0 (pa_cons (pv 0) (pa_cons (pv 2) pa_nil))))))))) (pss_one (ps_ret pe_bl)) pss_nil)
      (pss_cons (ps_if (pt_not (pt_val (pe_callB (cr_allK K rfl) (by rfl) T.z_all (by decide +kernel) (pa_cons (pe_lc (own := [("each", 5)]) (by rfl) sc_is_paper.nd (pi_listK K (pv 3)) (blkOk_by (own := [("each", 5)]) (N := N_is_paper) (sc := defScope s_is_paper) (by decide +kernel)) (fun _ _ _ _ _ => (pg_name (i := 5) sc_is_paper.nd rfl (.inl rfl))) (fun _ _ _ _ _ => pts_nil) (fun _ _ _ _ _ => (pe_call (ok_is_passed T (k := k)) hr (by rfl) T.g_is_passed T.F_is_passed.kp T.b_is_passed .nil pass0 (pa_cons (pv 0) (pa_cons (pv 5) pa_nil))))) pa_nil)))) (pss_one (ps_ret pe_bl)) pss_nil)
      (pss_cons (ps_set (i := 4) sc_is_paper.nd rfl (.inl rfl) (pe_op op_cat (pv 2) (pe_lc2 (own := [("box", 6), ("numbers", 7), ("number", 8)]) (vs1 := [8]) (by rfl) sc_is_paper.nd (pi_listK K (pv 3)) (blkOk_by (own := [("box", 6), ("numbers", 7), ("number", 8)]) (N := N_is_paper) (sc := defScope s_is_paper) (by decide +kernel)) (by decide) (fun _ _ _ _ _ => (pg_tupK K (n := 2) rfl (pgs_cons (pg_name (i := 6) sc_is_paper.nd rfl (.inl rfl)) (pgs_cons (pg_name (i := 7) sc_is_paper.nd rfl (.inl rfl)) pgs_nil)))) (fun _ _ _ _ _ => pts_nil) (fun _ _ _ _ _ => (pi_tupK K (pv 7))) (fun _ _ _ _ _ => (pg_name (i := 8) sc_is_paper.nd rfl (.inl rfl))) (fun _ _ _ _ _ => pts_nil) (fun _ _ _ _ _ => (pv 8)))))
      (pss_one (ps_ret (pe_cmpR (op_eqDK K hr.units) (pe_callB (cr_sortedIK K) (by rfl) T.z_sorted (by decide +kernel) (pa_cons (pv 4) pa_nil)) (pe_listRg rfl (by rfl) T.z_list (prg_1 (by rfl) T.z_range (pe_callB (len_K K) (by rfl) T.z_len PySem.boot_len (pa_cons (pv 0) pa_nil)))) (nomark _))))))))), ?_⟩
    refine ⟨_, rfl, _, _, _, _, true, rfl, .ty _, tx, kit_ty (by decide +kernel), _, rfl, iteF ?_⟩
    refine ⟨_, rfl, a, _, rfl, .inr (SqT.of ea), rfl, _, rfl, iteF ?_⟩
    refine ⟨_, rfl, a, _, rfl, SqT.of ea, rfl, _, _, rfl, _, _, rfl, rfl, ?_⟩
    refine ⟨_, rfl, _, _, _, _, true, rfl, .ty _, tl, kit_ty (by decide +kernel), _, rfl, iteF ?_⟩
    refine ⟨_, rfl, _, _, _, _, true, rfl, .ty _, ts, kit_ty (by decide +kernel), _, rfl, iteF ?_⟩
    refine ⟨_, rfl, _, rfl, B, _, lv, cs, r.1, rfl, hp, .inl dlk, hB, lc, by omega, fun H1 s1 => ?_⟩
    rw [ok.lk]
    refine ⟨_, rfl, iteF ?_⟩
    obtain ⟨sa, svs, rfl, nsa, esa, hsA⟩ := dps.lst2
    have lsv := hsA.len
    rw [List.length_map] at lsv
    have esa1 := s1 _ _ esa
    refine ⟨_, rfl, sa, rfl, ⟨_, SqL.of esa1⟩, fun D hD => ?_⟩
    have hB1 : Bk B H1 := hB.go (Go.of (B := []) s1)
    refine lc_pure (B := B) (walk_list (xs := svs)) hD hB1 (fun H' s' => SqL.of (s' _ _ esa1)) (by omega) (fun i => some (.bool true)) (fun i x H' H'' Ny Nn hi s2 bk y ky kn => ?_) (fun H2 ws s2 eD hW => ?_)
    · obtain ⟨rfl, y⟩ := y
      obtain ⟨d1, f1, h1⟩ := hsA.getV y
      have hi2 : i < r.2.length := by omega
      rw [List.getElem?_map, List.getElem?_eq_getElem hi2] at f1
      have ed : d1 = ePs r.2[i] := (Option.some.inj f1).symm
      subst ed
      have hm := List.getElem_mem hi2
      obtain ⟨w1, w2, w3, w4⟩ := ok.wf _ hm
      have w5 := ok.one hm
      refine ⟨rfl, lc_yes ⟨_, rfl, _, rfl, B, _, x, cs, c0, r.2[i], rfl, (hp.s s1).s s2, (h1.s s1).s s2, hB1.go (Go.of (B := []) s2), e0, lw, w1, by omega, by omega, lc, by omega, fun H3 s3 => ?_⟩⟩
      rw [w4]
      exact ky _ _ _ rfl s3 (.bl _)
    have hB2 : Bk B H2 := hB1.go (Go.of (B := []) s2)
    rw [allT'] at hW
    refine ⟨D, _, rfl, SqL.of (by rw [eD, hW.blsV]), ?_⟩
    rw [show (List.replicate svs.length true).all id = true by simp]
    refine ⟨_, rfl, iteF ?_⟩
    have t2 := s1.trans s2
    have dlk2 := dlk.s t2
    obtain ⟨la, rfl, nla, ela⟩ := dlk2.ints
    have esa2 := t2 _ _ esa
    refine ⟨_, rfl, _, rfl, sa, rfl, ⟨_, SqL.of esa2⟩, fun D2 hD2 => ?_⟩
    have lf := ok.len
    refine walk_W (walk_list (xs := svs)) (fun i H' => Same H2 H' ∧ H' D2 = some (.lst (((r.2.take i).flatMap (·.2)).map V.int))) ⟨sm_new hD2, upd_same⟩ (fun i H' _ h => SqL.of (h.1 _ _ esa2)) (fun i x H3 H4 hi h y => ?_) (fun H3 h => ?_)
    · obtain ⟨s3, eD3⟩ := h
      obtain ⟨rfl, y⟩ := y
      obtain ⟨d1, f1, h1⟩ := hsA.getV y
      have hi2 : i < r.2.length := by omega
      rw [List.getElem?_map, List.getElem?_eq_getElem hi2] at f1
      have ed : d1 = ePs r.2[i] := (Option.some.inj f1).symm
      subst ed
      have h3 := (h1.s t2).s s3
      obtain ⟨pr, prs, rfl, npr, epr, hprA⟩ := h3.tupI
      obtain ⟨bv, nv, rfl, dbx, dns⟩ := hprA.twoB
      obtain ⟨nva, rfl, nnv, env⟩ := dns.col
      refine ⟨pr, _, rfl, SqT.of epr, rfl, _, _, rfl, _, _, rfl, rfl, rfl, ?_⟩
      have lfi := flat_len (fun p : (List Int × List Int) × List Int => p.2) (xs := r.2) (i + 1)
      rw [flat_take _ hi2, List.length_append] at lfi
      refine yesT ⟨_, rfl, nva, rfl, ⟨_, SqT.of env⟩, ?_⟩
      refine walk_W (walk_tup (xs := r.2[i].2.map V.int)) (fun j H' => Same H2 H' ∧ H' nva = some (.tup (r.2[i].2.map V.int)) ∧ H' D2 = some (.lst (((r.2.take i).flatMap (·.2) ++ r.2[i].2.take j).map V.int))) ⟨s3, env, by simpa using eD3⟩ (fun j H' _ h => SqT.of h.2.1) (fun j x H5 H6 hj h y => ?_) (fun H5 h => ?_)
      · obtain ⟨s5, s6, eD5⟩ := h
        obtain ⟨rfl, y⟩ := y
        rw [List.length_map] at hj
        have ex := mat hj y
        subst ex
        have nn : nva ≠ D2 := fun z => by rw [← z, s6] at eD5; cases eD5
        refine ⟨rfl, yesT ⟨_, rfl, _, eD5, sz (by rw [List.length_map, List.length_append, List.length_take]; omega), sm_mut s5 hD2, by rw [upd_ne nn]; exact s6, ?_⟩⟩
        rw [upd_same, ← List.map_singleton (f := V.int), ← List.map_append, List.append_assoc, List.take_succ_eq_append_getElem hj]
      · obtain ⟨s5, s6, eD5⟩ := h
        refine ⟨s5, ?_⟩
        rw [eD5, flat_take _ hi2, List.length_map, List.take_length]
    · obtain ⟨s3, eD3⟩ := h
      rw [lsv, List.take_length] at eD3
      have t3 := t2.trans s3
      have ela3 := s3 _ _ ela
      refine ⟨la, D2, _, _, rfl, rfl, ela3, eD3, ?_, fun p hp3 => ?_⟩
      · rw [List.length_map, List.length_map, sizeLine_eq]
        omega
      have s4 := sm_new (o := .lst (r.1.map V.int ++ (r.2.flatMap (·.2)).map V.int)) hp3
      have eb : (upd H3 p (.lst (r.1.map V.int ++ (r.2.flatMap (·.2)).map V.int))) p = some (.lst ((r.1 ++ r.2.flatMap (·.2)).map V.int)) := by rw [upd_same, List.map_append]
      generalize upd H3 p (.lst (r.1.map V.int ++ (r.2.flatMap (·.2)).map V.int)) = H4 at *
      refine ⟨_, rfl, p, _, rfl, SqL.of eb, fun ks q1 pk pw hq1 => ?_⟩
      have ek := sorted_allN pk pw ok.each
      subst ek
      have s5 := sm_new (o := .lst ((allN cs.length).map V.int)) hq1
      have eq1 : (upd H4 q1 (.lst ((allN cs.length).map V.int))) q1 = some (.lst ((allN cs.length).map V.int)) := upd_same
      generalize upd H4 q1 (.lst ((allN cs.length).map V.int)) = H5 at *
      have t5 := (t3.trans s4).trans s5
      refine ⟨_, rfl, pa, _, rfl, .inl (SqL.of (t5 _ _ ep)), ?_⟩
      refine ⟨_, rfl, RgOk.of_le (by omega) (by omega) (by omega) (by omega), fun q2 hq2 => ?_⟩
      have s6 := sm_new (o := .lst (rgV 0 (ps.length : Int))) hq2
      have eq2 : (upd H5 q2 (.lst (rgV 0 (ps.length : Int)))) q2 = some (.lst ((allN cs.length).map V.int)) := by rw [upd_same, lps, rgV_all]
      generalize upd H5 q2 (.lst (rgV 0 (ps.length : Int))) = H6 at *
      have dA : Dt [] H6 (.ref q1) (eI (allN cs.length)) := Dt.ofInts (fun h => nomatch h) (s6 _ _ eq1)
      have dB : Dt [] H6 (.ref q2) (eI (allN cs.length)) := Dt.ofInts (fun h => nomatch h) eq2
      have sh := sh_eI (ns := allN cs.length) (by rw [allN_length]; omega)
      refine ⟨_, _, dA.dP, dB.dP, sh.sh (by omega), sh.sh (by omega), ?_⟩
      rw [SeqAt.eqv_refl _ sh.1]
      exact q _ (t5.trans s6)
/-! ### holds -/
def hF (lo c hi : List Int) (i : Nat) : Bool := decide (lo.getD i 0 ≤ c.getD i 0) && decide (c.getD i 0 ≤ hi.getD i 0)
def hol (lo c hi : List Int) : Bool := (List.range c.length).all (hF lo c hi)
theorem getD_ofh {ns : List Int} {i : Nat} (h : i < ns.length) : ns.getD i 0 = ns[i] := by
  rw [List.getD_eq_getElem?_getD, List.getElem?_eq_getElem h]
  rfl
def spHolds : Sp := fun vs H Q _ => ∃ (B : List Addr) (bv cv : V) (lo hi c : List Int), vs = [bv, cv] ∧ Dt B H bv (.tuple [eC lo, eC hi]) ∧ Dt B H cv (eC c) ∧ lo.length = c.length ∧ hi.length = c.length ∧ c.length ≤ 100 ∧ ∀ H', Same H H' → Q (.bl (hol lo c hi)) H'
theorem ok_holds (T : Tx K mg) {k : Nat} : FnOk P w K mg base CX0 (k + 1) T.f_holds T.d_holds ["box", "colour"] spHolds := by
  refine T.F_holds.ok sc_holds (fun vs H Q E h => ?_) (fun cdv A outer s H vs Q E hr h => ?_)
  · obtain ⟨B, bv, cv, lo, hi, c, rfl, _⟩ := h
    rfl
  · obtain ⟨B, bv, cv, lo, hi, c, rfl, hb, hc, l1, l2, lz, q⟩ := h
    obtain ⟨ba, bvs, rfl, nba, ebx, hbA⟩ := hb.tupI
    obtain ⟨lv, hv, rfl, dlo, dhi⟩ := hbA.twoB
    obtain ⟨la, rfl, nla, elo⟩ := dlo.col
    obtain ⟨ha, rfl, nha, ehi⟩ := dhi.col
    obtain ⟨ca, rfl, nca, ec⟩ := hc.col
    refine ⟨_, (pss_cons (ps_asg (pv 0) (pg_tupK K (n := 2) rfl (pgs_cons (pg_name (i := 2) sc_holds.nd rfl (.inl rfl)) (pgs_cons (pg_name (i := 3) sc_holds.nd rfl (.inl rfl)) pgs_nil))))
      (pss_one (ps_ret (pe_callB (cr_allK K rfl) (by rfl) T.z_all (by decide +kernel) (pa_cons (pe_lc (own := [("a", 4), ("n", 5), ("b", 6)]) (by rfl) sc_holds.nd (pi_zip3 K (by rfl) T.z_zip (pa_cons (pv 2) (pa_cons (pv 1) (pa_cons (pv 3) pa_nil)))) (blkOk_by (own := [("a", 4), ("n", 5), ("b", 6)]) (N := N_holds) (sc := defScope s_holds) (by decide +kernel)) (fun _ _ _ _ _ => (pg_tupK K (n := 3) rfl (pgs_cons (pg_name (i := 4) sc_holds.nd rfl (.inl rfl)) (pgs_cons (pg_name (i := 5) sc_holds.nd rfl (.inl rfl)) (pgs_cons (pg_name (i := 6) sc_holds.nd rfl (.inl rfl)) pgs_nil))))) (fun _ _ _ _ _ => pts_nil) (fun _ _ _ _ _ => (pe_chain op_le op_le (pv 4) (pv 5) (pv 6)))) pa_nil))))), ?_⟩
    refine ⟨_, rfl, ba, _, rfl, SqT.of ebx, rfl, _, _, rfl, _, _, rfl, rfl, ?_⟩
    refine ⟨_, rfl, _, rfl, _, rfl, la, ca, ha, _, _, _, rfl, SqT.of elo, SqT.of ec, SqT.of ehi, fun D hD => ?_⟩
    refine lc_pure (B := []) (walk_zip3 (xs := lo.map V.int) (ys := c.map V.int) (ts := hi.map V.int) (by simp; omega) (by simp; omega)) hD (fun _ h => nomatch h) (fun H' s' => ⟨SqT.of (s' _ _ elo), SqT.of (s' _ _ ec), SqT.of (s' _ _ ehi)⟩) (by rw [List.length_map]; omega)
      (fun i => some (PyData.bool (hF lo c hi i))) (fun i x H' H'' Ny Nn hi' t1 bk y ky kn => ?_) (fun H8 ws s8 eS hW => ?_)
    · obtain ⟨t, x, y, z, rfl, ht, rfl, e1, e2, e3⟩ := y
      rw [List.length_map] at hi'
      have i2 : i < c.length := by omega
      have i3 : i < hi.length := by omega
      have x1 := mat hi' e1
      have x2 := mat i2 e2
      have x3 := mat i3 e3
      have ef : hF lo c hi i = (decide (lo[i] ≤ c[i]) && decide (c[i] ≤ hi[i])) := by
        unfold hF
        rw [getD_ofh hi', getD_ofh i2, getD_ofh i3]
      refine ⟨t, [x, y, z], rfl, SqT.of upd_same, rfl, x, _, rfl, y, _, rfl, z, _, rfl, rfl, rfl, lc_yes ?_⟩
      refine ⟨_, rfl, _, rfl, _, _, x1, x2, _, rfl, ite2 (fun e => ?_) (fun e => ?_)⟩
      · refine ⟨_, rfl, _, _, x2, x3, ?_⟩
        refine ky _ _ _ rfl (sm_new ht) ?_
        rw [ef, e]
        exact .bl _
      · refine ky _ _ _ rfl (sm_new ht) ?_
        rw [ef, Bool.eq_false_iff.mpr e]
        exact .bl _
    · rw [List.length_map, fm_some] at hW
      have hW2 : DtA [D] H8 ws (((List.range lo.length).map (hF lo c hi)).map PyData.bool) := by rw [List.map_map]; exact hW
      refine ⟨D, _, rfl, SqL.of (by rw [eS, hW2.blsV]), ?_⟩
      rw [show ((List.range lo.length).map (hF lo c hi)).all id = hol lo c hi by unfold hol; rw [List.all_map, l1]; rfl]
      exact q _ s8
/-! ### how near, how far a box is -/
def nearF (lo c hi : List Int) (i : Nat) : Int := if hi.getD i 0 < (if c.getD i 0 > lo.getD i 0 then c.getD i 0 else lo.getD i 0) then hi.getD i 0 else (if c.getD i 0 > lo.getD i 0 then c.getD i 0 else lo.getD i 0)
def farF (lo c hi : List Int) (i : Nat) : Int := if c.getD i 0 - lo.getD i 0 > hi.getD i 0 - c.getD i 0 then lo.getD i 0 else hi.getD i 0
def nearC (lo c hi : List Int) : List Int := (List.range c.length).map (nearF lo c hi)
def farC (lo c hi : List Int) : List Int := (List.range c.length).map (farF lo c hi)
theorem getD_of {ns : List Int} {i : Nat} (h : i < ns.length) : ns.getD i 0 = ns[i] := by
  rw [List.getD_eq_getElem?_getD, List.getElem?_eq_getElem h]
  rfl
theorem getD_big {ns : List Int} (h : cIn (-1000000) 1000000 ns) (p : Nat) : -1000000 ≤ ns.getD p 0 ∧ ns.getD p 0 ≤ 1000000 := by
  rw [List.getD_eq_getElem?_getD]
  cases e : ns[p]? with
  | none => exact ⟨by decide, by decide⟩
  | some x => exact h x (List.mem_of_getElem? e)
theorem nearC_in {lo c hi : List Int} (h1 : cIn (-1000000) 1000000 lo) (h2 : cIn (-1000000) 1000000 c) (h3 : cIn (-1000000) 1000000 hi) : cIn (-100000000) 100000000 (nearC lo c hi) := fun x hx => by
  obtain ⟨i, _, rfl⟩ := List.mem_map.mp hx
  have a := getD_big h1 i
  have b := getD_big h2 i
  have d := getD_big h3 i
  unfold nearF
  split <;> split <;> omega
theorem farC_in {lo c hi : List Int} (h1 : cIn (-1000000) 1000000 lo) (h3 : cIn (-1000000) 1000000 hi) : cIn (-100000000) 100000000 (farC lo c hi) := fun x hx => by
  obtain ⟨i, _, rfl⟩ := List.mem_map.mp hx
  have a := getD_big h1 i
  have d := getD_big h3 i
  unfold farF
  split <;> omega
def spNearBox (g : List Int → List Int → List Int → List Int) : Sp := fun vs H Q _ => ∃ (B : List Addr) (cv bv : V) (lo hi c : List Int), vs = [cv, bv] ∧ Dt B H cv (eC c) ∧ Dt B H bv (.tuple [eC lo, eC hi]) ∧ Bk B H ∧ lo.length = c.length ∧ hi.length = c.length ∧ c.length ≤ 100 ∧ cIn (-1000000) 1000000 lo ∧ cIn (-1000000) 1000000 c ∧ cIn (-1000000) 1000000 hi ∧ ∀ H', Same H H' → Q (.int (ap c (g lo c hi))) H'
theorem ok_near_box (T : Tx K mg) {k : Nat} : FnOk P w K mg base CX0 (k + 2) T.f_near_box T.d_near_box ["colour", "box"] (spNearBox nearC) := by
  refine T.F_near_box.ok sc_near_box (fun vs H Q E h => ?_) (fun cdv A outer s H vs Q E hr h => ?_)
  · obtain ⟨B, cv, bv, lo, hi, c, rfl, _⟩ := h
    rfl
  · obtain ⟨B, cv, bv, lo, hi, c, rfl, hc, hb, hB, l1, l2, lz, r1, r2, r3, q⟩ := h
    have hc0 := hc
    obtain ⟨ba, bvs, rfl, nba, ebx, hbA⟩ := hb.tupI
    obtain ⟨lv, hv, rfl, dlo, dhi⟩ := hbA.twoB
    obtain ⟨la, rfl, nla, elo⟩ := dlo.col
    obtain ⟨ha, rfl, nha, ehi⟩ := dhi.col
    obtain ⟨ca, rfl, nca, ec⟩ := hc.col
    refine ⟨_, (pss_cons (ps_asg (pv 1) (pg_tupK K (n := 2) rfl (pgs_cons (pg_name (i := 2) sc_near_box.nd rfl (.inl rfl)) (pgs_cons (pg_name (i := 3) sc_near_box.nd rfl (.inl rfl)) pgs_nil))))
      (pss_cons (ps_set (i := 4) sc_near_box.nd rfl (.inl rfl) (pe_callTy (tuple_K K) (by rfl) T.z_tuple (by decide +kernel) (pa_cons (pe_lc (own := [("a", 5), ("n", 6), ("b", 7)]) (by rfl) sc_near_box.nd (pi_zip3 K (by rfl) T.z_zip (pa_cons (pv 2) (pa_cons (pv 0) (pa_cons (pv 3) pa_nil)))) (blkOk_by (own := [("a", 5), ("n", 6), ("b", 7)]) (N := N_near_box) (sc := defScope s_near_box) (by decide +kernel)) (fun _ _ _ _ _ => (pg_tupK K (n := 3) rfl (pgs_cons (pg_name (i := 5) sc_near_box.nd rfl (.inl rfl)) (pgs_cons (pg_name (i := 6) sc_near_box.nd rfl (.inl rfl)) (pgs_cons (pg_name (i := 7) sc_near_box.nd rfl (.inl rfl)) pgs_nil))))) (fun _ _ _ _ _ => pts_nil) (fun _ _ _ _ _ => (pe_callB (call_min2 rfl) (by rfl) T.z_min (by decide +kernel) (pa_cons (pe_callB (call_max2 rfl) (by rfl) T.z_max (by decide +kernel) (pa_cons (pv 5) (pa_cons (pv 6) pa_nil))) (pa_cons (pv 7) pa_nil))))) pa_nil)))
      (pss_one (ps_ret (pe_call (ok_apart T (k := k)) hr (by rfl) T.g_apart T.F_apart.kp T.b_apart .nil pass0 (pa_cons (pv 0) (pa_cons (pv 4) pa_nil))))))), ?_⟩
    refine ⟨_, rfl, ba, _, rfl, SqT.of ebx, rfl, _, _, rfl, _, _, rfl, rfl, ?_⟩
    refine ⟨_, rfl, _, rfl, _, rfl, la, ca, ha, _, _, _, rfl, SqT.of elo, SqT.of ec, SqT.of ehi, fun D hD => ?_⟩
    refine lc_pure (B := []) (walk_zip3 (xs := lo.map V.int) (ys := c.map V.int) (ts := hi.map V.int) (by simp; omega) (by simp; omega)) hD (fun _ h => nomatch h) (fun H' s' => ⟨SqT.of (s' _ _ elo), SqT.of (s' _ _ ec), SqT.of (s' _ _ ehi)⟩) (by rw [List.length_map]; omega)
      (fun i => some (PyData.int (nearF lo c hi i))) (fun i x H' H'' Ny Nn hi' t1 bk y ky kn => ?_) (fun H8 ws s8 eS hW => ?_)
    · obtain ⟨t, x, y, z, rfl, ht, rfl, e1, e2, e3⟩ := y
      rw [List.length_map] at hi'
      have i2 : i < c.length := by omega
      have i3 : i < hi.length := by omega
      have x1 := mat hi' e1
      have x2 := mat i2 e2
      have x3 := mat i3 e3
      refine ⟨t, [x, y, z], rfl, SqT.of upd_same, rfl, x, _, rfl, y, _, rfl, z, _, rfl, rfl, rfl, lc_yes ?_⟩
      have ef := congrArg PyData.int (show nearF lo c hi i = _ from by unfold nearF; rw [getD_of hi', getD_of i2, getD_of i3])
      refine ⟨_, rfl, _, rfl, _, _, by rw [x1, x2], _, rfl, _, _, by rw [x3], ?_⟩
      exact ky _ _ _ (by rw [ef]) (sm_new ht) (.int _)
    · rw [List.length_map, fm_some, l1] at hW
      have hW2 : DtA [D] H8 ws ((nearC lo c hi).map PyData.int) := by unfold nearC; rw [List.map_map]; exact hW
      have ew := hW2.intsV
      subst ew
      refine ⟨D, _, rfl, .inl ⟨SqL.of eS, fun t ht => ?_⟩⟩
      have s9 := s8.trans (sm_new (o := .tup ((nearC lo c hi).map V.int)) ht)
      refine ⟨_, rfl, _, rfl, B, .ref ca, .ref t, c, nearC lo c hi, rfl, hc0.s s9, Dt.ofCol ((hB.go (Go.of (B := B) s8)).ne ht) upd_same, by unfold nearC; rw [List.length_map, List.length_range], by unfold nearC; rw [List.length_map, List.length_range]; exact lz, r2.mono (by decide) (by decide), nearC_in r1 r2 r3, fun H10 s10 => ?_⟩
      exact q _ (s9.trans s10)
/-! ### how far apart, and the number -/
def rk (cs : List (List Int)) (c : List Int) (n : Int) : Int × Int := (ap (cs.getD n.toNat []) c, n)
def spRank : Sp := fun vs H Q _ => ∃ (B : List Addr) (pl cv : V) (cs : List (List Int)) (c : List Int) (z : Int), vs = [pl, cv, .int z] ∧ Dt B H pl (eP cs) ∧ Dt B H cv (eC c) ∧ Bk B H ∧ pOk cs c ∧ 0 ≤ z ∧ z < (cs.length : Int) ∧
  ∀ v H', Same H H' → Dt B H' v (enc (rk cs c z)) → Q v H'
theorem ok_rank_of (T : Tx K mg) {k : Nat} : FnOk P w K mg base CX0 (k + 2) T.f_rank_of T.d_rank_of ["palette", "colour", "number"] spRank := by
  refine T.F_rank_of.ok sc_rank_of (fun vs H Q E h => ?_) (fun cdv A outer s H vs Q E hr h => ?_)
  · obtain ⟨B, pl, cv, cs, c, z, rfl, _⟩ := h
    rfl
  · obtain ⟨B, pl, cv, cs, c, z, rfl, hp, hc, hB, ⟨o1, o2, o3, o4⟩, z0, z1, q⟩ := h
    obtain ⟨i, rfl⟩ : ∃ i : Nat, z = (i : Int) := ⟨z.toNat, by omega⟩
    have hi : i < cs.length := by omega
    obtain ⟨pa, vs, rfl, np, ep, hA⟩ := hp.pal
    refine ⟨_, (pss_one (ps_ret (pe_tup (pa_cons (pe_call (ok_apart T (k := k)) hr (by rfl) T.g_apart T.F_apart.kp T.b_apart .nil pass0 (pa_cons (pe_ix (ix_listK K) (pv 0) (pv 2) (fun _ _ => rfl)) (pa_cons (pv 1) pa_nil))) (pa_cons (pv 2) pa_nil))))), ?_⟩
    obtain ⟨v, f1, g1⟩ := hA.get (i := i) (d := eC cs[i]) (by rw [List.getElem?_map, List.getElem?_eq_getElem hi]; rfl)
    have oc := o4 _ (List.getElem_mem hi)
    have gd : cs.getD i [] = cs[i] := by rw [List.getD_eq_getElem?_getD, List.getElem?_eq_getElem hi]; rfl
    refine ⟨_, rfl, _, rfl, pa, _, _, v, rfl, rfl, SqL.of ep, atI_nat f1, _, rfl, B, v, cv, cs[i], c, rfl, g1, hc, oc.1, o2, oc.2, o3, fun H3 s3 => ?_⟩
    refine ⟨_, rfl, (by show 2 ≤ sizeLine; decide), fun t ht => ?_⟩
    have B3 : Bk B H3 := hB.go (Go.of (B := []) s3)
    have s4 := sm_new (o := .tup [.int (ap cs[i] c), .int (i : Int)]) ht
    refine q _ _ (s3.trans s4) ?_
    refine Dt.ofCol (ns := [_, _]) (B3.ne ht) ?_
    rw [upd_same]
    show some (HO.tup [.int (ap cs[i] c), .int (i : Int)]) = some (.tup [.int (ap (cs.getD ((i : Int)).toNat []) c), .int (i : Int)])
    rw [show ((i : Int)).toNat = i from Int.toNat_natCast i, gd]
/-! ### what is behind -/
def spBehind : Sp := fun vs H Q _ => ∃ (B : List Addr) (pl cv tv bv nv : V) (cs : List (List Int)) (c : List Int) (t : Int × Int) (b : List Int × List Int) (ns : List Int), vs = [pl, cv, tv, bv, nv] ∧ Dt B H pl (eP cs) ∧ Dt B H cv (eC c) ∧ Dt B H tv (enc t) ∧ Dt B H bv (eBx b) ∧ Dt B H nv (eC ns) ∧ Bk B H ∧ pOk cs c ∧
  b.1.length = c.length ∧ b.2.length = c.length ∧ cIn (-1000000) 1000000 b.1 ∧ cIn (-1000000) 1000000 c ∧ cIn (-1000000) 1000000 b.2 ∧ (∀ n ∈ ns, 0 ≤ n ∧ n < (cs.length : Int) ∧ hol b.1 (cs.getD n.toNat []) b.2 = true) ∧ 0 < ns.length ∧ ns.length ≤ 1000 ∧
  ∀ H', Same H H' → Q (.bl (SrtO.lexB t (ap c (nearC b.1 c b.2), ns.headD 0))) H'
set_option maxHeartbeats 1000000 in
theorem ok_is_behind (T : Tx K mg) {k : Nat} : FnOk P w K mg base CX0 (k + 3) T.f_is_behind T.d_is_behind ["palette", "colour", "told", "box", "numbers"] spBehind := by
  refine T.F_is_behind.ok sc_is_behind (fun vs H Q E h => ?_) (fun cdv A outer s H vs Q E hr h => ?_)
  · obtain ⟨B, pl, cv, tv, bv, nv, cs, c, t, b, ns, rfl, _⟩ := h
    rfl
  · obtain ⟨B, pl, cv, tv, bv, nv, cs, c, t, b, ns, rfl, hp, hc, ht, hb, hn, hB, ⟨o1, o2, o3, o4⟩, l1, l2, r1, r2, r3, hin, n0, n1, q⟩ := h
    obtain ⟨pa, ps, rfl, np, ep, hpA⟩ := hp.pal
    obtain ⟨na, rfl, nna, en⟩ := hn.col
    refine ⟨_, (pss_cons (ps_if (pt_not (pt_val (pe_callB (cr_allK K rfl) (by rfl) T.z_all (by decide +kernel) (pa_cons (pe_lc (own := [("number", 5)]) (by rfl) sc_is_behind.nd (pi_tupK K (pv 4)) (blkOk_by (own := [("number", 5)]) (N := N_is_behind) (sc := defScope s_is_behind) (by decide +kernel)) (fun _ _ _ _ _ => (pg_name (i := 5) sc_is_behind.nd rfl (.inl rfl))) (fun _ _ _ _ _ => pts_nil) (fun _ _ _ _ _ => (pe_call (ok_holds T (k := k + 1)) hr (by rfl) T.g_holds T.F_holds.kp T.b_holds .nil pass0 (pa_cons (pv 3) (pa_cons (pe_ix (ix_listK K) (pv 0) (pv 5) (fun _ _ => rfl)) pa_nil))))) pa_nil)))) (pss_one (ps_ret pe_bl)) pss_nil)
      (pss_one (ps_ret (pe_cmpR (op_ltD K hr.units) (pv 2) (pe_tup (pa_cons (pe_call (ok_near_box T (k := k)) hr (by rfl) T.g_near_box T.F_near_box.kp T.b_near_box .nil pass0 (pa_cons (pv 1) (pa_cons (pv 3) pa_nil))) (pa_cons (pe_ix (ix_tupK K) (pv 4) pe_int (fun _ _ => rfl)) pa_nil))) (nomark _))))), ?_⟩
    refine ⟨_, rfl, na, rfl, ⟨_, SqT.of en⟩, fun D hD => ?_⟩
    refine lc_pure (B := B) (walk_tup (xs := ns.map V.int)) hD hB (fun H' s' => SqT.of (s' _ _ en)) (by rw [List.length_map]; omega) (fun i => some (.bool true)) (fun i x H' H'' Ny Nn hi s2 bk y ky kn => ?_) (fun H1 ws s1 eD hW => ?_)
    · obtain ⟨rfl, y⟩ := y
      rw [List.length_map] at hi
      have ex := mat hi y
      subst ex
      obtain ⟨z0, z1, z2⟩ := hin _ (List.getElem_mem hi)
      obtain ⟨j, ej⟩ : ∃ j : Nat, ns[i] = (j : Int) := ⟨ns[i].toNat, by omega⟩
      rw [ej] at z1 z2 ⊢
      rw [Int.toNat_natCast] at z2
      have hj : j < cs.length := by omega
      have gd : cs.getD j [] = cs[j] := by rw [List.getD_eq_getElem?_getD, List.getElem?_eq_getElem hj]; rfl
      rw [gd] at z2
      obtain ⟨v, f1, g1⟩ := hpA.get (i := j) (d := eC cs[j]) (by rw [List.getElem?_map, List.getElem?_eq_getElem hj]; rfl)
      have oc := o4 _ (List.getElem_mem hj)
      refine ⟨rfl, lc_yes ⟨_, rfl, _, rfl, _, rfl, pa, _, _, v, rfl, rfl, SqL.of (s2 _ _ ep), atI_nat f1, B, bv, v, b.1, b.2, cs[j], rfl, hb.s s2, g1.s s2, by omega, by omega, by omega, fun H3 s3 => ?_⟩⟩
      rw [z2]
      exact ky _ _ _ rfl s3 (.bl _)
    rw [allT'] at hW
    refine ⟨D, _, rfl, SqL.of (by rw [eD, hW.blsV]), ?_⟩
    rw [show (List.replicate (ns.map V.int).length true).all id = true by simp]
    refine ⟨_, rfl, iteF ?_⟩
    have B1 : Bk B H1 := hB.go (Go.of (B := []) s1)
    refine ⟨_, rfl, _, rfl, _, rfl, B, cv, bv, b.1, b.2, c, rfl, hc.s s1, hb.s s1, B1, l1, l2, by omega, r1, r2, r3, fun H2 s2 => ?_⟩
    have t2 := s1.trans s2
    have en2 := t2 _ _ en
    have h0 : (ns.map V.int)[0]? = some (.int (ns.headD 0)) := by
      match ns, n0 with
      | x :: xs, _ => rfl
    refine ⟨_, rfl, na, _, 0, _, rfl, rfl, SqT.of en2, atI_nat (j := 0) h0, ?_⟩
    refine ⟨(by show 2 ≤ sizeLine; decide), fun p hp2 => ?_⟩
    have s3 := sm_new (o := .tup [.int (ap c (nearC b.1 c b.2)), .int (ns.headD 0)]) hp2
    have B2 : Bk B H2 := hB.go (Go.of (B := []) t2)
    have dn : Dt B (upd H2 p (.tup [.int (ap c (nearC b.1 c b.2)), .int (ns.headD 0)])) (.ref p) (enc (ap c (nearC b.1 c b.2), ns.headD 0)) := Dt.ofCol (ns := [_, _]) (B2.ne hp2) upd_same
    generalize upd H2 p (.tup [.int (ap c (nearC b.1 c b.2)), .int (ns.headD 0)]) = H3 at *
    refine ⟨enc t, enc (ap c (nearC b.1 c b.2), ns.headD 0), ((ht.s t2).s s3).dP, dn.dP, alike_enc _ _, enc_ne _, Nat.le_trans (sh_eC (ns := [t.1, t.2]) (by simp)).2.1 (by decide), ?_⟩
    rw [lt_enc]
    exact q _ (t2.trans s3)
/-! ### whether a paper shows the nearest -/
structure PapIn (cs : List (List Int)) (r : Pap) : Prop where
  lo : ∀ p ∈ r.2, cIn (-1000000) 1000000 p.1.1 ∧ cIn (-1000000) 1000000 p.1.2
  ho : ∀ p ∈ r.2, ∀ n ∈ p.2, hol p.1.1 (cs.getD n.toNat []) p.1.2 = true
def shwAll (cs : List (List Int)) (c : List Int) (n : Int) (r : Pap) : Bool :=
  r.1.any (fun o => decide (o = n)) && ((r.1.map fun o => !SrtO.lexB (rk cs c o) (rk cs c n)).all id && (r.2.map fun p => SrtO.lexB (rk cs c n) (ap c (nearC p.1.1 c p.1.2), p.2.headD 0)).all id)
theorem mem_allN {m : Nat} {n : Int} : n ∈ allN m ↔ 0 ≤ n ∧ n < (m : Int) := by
  unfold allN
  rw [List.mem_map]
  constructor
  · rintro ⟨i, hi, rfl⟩
    have := List.mem_range.mp hi
    omega
  · intro h
    exact ⟨n.toNat, List.mem_range.mpr (by omega), by omega⟩
theorem PapOk.lkIn {m wd : Nat} {r : Pap} (h : PapOk m wd r) {n : Int} (hn : n ∈ r.1) : 0 ≤ n ∧ n < (m : Int) :=
  mem_allN.mp (h.each.mem_iff.mp (List.mem_append_left _ hn))
theorem PapOk.psIn {m wd : Nat} {r : Pap} (h : PapOk m wd r) {p : (List Int × List Int) × List Int} (hp : p ∈ r.2) {n : Int} (hn : n ∈ p.2) : 0 ≤ n ∧ n < (m : Int) :=
  mem_allN.mp (h.each.mem_iff.mp (List.mem_append_right _ (List.mem_flatMap.mpr ⟨p, hp, hn⟩)))
theorem any_ints (ns : List Int) (n : Int) : ((ns.map PyData.int).any fun z => PyData.eqv z (.int n)) = ns.any (fun o => decide (o = n)) := by
  rw [List.any_map]
  rfl
def spShows : Sp := fun vs H Q _ => ∃ (B : List Addr) (pl cv pv : V) (cs : List (List Int)) (c c0 : List Int) (n : Int) (r : Pap), vs = [pl, cv, .int n, pv] ∧ Dt B H pl (eP cs) ∧ Dt B H cv (eC c) ∧ Dt B H pv (ePap r) ∧ Bk B H ∧ cs[0]? = some c0 ∧ c.length ≤ 50 ∧ cIn (-1000000) 1000000 c ∧ pOk cs c ∧ PapOk cs.length c.length r ∧ PapIn cs r ∧
  ∀ H', Same H H' → Q (.bl (shwAll cs c n r)) H'
set_option maxHeartbeats 1000000 in
theorem ok_shows_nearest (T : Tx K mg) {k : Nat} : FnOk P w K mg base CX0 (k + 6) T.f_shows_nearest T.d_shows_nearest ["palette", "colour", "number", "paper"] spShows := by
  refine T.F_shows_nearest.ok sc_shows_nearest (fun vs H Q E h => ?_) (fun cdv A outer s H vs Q E hr h => ?_)
  · obtain ⟨B, pl, cv, pv, cs, c, c0, n, r, rfl, _⟩ := h
    rfl
  · obtain ⟨B, pl, cv, pv, cs, c, c0, n, r, rfl, hp, hc, hv, hB, e0, lw, cr, po, ok, oi, q⟩ := h
    have po' := po
    obtain ⟨o1, o2, o3, o4⟩ := po'
    have lc0 := (o4 _ (List.mem_of_getElem? e0)).1
    have hv0 := hv
    obtain ⟨a, xs, rfl, na, ea, hA⟩ := hv.tupI
    obtain ⟨lv, sv, rfl, dlk, dps⟩ := hA.twoB
    have l1 := ok.len
    have l2 := ok.len2
    refine ⟨_, (pss_cons (ps_if (PW.pt (pw_or (pt_not (pt_val (pe_call (ok_is_paper T (k := k)) hr (by rfl) T.g_is_paper T.F_is_paper.kp T.b_is_paper .nil pass0 (pa_cons (pv 0) (pa_cons (pv 3) pa_nil))))) (pw_or1 (pt_not (pt_val (pe_call (ok_is_number T (k := k + 4)) hr (by rfl) T.g_is_number T.F_is_number.kp T.b_is_number .nil pass0 (pa_cons (pv 2) pa_nil))))))) (pss_one (ps_ret pe_bl)) pss_nil)
      (pss_cons (ps_asg (pv 3) (pg_tupK K (n := 2) rfl (pgs_cons (pg_name (i := 4) sc_shows_nearest.nd rfl (.inl rfl)) (pgs_cons (pg_name (i := 5) sc_shows_nearest.nd rfl (.inl rfl)) pgs_nil))))
      (pss_cons (ps_if (pt_cmpR (op_notInDK K (hu65 hr)) (pv 2) (pv 4) rfl) (pss_one (ps_ret pe_bl)) pss_nil)
      (pss_cons (ps_set (i := 6) sc_shows_nearest.nd rfl (.inr rfl) (pe_call (ok_rank_of T (k := k + 3)) hr (by rfl) T.g_rank_of T.F_rank_of.kp T.b_rank_of .nil pass0 (pa_cons (pv 0) (pa_cons (pv 1) (pa_cons (pv 2) pa_nil)))))
      (pss_cons (ps_if (pt_not (pt_val (pe_callB (cr_allK K rfl) (by rfl) T.z_all (by decide +kernel) (pa_cons (pe_lc (own := [("other", 7)]) (by rfl) sc_shows_nearest.nd (pi_listK K (pv 4)) (blkOk_by (own := [("other", 7)]) (N := N_shows_nearest) (sc := defScope s_shows_nearest) (by decide +kernel)) (fun _ _ _ _ _ => (pg_name (i := 7) sc_shows_nearest.nd rfl (.inl rfl))) (fun _ _ _ _ _ => pts_nil) (fun _ _ _ _ _ => (pe_cmpR (op_leD K hr.units) (pv 6) (pe_call (ok_rank_of T (k := k + 3)) hr (by rfl) T.g_rank_of T.F_rank_of.kp T.b_rank_of .nil pass0 (pa_cons (pv 0) (pa_cons (pv 1) (pa_cons (pv 7) pa_nil)))) (nomark _)))) pa_nil)))) (pss_one (ps_ret pe_bl)) pss_nil)
      (pss_one (ps_ret (pe_callB (cr_allK K rfl) (by rfl) T.z_all (by decide +kernel) (pa_cons (pe_lc (own := [("box", 8), ("numbers", 9)]) (by rfl) sc_shows_nearest.nd (pi_listK K (pv 5)) (blkOk_by (own := [("box", 8), ("numbers", 9)]) (N := N_shows_nearest) (sc := defScope s_shows_nearest) (by decide +kernel)) (fun _ _ _ _ _ => (pg_tupK K (n := 2) rfl (pgs_cons (pg_name (i := 8) sc_shows_nearest.nd rfl (.inl rfl)) (pgs_cons (pg_name (i := 9) sc_shows_nearest.nd rfl (.inl rfl)) pgs_nil)))) (fun _ _ _ _ _ => pts_nil) (fun _ _ _ _ _ => (pe_call (ok_is_behind T (k := k + 2)) hr (by rfl) T.g_is_behind T.F_is_behind.kp T.b_is_behind .nil pass0 (pa_cons (pv 0) (pa_cons (pv 1) (pa_cons (pv 6) (pa_cons (pv 8) (pa_cons (pv 9) pa_nil)))))))) pa_nil))))))))), ?_⟩
    refine ⟨_, rfl, _, rfl, B, pl, _, cs, c0, r, rfl, hp, hv0, hB, e0, by omega, o1, by rw [lc0]; exact ok, fun H1 s1 => ?_⟩
    refine ⟨_, rfl, iteF ?_⟩
    refine ⟨_, rfl, [], .int n, .int n, rfl, .int _, ?_⟩
    refine ⟨_, rfl, iteF ?_⟩
    refine ⟨_, rfl, a, _, rfl, SqT.of (s1 _ _ ea), rfl, _, _, rfl, _, _, rfl, rfl, ?_⟩
    obtain ⟨la, rfl, nla, ela⟩ := dlk.ints
    obtain ⟨sa, svs, rfl, nsa, esa, hsA⟩ := dps.lst2
    have lsv := hsA.len
    rw [List.length_map] at lsv
    have shL := sh_eI (ns := r.1) (by omega)
    refine ⟨_, rfl, _, rfl, .int n, r.1.map PyData.int, .int _, (dlk.s s1).dP, (sh_int n 0).sh (by omega), shL.sh (by omega), _, rfl, ?_⟩
    rw [any_ints]
    cases cin : r.1.any (fun o => decide (o = n)) with
    | false =>
      have := q _ s1
      unfold shwAll at this
      rw [cin] at this
      exact iteT this
    | true =>
      obtain ⟨o, ho, eo⟩ := List.any_eq_true.mp cin
      have eo := of_decide_eq_true eo
      subst eo
      obtain ⟨n0, n1⟩ := ok.lkIn ho
      refine iteF ?_
      have B1 : Bk B H1 := hB.go (Go.of (B := []) s1)
      refine ⟨_, rfl, _, rfl, _, rfl, B, pl, cv, cs, c, o, rfl, hp.s s1, hc.s s1, B1, po, n0, n1, fun tv H2 s2 dt => ?_⟩
      have t2 := s1.trans s2
      have B2 : Bk B H2 := hB.go (Go.of (B := []) t2)
      have ela2 := t2 _ _ ela
      have esa2 := t2 _ _ esa
      have dep : ∀ p : Int × Int, (enc p).depth ≤ 50 := fun p => Nat.le_trans (sh_eC (ns := [p.1, p.2]) (by simp)).2.1 (by decide)
      refine ⟨_, rfl, la, rfl, ⟨_, SqL.of ela2⟩, fun D hD => ?_⟩
      refine lc_pure (B := B) (walk_list (xs := r.1.map V.int)) hD B2 (fun H' s' => SqL.of (s' _ _ ela2)) (by rw [List.length_map]; omega) (fun i => ((r.1.map fun x => !SrtO.lexB (rk cs c x) (rk cs c o)).map PyData.bool)[i]?) (fun i x H' H'' Ny Nn hi s3 bk y ky kn => ?_) (fun H3 ws s3 eD hW => ?_)
      · obtain ⟨rfl, y⟩ := y
        rw [List.length_map] at hi
        have ex := mat hi y
        subst ex
        obtain ⟨z0, z1⟩ := ok.lkIn (List.getElem_mem hi)
        refine ⟨rfl, lc_yes ⟨_, rfl, _, rfl, _, rfl, _, rfl, B, pl, cv, cs, c, r.1[i], rfl, (hp.s t2).s s3, (hc.s t2).s s3, B2.go (Go.of (B := []) s3), po, z0, z1, fun ov H4 s4 do4 => ?_⟩⟩
        refine ⟨enc (rk cs c o), enc (rk cs c r.1[i]), ((dt.s s3).s s4).dP, do4.dP, alike_enc _ _, enc_ne _, dep _, ?_⟩
        rw [lt_enc]
        refine ky _ _ _ ?_ s4 (.bl _)
        rw [List.getElem?_map, List.getElem?_map, List.getElem?_eq_getElem hi]
        rfl
      rw [List.length_map, fm_all (by simp)] at hW
      refine ⟨D, _, rfl, SqL.of (by rw [eD, hW.blsV]), ?_⟩
      have t3 := t2.trans s3
      have B3 : Bk B H3 := hB.go (Go.of (B := []) t3)
      have esa3 := t3 _ _ esa
      refine ⟨_, rfl, ?_⟩
      cases cal : (r.1.map fun x => !SrtO.lexB (rk cs c x) (rk cs c o)).all id with
      | false =>
        have := q _ t3
        unfold shwAll at this
        rw [cin, cal] at this
        exact iteT this
      | true =>
        refine iteF ?_
        refine ⟨_, rfl, sa, rfl, ⟨_, SqL.of esa3⟩, fun D2 hD2 => ?_⟩
        refine lc_pure (B := B) (walk_list (xs := svs)) hD2 B3 (fun H' s' => SqL.of (s' _ _ esa3)) (by omega) (fun i => ((r.2.map fun p => SrtO.lexB (rk cs c o) (ap c (nearC p.1.1 c p.1.2), p.2.headD 0)).map PyData.bool)[i]?) (fun i x H' H'' Ny Nn hi s4 bk y ky kn => ?_) (fun H4 ws4 s4 eD4 hW4 => ?_)
        · obtain ⟨rfl, y⟩ := y
          obtain ⟨d1, f1, h1⟩ := hsA.getV y
          have hi2 : i < r.2.length := by omega
          rw [List.getElem?_map, List.getElem?_eq_getElem hi2] at f1
          have ed : d1 = ePs r.2[i] := (Option.some.inj f1).symm
          subst ed
          have hm := List.getElem_mem hi2
          obtain ⟨w1, w2, w3, w4⟩ := ok.wf _ hm
          have t4 := t3.trans s4
          obtain ⟨pr, prs, rfl, npr, epr, hprA⟩ := (h1.s t4).tupI
          obtain ⟨bv, nv, rfl, dbx, dns⟩ := hprA.twoB
          have w5 := ok.one hm
          obtain ⟨i1, i2⟩ := oi.lo _ hm
          refine ⟨pr, _, rfl, SqT.of epr, rfl, _, _, rfl, _, _, rfl, rfl, rfl, ?_⟩
          refine lc_yes ⟨_, rfl, _, rfl, _, rfl, _, rfl, _, rfl, B, pl, cv, tv, bv, nv, cs, c, rk cs c o, r.2[i].1, r.2[i].2, rfl, hp.s t4, hc.s t4, (dt.s s3).s s4, dbx, dns, B3.go (Go.of (B := []) s4), po, by omega, by omega, i1, cr, i2, fun n hn => ?_, someB_pos w4, by omega, fun H5 s5 => ?_⟩
          · exact ⟨(ok.psIn hm hn).1, (ok.psIn hm hn).2, oi.ho _ hm n hn⟩
          · refine ky _ _ _ ?_ s5 (.bl _)
            rw [List.getElem?_map, List.getElem?_map, List.getElem?_eq_getElem hi2]
            rfl
        · rw [lsv, fm_all (by simp)] at hW4
          refine ⟨D2, _, rfl, SqL.of (by rw [eD4, hW4.blsV]), ?_⟩
          have := q _ (t3.trans s4)
          unfold shwAll at this
          rw [cin, cal] at this
          exact this
/-! ### how far apart: sums of squares -/
theorem sq_comm (x y : Int) : (x - y) ^ 2 = (y - x) ^ 2 := by
  rw [Int.pow_succ, Int.pow_succ, Int.pow_zero, Int.pow_succ, Int.pow_succ, Int.pow_zero]
  have : y - x = -(x - y) := by omega
  rw [this, Int.one_mul, Int.one_mul, Int.neg_mul_neg]
theorem sq_nn (x : Int) : 0 ≤ x ^ 2 := by
  rw [Int.pow_succ, Int.pow_succ, Int.pow_zero, Int.one_mul]
  rcases Int.le_total 0 x with h | h
  · exact Int.mul_nonneg h h
  · exact Int.mul_nonneg_of_nonpos_of_nonpos h h
theorem sq_zero {x : Int} (h : x ^ 2 = 0) : x = 0 := by
  rw [Int.pow_succ, Int.pow_succ, Int.pow_zero, Int.one_mul] at h
  rcases Int.mul_eq_zero.mp h with z | z <;> exact z
theorem ap_cons (x y : Int) (a b : List Int) : ap (x :: a) (y :: b) = (x - y) ^ 2 + ap a b := by
  unfold ap
  simp
theorem ap_nil (b : List Int) : ap [] b = 0 := by
  unfold ap
  simp
theorem ap_comm : ∀ a b : List Int, ap a b = ap b a
  | [], b => by unfold ap; simp
  | x :: a, [] => by unfold ap; simp
  | x :: a, y :: b => by rw [ap_cons, ap_cons, ap_comm a b, sq_comm]
theorem ap_nn : ∀ a b : List Int, 0 ≤ ap a b
  | [], b => by rw [ap_nil]; exact Int.le_refl _
  | x :: a, [] => by rw [ap_comm, ap_nil]; exact Int.le_refl _
  | x :: a, y :: b => by
    rw [ap_cons]
    have := ap_nn a b
    have := sq_nn (x - y)
    omega
/-! ### what a paper shows -/
theorem sq_mul (z : Int) : z ^ 2 = z * z := by rw [Int.pow_succ, Int.pow_succ, Int.pow_zero, Int.one_mul]
theorem sq_mono {u v : Int} (h0 : 0 ≤ u) (h : u ≤ v) : u ^ 2 ≤ v ^ 2 := by
  rw [sq_mul, sq_mul]
  exact Int.mul_le_mul h h h0 (Int.le_trans h0 h)
theorem ap_le : ∀ {c y x : List Int}, y.length = c.length → x.length = c.length → (∀ i, i < c.length → (c.getD i 0 - y.getD i 0) ^ 2 ≤ (c.getD i 0 - x.getD i 0) ^ 2) → ap c y ≤ ap c x
  | [], _, _, _, _, _ => by rw [ap_nil, ap_nil]; exact Int.le_refl _
  | a :: c, b :: y, d :: x, h1, h2, h => by
    have h3 := ap_le (c := c) (y := y) (x := x) (by simpa using h1) (by simpa using h2) fun i hi => by
      have := h (i + 1) (by rw [List.length_cons]; omega)
      simpa using this
    have h0 : (a - b) ^ 2 ≤ (a - d) ^ 2 := by
      have := h 0 (by rw [List.length_cons]; omega)
      simpa using this
    rw [ap_cons, ap_cons]
    exact Int.add_le_add h0 h3
  | _ :: _, [], _, h1, _, _ => by simp at h1
  | _ :: _, _ :: _, [], _, h2, _ => by simp at h2
theorem near_le {lo c hi x : List Int} (hx : x.length = c.length) (h : hol lo x hi = true) : ap c (nearC lo c hi) ≤ ap x c := by
  rw [ap_comm x c]
  have hl : (nearC lo c hi).length = c.length := by unfold nearC; rw [List.length_map, List.length_range]
  refine ap_le hl hx fun i hi' => ?_
  have e : (nearC lo c hi).getD i 0 = nearF lo c hi i := by
    rw [List.getD_eq_getElem?_getD]
    unfold nearC
    rw [List.getElem?_map, List.getElem?_range hi']
    rfl
  rw [e]
  unfold hol at h
  have hf := List.all_eq_true.mp h i (List.mem_range.mpr (by omega))
  unfold hF at hf
  have hf := Bool.and_eq_true_iff.mp hf
  have a1 := of_decide_eq_true hf.1
  have a2 := of_decide_eq_true hf.2
  unfold nearF
  generalize lo.getD i 0 = l at *
  generalize hi.getD i 0 = u at *
  generalize c.getD i 0 = y at *
  generalize x.getD i 0 = z at *
  split <;> split
  · exact sq_mono (by omega) (by omega)
  · rw [Int.sub_self, show (0 : Int) ^ 2 = 0 from rfl]
    exact sq_nn _
  · exact absurd a1 (by omega)
  · rw [sq_comm y l, sq_comm y z]
    exact sq_mono (by omega) (by omega)
theorem ris_head : ∀ {ns : List Int}, risB ns = true → ∀ n ∈ ns, ns.headD 0 ≤ n
  | [], _, _, h => nomatch h
  | [a], _, n, h => by rw [List.mem_singleton.mp h]; exact Int.le_refl _
  | a :: b :: ns, h, n, hn => by
    rw [risB_cons] at h
    have h := Bool.and_eq_true_iff.mp h
    have h1 := of_decide_eq_true h.1
    rcases List.mem_cons.mp hn with z | z
    · rw [z]; exact Int.le_refl _
    · have := ris_head h.2 n z
      have e : (b :: ns).headD 0 = b := rfl
      rw [e] at this
      show a ≤ n
      omega
theorem someB_ris {m : Nat} {ns : List Int} (h : someB m ns = true) : risB ns = true := by
  unfold someB at h
  exact (Bool.and_eq_true_iff.mp (Bool.and_eq_true_iff.mp h).2).1
/-- a paper that shows a number shows it truly -/
theorem shw_sound {cs : List (List Int)} {c : List Int} {n : Int} {r : Pap} {wd : Nat} (ok : PapOk cs.length wd r) (oi : PapIn cs r) (wl : ∀ x ∈ cs, x.length = c.length) (h : shwAll cs c n r = true) {o : Int} (o0 : 0 ≤ o) (o1 : o < (cs.length : Int)) : SrtO.lexB (rk cs c o) (rk cs c n) = false := by
  unfold shwAll at h
  have h1 := Bool.and_eq_true_iff.mp (Bool.and_eq_true_iff.mp h).2
  rcases List.mem_append.mp (ok.each.mem_iff.mpr (mem_allN.mpr ⟨o0, o1⟩)) with z | z
  · have := List.all_eq_true.mp h1.1 _ (List.mem_map_of_mem z)
    simpa using this
  · obtain ⟨p, hp, hz⟩ := List.mem_flatMap.mp z
    have h2 := List.all_eq_true.mp h1.2 _ (List.mem_map_of_mem hp)
    have h2 := SrtO.lexB_iff.mp h2
    have w4 := (ok.wf _ hp).2.2.2
    have h3 := ris_head (someB_ris w4) o hz
    have hj : o.toNat < cs.length := by omega
    have gd : cs.getD o.toNat [] = cs[o.toNat] := by rw [List.getD_eq_getElem?_getD, List.getElem?_eq_getElem hj]; rfl
    have h4 := oi.ho _ hp o hz
    have h5 := near_le (c := c) (by rw [gd]; exact wl _ (List.getElem_mem hj)) h4
    refine SrtO.lexB_no.mpr ?_
    unfold rk at *
    simp only at h2 ⊢
    omega
/-- where n is the least, and the passed ones are told to be behind, the paper shows it -/
theorem shw_yes {cs : List (List Int)} {c : List Int} {n : Int} {r : Pap} {wd : Nat} (ok : PapOk cs.length wd r) (hn : n ∈ r.1) (hl : ∀ o : Int, 0 ≤ o → o < (cs.length : Int) → SrtO.lexB (rk cs c o) (rk cs c n) = false)
    (hb : ∀ p ∈ r.2, SrtO.lexB (rk cs c n) (ap c (nearC p.1.1 c p.1.2), p.2.headD 0) = true) : shwAll cs c n r = true := by
  unfold shwAll
  refine Bool.and_eq_true_iff.mpr ⟨List.any_eq_true.mpr ⟨n, hn, decide_eq_true rfl⟩, Bool.and_eq_true_iff.mpr ⟨List.all_eq_true.mpr fun b hb' => ?_, List.all_eq_true.mpr fun b hb' => ?_⟩⟩
  · obtain ⟨o, ho, rfl⟩ := List.mem_map.mp hb'
    have := hl o (ok.lkIn ho).1 (ok.lkIn ho).2
    rw [this]
    rfl
  · obtain ⟨p, hp, rfl⟩ := List.mem_map.mp hb'
    exact hb p hp
/-! ### the draws, by their data alone -/
def cOk (wd : Int) (c : List Int) : Prop := (c.length : Int) = wd ∧ cIn 0 999 c
theorem Lfs.one {L : List Addr} {H H' : Hp} {n m : Nat} {a : Addr} (lf : Lfs L H n) (g : Go [a] H H') (l : Lf a H' m) (h : n ≤ m) : Lfs L H' m := fun b hb => by
  by_cases e : b = a
  · rw [e]; exact l
  · exact ((lf b hb).go g (by simpa using e)).mono h
def rPick : List Sl → Nat → DQ → Prop := fun ds n K => ∃ m : Int, ds = [.l, .d (.int m)] ∧ n < 1000000000 ∧ 0 < m ∧ m < 1073741824 ∧ ∀ r : Int, 0 ≤ r → r < m → K (.int r) (n + 1)
theorem okd_l_pick (T : Tx K mg) {k : Nat} : FnOk P w K mg base CX0 (k + 2) T.f_l_pick T.d_l_pick ["_law_left_here", "_law_many"] (spD rPick) := (ok_l_pick T).imp fun vs H Q E h => by
  obtain ⟨L, B, ds, n, K', hv, hB, lb, lf, ⟨m, e, n1, m0, m1, k⟩, q⟩ := h
  subst e
  cases hv with
  | l ha h2 => cases h2 with
    | d h2 h3 =>
      cases h3
      cases h2
      exact ⟨_, m, n, rfl, lf _ ha, n1, m0, m1, fun r H' g l r0 r1 => q _ _ _ _ (k r r0 r1) (g.w1 ha) (lf.one g l (by omega)) (.int r)⟩
/-- a display of whole numbers, and one of them -/
theorem at_ints {ns : List Int} {r : Int} (h0 : 0 ≤ r) (h1 : r < ns.length) : ∃ z, z ∈ ns ∧ atI (ns.map PyData.int) r = some (.int z) := by
  have h : r.toNat < ns.length := by omega
  exact ⟨ns[r.toNat], List.getElem_mem h, at0 h0 (by rw [List.getElem?_map, List.getElem?_eq_getElem h]; rfl)⟩
def rKind : List Sl → Nat → DQ → Prop := fun ds n K => ds = [.l] ∧ n < 100000000 ∧ ∀ wd sp : Int, 1 ≤ wd → wd ≤ 5 → 3 ≤ sp → sp ≤ 1000 → K (eC [wd, sp]) (n + 2)
theorem okd_l_kind (T : Tx K mg) {k : Nat} : FnOk P w K mg base CX0 (k + 3) T.f_l_kind T.d_l_kind ["_law_left_here"] (spD rKind) := by
  refine okD T.F_l_kind sc_l_kind _ (fun cdv A outer s H E hr => ⟨_, (pss_one (ps_ret (pe_tup (pa_cons (pe_ix (ix_listK K) (pe_lst (pa_cons pe_int (pa_cons pe_int (pa_cons pe_int (pa_cons pe_int (pa_cons pe_int (pa_cons pe_int (pa_cons pe_int (pa_cons pe_int pa_nil))))))))) (pe_call (okd_l_pick T (k := k)) hr (by rfl) T.g_l_pick T.F_l_pick.kp T.b_l_pick .nil pass0 (pa_cons (pv 0) (pa_cons pe_int pa_nil))) (fun _ _ => rfl)) (pa_cons (pe_ix (ix_listK K) (pe_lst (pa_cons pe_int (pa_cons pe_int (pa_cons pe_int (pa_cons pe_int (pa_cons pe_int (pa_cons pe_int pa_nil))))))) (pe_call (okd_l_pick T (k := k)) hr (by rfl) T.g_l_pick T.F_l_pick.kp T.b_l_pick .nil pass0 (pa_cons (pv 0) (pa_cons pe_int pa_nil))) (fun _ _ => rfl)) pa_nil))))),
      (ss_ret (se_tup (sa_cons (se_op sr_ixL (SN.se (sn_lst (sa_cons se_int (sa_cons se_int (sa_cons se_int (sa_cons se_int (sa_cons se_int (sa_cons se_int (sa_cons se_int (sa_cons se_int sa_nil)))))))))) (se_call (sa_consL (sa_cons se_int sa_nil)))) (sa_cons (se_op sr_ixL (SN.se (sn_lst (sa_cons se_int (sa_cons se_int (sa_cons se_int (sa_cons se_int (sa_cons se_int (sa_cons se_int sa_nil)))))))) (se_call (sa_consL (sa_cons se_int sa_nil)))) sa_nil))))⟩) (fun ds n Q ⟨e, _⟩ => by rw [e]; rfl) fun ds n Q ⟨e, n1, q⟩ => ?_
  subst e
  refine ⟨_, rfl, by decide, rfl, 8, rfl, by omega, by decide, by decide, fun r r0 r1 => ?_⟩
  obtain ⟨z, hz, ez⟩ := at_ints (ns := [1, 2, 3, 3, 3, 4, 5, 2]) r0 (by simpa using r1)
  refine ⟨_, _, _, rfl, rfl, ez, ?_⟩
  refine ⟨_, rfl, by decide, rfl, 6, rfl, by omega, by decide, by decide, fun r2 r3 r4 => ?_⟩
  obtain ⟨y, hy, ey⟩ := at_ints (ns := [3, 6, 20, 256, 1000, 10]) r3 (by simpa using r4)
  refine ⟨_, _, _, rfl, rfl, ey, ?_⟩
  refine ⟨_, rfl, by simp, ?_⟩
  have hz : z = 1 ∨ z = 2 ∨ z = 3 ∨ z = 3 ∨ z = 3 ∨ z = 4 ∨ z = 5 ∨ z = 2 := by simpa using hz
  have hy : y = 3 ∨ y = 6 ∨ y = 20 ∨ y = 256 ∨ y = 1000 ∨ y = 10 := by simpa using hy
  exact q z y (by omega) (by omega) (by omega) (by omega)
def rColour : List Sl → Nat → DQ → Prop := fun ds n K => ∃ wd sp : Int, ds = [.l, .d (eC [wd, sp])] ∧ n < 100000000 ∧ 0 ≤ wd ∧ wd ≤ 5 ∧ 1 ≤ sp ∧ sp ≤ 1000 ∧ ∀ (ns : List Int) m, m ≤ n + 10 → (ns.length : Int) = wd → cIn 0 999 ns → K (eC ns) m
theorem okd_l_colour (T : Tx K mg) {k : Nat} : FnOk P w K mg base CX0 (k + 3) T.f_l_colour T.d_l_colour ["_law_left_here", "_law_kind_here"] (spD rColour) := by
  refine okD T.F_l_colour sc_l_colour _ (fun cdv A outer s H E hr => ⟨_, (pss_cons (ps_asg (pv 1) (pg_tupK K (n := 2) rfl (pgs_cons (pg_name (i := 2) sc_l_colour.nd rfl (.inl rfl)) (pgs_cons (pg_name (i := 3) sc_l_colour.nd rfl (.inr rfl)) pgs_nil))))
      (pss_one (ps_ret (pe_callTy (tuple_K K) (by rfl) T.z_tuple (by decide +kernel) (pa_cons (pe_lc (own := [("_law_place", 4)]) (by rfl) sc_l_colour.nd (pi_range1 (by rfl) T.z_range (pa_cons (pv 2) pa_nil)) (blkOk_by (own := [("_law_place", 4)]) (N := N_l_colour) (sc := defScope s_l_colour) (by decide +kernel)) (fun _ _ _ _ _ => (pg_name (i := 4) sc_l_colour.nd rfl (.inl rfl))) (fun _ _ _ _ _ => pts_nil) (fun _ _ _ _ _ => (pe_ix (ix_listK K) (pe_lst (pa_cons (pe_call (okd_l_pick T (k := k)) hr (by rfl) T.g_l_pick T.F_l_pick.kp T.b_l_pick .nil pass0 (pa_cons (pv 0) (pa_cons (pv 3) pa_nil))) (pa_cons pe_int pa_nil))) (pe_callTy call_int1 (by rfl) T.z_int (by decide +kernel) (pa_cons (pe_cmpR op_eq (pe_call (okd_l_pick T (k := k)) hr (by rfl) T.g_l_pick T.F_l_pick.kp T.b_l_pick .nil pass0 (pa_cons (pv 0) (pa_cons pe_int pa_nil))) pe_int (nomark _)) pa_nil)) (fun _ _ => rfl)))) pa_nil))))),
      (ss_seq (ss_asg (sv 1) (sg_tup (sgs_cons sg_name (sgs_cons sg_name sgs_nil))))
      (ss_ret (se_cb sc_tup (sa_cons (SN.se (sn_lc (si_r1 (sa_cons (sv 2) sa_nil)) sg_name st_yesD (se_op sr_ixL (SN.se (sn_lst (sa_cons (se_call (sa_consL (sa_cons (sv 3) sa_nil))) (sa_cons se_int sa_nil)))) (se_cb sc_int1 (sa_cons (se_op sr_eqI (se_call (sa_consL (sa_cons se_int sa_nil))) se_int) sa_nil))) (by decide))) sa_nil))))⟩) (fun ds n Q ⟨_, _, e, _⟩ => by rw [e]; rfl) fun ds n Q ⟨wd, sp, e, n1, w0, w1, s0, s1, q⟩ => ?_
  subst e
  refine ⟨_, rfl, _, rfl, rfl, _, _, rfl, _, _, rfl, rfl, ?_⟩
  refine ⟨_, rfl, _, rfl, by omega, by omega, by rw [rgD_len]; omega, fun i acc j => ∃ ns : List Int, acc = ns.map .int ∧ ns.length = i ∧ cIn 0 999 ns ∧ j = n + 2 * i, ⟨[], rfl, rfl, cIn.nil, rfl⟩, fun i d acc j ed ⟨ns, ea, en, cn, ej⟩ => ?_, fun acc j ⟨ns, ea, en, cn, ej⟩ => ?_⟩
  · have hi : i < wd.toNat := by have := (List.getElem?_eq_some_iff.mp ed).1; rwa [rgD_len] at this
    refine ⟨rfl, _, rfl, sp, rfl, by omega, by omega, by omega, fun r r0 r1 => ?_⟩
    refine ⟨_, rfl, by simp, rfl, 8, rfl, by omega, by decide, by decide, fun r2 r3 r4 => ?_⟩
    refine ⟨_, _, rfl, rfl, _, rfl, .inr ⟨_, rfl, ?_⟩⟩
    cases e8 : decide (r2 = 0) with
    | false =>
      refine ⟨_, _, _, rfl, rfl, rfl, ns ++ [r], by rw [ea, List.map_append]; rfl, by simp [en], cn.app r0 (by omega), by omega⟩
    | true =>
      refine ⟨_, _, _, rfl, rfl, rfl, ns ++ [999], by rw [ea, List.map_append]; rfl, by simp [en], cn.app (by decide) (by decide), by omega⟩
  · rw [rgD_len] at en ej
    refine ⟨_, rfl, _, .inl rfl, ?_⟩
    rw [ea]
    exact q ns j (by omega) (by omega) cn
theorem ec_at {cs : List (List Int)} {r : Int} (h0 : 0 ≤ r) (h1 : r < cs.length) : ∃ c, c ∈ cs ∧ atI (cs.map eC) r = some (eC c) := by
  have h : r.toNat < cs.length := by omega
  exact ⟨cs[r.toNat], List.getElem_mem h, at0 h0 (by rw [List.getElem?_map, List.getElem?_eq_getElem h]; rfl)⟩
theorem shd_cs {cs : List (List Int)} (h : cs.length ≤ 1000) (h2 : ∀ c ∈ cs, c.length ≤ 1000) : SeqAt.shaped (.list (cs.map eC)) = true := (sh_eP (cs := cs) (by omega) fun c hc => by have := h2 c hc; omega).sh (by decide)
def rPalette : List Sl → Nat → (List PyData → Nat → Prop) → Prop := fun ds n K => ∃ wd sp : Int, ds = [.l, .d (eC [wd, sp])] ∧ n < 10000000 ∧ 0 ≤ wd ∧ wd ≤ 5 ∧ 1 ≤ sp ∧ sp ≤ 1000 ∧ ∀ (cs : List (List Int)) m, m ≤ n + 1000 → 0 < cs.length → cs.length ≤ 40 → (∀ c ∈ cs, cOk wd c) → K (cs.map eC) m
theorem okn_l_palette (T : Tx K mg) {k : Nat} : FnOk P w K mg base CX0 (k + 4) T.f_l_palette T.d_l_palette ["_law_left_here", "_law_kind_here"] (spN rPalette) := by
  refine okN T.F_l_palette sc_l_palette _ (fun cdv A outer s H E hr => ⟨_, (pss_cons (ps_set (i := 2) sc_l_palette.nd rfl (.inl rfl) (pe_ix (ix_listK K) (pe_lst (pa_cons pe_int (pa_cons pe_int (pa_cons pe_int (pa_cons pe_int (pa_cons pe_int (pa_cons pe_int (pa_cons pe_int (pa_cons (pe_op op_add pe_int (pe_call (okd_l_pick T (k := k + 1)) hr (by rfl) T.g_l_pick T.F_l_pick.kp T.b_l_pick .nil pass0 (pa_cons (pv 0) (pa_cons pe_int pa_nil)))) pa_nil))))))))) (pe_call (okd_l_pick T (k := k + 1)) hr (by rfl) T.g_l_pick T.F_l_pick.kp T.b_l_pick .nil pass0 (pa_cons (pv 0) (pa_cons pe_int pa_nil))) (fun _ _ => rfl)))
      (pss_cons (ps_set (i := 3) sc_l_palette.nd rfl (.inl rfl) (pe_lst pa_nil))
      (pss_cons (ps_for PassesOwn.never rfl (pi_range1 (by rfl) T.z_range (pa_cons (pv 2) pa_nil)) (pg_name (i := 4) sc_l_palette.nd rfl (.inl rfl)) (pss_cons (ps_set (i := 5) sc_l_palette.nd rfl (.inl rfl) (pe_call (okd_l_colour T (k := k)) hr (by rfl) T.g_l_colour T.F_l_colour.kp T.b_l_colour .nil pass0 (pa_cons (pv 0) (pa_cons (pv 1) pa_nil))))
      (Evl.pss_cut (ps_if (PW.pt (pw_and (pt_cmpR (op_neDK K hr.units) (pv 3) (pe_lst pa_nil) (nomark _)) (pw_and1 (pt_cmpR op_eq (pe_call (okd_l_pick T (k := k + 1)) hr (by rfl) T.g_l_pick T.F_l_pick.kp T.b_l_pick .nil pass0 (pa_cons (pv 0) (pa_cons pe_int pa_nil))) pe_int (nomark _))))) (pss_one (ps_set (i := 5) sc_l_palette.nd rfl (.inl rfl) (pe_ix (ix_listK K) (pv 3) (pe_call (okd_l_pick T (k := k + 1)) hr (by rfl) T.g_l_pick T.F_l_pick.kp T.b_l_pick .nil pass0 (pa_cons (pv 0) (pa_cons (pe_callB (len_K K) (by rfl) T.z_len PySem.boot_len (pa_cons (pv 3) pa_nil)) pa_nil))) (fun _ _ => rfl)))) pss_nil)
      (pss_one (ps_expr (pe_bm PySem.F.plainAttrs_list PySem.F.slot_list_append PySem.F.type_list_append mt_append (pv 3) (pa_cons (pv 5) pa_nil)))))))
      (pss_one (ps_ret (pv 3)))))),
      (ss_seq (ss_asg (se_op sr_ixL (SN.se (sn_lst (sa_cons se_int (sa_cons se_int (sa_cons se_int (sa_cons se_int (sa_cons se_int (sa_cons se_int (sa_cons se_int (sa_cons (se_op sr_int se_int (se_call (sa_consL (sa_cons se_int sa_nil)))) sa_nil)))))))))) (se_call (sa_consL (sa_cons se_int sa_nil)))) sg_name)
      (ss_seq (ss_asgO (sn_lst sa_nil))
      (ss_seq (ss_for (si_r1 (sa_cons (sv 2) sa_nil)) sg_name (ss_seq (ss_asg (se_call (sa_consL (sa_cons (sv 1) sa_nil))) sg_name)
      (ss_cut (ss_if (st_and (st_test (se_neO (SN.se (sn_lst sa_nil)))) (st_test (se_op sr_eqI (se_call (sa_consL (sa_cons se_int sa_nil))) se_int))) (ss_asg (se_ixO (se_call (sa_consL (sa_cons se_lenO sa_nil)))) sg_name) ss_next)
      (ss_app (sv 5)))))
      ss_retO)))⟩) (fun ds n Q ⟨_, _, e, _⟩ => by rw [e]; rfl) fun ds n Q ⟨wd, sp, e, n1, w0, w1, s0, s1, q⟩ => ?_
  subst e
  refine ⟨rfl, 31, rfl, by omega, by decide, by decide, fun r r0 r1 => ⟨_, _, rfl, rfl, _, rfl, by simp, rfl, 8, rfl, by omega, by decide, by decide, fun r2 r3 r4 => ?_⟩⟩
  obtain ⟨z, hz, ez⟩ := at_ints (ns := [1, 2, 3, 4, 5, 7, 9, 10 + r]) r3 (by simpa using r4)
  have hz : z = 1 ∨ z = 2 ∨ z = 3 ∨ z = 4 ∨ z = 5 ∨ z = 7 ∨ z = 9 ∨ z = 10 + r := by simpa using hz
  refine ⟨_, _, _, rfl, rfl, ez, ?_⟩
  refine ⟨_, rfl, by simp, ?_⟩
  refine ⟨_, rfl, _, rfl, by omega, by omega, fun i δ j => ∃ (cs : List (List Int)) (x4 x5 : Sl), δ = [.l, .d (eC [wd, sp]), .d (.int z), .o (cs.map eC), x4, x5] ∧ cs.length = i ∧ (∀ c ∈ cs, cOk wd c) ∧ j ≤ n + 2 + 12 * i, ⟨[], _, _, rfl, rfl, (fun _ h => nomatch h), by omega⟩, fun i d δ j ed ⟨cs, x4, x5, eδ, en, ok, ej⟩ => ?_, fun δ j ⟨cs, x4, x5, eδ, en, ok, ej⟩ => ?_⟩
  · have hi : i < z.toNat := by have := (List.getElem?_eq_some_iff.mp ed).1; rwa [rgD_len] at this
    subst eδ
    refine ⟨rfl, _, rfl, wd, sp, rfl, by omega, by omega, by omega, by omega, by omega, fun c m hm lc cc => ?_⟩
    refine ⟨fun δ j => ∃ (c : List Int), δ = [.l, .d (eC [wd, sp]), .d (.int z), .o (cs.map eC), .d d, .d (eC c)] ∧ cOk wd c ∧ j ≤ n + 2 + 12 * i + 12, ?_, fun δ j ⟨c, eδ, oc, ej⟩ => ?_⟩
    · have M0 : ∃ c', [Sl.l, .d (eC [wd, sp]), .d (.int z), .o (cs.map eC), .d d, .d (eC c)] = [Sl.l, .d (eC [wd, sp]), .d (.int z), .o (cs.map eC), .d d, .d (eC c')] ∧ cOk wd c' ∧ m + 1 ≤ n + 2 + 12 * i + 12 := ⟨c, rfl, ⟨lc, cc⟩, by omega⟩
      refine ⟨_, rfl, shd_cs (by omega) (fun c hc => by have := (ok c hc).1; omega), _, rfl, by simp, rfl, ?_⟩
      cases cs with
      | nil => exact ⟨_, rfl, c, rfl, ⟨lc, cc⟩, by omega⟩
      | cons c0 cs =>
        refine ⟨_, rfl, rfl, 6, rfl, by omega, by decide, by decide, fun r5 r6 r7 => ⟨_, _, rfl, rfl, _, rfl, ite2 (fun e8 => ?_) (fun e8 => ?_)⟩⟩
        · refine ⟨_, rfl, rfl, _, rfl, _, rfl, by omega, by rw [List.length_map, List.length_cons]; omega, by rw [List.length_map]; omega, fun r8 r9 ra => ?_⟩
          obtain ⟨c1, h1, e1⟩ := ec_at (cs := c0 :: cs) r9 (by rw [List.length_map] at ra; exact ra)
          exact ⟨_, _, rfl, e1, c1, rfl, ok c1 h1, by omega⟩
        · exact ⟨c, rfl, ⟨lc, cc⟩, by omega⟩
    · subst eδ
      refine ⟨_, rfl, by simp; omega, _, rfl, cs ++ [c], _, _, by rw [List.map_append]; rfl, by simp [en], fun x hx => ?_, by omega⟩
      rcases List.mem_append.mp hx with h | h
      · exact ok x h
      · rw [List.mem_singleton.mp h]; exact oc
  · subst eδ
    rw [rgD_len] at en ej
    exact ⟨_, rfl, q cs j (by omega) (by omega) (by omega) ok⟩
theorem gi {c : List Int} {i : Nat} {d : PyData} (e : (c.map PyData.int)[i]? = some d) : ∃ h : i < c.length, d = .int c[i] := by
  rw [List.getElem?_map] at e
  cases q : c[i]? with
  | none => rw [q] at e; cases e
  | some x =>
    obtain ⟨h, ex⟩ := List.getElem?_eq_some_iff.mp q
    rw [q] at e
    exact ⟨h, by rw [← ex] at e; exact (Option.some.inj e).symm⟩
def rAsked : List Sl → Nat → DQ → Prop := fun ds n K => ∃ (wd sp : Int) (cs : List (List Int)), ds = [.l, .d (eC [wd, sp]), .d (eP cs)] ∧ n < 10000000 ∧ 0 ≤ wd ∧ wd ≤ 5 ∧ 1 ≤ sp ∧ sp ≤ 1000 ∧ 0 < cs.length ∧ cs.length ≤ 1000 ∧ (∀ c ∈ cs, cOk wd c) ∧ ∀ (c : List Int) m, m ≤ n + 30 → (c.length : Int) = wd → cIn (-1000000) 1000000 c → K (eC c) m
set_option maxHeartbeats 1000000 in
theorem okd_l_asked (T : Tx K mg) {k : Nat} : FnOk P w K mg base CX0 (k + 4) T.f_l_asked T.d_l_asked ["_law_left_here", "_law_kind_here", "_law_palette_here"] (spD rAsked) := by
  refine okD T.F_l_asked sc_l_asked _ (fun cdv A outer s H E hr => ⟨_, (pss_cons (ps_set (i := 3) sc_l_asked.nd rfl (.inl rfl) (pe_ix (ix_listK K) (pv 2) (pe_call (okd_l_pick T (k := k + 1)) hr (by rfl) T.g_l_pick T.F_l_pick.kp T.b_l_pick .nil pass0 (pa_cons (pv 0) (pa_cons (pe_callB (len_K K) (by rfl) T.z_len PySem.boot_len (pa_cons (pv 2) pa_nil)) pa_nil))) (fun _ _ => rfl)))
      (pss_cons (ps_set (i := 4) sc_l_asked.nd rfl (.inl rfl) (pe_ix (ix_listK K) (pv 2) (pe_call (okd_l_pick T (k := k + 1)) hr (by rfl) T.g_l_pick T.F_l_pick.kp T.b_l_pick .nil pass0 (pa_cons (pv 0) (pa_cons (pe_callB (len_K K) (by rfl) T.z_len PySem.boot_len (pa_cons (pv 2) pa_nil)) pa_nil))) (fun _ _ => rfl)))
      (pss_cons (ps_set (i := 5) sc_l_asked.nd rfl (.inl rfl) (pe_call (okd_l_pick T (k := k + 1)) hr (by rfl) T.g_l_pick T.F_l_pick.kp T.b_l_pick .nil pass0 (pa_cons (pv 0) (pa_cons pe_int pa_nil))))
      (pss_cons (ps_if (pt_cmpR op_eq (pv 5) pe_int (nomark _)) (pss_one (ps_ret (pv 3))) pss_nil)
      (pss_cons (ps_if (pt_cmpR op_eq (pv 5) pe_int (nomark _)) (pss_one (ps_ret (pe_callTy (tuple_K K) (by rfl) T.z_tuple (by decide +kernel) (pa_cons (pe_lc (own := [("_law_number", 6)]) (by rfl) sc_l_asked.nd (pi_tupK K (pv 3)) (blkOk_by (own := [("_law_number", 6)]) (N := N_l_asked) (sc := defScope s_l_asked) (by decide +kernel)) (fun _ _ _ _ _ => (pg_name (i := 6) sc_l_asked.nd rfl (.inl rfl))) (fun _ _ _ _ _ => pts_nil) (fun _ _ _ _ _ => (pe_op op_sub (pe_op op_add (pv 6) (pe_call (okd_l_pick T (k := k + 1)) hr (by rfl) T.g_l_pick T.F_l_pick.kp T.b_l_pick .nil pass0 (pa_cons (pv 0) (pa_cons pe_int pa_nil)))) pe_int))) pa_nil)))) pss_nil)
      (pss_cons (ps_if (pt_cmpR op_lt (pv 5) pe_int (nomark _)) (pss_one (ps_ret (pe_callTy (tuple_K K) (by rfl) T.z_tuple (by decide +kernel) (pa_cons (pe_lc (own := [("_law_a", 7), ("_law_b", 8)]) (by rfl) sc_l_asked.nd (RZ.pi_zipA (by rfl) T.z_zip (pa_cons (pv 3) (pa_cons (pv 4) pa_nil))) (blkOk_by (own := [("_law_a", 7), ("_law_b", 8)]) (N := N_l_asked) (sc := defScope s_l_asked) (by decide +kernel)) (fun _ _ _ _ _ => (pg_tupK K (n := 2) rfl (pgs_cons (pg_name (i := 7) sc_l_asked.nd rfl (.inl rfl)) (pgs_cons (pg_name (i := 8) sc_l_asked.nd rfl (.inl rfl)) pgs_nil)))) (fun _ _ _ _ _ => pts_nil) (fun _ _ _ _ _ => (pe_op op_fdiv (pe_op op_add (pe_op op_add (pv 7) (pv 8)) (pe_call (okd_l_pick T (k := k + 1)) hr (by rfl) T.g_l_pick T.F_l_pick.kp T.b_l_pick .nil pass0 (pa_cons (pv 0) (pa_cons pe_int pa_nil)))) pe_int))) pa_nil)))) pss_nil)
      (pss_cons (ps_if (pt_cmpR op_eq (pv 5) pe_int (nomark _)) (pss_one (ps_ret (pe_call (okd_l_colour T (k := k)) hr (by rfl) T.g_l_colour T.F_l_colour.kp T.b_l_colour .nil pass0 (pa_cons (pv 0) (pa_cons (pv 1) pa_nil))))) pss_nil)
      (pss_one (ps_ret (pe_callTy (tuple_K K) (by rfl) T.z_tuple (by decide +kernel) (pa_cons (pe_lc (own := [("_law_place", 9)]) (by rfl) sc_l_asked.nd (pi_range1 (by rfl) T.z_range (pa_cons (pe_ix (ix_tupK K) (pv 1) pe_int (fun _ _ => rfl)) pa_nil)) (blkOk_by (own := [("_law_place", 9)]) (N := N_l_asked) (sc := defScope s_l_asked) (by decide +kernel)) (fun _ _ _ _ _ => (pg_name (i := 9) sc_l_asked.nd rfl (.inl rfl))) (fun _ _ _ _ _ => pts_nil) (fun _ _ _ _ _ => (pe_op op_mul (pe_ix (ix_listK K) (pe_lst (pa_cons (pe_un un_neg pe_int) (pa_cons pe_int pa_nil))) (pe_call (okd_l_pick T (k := k + 1)) hr (by rfl) T.g_l_pick T.F_l_pick.kp T.b_l_pick .nil pass0 (pa_cons (pv 0) (pa_cons pe_int pa_nil))) (fun _ _ => rfl)) (pe_call (okd_l_pick T (k := k + 1)) hr (by rfl) T.g_l_pick T.F_l_pick.kp T.b_l_pick .nil pass0 (pa_cons (pv 0) (pa_cons (pe_op op_add (pe_op op_pow pe_int pe_int) pe_int) pa_nil)))))) pa_nil))))))))))),
      (ss_seq (ss_asg (se_op sr_ixL (sv 2) (se_call (sa_consL (sa_cons (se_cb sc_len (sa_cons (sv 2) sa_nil)) sa_nil)))) sg_name)
      (ss_seq (ss_asg (se_op sr_ixL (sv 2) (se_call (sa_consL (sa_cons (se_cb sc_len (sa_cons (sv 2) sa_nil)) sa_nil)))) sg_name)
      (ss_seq (ss_asg (se_call (sa_consL (sa_cons se_int sa_nil))) sg_name)
      (ss_seq (ss_if (st_test (se_op sr_eqI (sv 5) se_int)) (ss_ret (sv 3)) ss_next)
      (ss_seq (ss_if (st_test (se_op sr_eqI (sv 5) se_int)) (ss_ret (se_cb sc_tup (sa_cons (SN.se (sn_lc (si_tup (sv 3)) sg_name st_yesD (se_op sr_int (se_op sr_int (sv 6) (se_call (sa_consL (sa_cons se_int sa_nil)))) se_int) (by decide))) sa_nil))) ss_next)
      (ss_seq (ss_if (st_test (se_op sr_bool (sv 5) se_int)) (ss_ret (se_cb sc_tup (sa_cons (SN.se (sn_lc (si_zip (sa_cons (sv 3) (sa_cons (sv 4) sa_nil))) (sg_tup (sgs_cons sg_name (sgs_cons sg_name sgs_nil))) st_yesD (se_op sr_intC (se_op sr_int (se_op sr_int (sv 7) (sv 8)) (se_call (sa_consL (sa_cons se_int sa_nil)))) se_int) (by decide))) sa_nil))) ss_next)
      (ss_seq (ss_if (st_test (se_op sr_eqI (sv 5) se_int)) (ss_ret (se_call (sa_consL (sa_cons (sv 1) sa_nil)))) ss_next)
      (ss_ret (se_cb sc_tup (sa_cons (SN.se (sn_lc (si_r1 (sa_cons (se_op sr_ixT (sv 1) se_int) sa_nil)) sg_name st_yesD (se_op sr_intC (se_op sr_ixL (SN.se (sn_lst (sa_cons (se_neg se_int) (sa_cons se_int sa_nil)))) (se_call (sa_consL (sa_cons se_int sa_nil)))) (se_call (sa_consL (sa_cons (se_op sr_int (se_op sr_intC se_int se_int) se_int) sa_nil)))) (by decide))) sa_nil))))))))))⟩) (fun ds n Q ⟨_, _, _, e, _⟩ => by rw [e]; rfl) fun ds n Q ⟨wd, sp, cs, e, n1, w0, w1, s0, s1, c0, c1, ok, q⟩ => ?_
  subst e
  refine ⟨_, rfl, rfl, _, rfl, _, rfl, _, .inl rfl, _, rfl, by omega, by rw [List.length_map]; omega, by rw [List.length_map]; omega, fun r r0 r1 => ?_⟩
  obtain ⟨a, ha, ea⟩ := ec_at (cs := cs) r0 (by rw [List.length_map] at r1; exact r1)
  refine ⟨_, _, _, rfl, rfl, ea, ?_⟩
  refine ⟨_, rfl, rfl, _, rfl, _, rfl, _, .inl rfl, _, rfl, by omega, by rw [List.length_map]; omega, by rw [List.length_map]; omega, fun r2 r3 r4 => ?_⟩
  obtain ⟨b, hb, eb⟩ := ec_at (cs := cs) r3 (by rw [List.length_map] at r4; exact r4)
  refine ⟨_, _, _, rfl, rfl, eb, ?_⟩
  have oa := ok a ha
  have ob := ok b hb
  refine ⟨rfl, 6, rfl, by omega, by decide, by decide, fun y y0 y1 => ?_⟩
  refine ⟨_, rfl, _, _, rfl, rfl, _, rfl, ite2 (fun e1 => ?_) (fun e1 => ?_)⟩
  · exact ⟨_, rfl, q a _ (by omega) oa.1 (oa.2.mono (by decide) (by decide))⟩
  refine ⟨_, rfl, _, _, rfl, rfl, _, rfl, ite2 (fun e2 => ?_) (fun e2 => ?_)⟩
  · have la := oa.1
    refine ⟨_, rfl, _, rfl, by rw [List.length_map]; omega, fun i acc j => ∃ ns : List Int, acc = ns.map .int ∧ ns.length = i ∧ cIn (-1000000) 1000000 ns ∧ j = n + 3 + i, ⟨[], rfl, rfl, cIn.nil, rfl⟩, fun i d acc j ed ⟨ns, ea, en, cn, ej⟩ => ?_, fun acc j ⟨ns, ea, en, cn, ej⟩ => ?_⟩
    · obtain ⟨hi, rfl⟩ := gi ed
      have := oa.2 _ (List.getElem_mem hi)
      have := oa.1
      refine ⟨_, rfl, rfl, 3, rfl, by omega, by decide, by decide, fun x x0 x1 => ⟨_, _, rfl, rfl, _, _, rfl, rfl, ns ++ [a[i] + x - 1], by rw [ea, List.map_append]; rfl, by simp [en], cn.app (by omega) (by omega), by omega⟩⟩
    · rw [List.length_map] at en ej
      have := oa.1
      rw [ea]
      exact ⟨_, rfl, _, .inl rfl, q ns j (by omega) (by omega) cn⟩
  refine ⟨_, rfl, _, _, rfl, rfl, _, rfl, ite2 (fun e3 => ?_) (fun e3 => ?_)⟩
  · have la := oa.1
    have lb := ob.1
    refine ⟨_, rfl, _, rfl, _, _, .inr rfl, by rw [zpD_len, List.length_map, List.length_map]; omega, fun i acc j => ∃ ns : List Int, acc = ns.map .int ∧ ns.length = i ∧ cIn (-1000000) 1000000 ns ∧ j = n + 3 + i, ⟨[], rfl, rfl, cIn.nil, rfl⟩, fun i d acc j ed ⟨ns, ea, en, cn, ej⟩ => ?_, fun acc j ⟨ns, ea, en, cn, ej⟩ => ?_⟩
    · have hi : i < min a.length b.length := by have := (List.getElem?_eq_some_iff.mp ed).1; rwa [zpD_len, List.length_map, List.length_map] at this
      have i1 : i < a.length := by omega
      have i2 : i < b.length := by omega
      rw [zpD_get (x := .int a[i]) (y := .int b[i]) (by rw [List.length_map, List.length_map]; exact hi) (by rw [List.getElem?_map, List.getElem?_eq_getElem i1]; rfl) (by rw [List.getElem?_map, List.getElem?_eq_getElem i2]; rfl)] at ed
      cases ed
      have := oa.2 _ (List.getElem_mem i1)
      have := ob.2 _ (List.getElem_mem i2)
      refine ⟨_, rfl, rfl, _, _, rfl, _, _, rfl, rfl, ?_⟩
      refine ⟨_, rfl, _, rfl, _, _, rfl, rfl, rfl, 2, rfl, by omega, by decide, by decide, fun x x0 x1 => ⟨_, _, rfl, rfl, _, _, rfl, rfl, ⟨by decide, by decide⟩, ns ++ [(a[i] + b[i] + x) / 2], by rw [ea, List.map_append]; rfl, by simp [en], cn.app (by omega) (by omega), by omega⟩⟩
    · rw [zpD_len, List.length_map, List.length_map] at en ej
      rw [ea]
      exact ⟨_, rfl, _, .inl rfl, q ns j (by omega) (by omega) cn⟩
  refine ⟨_, rfl, _, _, rfl, rfl, _, rfl, ite2 (fun e4 => ?_) (fun e4 => ?_)⟩
  · exact ⟨rfl, _, rfl, wd, sp, rfl, by omega, w0, w1, s0, s1, fun c m hm lc cc => q c m (by omega) lc (cc.mono (by decide) (by decide))⟩
  · refine ⟨_, rfl, _, _, _, rfl, rfl, rfl, wd, rfl, by omega, by omega, by rw [rgD_len]; omega, fun i acc j => ∃ ns : List Int, acc = ns.map .int ∧ ns.length = i ∧ cIn (-1000000) 1000000 ns ∧ j = n + 3 + 2 * i, ⟨[], rfl, rfl, cIn.nil, rfl⟩, fun i d acc j ed ⟨ns, ea, en, cn, ej⟩ => ?_, fun acc j ⟨ns, ea, en, cn, ej⟩ => ?_⟩
    · have hi : i < wd.toNat := by have := (List.getElem?_eq_some_iff.mp ed).1; rwa [rgD_len] at this
      refine ⟨_, rfl, _, rfl, by simp, rfl, 2, rfl, by omega, by decide, by decide, fun x x0 x1 => ?_⟩
      obtain ⟨z, hz, ez⟩ := at_ints (ns := [-1, 1]) x0 (by simpa using x1)
      have hz : z = -1 ∨ z = 1 := by simpa using hz
      refine ⟨_, _, _, rfl, rfl, ez, ?_⟩
      refine ⟨rfl, _, _, rfl, rfl, ⟨by decide, by decide, by decide⟩, _, _, rfl, rfl, _, rfl, by omega, by decide, by decide, fun u u0 u1 => ⟨_, _, rfl, rfl, ?_, ns ++ [z * u], by rw [ea, List.map_append]; rfl, by simp [en], ?_, by omega⟩⟩
      · exact .inl ⟨by omega, by omega⟩
      · have u1 : u < 1000001 := u1
        rcases hz with h | h <;> rw [h]
        · exact cn.app (by omega) (by omega)
        · exact cn.app (by omega) (by omega)
    · rw [rgD_len] at en ej
      rw [ea]
      exact ⟨_, rfl, _, .inl rfl, q ns j (by omega) (by omega) cn⟩
/-! ### old promises, by their data alone -/
def rNear : List Sl → Nat → DQ → Prop := fun ds n K => ∃ (cs : List (List Int)) (c : List Int), ds = [.d (eP cs), .d (eC c)] ∧ pOk cs c ∧ 0 < cs.length ∧ ∀ i : Nat, near cs c i → K (.int i) n
theorem okd_l_nearest (T : Tx K mg) {k : Nat} : FnOk P w K mg base CX0 (k + 2) T.f_l_nearest T.d_l_nearest ["_law_palette_here", "_law_colour_here"] (spD rNear) := (ok_l_nearest T).imp fun vs H Q E h => by
  obtain ⟨L, B, ds, n, K', hv, hB, lb, lf, ⟨cs, c, e, po, c0, k⟩, q⟩ := h
  subst e
  cases hv with
  | d h1 h2 => cases h2 with
    | d h2 h3 =>
      cases h3
      exact ⟨B, _, _, cs, c, rfl, h1, h2, po, c0, fun H' i s h => q _ _ _ _ (k i h) (Go.of s) (lf.same s) (.int _)⟩
def rApart : List Sl → Nat → DQ → Prop := fun ds n K => ∃ a b : List Int, ds = [.d (eC a), .d (eC b)] ∧ a.length = b.length ∧ b.length ≤ 100 ∧ cIn (-100000000) 100000000 a ∧ cIn (-100000000) 100000000 b ∧ K (.int (ap a b)) n
theorem okd_l_apart (T : Tx K mg) {k : Nat} : FnOk P w K mg base CX0 (k + 1) T.f_l_apart T.d_l_apart ["_law_one", "_law_other"] (spD rApart) := (ok_l_apart T).imp fun vs H Q E h => by
  obtain ⟨L, B, ds, n, K', hv, hB, lb, lf, ⟨a, b, e, l1, l2, c1, c2, k⟩, q⟩ := h
  subst e
  cases hv with
  | d h1 h2 => cases h2 with
    | d h2 h3 =>
      cases h3
      exact ⟨B, _, _, a, b, rfl, h1, h2, l1, l2, c1, c2, fun H' s => q _ _ _ _ k (Go.of s) (lf.same s) (.int _)⟩
def rShows : List Sl → Nat → DQ → Prop := fun ds n K => ∃ (cs : List (List Int)) (c c0 : List Int) (z : Int) (r : Pap), ds = [.d (eP cs), .d (eC c), .d (.int z), .d (ePap r)] ∧ cs[0]? = some c0 ∧ c.length ≤ 50 ∧ cIn (-1000000) 1000000 c ∧ pOk cs c ∧ PapOk cs.length c.length r ∧ PapIn cs r ∧ K (.bool (shwAll cs c z r)) n
theorem okd_shows_nearest (T : Tx K mg) {k : Nat} : FnOk P w K mg base CX0 (k + 6) T.f_shows_nearest T.d_shows_nearest ["palette", "colour", "number", "paper"] (spD rShows) := (ok_shows_nearest T).imp fun vs H Q E h => by
  obtain ⟨L, B, ds, n, K', hv, hB, lb, lf, ⟨cs, c, c0, z, r, e, e0, cl, cr, po, ok, oi, k⟩, q⟩ := h
  subst e
  cases hv with
  | d h1 h2 => cases h2 with
    | d h2 h3 => cases h3 with
      | d h3 h4 => cases h4 with
        | d h4 h5 =>
          cases h5
          cases h3
          exact ⟨B, _, _, _, cs, c, c0, z, r, rfl, h1, h2, h4, hB, e0, cl, cr, po, ok, oi, fun H' s => q _ _ _ _ k (Go.of s) (lf.same s) (.bl _)⟩
/-! ### put into another order -/
theorem ins_perm {α : Type} (ks : List α) (x : α) (i : Nat) : (ks.take i ++ [x] ++ ks.drop i).Perm (x :: ks) := by
  have h : (ks.take i ++ [x] ++ ks.drop i).Perm ([x] ++ ks.take i ++ ks.drop i) := List.Perm.append_right _ List.perm_append_comm
  refine h.trans ?_
  rw [List.append_assoc, List.take_append_drop]
  exact .refl _
def rShuf : List Sl → Nat → (List PyData → Nat → Prop) → Prop := fun ds n K => ∃ ns : List Int, ds = [.l, .d (eI ns)] ∧ n < 10000000 ∧ ns.length ≤ 1000 ∧ ∀ (ks : List Int) m, m ≤ n + ns.length → ks.Perm ns → K (ks.map .int) m
theorem okn_l_shuffled (T : Tx K mg) {k : Nat} : FnOk P w K mg base CX0 (k + 3) T.f_l_shuffled T.d_l_shuffled ["_law_left_here", "_law_some"] (spN rShuf) := by
  refine okN T.F_l_shuffled sc_l_shuffled _ (fun cdv A outer s H E hr => ⟨_, (pss_cons (ps_set (i := 2) sc_l_shuffled.nd rfl (.inl rfl) (pe_lst pa_nil))
      (pss_cons (ps_for PassesOwn.never rfl (pi_listK K (pv 1)) (pg_name (i := 3) sc_l_shuffled.nd rfl (.inl rfl)) (pss_one (ps_expr (pe_bm PySem.F.plainAttrs_list PySem.F.slot_list_insert PySem.F.type_list_insert mt_insert (pv 2) (pa_cons (pe_call (okd_l_pick T (k := k)) hr (by rfl) T.g_l_pick T.F_l_pick.kp T.b_l_pick .nil pass0 (pa_cons (pv 0) (pa_cons (pe_op op_add (pe_callB (len_K K) (by rfl) T.z_len PySem.boot_len (pa_cons (pv 2) pa_nil)) pe_int) pa_nil))) (pa_cons (pv 3) pa_nil))))))
      (pss_one (ps_ret (pv 2))))),
      (ss_seq (ss_asgO (sn_lst sa_nil))
      (ss_seq (ss_for (si_list (sv 1)) sg_name (ss_ins (se_call (sa_consL (sa_cons (se_op sr_int se_lenO se_int) sa_nil))) (sv 3)))
      ss_retO))⟩) (fun ds n Q ⟨_, e, _⟩ => by rw [e]; rfl) fun ds n Q ⟨ns, e, n1, l1, q⟩ => ?_
  subst e
  refine ⟨_, rfl, by simp, _, rfl, _, rfl, fun i δ j => ∃ (ks : List Int) (x3 : Sl), δ = [.l, .d (eI ns), .o (ks.map .int), x3] ∧ ks.Perm (ns.take i) ∧ j = n + i, ⟨[], _, rfl, .refl _, rfl⟩, fun i d δ j ed ⟨ks, x3, eδ, pk, ej⟩ => ?_, fun δ j ⟨ks, x3, eδ, pk, ej⟩ => ?_⟩
  · subst eδ
    obtain ⟨hi, rfl⟩ := gi ed
    have lk := pk.length_eq
    rw [List.length_take] at lk
    refine ⟨_, rfl, by rw [List.length_map]; omega, rfl, ⟨_, rfl, _, _, rfl, rfl, _, rfl, by omega, by rw [List.length_map]; omega, by rw [List.length_map]; omega, fun r r0 r1 => ⟨_, rfl, _, rfl, r0, ?_, ?_⟩⟩⟩
    · rw [List.length_map] at r1
      omega
    · refine ⟨ks.take r.toNat ++ [ns[i]] ++ ks.drop r.toNat, _, by rw [List.map_append, List.map_append, List.map_take, List.map_drop]; rfl, (ins_perm _ _ _).trans ?_, by omega⟩
      rw [List.take_succ_eq_append_getElem hi]
      exact ((pk.cons _).trans (List.perm_append_comm (l₁ := [ns[i]])))
  · subst eδ
    rw [List.length_map] at pk ej
    rw [List.take_length] at pk
    exact ⟨_, rfl, q ks j (by omega) pk⟩
/-! ### the least box, by its data alone -/
structure BoxAt (cs : List (List Int)) (w : Nat) (lo hi : List Int) : Prop where
  l1 : lo.length = w
  l2 : hi.length = w
  lo : ∀ p, p < w → (∃ c ∈ cs, lo.getD p 0 = c.getD p 0) ∧ ∀ c ∈ cs, lo.getD p 0 ≤ c.getD p 0
  hi : ∀ p, p < w → (∃ c ∈ cs, hi.getD p 0 = c.getD p 0) ∧ ∀ c ∈ cs, c.getD p 0 ≤ hi.getD p 0
theorem getD_snoc {ns : List Int} {z : Int} {p : Nat} : (ns ++ [z]).getD p 0 = if p < ns.length then ns.getD p 0 else if p = ns.length then z else 0 := by
  rw [List.getD_eq_getElem?_getD, List.getElem?_append]
  by_cases h : p < ns.length
  · rw [if_pos h, if_pos h, List.getD_eq_getElem?_getD]
  · rw [if_neg h, if_neg h]
    by_cases e : p = ns.length
    · rw [if_pos e, e, Nat.sub_self]
      rfl
    · rw [if_neg e]
      cases q : p - ns.length with
      | zero => omega
      | succ m => rfl
def rBoxL : List Sl → Nat → DQ → Prop := fun ds n K => ∃ (cs : List (List Int)) (w : Nat), ds = [.d (eP cs)] ∧ 0 < cs.length ∧ cs.length ≤ 1000 ∧ (∀ c ∈ cs, c.length = w) ∧ w ≤ 50 ∧ ∀ lo hi, BoxAt cs w lo hi → K (.tuple [eC lo, eC hi]) n
theorem col_at {c : List Int} {p : Nat} (h : p < c.length) : atI (c.map PyData.int) (p : Int) = some (.int (c.getD p 0)) := by
  refine atI_nat ?_
  rw [List.getElem?_map, List.getD_eq_getElem?_getD, List.getElem?_eq_getElem h]
  rfl
theorem okd_l_box (T : Tx K mg) {k : Nat} : FnOk P w K mg base CX0 (k + 1) T.f_l_box T.d_l_box ["_law_colours"] (spD rBoxL) := by
  refine okD T.F_l_box sc_l_box _ (fun cdv A outer s H E hr => ⟨_, (pss_cons (ps_set (i := 1) sc_l_box.nd rfl (.inl rfl) (pe_listRg rfl (by rfl) T.z_list (prg_1 (by rfl) T.z_range (pe_callB (len_K K) (by rfl) T.z_len PySem.boot_len (pa_cons (pe_ix (ix_listK K) (pv 0) pe_int (fun _ _ => rfl)) pa_nil)))))
      (pss_cons (ps_set (i := 2) sc_l_box.nd rfl (.inl rfl) (pe_callTy (tuple_K K) (by rfl) T.z_tuple (by decide +kernel) (pa_cons (pe_lc (own := [("_law_place", 3)]) (by rfl) sc_l_box.nd (pi_listK K (pv 1)) (blkOk_by (own := [("_law_place", 3)]) (N := N_l_box) (sc := defScope s_l_box) (by decide +kernel)) (fun _ _ _ _ _ => (pg_name (i := 3) sc_l_box.nd rfl (.inr rfl))) (fun _ _ _ _ _ => pts_nil) (fun _ _ _ _ _ => (pe_callB (cr_minK K rfl) (by rfl) T.z_min (by decide +kernel) (pa_cons (pe_lc (own := [("_law_colour_here", 4)]) (by rfl) sc_l_box.nd (pi_listK K (pv 0)) (blkOk_in (own := [("_law_colour_here", 4)]) (N := N_l_box) ["_law_place"] (by decide +kernel) (by decide +kernel) ⟨.inl rfl, trivial⟩) (fun _ _ _ _ _ => (pg_name (i := 4) sc_l_box.nd rfl (.inl rfl))) (fun _ _ _ _ _ => pts_nil) (fun _ _ _ _ _ => (pe_ix (ix_tupK K) (pv 4) (pv 3) (fun _ _ => rfl)))) pa_nil)))) pa_nil)))
      (pss_one (ps_ret (pe_tup (pa_cons (pv 2) (pa_cons (pe_callTy (tuple_K K) (by rfl) T.z_tuple (by decide +kernel) (pa_cons (pe_lc (own := [("_law_place", 3)]) (by rfl) sc_l_box.nd (pi_listK K (pv 1)) (blkOk_by (own := [("_law_place", 3)]) (N := N_l_box) (sc := defScope s_l_box) (by decide +kernel)) (fun _ _ _ _ _ => (pg_name (i := 3) sc_l_box.nd rfl (.inr rfl))) (fun _ _ _ _ _ => pts_nil) (fun _ _ _ _ _ => (pe_callB (cr_maxK K rfl) (by rfl) T.z_max (by decide +kernel) (pa_cons (pe_lc (own := [("_law_colour_here", 4)]) (by rfl) sc_l_box.nd (pi_listK K (pv 0)) (blkOk_in (own := [("_law_colour_here", 4)]) (N := N_l_box) ["_law_place"] (by decide +kernel) (by decide +kernel) ⟨.inl rfl, trivial⟩) (fun _ _ _ _ _ => (pg_name (i := 4) sc_l_box.nd rfl (.inl rfl))) (fun _ _ _ _ _ => pts_nil) (fun _ _ _ _ _ => (pe_ix (ix_tupK K) (pv 4) (pv 3) (fun _ _ => rfl)))) pa_nil)))) pa_nil)) pa_nil))))))),
      (ss_seq (ss_asg (SN.se (sn_rg1 (se_cb sc_len (sa_cons (se_op sr_ixL (sv 0) se_int) sa_nil)))) sg_name)
      (ss_seq (ss_asg (se_cb sc_tup (sa_cons (SN.se (sn_lc (si_list (sv 1)) sg_name st_yesD (se_cb sc_min (sa_cons (SN.se (sn_lc (si_list (sv 0)) sg_name st_yesD (se_op sr_ixT (sv 4) (sv 3)) (by decide))) sa_nil)) (by decide))) sa_nil)) sg_name)
      (ss_ret (se_tup (sa_cons (sv 2) (sa_cons (se_cb sc_tup (sa_cons (SN.se (sn_lc (si_list (sv 1)) sg_name st_yesD (se_cb sc_max (sa_cons (SN.se (sn_lc (si_list (sv 0)) sg_name st_yesD (se_op sr_ixT (sv 4) (sv 3)) (by decide))) sa_nil)) (by decide))) sa_nil)) sa_nil))))))⟩) (fun ds n Q ⟨_, _, e, _⟩ => by rw [e]; rfl) fun ds n Q ⟨cs, w, e, c0, c1, cw, w1, q⟩ => ?_
  subst e
  obtain ⟨c0', cs', rfl⟩ : ∃ c0' cs', cs = c0' :: cs' := by
    cases cs with
    | nil => exact absurd c0 (by decide)
    | cons x t => exact ⟨x, t, rfl⟩
  have w0 := cw c0' (List.mem_cons_self ..)
  have lc : ((c0' :: cs').map eC).length ≤ 1000 := by rw [List.length_map]; exact c1
  have inner : ∀ {i : Nat} {p : Nat}, p < w → ∀ {x : List Int}, (c0' :: cs')[i]? = some x → atI (x.map PyData.int) ((p : Nat) : Int) = some (.int (x.getD p 0)) := fun {i p} hp {x} hx => col_at (by rw [cw x (mem_i hx)]; exact hp)
  have hz : ((c0'.map PyData.int).length : Int) ≤ 100 := by rw [List.length_map]; omega
  have hrg : RgOk 0 ((c0'.map PyData.int).length : Int) := RgOk.of_le (by omega) (by omega) (by omega) (by omega)
  refine ⟨_, rfl, _, _, _, rfl, rfl, at0 (by decide) rfl, _, rfl, _, .inr rfl, _, rfl, hrg, ?_⟩
  have ew : (((c0'.map PyData.int).length : Int)).toNat = w := by rw [List.length_map]; omega
  rw [ew]
  refine ⟨_, rfl, _, rfl, by simp; omega, fun i acc j => ∃ lo : List Int, acc = lo.map .int ∧ lo.length = i ∧ i ≤ w ∧ (∀ p, p < i → (∃ c ∈ c0' :: cs', lo.getD p 0 = c.getD p 0) ∧ ∀ c ∈ c0' :: cs', lo.getD p 0 ≤ c.getD p 0) ∧ j = n, ⟨[], rfl, rfl, Nat.zero_le _, fun p h => absurd h (Nat.not_lt_zero _), rfl⟩, fun i d acc j ed ⟨lo, ea, el, hw, hl, ej⟩ => ?_, fun acc j ⟨lo, ea, el, hw, hl, ej⟩ => ?_⟩
  · obtain ⟨i', e1, e2⟩ := mpG ed
    have hi : i < w := by have := (List.getElem?_eq_some_iff.mp e1).1; rwa [List.length_range] at this
    rw [List.getElem?_range hi] at e1
    cases e1
    subst e2
    refine ⟨_, rfl, _, rfl, lcD (by omega) (fun q => ((c0' :: cs')[q]?).map fun c => .int (c.getD i 0)) (fun q d Ky Kn ed ky kn => ?_) ?_⟩
    · obtain ⟨c, ec, rfl⟩ := mpG ed
      exact ⟨_, rfl, _, rfl, _, _, _, rfl, rfl, inner hi ec, ky _ (by rw [ec]; rfl)⟩
    · rw [List.length_map, fmM]
      refine ⟨_, rfl, (c0' :: cs').map fun c => c.getD i 0, by unfold eI; rw [List.map_map]; rfl, by simp, fun m hm hle => ?_⟩
      refine ⟨lo ++ [m], by rw [ea, List.map_append]; rfl, by simp [el], hi, fun p hp => ?_, ej⟩
      rw [getD_snoc, el]
      by_cases h : p < i
      · rw [if_pos h]; exact hl p h
      · have : p = i := by omega
        rw [if_neg h, if_pos this, this]
        obtain ⟨c, hc, ec⟩ := List.mem_map.mp hm
        exact ⟨⟨c, hc, ec.symm⟩, fun c hc => hle _ (List.mem_map_of_mem (f := fun c : List Int => c.getD i 0) hc)⟩
  · rw [List.length_map, List.length_range] at el hl hw
    refine ⟨_, rfl, _, .inl rfl, ?_⟩
    rw [ea, ej]
    clear ea ej
    refine ⟨_, rfl, _, rfl, _, rfl, by simp; omega, fun i acc j => ∃ hi : List Int, acc = hi.map .int ∧ hi.length = i ∧ i ≤ w ∧ (∀ p, p < i → (∃ c ∈ c0' :: cs', hi.getD p 0 = c.getD p 0) ∧ ∀ c ∈ c0' :: cs', c.getD p 0 ≤ hi.getD p 0) ∧ j = n, ⟨[], rfl, rfl, Nat.zero_le _, fun p h => absurd h (Nat.not_lt_zero _), rfl⟩, fun i d acc j ed ⟨hi, ea, eh, hw2, hh, ej⟩ => ?_, fun acc j ⟨hi, ea, eh, hw2, hh, ej⟩ => ?_⟩
    · obtain ⟨i', e1, e2⟩ := mpG ed
      have hiw : i < w := by have := (List.getElem?_eq_some_iff.mp e1).1; rwa [List.length_range] at this
      rw [List.getElem?_range hiw] at e1
      cases e1
      subst e2
      refine ⟨_, rfl, _, rfl, lcD (by omega) (fun q => ((c0' :: cs')[q]?).map fun c => .int (c.getD i 0)) (fun q d Ky Kn ed ky kn => ?_) ?_⟩
      · obtain ⟨c, ec, rfl⟩ := mpG ed
        exact ⟨_, rfl, _, rfl, _, _, _, rfl, rfl, inner hiw ec, ky _ (by rw [ec]; rfl)⟩
      · rw [List.length_map, fmM]
        refine ⟨_, rfl, (c0' :: cs').map fun c => c.getD i 0, by unfold eI; rw [List.map_map]; rfl, by simp, fun m hm hle => ?_⟩
        refine ⟨hi ++ [m], by rw [ea, List.map_append]; rfl, by simp [eh], hiw, fun p hp => ?_, ej⟩
        rw [getD_snoc, eh]
        by_cases h : p < i
        · rw [if_pos h]; exact hh p h
        · have : p = i := by omega
          rw [if_neg h, if_pos this, this]
          obtain ⟨c, hc, ec⟩ := List.mem_map.mp hm
          exact ⟨⟨c, hc, ec.symm⟩, fun c hc => hle _ (List.mem_map_of_mem (f := fun c : List Int => c.getD i 0) hc)⟩
    · rw [List.length_map, List.length_range] at eh hh hw2
      refine ⟨_, rfl, _, .inl rfl, _, rfl, by simp, ?_⟩
      rw [ea, ej]
      exact q lo hi ⟨el, eh, hl, hh⟩
/-! ### how near a box is, and all in turn, by data alone -/
theorem ap_range : ∀ {a b : List Int}, a.length = b.length → ap a b = ((List.range a.length).map fun p => (a.getD p 0 - b.getD p 0) ^ 2).sum
  | [], b, _ => by rw [ap_nil]; rfl
  | x :: a, [], h => by simp at h
  | x :: a, y :: b, h => by
    rw [ap_cons, ap_range (a := a) (b := b) (by simpa using h), List.length_cons, List.range_succ_eq_map, List.map_cons, List.sum_cons, List.map_map]
    rfl
theorem sum_succ (f : Nat → Int) (i : Nat) : ((List.range (i + 1)).map f).sum = ((List.range i).map f).sum + f i := by
  rw [List.range_succ, List.map_append, List.sum_append]
  simp
theorem sq_key (u v : Int) (h : u = v ∨ u = -v) : u * u = v * v := by
  rcases h with h | h
  · rw [h]
  · rw [h, Int.neg_mul_neg]
def rNearL : List Sl → Nat → DQ → Prop := fun ds n K => ∃ c lo hi : List Int, ds = [.d (eC c), .d (eBx (lo, hi))] ∧ lo.length = c.length ∧ hi.length = c.length ∧ c.length ≤ 100 ∧ cIn (-10000000) 10000000 lo ∧ cIn (-10000000) 10000000 c ∧ cIn (-10000000) 10000000 hi ∧ (∀ p, p < c.length → lo.getD p 0 ≤ hi.getD p 0) ∧ K (.int (ap c (nearC lo c hi))) n
theorem gdE {c : List Int} {i : Nat} (h : i < c.length) : c.getD i 0 = c[i] := by
  rw [List.getD_eq_getElem?_getD, List.getElem?_eq_getElem h]
  rfl
theorem geI {c : List Int} {i : Nat} (h : i < c.length) : (c.map PyData.int)[i]? = some (.int (c.getD i 0)) := by
  rw [List.getElem?_map, List.getElem?_eq_getElem h, gdE h]
  rfl
theorem okd_l_near (T : Tx K mg) {k : Nat} : FnOk P w K mg base CX0 (k + 1) T.f_l_near T.d_l_near ["_law_colour_here", "_law_box_here"] (spD rNearL) := by
  refine okD T.F_l_near sc_l_near _ (fun cdv A outer s H E hr => ⟨_, (pss_cons (ps_set (i := 2) sc_l_near.nd rfl (.inl rfl) pe_int)
      (pss_cons (ps_for PassesOwn.never rfl (pi_zip3 K (by rfl) T.z_zip (pa_cons (pv 0) (pa_cons (pe_ix (ix_tupK K) (pv 1) pe_int (fun _ _ => rfl)) (pa_cons (pe_ix (ix_tupK K) (pv 1) pe_int (fun _ _ => rfl)) pa_nil)))) (pg_tupK K (n := 3) rfl (pgs_cons (pg_name (i := 3) sc_l_near.nd rfl (.inl rfl)) (pgs_cons (pg_name (i := 4) sc_l_near.nd rfl (.inl rfl)) (pgs_cons (pg_name (i := 5) sc_l_near.nd rfl (.inl rfl)) pgs_nil)))) (pss_cons (ps_set (i := 6) sc_l_near.nd rfl (.inl rfl) (pe_callB (call_max3 rfl) (by rfl) T.z_max (by decide +kernel) (pa_cons (pe_op op_sub (pv 4) (pv 3)) (pa_cons pe_int (pa_cons (pe_op op_sub (pv 3) (pv 5)) pa_nil)))))
      (pss_one (ps_set (i := 2) sc_l_near.nd rfl (.inl rfl) (pe_op op_add (pv 2) (pe_op op_mul (pv 6) (pv 6)))))))
      (pss_one (ps_ret (pv 2))))),
      (ss_seq (ss_asg se_int sg_name)
      (ss_seq (ss_for (si_zip3 (sa_cons (sv 0) (sa_cons (se_op sr_ixT (sv 1) se_int) (sa_cons (se_op sr_ixT (sv 1) se_int) sa_nil)))) (sg_tup (sgs_cons sg_name (sgs_cons sg_name (sgs_cons sg_name sgs_nil)))) (ss_seq (ss_asg (se_cb sc_int3 (sa_cons (se_op sr_int (sv 4) (sv 3)) (sa_cons se_int (sa_cons (se_op sr_int (sv 3) (sv 5)) sa_nil)))) sg_name)
      (ss_asg (se_op sr_int (sv 2) (se_op sr_intC (sv 6) (sv 6))) sg_name)))
      (ss_ret (sv 2))))⟩) (fun ds n Q ⟨_, _, _, e, _⟩ => by rw [e]; rfl) fun ds n Q ⟨c, lo, hi, e, l1, l2, lz, r1, r2, r3, le, q⟩ => ?_
  subst e
  let f : Nat → Int := fun p => (c.getD p 0 - nearF lo c hi p) ^ 2
  refine ⟨_, rfl, _, rfl, _, _, _, rfl, rfl, rfl, _, rfl, _, _, _, rfl, rfl, rfl, _, _, _, rfl, by simp [l1], by simp [l2], fun i δ j => ∃ (z : Int) (x3 x4 x5 x6 : Sl), δ = [.d (eC c), .d (eBx (lo, hi)), .d (.int z), x3, x4, x5, x6] ∧ z = ((List.range i).map f).sum ∧ j = n, ⟨_, _, _, _, _, rfl, rfl, rfl⟩, fun i d δ j ed ⟨z, x3, x4, x5, x6, eδ, ez, ej⟩ => ?_, fun δ j ⟨z, x3, x4, x5, x6, eδ, ez, ej⟩ => ?_⟩
  · have hi' : i < c.length := by have := (List.getElem?_eq_some_iff.mp ed).1; rwa [tpD_len, List.length_map] at this
    rw [tpD_get (by rw [List.length_map]; exact hi') (geI hi') (geI (c := lo) (by omega)) (geI (c := hi) (by omega))] at ed
    cases ed
    subst eδ ej
    have b1 := r2 _ (List.getElem_mem hi')
    have b2 := r1 _ (List.getElem_mem (show i < lo.length by omega))
    have b3 := r3 _ (List.getElem_mem (show i < hi.length by omega))
    rw [← gdE] at b1 b2 b3
    have ee := le i hi'
    refine ⟨_, rfl, rfl, _, _, rfl, _, _, rfl, _, _, rfl, rfl, ?_⟩
    refine ⟨_, rfl, _, rfl, _, _, rfl, rfl, _, rfl, _, rfl, _, _, rfl, rfl, _, rfl, _, _, _, rfl, ?_⟩
    have hm : mx3 (lo.getD i 0 - c.getD i 0) 0 (c.getD i 0 - hi.getD i 0) * mx3 (lo.getD i 0 - c.getD i 0) 0 (c.getD i 0 - hi.getD i 0) = f i ∧ -(2 ^ 64) < mx3 (lo.getD i 0 - c.getD i 0) 0 (c.getD i 0 - hi.getD i 0) ∧ mx3 (lo.getD i 0 - c.getD i 0) 0 (c.getD i 0 - hi.getD i 0) < 2 ^ 64 := by
      refine ⟨?_, ?_, ?_⟩
      · show _ = (c.getD i 0 - nearF lo c hi i) ^ 2
        unfold nearF mx3
        generalize c.getD i 0 = y at *
        generalize lo.getD i 0 = l at *
        generalize hi.getD i 0 = u at *
        rw [sq_mul]
        refine sq_key _ _ ?_
        split <;> split <;> split <;> split <;> omega
      · unfold mx3; split <;> split <;> omega
      · unfold mx3; split <;> split <;> omega
    refine ⟨_, rfl, _, rfl, _, rfl, _, _, rfl, rfl, .inl hm.2, _, _, rfl, rfl, ?_⟩
    refine ⟨_, _, _, _, _, rfl, ?_, rfl⟩
    rw [sum_succ, ← hm.1, ez]
  · subst eδ ej
    refine ⟨_, rfl, ?_⟩
    have e : ap c (nearC lo c hi) = ((List.range c.length).map f).sum := by
      rw [ap_range (by unfold nearC; rw [List.length_map, List.length_range])]
      congr 1
      refine List.map_congr_left fun p hp => ?_
      have hp := List.mem_range.mp hp
      show (c.getD p 0 - (nearC lo c hi).getD p 0) ^ 2 = (c.getD p 0 - nearF lo c hi p) ^ 2
      have : (nearC lo c hi).getD p 0 = nearF lo c hi p := by
        rw [List.getD_eq_getElem?_getD]
        unfold nearC
        rw [List.getElem?_map, List.getElem?_range hp]
        rfl
      rw [this]
    rw [e] at q
    rw [tpD_len, List.length_map] at ez
    rw [ez]
    exact q
/-! ### all in turn -/
theorem lexB_tot (p q : Int × Int) : SrtO.lexB p q = false ∨ SrtO.lexB q p = false := by
  rw [SrtO.lexB_no, SrtO.lexB_no]
  omega
theorem srt_enc (ps : List (Int × Int)) : (ps.mergeSort (PySem.W.dataLe false enc)).Perm ps ∧ (ps.mergeSort (PySem.W.dataLe false enc)).Pairwise (fun a b => SrtO.lexB b a = false) := by
  have e : PySem.W.dataLe false enc = fun a b : Int × Int => !SrtO.lexB b a := by
    rw [PySem.W.dataLe_eq]
    funext a b
    show (!PySem.W.dataLt (enc b) (enc a)) = _
    rw [lt_enc]
  rw [e]
  refine ⟨List.mergeSort_perm _ _, ?_⟩
  have := List.pairwise_mergeSort (le := fun a b : Int × Int => !SrtO.lexB b a) (fun a b c h1 h2 => ?_) (fun a b => ?_) ps
  · exact this.imp fun h => by simpa using h
  · simp only [Bool.not_eq_true', SrtO.lexB_no] at h1 h2 ⊢
    omega
  · rcases lexB_tot a b with h | h
    · rw [h]; simp
    · rw [h]; simp
theorem enc_tup (p : Int × Int) : ∃ x r, enc p = .tuple (x :: r) := ⟨_, _, rfl⟩
def rTurns : List Sl → Nat → (List PyData → Nat → Prop) → Prop := fun ds n K => ∃ (cs : List (List Int)) (c : List Int), ds = [.d (eP cs), .d (eC c)] ∧ pOk cs c ∧ ∀ ts : List (Int × Int), ts.Perm ((allN cs.length).map (rk cs c)) → ts.Pairwise (fun a b => SrtO.lexB b a = false) → K (ts.map enc) n
theorem okn_l_turns (T : Tx K mg) {k : Nat} : FnOk P w K mg base CX0 (k + 2) T.f_l_turns T.d_l_turns ["_law_palette_here", "_law_colour_here"] (spN rTurns) := by
  refine okN T.F_l_turns sc_l_turns _ (fun cdv A outer s H E hr => ⟨_, (pss_one (ps_ret (pe_callB (cr_sortedD K hr.units) (by rfl) T.z_sorted (by decide +kernel) (pa_cons (pe_lc (own := [("_law_k", 2), ("_law_one", 3)]) (by rfl) sc_l_turns.nd (pi_enum (by rfl) T.z_enumerate (pa_cons (pv 0) pa_nil)) (blkOk_by (own := [("_law_k", 2), ("_law_one", 3)]) (N := N_l_turns) (sc := defScope s_l_turns) (by decide +kernel)) (fun _ _ _ _ _ => (pg_tupK K (n := 2) rfl (pgs_cons (pg_name (i := 2) sc_l_turns.nd rfl (.inl rfl)) (pgs_cons (pg_name (i := 3) sc_l_turns.nd rfl (.inl rfl)) pgs_nil)))) (fun _ _ _ _ _ => pts_nil) (fun _ _ _ _ _ => (pe_tup (pa_cons (pe_call (okd_l_apart T (k := k)) hr (by rfl) T.g_l_apart T.F_l_apart.kp T.b_l_apart .nil pass0 (pa_cons (pv 3) (pa_cons (pv 1) pa_nil))) (pa_cons (pv 2) pa_nil))))) pa_nil)))),
      (ss_retSN (sn_cb scn_sortD (sa_cons (SN.se (sn_lc (si_enum (sa_cons (sv 0) sa_nil)) (sg_tup (sgs_cons sg_name (sgs_cons sg_name sgs_nil))) st_yesD (se_tup (sa_cons (se_call (sa_cons (sv 3) (sa_cons (sv 1) sa_nil))) (sa_cons (sv 2) sa_nil))) (by decide))) sa_nil)))⟩) (fun ds n Q ⟨_, _, e, _⟩ => by rw [e]; rfl) fun ds n Q ⟨cs, c, e, ⟨o1, o2, o3, o4⟩, q⟩ => ?_
  subst e
  refine ⟨_, rfl, _, rfl, lcD (by rw [enD_len, List.length_map]; omega) (fun i => some (enc (rk cs c (i : Nat)))) (fun i d Ky Kn ed ky kn => ?_) ?_⟩
  · have hi : i < cs.length := by have := (List.getElem?_eq_some_iff.mp ed).1; rwa [enD_len, List.length_map] at this
    rw [enD_get (x := eC cs[i]) (by rw [List.getElem?_map, List.getElem?_eq_getElem hi]; rfl)] at ed
    cases ed
    have oc := o4 _ (List.getElem_mem hi)
    refine ⟨_, rfl, rfl, _, _, rfl, _, _, rfl, rfl, ?_⟩
    refine ⟨_, rfl, _, rfl, cs[i], c, rfl, oc.1, o2, oc.2, o3, _, rfl, _, rfl, by simp, ky _ ?_⟩
    have gd : cs.getD i [] = cs[i] := by rw [List.getD_eq_getElem?_getD, List.getElem?_eq_getElem hi]; rfl
    unfold rk
    rw [Int.toNat_natCast, gd, Nat.zero_add]
    rfl
  · rw [enD_len, List.length_map, fm_some]
    have e : (List.range cs.length).map (fun i => enc (rk cs c ((i : Nat) : Int))) = ((allN cs.length).map (rk cs c)).map enc := by
      unfold allN
      rw [List.map_map, List.map_map]
      rfl
    rw [e]
    obtain ⟨h1, h2⟩ := srt_enc ((allN cs.length).map (rk cs c))
    refine ⟨_, rfl, Int × Int, enc, _, rfl, fun d hd d' hd' => ?_, .inl fun d hd => ?_, by rw [List.length_map, allN_length]; omega, fun b hb => Nat.le_trans (sh_eC (ns := [b.1, b.2]) (by simp)).2.1 (by decide), q _ h1 h2⟩
    · obtain ⟨x, _, rfl⟩ := List.mem_map.mp hd
      obtain ⟨y, _, rfl⟩ := List.mem_map.mp hd'
      exact alike_enc x y
    · obtain ⟨x, _, rfl⟩ := List.mem_map.mp hd
      exact enc_tup x
/-! ### a paper is made -/
def rAllOf : List Sl → Nat → (List PyData → Nat → Prop) → Prop := fun ds n K => ∃ cs : List (List Int), ds = [.d (eP cs)] ∧ cs.length ≤ 1000 ∧ K ((allN cs.length).map .int) n
theorem okn_l_all_of (T : Tx K mg) {k : Nat} : FnOk P w K mg base CX0 (k + 1) T.f_l_all_of T.d_l_all_of ["_law_palette_here"] (spN rAllOf) := by
  refine okN T.F_l_all_of sc_l_all_of _ (fun cdv A outer s H E hr => ⟨_, (pss_one (ps_ret (pe_listRg rfl (by rfl) T.z_list (prg_1 (by rfl) T.z_range (pe_callB (len_K K) (by rfl) T.z_len PySem.boot_len (pa_cons (pv 0) pa_nil)))))),
      (ss_retSN (sn_rg1 (se_cb sc_len (sa_cons (sv 0) sa_nil))))⟩) (fun ds n Q ⟨_, e, _⟩ => by rw [e]; rfl) fun ds n Q ⟨cs, e, l, q⟩ => ?_
  subst e
  have hz : ((cs.map eC).length : Int) ≤ 1000 := by rw [List.length_map]; omega
  have hrg : RgOk 0 ((cs.map eC).length : Int) := RgOk.of_le (by omega) (by omega) (by omega) (by omega)
  refine ⟨_, rfl, _, rfl, _, .inl rfl, _, rfl, hrg, ?_⟩
  have e : ((List.range ((cs.map eC).length : Int).toNat).map fun i => PyData.int ((i : Nat) : Int)) = (allN cs.length).map .int := by
    unfold allN
    rw [Int.toNat_natCast, List.length_map, List.map_map]
    rfl
  rw [e]
  exact q
structure PapTo (cs : List (List Int)) (c : List Int) (z : Int) (r : Pap) : Prop where
  ok : PapOk cs.length c.length r
  io : PapIn cs r
  mem : z ∈ r.1
  be : ∀ p ∈ r.2, SrtO.lexB (rk cs c z) (ap c (nearC p.1.1 c p.1.2), p.2.headD 0) = true
def rMade : List Sl → Nat → DQ → Prop := fun ds n K => ∃ (cs : List (List Int)) (c : List Int) (z : Int), ds = [.l, .d (eP cs), .d (eC c), .d (.int z)] ∧ n < 1000000 ∧ c.length ≤ 5 ∧ cIn (-1000000) 1000000 c ∧ cs.length ≤ 40 ∧ (∀ x ∈ cs, x.length = c.length ∧ cIn 0 999 x) ∧ 0 ≤ z ∧ z < (cs.length : Int) ∧ ∀ r m, m ≤ n + 1000 → PapTo cs c z r → K (ePap r) m
/-! ### the maths of papers made -/
theorem risB_lt : ∀ {ns : List Int}, ns.Pairwise (· < ·) → risB ns = true
  | [], _ => rfl
  | [_], _ => rfl
  | a :: b :: ns, h => by
    rw [risB_cons]
    rw [List.pairwise_cons] at h
    rw [decide_eq_true (h.1 b (List.mem_cons_self ..)), risB_lt h.2]
    rfl
theorem lt_of_le_nd : ∀ {ns : List Int}, ns.Pairwise (· ≤ ·) → ns.Nodup → ns.Pairwise (· < ·)
  | [], _, _ => .nil
  | a :: ns, h, d => by
    rw [List.pairwise_cons] at h
    rw [List.nodup_cons] at d
    exact .cons (fun b hb => by
      have := h.1 b hb
      have : a ≠ b := fun e => d.1 (by rw [e]; exact hb)
      omega) (lt_of_le_nd h.2 d.2)
theorem someB_of {m : Nat} {ns : List Int} (h0 : 0 < ns.length) (h1 : ns.Pairwise (· ≤ ·)) (h2 : ns.Nodup) (h3 : ∀ x ∈ ns, 0 ≤ x ∧ x < (m : Int)) : someB m ns = true := by
  rw [some_ne h0, risB_lt (lt_of_le_nd h1 h2)]
  obtain ⟨x, t, rfl⟩ : ∃ x t, ns = x :: t := by
    cases ns with
    | nil => exact absurd h0 (by decide)
    | cons x t => exact ⟨x, t, rfl⟩
  have e1 := h3 x (List.mem_cons_self ..)
  have e2 := h3 ((x :: t).getLastD 0) (by
    rw [List.getLastD_eq_getLast?, List.getLast?_eq_some_getLast (by simp)]
    exact List.getLast_mem _)
  rw [decide_eq_true (show 0 ≤ (x :: t).headD 0 from e1.1), decide_eq_true e2.2]
  rfl
theorem allN_nd (m : Nat) : (allN m).Nodup := by
  unfold allN
  rw [List.Nodup, List.pairwise_map]
  exact List.pairwise_lt_range.imp fun h => by omega
theorem isCol_eC {ns : List Int} {w : Nat} (h : ns.length = w) : isCol (eC ns) (w : Int) = true := by
  unfold eC
  rw [isCol_yes (by rw [List.length_map]; omega), List.all_map]
  exact List.all_eq_true.mpr fun x _ => rfl
theorem leL_of : ∀ {a b : List Int}, a.length = b.length → (∀ p, p < a.length → a.getD p 0 ≤ b.getD p 0) → leL a b = true
  | [], b, _, _ => by unfold leL; simp
  | x :: a, [], h, _ => by simp at h
  | x :: a, y :: b, h, k => by
    have ih := leL_of (a := a) (b := b) (by simpa using h) fun p hp => by
      have := k (p + 1) (by rw [List.length_cons]; omega)
      simpa using this
    have k0 : x ≤ y := by
      have := k 0 (by rw [List.length_cons]; omega)
      simpa using this
    unfold leL at ih ⊢
    rw [List.zip_cons_cons, List.all_cons, ih]
    simp [k0]
theorem getD_big2 {ns : List Int} {lo hi : Int} (h : cIn lo hi ns) {p : Nat} (hp : p < ns.length) : lo ≤ ns.getD p 0 ∧ ns.getD p 0 ≤ hi := by
  rw [List.getD_eq_getElem?_getD, List.getElem?_eq_getElem hp]
  exact h _ (List.getElem_mem hp)
theorem cIn_getD {ns : List Int} {lo hi : Int} (h : ∀ p, p < ns.length → lo ≤ ns.getD p 0 ∧ ns.getD p 0 ≤ hi) : cIn lo hi ns := fun x hx => by
  obtain ⟨p, hp, e⟩ := List.getElem_of_mem hx
  have := h p hp
  rw [List.getD_eq_getElem?_getD, List.getElem?_eq_getElem hp] at this
  rw [← e]
  exact this
/-- a box that is somewhat greater than the least -/
structure BoxBy (xs : List (List Int)) (w : Nat) (lo hi : List Int) : Prop where
  l1 : lo.length = w
  l2 : hi.length = w
  le : ∀ p, p < w → lo.getD p 0 ≤ hi.getD p 0
  ho : ∀ x ∈ xs, hol lo x hi = true
  c1 : cIn (-1) 1000 lo
  c2 : cIn (-1) 1000 hi
theorem box_by {xs : List (List Int)} {w : Nat} {lo hi lo2 hi2 : List Int} (b : BoxAt xs w lo hi) (x0 : 0 < xs.length) (hx : ∀ x ∈ xs, x.length = w ∧ cIn 0 999 x) (l1 : lo2.length = w) (l2 : hi2.length = w) (h1 : ∀ p, p < w → lo.getD p 0 - 1 ≤ lo2.getD p 0 ∧ lo2.getD p 0 ≤ lo.getD p 0) (h2 : ∀ p, p < w → hi.getD p 0 ≤ hi2.getD p 0 ∧ hi2.getD p 0 ≤ hi.getD p 0 + 1) : BoxBy xs w lo2 hi2 := by
  obtain ⟨x1, hx1⟩ : ∃ x, x ∈ xs := ⟨xs[0], List.getElem_mem x0⟩
  refine ⟨l1, l2, fun p hp => ?_, fun x hxm => ?_, cIn_getD fun p hp => ?_, cIn_getD fun p hp => ?_⟩
  · have a1 := (b.lo p hp).2 x1 hx1
    have a2 := (b.hi p hp).2 x1 hx1
    have := h1 p hp
    have := h2 p hp
    omega
  · unfold hol
    refine List.all_eq_true.mpr fun p hp => ?_
    have hp := List.mem_range.mp hp
    rw [(hx x hxm).1] at hp
    have a1 := (b.lo p hp).2 x hxm
    have a2 := (b.hi p hp).2 x hxm
    have := h1 p hp
    have := h2 p hp
    unfold hF
    rw [decide_eq_true (by omega), decide_eq_true (by omega)]
    rfl
  · rw [l1] at hp
    obtain ⟨c, hc, ec⟩ := (b.lo p hp).1
    have := getD_big2 (hx c hc).2 (p := p) (by rw [(hx c hc).1]; exact hp)
    have := h1 p hp
    omega
  · rw [l2] at hp
    obtain ⟨c, hc, ec⟩ := (b.hi p hp).1
    have := getD_big2 (hx c hc).2 (p := p) (by rw [(hx c hc).1]; exact hp)
    have := h2 p hp
    omega
/-- what stands behind each turn -/
structure Wk (cs : List (List Int)) (c : List Int) (z : Int) (rs ls : List Int) (ps : List ((List Int × List Int) × List Int)) : Prop where
  pm : (ls ++ ps.flatMap (·.2) ++ rs).Perm (allN cs.length)
  mem : z ∈ ls
  wf : ∀ p ∈ ps, isBox (eBx p.1) (c.length : Int) = true ∧ p.1.1.length = c.length ∧ p.1.2.length = c.length ∧ someB cs.length p.2 = true
  lo : ∀ p ∈ ps, cIn (-1000000) 1000000 p.1.1 ∧ cIn (-1000000) 1000000 p.1.2
  ho : ∀ p ∈ ps, ∀ n ∈ p.2, hol p.1.1 (cs.getD n.toNat []) p.1.2 = true
  be : ∀ p ∈ ps, SrtO.lexB (rk cs c z) (ap c (nearC p.1.1 c p.1.2), p.2.headD 0) = true
theorem Wk.rsIn {cs : List (List Int)} {c : List Int} {z : Int} {rs ls : List Int} {ps} (h : Wk cs c z rs ls ps) : ∀ x ∈ rs, 0 ≤ x ∧ x < (cs.length : Int) := fun x hx => mem_allN.mp (h.pm.mem_iff.mp (List.mem_append_right _ hx))
theorem Wk.rsNd {cs : List (List Int)} {c : List Int} {z : Int} {rs ls : List Int} {ps} (h : Wk cs c z rs ls ps) : rs.Nodup := (List.nodup_append.mp (h.pm.nodup_iff.mpr (allN_nd _))).2.1
theorem Wk.len {cs : List (List Int)} {c : List Int} {z : Int} {rs ls : List Int} {ps} (h : Wk cs c z rs ls ps) : ls.length + (ps.flatMap (·.2)).length + rs.length = cs.length := by
  have := h.pm.length_eq
  rw [List.length_append, List.length_append, allN_length] at this
  exact this
theorem Wk.looked {cs : List (List Int)} {c : List Int} {z : Int} {rs ls ks : List Int} {ps} {i : Nat} (h : Wk cs c z rs ls ps) (hk : ks.Perm (rs.take i)) : Wk cs c z (rs.drop i) (ls ++ ks) ps := by
  refine ⟨?_, List.mem_append_left _ h.mem, h.wf, h.lo, h.ho, h.be⟩
  refine .trans ?_ h.pm
  have e : rs = rs.take i ++ rs.drop i := (List.take_append_drop i rs).symm
  have p1 : (ls ++ ks ++ ps.flatMap (·.2)).Perm (ls ++ ps.flatMap (·.2) ++ rs.take i) := by
    rw [List.append_assoc, List.append_assoc]
    exact List.Perm.append_left _ (List.perm_append_comm.trans (List.Perm.append_left _ hk))
  have := p1.append_right (rs.drop i)
  rw [List.append_assoc _ (rs.take i), List.take_append_drop] at this
  exact this
theorem Wk.passed {cs : List (List Int)} {c : List Int} {z : Int} {rs ls ks lo hi : List Int} {ps} {i : Nat} (h : Wk cs c z rs ls ps) (hk : ks.Perm (rs.take i)) (hs : ks.Pairwise (· ≤ ·)) (h0 : 0 < ks.length) (hb : BoxBy (ks.map fun n => cs.getD n.toNat []) c.length lo hi) (hl : SrtO.lexB (rk cs c z) (ap c (nearC lo c hi), ks.headD 0) = true) : Wk cs c z (rs.drop i) ls (ps ++ [((lo, hi), ks)]) := by
  have kin : ∀ x ∈ ks, x ∈ rs := fun x hx => List.mem_of_mem_take (hk.mem_iff.mp hx)
  refine ⟨?_, h.mem, fun p hp => ?_, fun p hp => ?_, fun p hp => ?_, fun p hp => ?_⟩
  · refine .trans ?_ h.pm
    rw [List.flatMap_append]
    have p1 : (ls ++ (ps.flatMap (·.2) ++ [((lo, hi), ks)].flatMap (·.2))).Perm (ls ++ ps.flatMap (·.2) ++ rs.take i) := by
      rw [← List.append_assoc]
      refine List.Perm.append_left _ ?_
      simpa using hk
    have := p1.append_right (rs.drop i)
    rw [List.append_assoc _ (rs.take i), List.take_append_drop] at this
    exact this
  all_goals rcases List.mem_append.mp hp with q | q
  · exact h.wf p q
  · rw [List.mem_singleton.mp q]
    refine ⟨?_, hb.l1, hb.l2, someB_of h0 hs ?_ fun x hx => h.rsIn x (kin x hx)⟩
    · show isBox (.tuple [eC lo, eC hi]) _ = true
      rw [isBox_eq, isCol_eC hb.l1, isCol_eC hb.l2, leD_eC, leL_of (by rw [hb.l1, hb.l2]) fun p hp => hb.le p (by rw [hb.l1] at hp; exact hp)]
      rfl
    · exact hk.nodup_iff.mpr (h.rsNd.sublist (List.take_sublist _ _))
  · exact h.lo p q
  · rw [List.mem_singleton.mp q]
    exact ⟨hb.c1.mono (by decide) (by decide), hb.c2.mono (by decide) (by decide)⟩
  · exact h.ho p q
  · rw [List.mem_singleton.mp q]
    exact fun n hn => hb.ho _ (List.mem_map_of_mem (f := fun n : Int => cs.getD n.toNat []) hn)
  · exact h.be p q
  · rw [List.mem_singleton.mp q]
    exact hl
theorem Wk.done {cs : List (List Int)} {c : List Int} {z : Int} {ls ks : List Int} {ps} (h : Wk cs c z [] ls ps) (hk : ks.Perm ls) (hs : ks.Pairwise (· ≤ ·)) : PapTo cs c z (ks, ps) := by
  have pm := h.pm
  rw [List.append_nil] at pm
  have nd : ls.Nodup := (List.nodup_append.mp (pm.nodup_iff.mpr (allN_nd _))).1
  refine ⟨⟨someB_of ?_ hs (hk.nodup_iff.mpr nd) fun x hx => ?_, h.wf, (hk.append_right _).trans pm⟩, ⟨h.lo, h.ho⟩, hk.mem_iff.mpr h.mem, h.be⟩
  · exact List.length_pos_of_mem (hk.mem_iff.mpr h.mem)
  · exact mem_allN.mp (pm.mem_iff.mp (List.mem_append_left _ (hk.mem_iff.mp hx)))
theorem fm_if (ns : List Int) (z : Int) : (List.range ns.length).filterMap (fun i => (ns[i]?).bind fun x => if x ≠ z then some (PyData.int x) else none) = (ns.filter (· ≠ z)).map .int := by
  rw [fm_bind]
  induction ns with
  | nil => rfl
  | cons x t ih =>
    by_cases h : x = z
    · rw [List.filterMap_cons, List.filter_cons]
      simp [h]
      simpa using ih
    · rw [List.filterMap_cons, List.filter_cons]
      simp [h]
      simpa using ih
theorem Wk.start {cs : List (List Int)} {c : List Int} {z : Int} {ks : List Int} (h0 : 0 ≤ z) (h1 : z < (cs.length : Int)) (hk : ks.Perm ((allN cs.length).filter (· ≠ z))) : Wk cs c z ks [z] [] := by
  refine ⟨?_, List.mem_singleton.mpr rfl, fun _ h => (nomatch h), fun _ h => (nomatch h), fun _ h => (nomatch h), fun _ h => (nomatch h)⟩
  have hz : z ∈ allN cs.length := mem_allN.mpr ⟨h0, h1⟩
  have e : ((allN cs.length).filter (· ≠ z)) = (allN cs.length).erase z := by
    rw [(allN_nd _).erase_eq_filter]
    refine List.filter_congr fun x _ => ?_
    by_cases q : x = z <;> simp [q]
  rw [e] at hk
  exact (hk.cons z).trans (List.perm_cons_erase hz).symm
/-! ### a paper is made: the def -/
theorem shd_eI {ns : List Int} (h : ns.length ≤ 1000) : SeqAt.shaped (eI ns) = true := (sh_eI (by omega)).sh (by decide)
theorem eqv_nilI {ns : List Int} : PyData.eqv (eI ns) (.list []) = decide (ns = []) := by
  cases ns with
  | nil => rfl
  | cons x t => rfl
set_option maxHeartbeats 2000000 in
theorem okd_l_paper_made (T : Tx K mg) {k : Nat} : FnOk P w K mg base CX0 (k + 4) T.f_l_paper_made T.d_l_paper_made ["_law_left_here", "_law_palette_here", "_law_colour_here", "_law_number"] (spD rMade) := by
  refine okD T.F_l_paper_made sc_l_paper_made _ (fun cdv A outer s H E hr => ⟨_, (pss_cons (ps_set (i := 4) sc_l_paper_made.nd rfl (.inl rfl) (pe_tup (pa_cons (pe_call (okd_l_apart T (k := k + 2)) hr (by rfl) T.g_l_apart T.F_l_apart.kp T.b_l_apart .nil pass0 (pa_cons (pe_ix (ix_listK K) (pv 1) (pv 3) (fun _ _ => rfl)) (pa_cons (pv 2) pa_nil))) (pa_cons (pv 3) pa_nil))))
      (pss_cons (ps_set (i := 5) sc_l_paper_made.nd rfl (.inl rfl) (pe_call (okn_l_shuffled T (k := k)) hr (by rfl) T.g_l_shuffled T.F_l_shuffled.kp T.b_l_shuffled .nil pass0 (pa_cons (pv 0) (pa_cons (pe_lc (own := [("_law_one", 13)]) (by rfl) sc_l_paper_made.nd (pi_listK K (pe_call (okn_l_all_of T (k := k + 2)) hr (by rfl) T.g_l_all_of T.F_l_all_of.kp T.b_l_all_of .nil pass0 (pa_cons (pv 1) pa_nil))) (blkOk_by (own := [("_law_one", 13)]) (N := N_l_paper_made) (sc := defScope s_l_paper_made) (by decide +kernel)) (fun _ _ _ _ _ => (pg_name (i := 13) sc_l_paper_made.nd rfl (.inl rfl))) (fun _ _ _ _ _ => pts_one (pt_cmpR op_ne (pv 13) (pv 3) (nomark _))) (fun _ _ _ _ _ => (pv 13))) pa_nil))))
      (pss_cons (ps_par (i := 6) (j := 7) (by rfl) sc_l_paper_made.nd rfl rfl (by decide) rfl rfl (pa_cons (pe_lst (pa_cons (pv 3) pa_nil)) (pa_cons (pe_lst pa_nil) pa_nil)) (by rfl))
      (pss_cons (ps_while PassesOwn.never (pt_cmpR (op_neDK K hr.units) (pv 5) (pe_lst pa_nil) (nomark _)) (pss_cons (ps_set (i := 8) sc_l_paper_made.nd rfl (.inl rfl) (pe_op op_add pe_int (pe_call (okd_l_pick T (k := k + 1)) hr (by rfl) T.g_l_pick T.F_l_pick.kp T.b_l_pick .nil pass0 (pa_cons (pv 0) (pa_cons pe_int pa_nil)))))
      (pss_cons (ps_set (i := 9) sc_l_paper_made.nd rfl (.inl rfl) (pe_callTy (tuple_K K) (by rfl) T.z_tuple (by decide +kernel) (pa_cons (pe_callB (cr_sortedIK K) (by rfl) T.z_sorted (by decide +kernel) (pa_cons (pe_slice (sl_listK K) (pv 5) po_none (po_some (pv 8))) pa_nil)) pa_nil)))
      (pss_cons (ps_set (i := 5) sc_l_paper_made.nd rfl (.inl rfl) (pe_slice (sl_listK K) (pv 5) (po_some (pv 8)) po_none))
      (pss_cons (ps_asg (pe_call (okd_l_box T (k := k + 2)) hr (by rfl) T.g_l_box T.F_l_box.kp T.b_l_box .nil pass0 (pa_cons (pe_lc (own := [("_law_one", 13)]) (by rfl) sc_l_paper_made.nd (pi_tupK K (pv 9)) (blkOk_by (own := [("_law_one", 13)]) (N := N_l_paper_made) (sc := defScope s_l_paper_made) (by decide +kernel)) (fun _ _ _ _ _ => (pg_name (i := 13) sc_l_paper_made.nd rfl (.inl rfl))) (fun _ _ _ _ _ => pts_nil) (fun _ _ _ _ _ => (pe_ix (ix_listK K) (pv 1) (pv 13) (fun _ _ => rfl)))) pa_nil)) (pg_tupK K (n := 2) rfl (pgs_cons (pg_name (i := 10) sc_l_paper_made.nd rfl (.inl rfl)) (pgs_cons (pg_name (i := 11) sc_l_paper_made.nd rfl (.inl rfl)) pgs_nil))))
      (pss_cons (ps_set (i := 10) sc_l_paper_made.nd rfl (.inl rfl) (pe_callTy (tuple_K K) (by rfl) T.z_tuple (by decide +kernel) (pa_cons (pe_lc (own := [("_law_n", 14)]) (by rfl) sc_l_paper_made.nd (pi_tupK K (pv 10)) (blkOk_by (own := [("_law_n", 14)]) (N := N_l_paper_made) (sc := defScope s_l_paper_made) (by decide +kernel)) (fun _ _ _ _ _ => (pg_name (i := 14) sc_l_paper_made.nd rfl (.inl rfl))) (fun _ _ _ _ _ => pts_nil) (fun _ _ _ _ _ => (pe_op op_sub (pv 14) (pe_call (okd_l_pick T (k := k + 1)) hr (by rfl) T.g_l_pick T.F_l_pick.kp T.b_l_pick .nil pass0 (pa_cons (pv 0) (pa_cons pe_int pa_nil)))))) pa_nil)))
      (pss_cons (ps_set (i := 12) sc_l_paper_made.nd rfl (.inl rfl) (pe_tup (pa_cons (pv 10) (pa_cons (pe_callTy (tuple_K K) (by rfl) T.z_tuple (by decide +kernel) (pa_cons (pe_lc (own := [("_law_n", 14)]) (by rfl) sc_l_paper_made.nd (pi_tupK K (pv 11)) (blkOk_by (own := [("_law_n", 14)]) (N := N_l_paper_made) (sc := defScope s_l_paper_made) (by decide +kernel)) (fun _ _ _ _ _ => (pg_name (i := 14) sc_l_paper_made.nd rfl (.inl rfl))) (fun _ _ _ _ _ => pts_nil) (fun _ _ _ _ _ => (pe_op op_add (pv 14) (pe_call (okd_l_pick T (k := k + 1)) hr (by rfl) T.g_l_pick T.F_l_pick.kp T.b_l_pick .nil pass0 (pa_cons (pv 0) (pa_cons pe_int pa_nil)))))) pa_nil)) pa_nil))))
      (pss_one (ps_if (PW.pt (pw_and (pt_cmpR (op_gtD K hr.units) (pe_tup (pa_cons (pe_call (okd_l_near T (k := k + 2)) hr (by rfl) T.g_l_near T.F_l_near.kp T.b_l_near .nil pass0 (pa_cons (pv 2) (pa_cons (pv 12) pa_nil))) (pa_cons (pe_ix (ix_tupK K) (pv 9) pe_int (fun _ _ => rfl)) pa_nil))) (pv 4) (nomark _)) (pw_and1 (pt_cmpR op_gt (pe_call (okd_l_pick T (k := k + 1)) hr (by rfl) T.g_l_pick T.F_l_pick.kp T.b_l_pick .nil pass0 (pa_cons (pv 0) (pa_cons pe_int pa_nil))) pe_int (nomark _))))) (pss_one (ps_expr (pe_bm PySem.F.plainAttrs_list PySem.F.slot_list_append PySem.F.type_list_append mt_append (pv 7) (pa_cons (pe_tup (pa_cons (pv 12) (pa_cons (pv 9) pa_nil))) pa_nil)))) (pss_one (ps_expr (pe_bm PySem.F.plainAttrs_list PySem.F.slot_list_extend PySem.F.type_list_extend (mt_extendT K) (pv 6) (pa_cons (pv 9) pa_nil)))))))))))))
      (pss_one (ps_ret (pe_tup (pa_cons (pe_callB (cr_sortedIK K) (by rfl) T.z_sorted (by decide +kernel) (pa_cons (pv 6) pa_nil)) (pa_cons (pv 7) pa_nil))))))))),
      (ss_seq (ss_asg (se_tup (sa_cons (se_call (sa_cons (se_op sr_ixL (sv 1) (sv 3)) (sa_cons (sv 2) sa_nil))) (sa_cons (sv 3) sa_nil))) sg_name)
      (ss_seq (ss_asg (SN.se (sn_call (sa_consL (sa_cons (SN.se (sn_lc (si_list (SN.se (sn_call (sa_cons (sv 1) sa_nil)))) sg_name (st_test (se_op sr_neI (sv 13) (sv 3))) (sv 13) (by decide))) sa_nil)))) sg_name)
      (ss_seq (ss_parO (sn_lst (sa_cons (sv 3) sa_nil)) (sn_lst sa_nil))
      (ss_seq (ss_while (st_test (se_op sr_neD (sv 5) (SN.se (sn_lst sa_nil)))) (ss_seq (ss_asg (se_op sr_int se_int (se_call (sa_consL (sa_cons se_int sa_nil)))) sg_name)
      (ss_seq (ss_asg (se_cb sc_tup (sa_cons (SN.se (sn_cb scn_sortI (sa_cons (SN.se (sn_slL (sv 5) so_none (so_some (sv 8)))) sa_nil))) sa_nil)) sg_name)
      (ss_seq (ss_asg (SN.se (sn_slL (sv 5) (so_some (sv 8)) so_none)) sg_name)
      (ss_seq (ss_asg (se_call (sa_cons (SN.se (sn_lc (si_tup (sv 9)) sg_name st_yesD (se_op sr_ixL (sv 1) (sv 13)) (by decide))) sa_nil)) (sg_tup (sgs_cons sg_name (sgs_cons sg_name sgs_nil))))
      (ss_seq (ss_asg (se_cb sc_tup (sa_cons (SN.se (sn_lc (si_tup (sv 10)) sg_name st_yesD (se_op sr_int (sv 14) (se_call (sa_consL (sa_cons se_int sa_nil)))) (by decide))) sa_nil)) sg_name)
      (ss_seq (ss_asg (se_tup (sa_cons (sv 10) (sa_cons (se_cb sc_tup (sa_cons (SN.se (sn_lc (si_tup (sv 11)) sg_name st_yesD (se_op sr_int (sv 14) (se_call (sa_consL (sa_cons se_int sa_nil)))) (by decide))) sa_nil)) sa_nil))) sg_name)
      (ss_if (st_and (st_test (se_op sr_gtD (se_tup (sa_cons (se_call (sa_cons (sv 2) (sa_cons (sv 12) sa_nil))) (sa_cons (se_op sr_ixT (sv 9) se_int) sa_nil))) (sv 4))) (st_test (se_op sr_bool (se_call (sa_consL (sa_cons se_int sa_nil))) se_int))) (ss_app (se_tup (sa_cons (sv 12) (sa_cons (sv 9) sa_nil)))) (ss_extT (sv 9))))))))))
      (ss_frz 7 (ss_frz 6 (ss_ret (se_tup (sa_cons (SN.se (sn_cb scn_sortI (sa_cons (sv 6) sa_nil))) (sa_cons (sv 7) sa_nil))))))))))⟩) (fun ds n Q ⟨_, _, _, e, _⟩ => by rw [e]; rfl) fun ds n Q ⟨cs, c, z, e, n1, cl, cc, l40, ok, z0, z1, q⟩ => ?_
  subst e
  have hj : z.toNat < cs.length := by omega
  have cat : ∀ x : Int, 0 ≤ x → x < (cs.length : Int) → atI (cs.map eC) x = some (eC (cs.getD x.toNat [])) := fun x h0 h1 => at0 h0 (by
    have h : x.toNat < cs.length := by omega
    rw [List.getElem?_map, List.getElem?_eq_getElem h, List.getD_eq_getElem?_getD, List.getElem?_eq_getElem h]
    rfl)
  have okx : ∀ x : Int, 0 ≤ x → x < (cs.length : Int) → (cs.getD x.toNat []).length = c.length ∧ cIn 0 999 (cs.getD x.toNat []) := fun x h0 h1 => by
    have h : x.toNat < cs.length := by omega
    rw [List.getD_eq_getElem?_getD, List.getElem?_eq_getElem h]
    exact ok _ (List.getElem_mem h)
  have oz := okx z z0 z1
  refine ⟨_, rfl, _, rfl, _, _, _, rfl, rfl, cat z z0 z1, _, rfl, _, c, rfl, oz.1, by omega, oz.2.mono (by decide) (by decide), cc.mono (by decide) (by decide), _, rfl, _, rfl, by simp, ?_⟩
  refine ⟨rfl, _, rfl, cs, rfl, by omega, _, rfl, lcD (by rw [List.length_map, allN_length]; omega) (fun i => ((allN cs.length)[i]?).bind fun x => if x ≠ z then some (.int x) else none) (fun i d Ky Kn ed ky kn => ?_) ?_⟩
  · obtain ⟨x, ex, rfl⟩ := mpG ed
    rw [ex] at ky kn
    refine ⟨_, rfl, _, rfl, _, _, rfl, rfl, _, rfl, ?_⟩
    by_cases h : x = z
    · have e : (!decide (x = z)) = false := by simp [h]
      rw [e]
      exact kn (by simp [h])
    · have e : (!decide (x = z)) = true := by simp [h]
      rw [e]
      exact ⟨_, rfl, ky _ (by simp [h])⟩
  rw [List.length_map, fm_if]
  have lf : ((allN cs.length).filter (· ≠ z)).length ≤ cs.length := by
    have := List.length_filter_le (fun x => decide (x ≠ z)) (allN cs.length)
    rw [allN_length] at this
    exact this
  refine ⟨_, rfl, by omega, by omega, fun rs m hm pk => ?_⟩
  have wk0 := Wk.start (c := c) z0 z1 pk
  have lrs := pk.length_eq
  refine ⟨_, rfl, _, rfl, by simp, _, rfl, by simp, ?_⟩
  refine ⟨fun k δ j => ∃ (rs ls : List Int) (ps : List ((List Int × List Int) × List Int)) (x8 x9 xa xb xc xd xe : Sl), δ = [.l, .d (eP cs), .d (eC c), .d (.int z), .d (enc (rk cs c z)), .d (eI rs), .o (ls.map .int), .o (ps.map ePs), x8, x9, xa, xb, xc, xd, xe] ∧ Wk cs c z rs ls ps ∧ k = rs.length ∧ rs.length ≤ 40 ∧ j ≤ n + 40 + 20 * (40 - rs.length), ⟨_, rs, [z], [], _, _, _, _, _, _, _, rfl, wk0, rfl, by omega, by omega⟩, fun k δ j ⟨rs, ls, ps, x8, x9, xa, xb, xc, xd, xe, eδ, wk, ek, lr, ej⟩ => ?_⟩
  subst eδ ek
  refine ⟨_, rfl, _, rfl, by simp, shd_eI (by omega), rfl, _, rfl, ?_⟩
  rw [eqv_nilI]
  by_cases e0 : rs = []
  · subst e0
    refine ⟨_, rfl, _, rfl, ?_⟩
    refine ⟨_, rfl, _, rfl, ls, rfl, fun ks pk sk => ⟨_, rfl, _, rfl, by simp, q (ks, ps) j (by simp at ej; omega) (wk.done pk sk)⟩⟩
  · rw [show (!decide (rs = [])) = true by simp [e0]]
    have r0 : 0 < rs.length := List.length_pos_iff.mpr e0
    refine ⟨rfl, 4, rfl, by omega, by decide, by decide, fun r r0' r1 => ⟨_, _, rfl, rfl, ?_⟩⟩
    obtain ⟨u, hu⟩ : ∃ u : Nat, 1 + r = (u : Int) := ⟨(1 + r).toNat, by omega⟩
    refine ⟨_, rfl, _, rfl, _, rfl, _, rfl, _, rfl, rs.take u, ?_, fun ks pk sk => ⟨_, rfl, _, .inl rfl, ?_⟩⟩
    · rw [hu, cut_toV _ (by omega), Int.toNat_natCast]
      unfold eI
      rw [List.map_take]
    have kl : ks.length = min u rs.length := by rw [pk.length_eq, List.length_take]
    have u1 : 1 ≤ u ∧ u ≤ 4 := by omega
    have kin : ∀ x ∈ ks, 0 ≤ x ∧ x < (cs.length : Int) := fun x hx => wk.rsIn x (List.mem_of_mem_take (pk.mem_iff.mp hx))
    have wl := wk.len
    have fl := flat_ge (fun p : (List Int × List Int) × List Int => p.2) (xs := ps) fun p hp => someB_pos (wk.wf p hp).2.2.2
    have er : cutL (rs.map PyData.int) (some (1 + r)) none = (rs.drop u).map .int := by
      rw [hu, cut_fromV _ (by omega), Int.toNat_natCast, List.map_drop]
    refine ⟨_, rfl, _, rfl, _, rfl, _, rfl, ?_⟩
    rw [er]
    refine ⟨_, rfl, _, rfl, lcD (by rw [List.length_map]; omega) (fun i => (ks[i]?).map fun x => eC (cs.getD x.toNat [])) (fun i d Ky Kn ed ky kn => ?_) ?_⟩
    · obtain ⟨x, ex, rfl⟩ := mpG ed
      have hx := kin x (mem_i ex)
      exact ⟨_, rfl, _, rfl, _, _, _, rfl, rfl, cat x hx.1 hx.2, ky _ (by rw [ex]; rfl)⟩
    rw [List.length_map, fmM]
    let xs := ks.map fun x => cs.getD x.toNat []
    have xok : ∀ x ∈ xs, x.length = c.length ∧ cIn 0 999 x := fun x hx => by
      obtain ⟨y, hy, rfl⟩ := List.mem_map.mp hx
      exact okx y (kin y hy).1 (kin y hy).2
    have x0 : 0 < xs.length := by show 0 < (ks.map _).length; rw [List.length_map]; omega
    refine ⟨xs, c.length, by unfold eP; rw [List.map_map]; rfl, x0, by show (ks.map _).length ≤ _; rw [List.length_map]; omega, fun x hx => (xok x hx).1, by omega, fun lo hi bx => ?_⟩
    refine ⟨_, rfl, rfl, _, _, rfl, _, _, rfl, rfl, ?_⟩
    have bl : lo.length = c.length := bx.l1
    have bh : hi.length = c.length := bx.l2
    refine ⟨_, rfl, _, rfl, by rw [List.length_map]; omega, fun i acc j' => ∃ ns : List Int, acc = ns.map .int ∧ ns.length = i ∧ (∀ p, p < i → lo.getD p 0 - 1 ≤ ns.getD p 0 ∧ ns.getD p 0 ≤ lo.getD p 0) ∧ j' = j + 1 + i, ⟨[], rfl, rfl, (fun p h => absurd h (Nat.not_lt_zero _)), rfl⟩, fun i d acc j' ed ⟨ns, ea, en, hn, ej'⟩ => ?_, fun acc j' ⟨lo2, ea, en, hn, ej'⟩ => ?_⟩
    · obtain ⟨hi', rfl⟩ := gi ed
      refine ⟨_, rfl, rfl, 2, rfl, by omega, by decide, by decide, fun y y0 y1 => ⟨_, _, rfl, rfl, ns ++ [lo[i] - y], by rw [ea, List.map_append]; rfl, by simp [en], fun p hp => ?_, by omega⟩⟩
      rw [getD_snoc, en]
      by_cases h : p < i
      · rw [if_pos h]; exact hn p h
      · have e : p = i := by omega
        rw [if_neg h, if_pos e, e, gdE hi']
        omega
    rw [List.length_map] at en hn ej'
    refine ⟨_, rfl, _, .inl rfl, ?_⟩
    rw [ea]
    refine ⟨_, rfl, _, rfl, _, rfl, by rw [List.length_map]; omega, fun i acc j2 => ∃ ns : List Int, acc = ns.map .int ∧ ns.length = i ∧ (∀ p, p < i → hi.getD p 0 ≤ ns.getD p 0 ∧ ns.getD p 0 ≤ hi.getD p 0 + 1) ∧ j2 = j' + i, ⟨[], rfl, rfl, (fun p h => absurd h (Nat.not_lt_zero _)), rfl⟩, fun i d acc j2 ed ⟨ns, ea, eh, hn2, ej2⟩ => ?_, fun acc j2 ⟨hi2, ea2, eh, hn2, ej2⟩ => ?_⟩
    · obtain ⟨hi', rfl⟩ := gi ed
      refine ⟨_, rfl, rfl, 2, rfl, by omega, by decide, by decide, fun y y0 y1 => ⟨_, _, rfl, rfl, ns ++ [hi[i] + y], by rw [ea, List.map_append]; rfl, by simp [eh], fun p hp => ?_, by omega⟩⟩
      rw [getD_snoc, eh]
      by_cases h : p < i
      · rw [if_pos h]; exact hn2 p h
      · have e : p = i := by omega
        rw [if_neg h, if_pos e, e, gdE hi']
        omega
    rw [List.length_map] at eh hn2 ej2
    refine ⟨_, rfl, _, .inl rfl, _, rfl, by simp, ?_⟩
    rw [ea2]
    have bb := box_by bx x0 xok (by omega) (by omega) (fun p hp => hn p (by omega)) (fun p hp => hn2 p (by omega))
    have k0 : atI (ks.map PyData.int) 0 = some (.int (ks.headD 0)) := at0 (by decide) (by
      obtain ⟨x, t, ex⟩ : ∃ x t, ks = x :: t := by
        cases ks with
        | nil => simp at kl; omega
        | cons x t => exact ⟨x, t, rfl⟩
      rw [ex]
      rfl)
    have b1 : lo2.length = c.length := bb.l1
    have b2 : hi2.length = c.length := bb.l2
    refine ⟨_, rfl, _, rfl, c, lo2, hi2, rfl, b1, b2, by omega, bb.c1.mono (by decide) (by decide), cc.mono (by decide) (by decide), bb.c2.mono (by decide) (by decide), bb.le, ?_⟩
    refine ⟨_, rfl, _, _, _, rfl, rfl, k0, _, rfl, by simp, _, rfl, alike_enc (ap c (nearC lo2 c hi2), ks.headD 0) (rk cs c z), enc_ne (ap c (nearC lo2 c hi2), ks.headD 0), Nat.le_trans (sh_eC (ns := [ap c (nearC lo2 c hi2), ks.headD 0]) (by simp)).2.1 (by decide), ?_⟩
    refine ⟨_, rfl, ?_⟩
    show if PySem.W.dataLt (enc (rk cs c z)) (enc (ap c (nearC lo2 c hi2), ks.headD 0)) = true then _ else _
    rw [lt_enc]
    have dl : (rs.drop u).length = rs.length - u := List.length_drop
    have kl2 : ks.length + (rs.drop u).length = rs.length := by rw [dl, kl]; omega
    have lk1 : (ls.map PyData.int).length + (ks.map PyData.int).length ≤ 100000 := by rw [List.length_map, List.length_map]; omega
    cases hle : SrtO.lexB (rk cs c z) (ap c (nearC lo2 c hi2), ks.headD 0) with
    | false => exact ⟨_, rfl, _, rfl, _, rfl, lk1, (rs.drop u).length, by omega, rs.drop u, ls ++ ks, ps, _, _, _, _, _, _, _, by rw [List.map_append]; rfl, wk.looked pk, rfl, by omega, by omega⟩
    | true =>
      refine ⟨rfl, 5, rfl, by omega, by decide, by decide, fun y y0 y1 => ⟨_, _, rfl, rfl, _, rfl, ite2 (fun e5 => ?_) (fun e5 => ?_)⟩⟩
      · refine ⟨_, rfl, by rw [List.length_map]; omega, _, rfl, _, rfl, _, rfl, by simp, (rs.drop u).length, by omega, rs.drop u, ls, ps ++ [((lo2, hi2), ks)], _, _, _, _, _, _, _, by rw [List.map_append]; rfl, wk.passed pk sk (by omega) bb hle, rfl, by omega, by omega⟩
      · exact ⟨_, rfl, _, rfl, _, rfl, lk1, (rs.drop u).length, by omega, rs.drop u, ls ++ ks, ps, _, _, _, _, _, _, _, by rw [List.map_append]; rfl, wk.looked pk, rfl, by omega, by omega⟩
/-! ### the maths of ties -/
theorem leL_refl : ∀ a : List Int, leL a a = true := fun a => leL_of rfl fun _ _ => Int.le_refl _
theorem hol_self (x : List Int) : hol x x x = true := by
  unfold hol
  refine List.all_eq_true.mpr fun p _ => ?_
  unfold hF
  rw [decide_eq_true (Int.le_refl _)]
  rfl
theorem nearC_self {x c : List Int} (h : x.length = c.length) : nearC x c x = x := by
  apply List.ext_getElem?
  intro i
  unfold nearC
  rw [List.getElem?_map]
  by_cases hi : i < c.length
  · rw [List.getElem?_range hi]
    have e : nearF x c x i = x.getD i 0 := by
      unfold nearF
      split <;> first | rfl | omega | (split <;> first | rfl | omega)
    show some (nearF x c x i) = _
    rw [e, List.getD_eq_getElem?_getD, List.getElem?_eq_getElem (by omega)]
    rfl
  · rw [List.getElem?_eq_none (by rw [List.length_range]; omega), List.getElem?_eq_none (by omega)]
    rfl
structure Tis (cs : List (List Int)) (c : List Int) (ts : List (Int × Int)) (sq num : Int) : Prop where
  pm : ts.Perm ((allN cs.length).map (rk cs c))
  mn : ∀ t ∈ ts, SrtO.lexB t (sq, num) = false
  me : (sq, num) ∈ ts
def tiesOf (ts : List (Int × Int)) (sq : Int) : List Int := (ts.filter fun t => decide (t.1 = sq)).map (·.2)
def restOf (ts : List (Int × Int)) (sq : Int) : List Int := (ts.filter fun t => decide (sq < t.1)).map (·.2)
theorem rk_snd {cs : List (List Int)} {c : List Int} : ((allN cs.length).map (rk cs c)).map (·.2) = allN cs.length := by
  rw [List.map_map]
  exact List.map_id _
section
variable {cs : List (List Int)} {c : List Int} {ts : List (Int × Int)} {sq num : Int}
theorem Tis.all (h : Tis cs c ts sq num) : (tiesOf ts sq ++ restOf ts sq).Perm (allN cs.length) := by
  have e : restOf ts sq = (ts.filter fun t => !decide (t.1 = sq)).map (·.2) := by
    unfold restOf
    congr 1
    refine List.filter_congr fun t ht => ?_
    have := SrtO.lexB_no.mp (h.mn t ht)
    by_cases q : t.1 = sq
    · rw [decide_eq_true q, decide_eq_false (by omega)]
      rfl
    · rw [decide_eq_false q, decide_eq_true (by simp only at this; omega)]
      rfl
  rw [e]
  unfold tiesOf
  rw [← List.map_append]
  refine ((List.filter_append_perm _ ts).map _).trans ?_
  rw [← rk_snd (c := c)]
  exact h.pm.map _
theorem Tis.tie (h : Tis cs c ts sq num) {x : Int} (hx : x ∈ tiesOf ts sq) : rk cs c x = (sq, x) ∧ num ≤ x ∧ 0 ≤ x ∧ x < (cs.length : Int) := by
  obtain ⟨t, ht, rfl⟩ := List.mem_map.mp hx
  obtain ⟨h1, h2⟩ := List.mem_filter.mp ht
  have h2 := of_decide_eq_true h2
  obtain ⟨y, hy, ey⟩ := List.mem_map.mp (h.pm.mem_iff.mp h1)
  have hm := SrtO.lexB_no.mp (h.mn t h1)
  have hy := mem_allN.mp hy
  subst ey
  refine ⟨?_, by simp only at hm h2; unfold rk at hm h2 ⊢; simp only at hm h2 ⊢; omega, hy.1, hy.2⟩
  show rk cs c y = (sq, y)
  unfold rk at h2 ⊢
  rw [← h2]
theorem Tis.numT (h : Tis cs c ts sq num) : num ∈ tiesOf ts sq := List.mem_map.mpr ⟨(sq, num), List.mem_filter.mpr ⟨h.me, decide_eq_true rfl⟩, rfl⟩
def tieP (cs : List (List Int)) (x : Int) : (List Int × List Int) × List Int := ((cs.getD x.toNat [], cs.getD x.toNat []), [x])
theorem tie_flat (xs : List Int) : (xs.map (tieP cs)).flatMap (·.2) = xs := by
  induction xs with
  | nil => rfl
  | cons x t ih => rw [List.map_cons, List.flatMap_cons, ih]; rfl
theorem Tis.ok (h : Tis cs c ts sq num) (wl : ∀ x ∈ cs, x.length = c.length ∧ cIn 0 999 x) {told : Int} (ht : told ∈ tiesOf ts sq) {ks : List Int} (hk : ks.Perm (restOf ts sq ++ [told])) (hs : ks.Pairwise (· ≤ ·)) : PapOk cs.length c.length (ks, ((tiesOf ts sq).filter (· ≠ told)).map (tieP cs)) ∧ PapIn cs (ks, ((tiesOf ts sq).filter (· ≠ told)).map (tieP cs)) ∧
    shwAll cs c told (ks, ((tiesOf ts sq).filter (· ≠ told)).map (tieP cs)) = decide (told = num) := by
  have hall := h.all
  have nd := hall.nodup_iff.mpr (allN_nd _)
  have ndT : (tiesOf ts sq).Nodup := (List.nodup_append.mp nd).1
  have ex : (tiesOf ts sq).filter (· ≠ told) = (tiesOf ts sq).erase told := by
    rw [ndT.erase_eq_filter]
    refine List.filter_congr fun x _ => ?_
    by_cases q : x = told <;> simp [q]
  have each : (ks ++ (((tiesOf ts sq).filter (· ≠ told)).map (tieP cs)).flatMap (·.2)).Perm (allN cs.length) := by
    rw [tie_flat, ex]
    refine .trans ?_ hall
    refine (hk.append_right _).trans ?_
    rw [List.append_assoc]
    refine List.perm_append_comm.trans ?_
    refine List.Perm.append_right _ ?_
    exact (List.perm_cons_erase ht).symm
  have kin : ∀ x ∈ ks, 0 ≤ x ∧ x < (cs.length : Int) := fun x hx => mem_allN.mp (each.mem_iff.mp (List.mem_append_left _ hx))
  have ndK : ks.Nodup := (List.nodup_append.mp (each.nodup_iff.mpr (allN_nd _))).1
  have gx : ∀ x : Int, 0 ≤ x → x < (cs.length : Int) → (cs.getD x.toNat []).length = c.length ∧ cIn 0 999 (cs.getD x.toNat []) := fun x h0 h1 => by
    have hh : x.toNat < cs.length := by omega
    rw [List.getD_eq_getElem?_getD, List.getElem?_eq_getElem hh]
    exact wl _ (List.getElem_mem hh)
  have inP : ∀ p ∈ ((tiesOf ts sq).filter (· ≠ told)).map (tieP cs), ∃ x, x ∈ tiesOf ts sq ∧ x ≠ told ∧ p = tieP cs x := fun p hp => by
    obtain ⟨x, hx, rfl⟩ := List.mem_map.mp hp
    obtain ⟨h1, h2⟩ := List.mem_filter.mp hx
    exact ⟨x, h1, by simpa using h2, rfl⟩
  have hok : PapOk cs.length c.length (ks, ((tiesOf ts sq).filter (· ≠ told)).map (tieP cs)) := by
    refine ⟨someB_of (by rw [hk.length_eq, List.length_append]; simp) hs ndK kin, fun p hp => ?_, each⟩
    obtain ⟨x, hx, nx, rfl⟩ := inP p hp
    have hx := h.tie hx
    have gg := gx x hx.2.2.1 hx.2.2.2
    refine ⟨?_, gg.1, gg.1, someB_of (by simp [tieP]) (by simp [tieP]) (by simp [tieP]) fun y hy => ?_⟩
    · show isBox (.tuple [eC (cs.getD x.toNat []), eC (cs.getD x.toNat [])]) _ = true
      rw [isBox_eq, isCol_eC gg.1, leD_eC, leL_refl]
      rfl
    · rw [List.mem_singleton.mp hy]
      exact hx.2.2
  have hin : PapIn cs (ks, ((tiesOf ts sq).filter (· ≠ told)).map (tieP cs)) := by
    refine ⟨fun p hp => ?_, fun p hp n hn => ?_⟩
    · obtain ⟨x, hx, nx, rfl⟩ := inP p hp
      have hx := h.tie hx
      have gg := (gx x hx.2.2.1 hx.2.2.2).2.mono (lo' := -1000000) (hi' := 1000000) (by decide) (by decide)
      exact ⟨gg, gg⟩
    · obtain ⟨x, hx, nx, rfl⟩ := inP p hp
      rw [List.mem_singleton.mp hn]
      exact hol_self _
  refine ⟨hok, hin, ?_⟩
  have hT := h.tie ht
  have hN := h.tie h.numT
  by_cases q : told = num
  · rw [decide_eq_true q]
    subst q
    refine shw_yes hok (hk.mem_iff.mpr (List.mem_append_right _ (List.mem_singleton.mpr rfl))) (fun o o0 o1 => ?_) fun p hp => ?_
    · rw [hT.1]
      exact h.mn _ (h.pm.mem_iff.mpr (List.mem_map_of_mem (mem_allN.mpr ⟨o0, o1⟩)))
    · obtain ⟨x, hx, nx, rfl⟩ := inP p hp
      have hx := h.tie hx
      have gg := gx x hx.2.2.1 hx.2.2.2
      have e1 : ap c (nearC (cs.getD x.toNat []) c (cs.getD x.toNat [])) = sq := by
        rw [nearC_self gg.1, ap_comm]
        have := congrArg Prod.fst hx.1
        exact this
      show SrtO.lexB (rk cs c told) (ap c (nearC (cs.getD x.toNat []) c (cs.getD x.toNat [])), x) = true
      rw [e1, hT.1]
      refine SrtO.lexB_iff.mpr (.inr ⟨rfl, ?_⟩)
      simp only
      omega
  · rw [decide_eq_false q]
    refine Bool.eq_false_iff.mpr fun hs' => ?_
    have := shw_sound hok hin (fun x hx => (wl x hx).1) hs' hN.2.2.1 hN.2.2.2
    rw [hT.1, hN.1] at this
    have h3 := hT.2.1
    have h4 : num < told := by omega
    have t := (SrtO.lexB_iff (p := (sq, num)) (q := (sq, told))).mpr (.inr ⟨rfl, h4⟩)
    rw [t] at this
    cases this
end
theorem tis_of {cs : List (List Int)} {c : List Int} {ts : List (Int × Int)} {sq num : Int} {r : List (Int × Int)} (e : ts = (sq, num) :: r) (hp : ts.Perm ((allN cs.length).map (rk cs c))) (hs : ts.Pairwise (fun a b => SrtO.lexB b a = false)) : Tis cs c ts sq num := by
  refine ⟨hp, fun t ht => ?_, by rw [e]; exact List.mem_cons_self ..⟩
  rw [e] at ht hs
  rcases List.mem_cons.mp ht with q | q
  · rw [q]
    exact SrtO.lexB_no.mpr (by omega)
  · exact (List.pairwise_cons.mp hs).1 t q
/-! ### whether it is as due -/
theorem shw_c {ns : List Int} (h : cIn (-1000000000) 1000000000 ns) (l : ns.length ≤ 100) : Shw (eC ns) 7000 := by
  refine (shw_tup (n := 60) fun d hd => ?_).mono (by rw [List.length_map]; omega)
  obtain ⟨x, hx, rfl⟩ := List.mem_map.mp hd
  have := h x hx
  exact shw_int (by omega)
theorem shw_two {a b : PyData} {n : Nat} (h1 : Shw a n) (h2 : Shw b n) : Shw (.tuple [a, b]) (2 * n + 10) :=
  (shw_tup (n := n) fun d hd => by
    rcases List.mem_cons.mp hd with q | q
    · rw [q]; exact h1
    · rw [List.mem_singleton.mp q]; exact h2).mono (by simp only [List.length_cons, List.length_nil]; omega)
theorem sh_two {a b : PyData} {k : Nat} (h1 : Sh a k) (h2 : Sh b k) : Sh (.tuple [a, b]) (k + 1) := sh_tup (by simp) fun d hd => by
  rcases List.mem_cons.mp hd with q | q
  · rw [q]; exact h1
  · rw [List.mem_singleton.mp q]; exact h2
theorem pap_shw {cs : List (List Int)} {w : Nat} {r : Pap} (ok : PapOk cs.length w r) (oi : PapIn cs r) (l : cs.length ≤ 40) (hw : w ≤ 5) : Shw (ePap r) 3000000 ∧ Sh (ePap r) 5 := by
  have len := ok.len
  have len2 := ok.len2
  have kin : ∀ x ∈ r.1, -1000000000 ≤ x ∧ x ≤ 1000000000 := fun x hx => by have := ok.lkIn hx; omega
  have each : ∀ p ∈ r.2, Shw (ePs p) 30000 ∧ Sh (ePs p) 3 := fun p hp => by
    obtain ⟨h1, h2, h3, h4⟩ := ok.wf p hp
    obtain ⟨b1, b2⟩ := oi.lo p hp
    have pin : ∀ x ∈ p.2, -1000000000 ≤ x ∧ x ≤ 1000000000 := fun x hx => by have := ok.psIn hp hx; omega
    have pl := ok.one hp
    exact ⟨(shw_two (shw_two (shw_c (b1.mono (by decide) (by decide)) (by omega)) (shw_c (b2.mono (by decide) (by decide)) (by omega))) ((shw_c pin (by omega)).mono (by omega))).mono (by omega),
      sh_two (sh_two (sh_eC (by omega)) (sh_eC (by omega))) ((sh_eC (by omega)).mono (by omega))⟩
  refine ⟨(shw_two ((shw_eI kin (by omega)).mono (m := 1300000) (by omega)) ((shw_lst (n := 30000) fun d hd => ?_).mono (by rw [List.length_map]; omega))).mono (by omega), sh_two ((sh_eI (by omega)).mono (by omega)) (sh_lst (by rw [List.length_map]; omega) fun d hd => ?_)⟩
  · obtain ⟨p, hp, rfl⟩ := List.mem_map.mp hd
    exact (each p hp).1
  · obtain ⟨p, hp, rfl⟩ := List.mem_map.mp hd
    exact (each p hp).2
def rDue : List Sl → Nat → DQ → Prop := fun ds n K => ∃ (cs : List (List Int)) (c c0 : List Int) (z : Int) (r : Pap) (b : Bool), ds = [.d (eP cs), .d (eC c), .d (.int z), .d (ePap r), .d (.bool b)] ∧ cs[0]? = some c0 ∧ c.length ≤ 5 ∧ cs.length ≤ 40 ∧ cIn (-1000000) 1000000 c ∧ pOk cs c ∧ PapOk cs.length c.length r ∧ PapIn cs r ∧ K (.bool (decide (shwAll cs c z r = b))) n
theorem oks_l_as_due (T : Tx K mg) {k : Nat} : FnS P w K mg base (k + 7) T.f_l_as_due T.d_l_as_due ["_law_palette_here", "_law_colour_here", "_law_number", "_law_paper", "_law_due"] (spD rDue) := by
  refine okDS T.F_l_as_due sc_l_as_due _ (fun cdv A outer s H E hA hr => ⟨_, (pss_cons (ps_set (i := 5) sc_l_as_due.nd rfl (.inl rfl) (pe_callTy (cr_strD K hA hr.units) (by rfl) T.z_str (by decide +kernel) (pa_cons (pv 3) pa_nil)))
      (pss_cons (ps_set (i := 6) sc_l_as_due.nd rfl (.inl rfl) (pe_call (okd_shows_nearest T (k := k)) hr (by rfl) T.g_shows_nearest T.F_shows_nearest.kp T.b_shows_nearest .nil pass0 (pa_cons (pv 0) (pa_cons (pv 1) (pa_cons (pv 2) (pa_cons (pv 3) pa_nil))))))
      (pss_one (ps_ret (pe_and (pe_callB (call_isiK1 K) (by rfl) T.z_isinstance (by decide +kernel) (pa_cons (pv 6) (pa_cons (pe_bltn (v := .ty "bool") (by rfl) T.z_bool (by decide +kernel) rfl) pa_nil))) (pe_and (pe_cmpR op_eq (pv 6) (pv 4) (nomark _)) (pe_one (pe_cmpR op_eq (pe_callTy (cr_strD K hA hr.units) (by rfl) T.z_str (by decide +kernel) (pa_cons (pv 3) pa_nil)) (pv 5) (nomark _))))))))),
      (ss_seq (ss_asg (se_cb sc_str (sa_cons (sv 3) sa_nil)) sg_name)
      (ss_seq (ss_asg (se_call (sa_cons (sv 0) (sa_cons (sv 1) (sa_cons (sv 2) (sa_cons (sv 3) sa_nil))))) sg_name)
      (ss_ret (se_and (se_isi (sv 6)) (se_and (se_op sr_eqB (sv 6) (sv 4)) (se_op sr_eqS (se_cb sc_str (sa_cons (sv 3) sa_nil)) (sv 5)))))))⟩) (fun ds n Q ⟨_, _, _, _, _, _, e, _⟩ => by rw [e]; rfl) fun ds n Q ⟨cs, c, c0, z, r, b, e, e0, l5, l40, cr, po, ok, oi, q⟩ => ?_
  subst e
  obtain ⟨w1, w2⟩ := pap_shw ok oi l40 l5
  have hst : ∀ K : PyData → Prop, K (.str (ePap r).shown) → rdStr [ePap r] K := fun K h => ⟨_, rfl, ⟨_, .inr rfl⟩, w1.a, w1.b, Nat.le_trans w2.2.1 (by decide), Nat.le_trans w1.c (by decide), h⟩
  refine ⟨_, rfl, _, rfl, hst _ ?_⟩
  refine ⟨_, rfl, _, rfl, _, rfl, _, rfl, cs, c, c0, z, r, rfl, e0, by omega, cr, po, ok, oi, ?_⟩
  refine ⟨_, rfl, _, rfl, true, rfl, _, rfl, _, rfl, _, _, rfl, rfl, _, rfl, ?_⟩
  cases hd : decide (shwAll cs c z r = b) with
  | false =>
    rw [hd] at q
    exact q
  | true =>
    rw [hd] at q
    refine ⟨_, rfl, _, rfl, hst _ ⟨_, rfl, _, _, rfl, rfl, ?_⟩⟩
    show Q (.bool (decide ((ePap r).shown = (ePap r).shown))) n
    rw [decide_eq_true rfl]
    exact q
/-! ### ties -/
theorem fm_tie (ts : List (Int × Int)) (f : Int × Int → Bool) : (List.range ts.length).filterMap (fun i => (ts[i]?).bind fun t => if f t = true then some (PyData.int t.2) else none) = ((ts.filter f).map (·.2)).map .int := by
  rw [fm_bind]
  induction ts with
  | nil => rfl
  | cons x t ih =>
    rw [List.filterMap_cons, List.filter_cons]
    cases h : f x with
    | true => simp [h]; simpa using ih
    | false => simp [h]; simpa using ih
def rTies : List Sl → Nat → DQ → Prop := fun ds n K => ∃ (cs : List (List Int)) (c : List Int), ds = [.d (eP cs), .d (eC c)] ∧ 0 < cs.length ∧ c.length ≤ 5 ∧ cs.length ≤ 40 ∧ cIn (-1000000) 1000000 c ∧ (∀ x ∈ cs, x.length = c.length ∧ cIn 0 999 x) ∧ K (.bool true) n
set_option maxHeartbeats 1000000 in
theorem oks_l_ties_right (T : Tx K mg) {k : Nat} : FnS P w K mg base (k + 8) T.f_l_ties_right T.d_l_ties_right ["_law_palette_here", "_law_colour_here"] (spD rTies) := by
  refine okDS T.F_l_ties_right sc_l_ties_right _ (fun cdv A outer s H E hA hr => ⟨_, (pss_cons (ps_set (i := 2) sc_l_ties_right.nd rfl (.inl rfl) (pe_call (okn_l_turns T (k := k + 5)) hr (by rfl) T.g_l_turns T.F_l_turns.kp T.b_l_turns .nil pass0 (pa_cons (pv 0) (pa_cons (pv 1) pa_nil))))
      (pss_cons (ps_asg (pe_ix (ix_listK K) (pv 2) pe_int (fun _ _ => rfl)) (pg_tupK K (n := 2) rfl (pgs_cons (pg_name (i := 3) sc_l_ties_right.nd rfl (.inr rfl)) (pgs_cons (pg_name (i := 4) sc_l_ties_right.nd rfl (.inl rfl)) pgs_nil))))
      (pss_cons (ps_setLc (i := 5) (own := [("_law_far", 9), ("_law_one", 10)]) (by rfl) sc_l_ties_right.nd rfl rfl (sw_true rfl rfl rfl (by decide +kernel)) (pi_listK K (pv 2)) (blkOk_by (own := [("_law_far", 9), ("_law_one", 10)]) (N := N_l_ties_right) (sc := defScope s_l_ties_right) (by decide +kernel)) (fun _ _ _ _ _ => (pg_tupK K (n := 2) rfl (pgs_cons (pg_name (i := 9) sc_l_ties_right.nd rfl (.inl rfl)) (pgs_cons (pg_name (i := 10) sc_l_ties_right.nd rfl (.inl rfl)) pgs_nil)))) (fun _ _ _ _ _ => pts_one (pt_cmpR op_eq (pv 9) (pv 3) (nomark _))) (fun _ _ _ _ _ => (pv 10)))
      (pss_cons (ps_setLc (i := 6) (own := [("_law_far", 9), ("_law_one", 10)]) (by rfl) sc_l_ties_right.nd rfl rfl (sw_true rfl rfl rfl (by decide +kernel)) (pi_listK K (pv 2)) (blkOk_by (own := [("_law_far", 9), ("_law_one", 10)]) (N := N_l_ties_right) (sc := defScope s_l_ties_right) (by decide +kernel)) (fun _ _ _ _ _ => (pg_tupK K (n := 2) rfl (pgs_cons (pg_name (i := 9) sc_l_ties_right.nd rfl (.inl rfl)) (pgs_cons (pg_name (i := 10) sc_l_ties_right.nd rfl (.inl rfl)) pgs_nil)))) (fun _ _ _ _ _ => pts_one (pt_cmpR op_gt (pv 9) (pv 3) (nomark _))) (fun _ _ _ _ _ => (pv 10)))
      (pss_cons (ps_for PassesOwn.never rfl (pi_listK K (pe_op op_cat (pe_slice (sl_listK K) (pv 5) po_none (po_some pe_int)) (pe_slice (sl_listK K) (pv 5) (po_some (pe_un un_neg pe_int)) po_none))) (pg_name (i := 7) sc_l_ties_right.nd rfl (.inr rfl)) (pss_cons (ps_setLc (i := 8) (own := [("_law_one", 10)]) (by rfl) sc_l_ties_right.nd rfl rfl (sw_true rfl rfl rfl (by decide +kernel)) (pi_listK K (pv 5)) (blkOk_by (own := [("_law_one", 10)]) (N := N_l_ties_right) (sc := defScope s_l_ties_right) (by decide +kernel)) (fun _ _ _ _ _ => (pg_name (i := 10) sc_l_ties_right.nd rfl (.inl rfl))) (fun _ _ _ _ _ => pts_one (pt_cmpR op_ne (pv 10) (pv 7) (nomark _))) (fun _ _ _ _ _ => (pe_tup (pa_cons (pe_tup (pa_cons (pe_ix (ix_listK K) (pv 0) (pv 10) (fun _ _ => rfl)) (pa_cons (pe_ix (ix_listK K) (pv 0) (pv 10) (fun _ _ => rfl)) pa_nil))) (pa_cons (pe_tup (pa_cons (pv 10) pa_nil)) pa_nil)))))
      (pss_one (ps_if (pt_not (pt_val (pe_callS (oks_l_as_due T (k := k)) hA hr (by rfl) T.g_l_as_due T.F_l_as_due.kp T.b_l_as_due .nil (pa_cons (pv 0) (pa_cons (pv 1) (pa_cons (pv 7) (pa_cons (pe_tup (pa_cons (pe_callB (cr_sortedIK K) (by rfl) T.z_sorted (by decide +kernel) (pa_cons (pe_op op_cat (pv 6) (pe_lst (pa_cons (pv 7) pa_nil))) pa_nil)) (pa_cons (pv 8) pa_nil))) (pa_cons (pe_cmpR op_eq (pv 7) (pv 4) (nomark _)) pa_nil)))))))) (pss_one (ps_ret pe_bl)) pss_nil))))
      (pss_one (ps_ret pe_bl))))))),
      (ss_seq (ss_asg (SN.se (sn_call (sa_cons (sv 0) (sa_cons (sv 1) sa_nil)))) sg_name)
      (ss_seq (ss_asg (se_op sr_ixL (sv 2) se_int) (sg_tup (sgs_cons sg_name (sgs_cons sg_name sgs_nil))))
      (ss_seq (ss_asg (SN.se (sn_lc (si_list (sv 2)) (sg_tup (sgs_cons sg_name (sgs_cons sg_name sgs_nil))) (st_test (se_op sr_eqI (sv 9) (sv 3))) (sv 10) (by decide))) sg_name)
      (ss_seq (ss_asg (SN.se (sn_lc (si_list (sv 2)) (sg_tup (sgs_cons sg_name (sgs_cons sg_name sgs_nil))) (st_test (se_op sr_bool (sv 9) (sv 3))) (sv 10) (by decide))) sg_name)
      (ss_seq (ss_for (si_list (SN.se (sn_op srn_cat (SN.se (sn_slL (sv 5) so_none (so_some se_int))) (SN.se (sn_slL (sv 5) (so_some (se_neg se_int)) so_none))))) sg_name (ss_seq (ss_asg (SN.se (sn_lc (si_list (sv 5)) sg_name (st_test (se_op sr_neI (sv 10) (sv 7))) (se_tup (sa_cons (se_tup (sa_cons (se_op sr_ixL (sv 0) (sv 10)) (sa_cons (se_op sr_ixL (sv 0) (sv 10)) sa_nil))) (sa_cons (se_tup (sa_cons (sv 10) sa_nil)) sa_nil))) (by decide))) sg_name)
      (ss_if (st_not (st_B (se_call (sa_cons (sv 0) (sa_cons (sv 1) (sa_cons (sv 7) (sa_cons (se_tup (sa_cons (SN.se (sn_cb scn_sortI (sa_cons (SN.se (sn_op srn_cat (sv 6) (SN.se (sn_lst (sa_cons (sv 7) sa_nil))))) sa_nil))) (sa_cons (sv 8) sa_nil))) (sa_cons (se_op sr_eqI (sv 7) (sv 4)) sa_nil)))))))) (ss_ret se_bl) ss_next)))
      (ss_ret se_bl))))))⟩) (fun ds n Q ⟨_, _, e, _⟩ => by rw [e]; rfl) fun ds n Q ⟨cs, c, e, c0, l5, l40, cr, ok, q⟩ => ?_
  subst e
  have po : pOk cs c := ⟨by omega, by omega, cr.mono (by decide) (by decide), fun x hx => ⟨(ok x hx).1, (ok x hx).2.mono (by decide) (by decide)⟩⟩
  refine ⟨_, rfl, _, rfl, cs, c, rfl, po, fun ts hp hs => ?_⟩
  have lts := hp.length_eq
  rw [List.length_map, allN_length] at lts
  obtain ⟨⟨sq, num⟩, r, ets⟩ : ∃ t r, ts = t :: r := by
    cases ts with
    | nil => simp at lts; omega
    | cons x t => exact ⟨x, t, rfl⟩
  have tis := tis_of ets hp hs
  have at_ts : atI (ts.map enc) 0 = some (enc (sq, num)) := at0 (by decide) (by rw [ets]; rfl)
  refine ⟨_, rfl, _, _, _, rfl, rfl, at_ts, _, rfl, rfl, _, _, rfl, _, _, rfl, rfl, ?_⟩
  refine ⟨_, rfl, _, rfl, lcD (by rw [List.length_map]; omega) (fun i => (ts[i]?).bind fun t => if decide (t.1 = sq) = true then some (.int t.2) else none) (fun i d Ky Kn ed ky kn => ?_) ?_⟩
  · obtain ⟨t, et, rfl⟩ := mpG ed
    rw [et] at ky kn
    refine ⟨_, rfl, rfl, _, _, rfl, _, _, rfl, rfl, ?_⟩
    refine ⟨_, rfl, _, rfl, _, _, rfl, rfl, decide (t.1 = sq), rfl, ?_⟩
    cases h : decide (t.1 = sq) with
    | true => exact ⟨_, rfl, ky _ (by simp [h]; exact of_decide_eq_true h)⟩
    | false => exact kn (by simp; exact of_decide_eq_false h)
  rw [List.length_map, fm_tie]
  refine ⟨_, rfl, _, rfl, lcD (by rw [List.length_map]; omega) (fun i => (ts[i]?).bind fun t => if decide (sq < t.1) = true then some (.int t.2) else none) (fun i d Ky Kn ed ky kn => ?_) ?_⟩
  · obtain ⟨t, et, rfl⟩ := mpG ed
    rw [et] at ky kn
    refine ⟨_, rfl, rfl, _, _, rfl, _, _, rfl, rfl, ?_⟩
    refine ⟨_, rfl, _, rfl, _, _, rfl, rfl, decide (sq < t.1), rfl, ?_⟩
    cases h : decide (sq < t.1) with
    | true => exact ⟨_, rfl, ky _ (by simp; exact of_decide_eq_true h)⟩
    | false => exact kn (by simp; have := of_decide_eq_false h; omega)
  rw [List.length_map, fm_tie]
  have hall := tis.all
  have lall := hall.length_eq
  rw [List.length_append, allN_length] at lall
  show fSeq _ _ _ _ _
  generalize eT : (ts.filter fun t => decide (t.1 = sq)).map (·.2) = tie
  generalize eR : (ts.filter fun t => decide (sq < t.1)).map (·.2) = oth
  have eT' : tiesOf ts sq = tie := eT
  have eR' : restOf ts sq = oth := eR
  rw [eT', eR'] at lall
  refine ⟨_, rfl, _, rfl, _, rfl, _, rfl, _, rfl, _, rfl, _, rfl, _, _, rfl, rfl, ?_, _, rfl, ?_⟩
  · have := cutL_len (tie.map PyData.int) none (some 3)
    have := cutL_len (tie.map PyData.int) (some (-1)) none
    rw [List.length_map] at *
    omega
  refine ⟨fun i δ j => ∃ x7 x8 x9 xa : Sl, δ = [.d (eP cs), .d (eC c), .d (.list (ts.map enc)), .d (.int sq), .d (.int num), .d (eI tie), .d (eI oth), x7, x8, x9, xa] ∧ j = n, ⟨_, _, _, _, rfl, rfl⟩, fun i d δ j ed ⟨x7, x8, x9, xa, eδ, ej⟩ => ?_, fun δ j ⟨x7, x8, x9, xa, eδ, ej⟩ => ?_⟩
  · obtain ⟨told, hT, rfl⟩ : ∃ told, told ∈ tie ∧ d = .int told := by
      have := mem_i ed
      rcases List.mem_append.mp this with h | h
      · obtain ⟨x, hx, rfl⟩ := List.mem_map.mp (cutL_sub h)
        exact ⟨x, hx, rfl⟩
      · obtain ⟨x, hx, rfl⟩ := List.mem_map.mp (cutL_sub h)
        exact ⟨x, hx, rfl⟩
    subst eδ ej
    have tin : ∀ x ∈ tie, 0 ≤ x ∧ x < (cs.length : Int) := fun x hx => by
      rw [← eT'] at hx
      exact (tis.tie hx).2.2
    have cat : ∀ x ∈ tie, atI (cs.map eC) x = some (eC (cs.getD x.toNat [])) := fun x hx => at0 (tin x hx).1 (by
      have h : x.toNat < cs.length := by have := tin x hx; omega
      rw [List.getElem?_map, List.getElem?_eq_getElem h, List.getD_eq_getElem?_getD, List.getElem?_eq_getElem h]
      rfl)
    refine ⟨_, rfl, _, rfl, lcD (by rw [List.length_map]; omega) (fun i => (tie[i]?).bind fun x => if x ≠ told then some (ePs (tieP cs x)) else none) (fun i d Ky Kn ed ky kn => ?_) ?_⟩
    · obtain ⟨x, ex, rfl⟩ := mpG ed
      rw [ex] at ky kn
      have hx := mem_i ex
      refine ⟨_, rfl, _, rfl, _, _, rfl, rfl, !decide (x = told), rfl, ?_⟩
      by_cases h : x = told
      · rw [show (!decide (x = told)) = false by simp [h]]
        exact kn (by simp [h])
      · rw [show (!decide (x = told)) = true by simp [h]]
        exact ⟨_, rfl, _, rfl, _, _, _, rfl, rfl, cat x hx, _, rfl, _, rfl, _, _, _, rfl, rfl, cat x hx, _, rfl, by simp, _, rfl, _, rfl, by simp, _, rfl, by simp, ky _ (by simp [h]; rfl)⟩
    · have ef : (List.range (tie.map PyData.int).length).filterMap (fun i => (tie[i]?).bind fun x => if x ≠ told then some (ePs (tieP cs x)) else none) = ((tie.filter (· ≠ told)).map (tieP cs)).map ePs := by
        rw [List.length_map, fm_bind]
        clear hT tin cat lall eT' eR' eT ed
        induction tie with
        | nil => rfl
        | cons x t ih =>
          rw [List.filterMap_cons, List.filter_cons]
          by_cases h : x = told
          · simp [h]; simpa using ih
          · simp [h]; simpa using ih
      rw [ef]
      refine ⟨_, rfl, _, rfl, _, rfl, _, rfl, _, rfl, _, rfl, by simp, _, _, rfl, rfl, by rw [List.length_map]; simp; omega, _, rfl, oth ++ [told], by unfold eI; rw [List.map_append]; rfl, fun ks pk sk => ?_⟩
      rw [← eR'] at pk
      rw [← eT'] at hT
      obtain ⟨k1, k2, k3⟩ := tis.ok ok hT pk sk
      rw [eT'] at k1 k2 k3
      refine ⟨_, rfl, _, rfl, by simp, _, rfl, _, rfl, _, _, rfl, rfl, ?_⟩
      obtain ⟨c0', e0'⟩ : ∃ c0', cs[0]? = some c0' := ⟨_, List.getElem?_eq_getElem c0⟩
      refine ⟨cs, c, c0', told, (ks, (tie.filter (· ≠ told)).map (tieP cs)), decide (told = num), rfl, e0', l5, l40, cr, po, k1, k2, ?_⟩
      rw [k3, decide_eq_true rfl]
      exact ⟨_, rfl, _, _, _, _, rfl, rfl⟩
  · subst eδ ej
    exact q
/-! ### a law that goes through its numbers -/
def spLaw (K : PySem.W.Frag) : Sp := fun vs H Q _ => ∃ (a : Addr) (ns : List Int), vs = [.ref a] ∧ SqL K H a (ns.map V.int) ∧ ns.length ≤ 63 ∧ ∀ H', Q (.bl true) H'
theorem law_all {K : PySem.W.Frag} {a : Addr} {ns : List Int} {c m : Nat} {tb : TS} {f : DS} {H : Hp} {σ : L2.St} {D : Ends} {E : XK} (hs : SS tb f) (hS : SqL K H a (ns.map V.int)) (hσ : σ.length = m + 3) (h0 : σ[0]? = some (some (.ref a)))
    (hd : ∀ k : Nat, k < c → f { nx := fun δ' _ => δ'[0]? = some (.v (.ref a)) ∧ δ'.length = m + 3, rt := fun _ _ => False, rn := fun _ _ => False, ct := fun δ' _ => δ'[0]? = some (.v (.ref a)) ∧ δ'.length = m + 3 } (.v (.ref a) :: .d (.int (k : Nat)) :: .l :: List.replicate m .no) 0) (hq : ∀ σ' H', D.nx σ' H') :
    ∃ W : Nat → Nat → L2.St → Hp → Prop, (∃ m, W 0 m σ H) ∧ ∀ i m σ H, W i m σ H → ((Itr 0 c).stop i H ∧ D.nx σ H) ∨ ((Itr 0 c).go i H ∧ ∃ N : L2.St → Hp → Prop, (∀ σ' H', N σ' H' → ∃ m', m' < m ∧ W (i + 1) m' σ' H') ∧
      ∀ x H', (Itr 0 c).yld i H x H' → gName 1 x σ H' fun σ2 H2 => tSeq (tAsg (tCall (spLeft K) [] E (tCons (tVar 0) (tCons (tVar 1) tNil))) (gName 2)) tb { D with nx := N, ct := N, bk := D.nx } σ2 H2) := by
  refine for_range (lo := 0) (fun i σ H' => σ.length = m + 3 ∧ σ[0]? = some (some (.ref a)) ∧ Same H H') ⟨hσ, h0, Same.refl H⟩ (fun i σ H1 hi h1 => ?_) (fun σ H1 h1 => hq σ H1)
  obtain ⟨l1, z1, s1⟩ := h1
  have g0 : (σ.set 1 (some (V.int (0 + (i : Nat)))))[0]? = some (some (.ref a)) := by rw [List.getElem?_set_ne (by decide)]; exact z1
  have g1 : (σ.set 1 (some (V.int (0 + (i : Nat)))))[1]? = some (some (V.int ((i : Nat) : Int))) := by
    rw [List.getElem?_set_self (by omega), Int.zero_add]
  refine ⟨_, g0, _, g1, a, ns, _, rfl, s1.seq hS, by omega, fun L x y hL x0 => ?_⟩
  have lf1 : Lf L (upd H1 L (.lst [.int x, .int y, .int 0])) 0 := ⟨x, y, 0, upd_same, x0, by omega, by omega⟩
  have s2 := sm_mut (o := .lst [.int x, .int y, .int 0]) s1 (s1.free hL)
  have hLH : H L = none := s1.free hL
  have el : ((σ.set 1 (some (V.int (0 + (i : Nat))))).set 2 (some (.ref L))).length = (Sl.v (.ref a) :: .d (.int (i : Nat)) :: .l :: List.replicate m .no).length := by
    simp [l1]
  refine law_turn hs lf1 hLH s2 el (fun j s ej => ?_) (by
    have e : (Sl.v (.ref a) :: .d (.int (i : Nat)) :: .l :: List.replicate m .no).length = m + 3 := by simp
    rw [e]
    exact hd i hi) fun σ' H' z' l' s' => ?_
  · match j with
    | 0 =>
      cases ej
      exact .inr (.inr (.inr ⟨_, rfl, by rw [List.getElem?_set_ne (by decide)]; exact g0⟩))
    | 1 =>
      cases ej
      exact .inr (.inl ⟨_, rfl, by rw [List.getElem?_set_ne (by decide)]; exact g1⟩)
    | 2 =>
      cases ej
      exact .inr (.inr (.inl ⟨rfl, by rw [List.getElem?_set_self (by rw [List.length_set]; omega)]⟩))
    | j + 3 =>
      have := List.mem_of_getElem? (show (List.replicate m Sl.no)[j]? = some s from ej)
      exact .inl (List.mem_replicate.mp this).2
  · have : σ'.length = m + 3 := by rw [l', List.length_set, List.length_set, l1]
    exact ⟨⟨this, z', s'⟩, ⟨this, z', s'⟩⟩
/-! ### the nearest, and what is due -/
theorem near_rk {cs : List (List Int)} {c : List Int} {i : Nat} (h : near cs c i) {o : Int} (o0 : 0 ≤ o) (o1 : o < (cs.length : Int)) : SrtO.lexB (rk cs c o) (rk cs c (i : Int)) = false := by
  obtain ⟨hi, hm⟩ := h
  have hj : o.toNat < cs.length := by omega
  have := hm o.toNat hj
  have g1 : cs.getD o.toNat [] = cs[o.toNat] := by rw [List.getD_eq_getElem?_getD, List.getElem?_eq_getElem hj]; rfl
  have g2 : cs.getD i [] = cs[i] := by rw [List.getD_eq_getElem?_getD, List.getElem?_eq_getElem hi]; rfl
  refine SrtO.lexB_no.mpr ?_
  unfold rk
  rw [Int.toNat_natCast, g1, g2]
  simp only
  omega
theorem pap_due {cs : List (List Int)} {c : List Int} {z : Int} {r : Pap} {i : Nat} (hn : near cs c i) (h : PapTo cs c z r) (wl : ∀ x ∈ cs, x.length = c.length) : shwAll cs c z r = decide (z = (i : Int)) := by
  have hi := hn.1
  by_cases q : z = (i : Int)
  · rw [decide_eq_true q]
    subst q
    exact shw_yes h.ok h.mem (fun o o0 o1 => near_rk hn o0 o1) h.be
  · rw [decide_eq_false q]
    refine Bool.eq_false_iff.mpr fun hs => ?_
    have h1 := SrtO.lexB_no.mp (shw_sound h.ok h.io wl hs (o := (i : Int)) (by omega) (by omega))
    have hz := h.ok.lkIn h.mem
    have h2 := SrtO.lexB_no.mp (near_rk hn hz.1 hz.2)
    unfold rk at h1 h2
    simp only at h1 h2
    omega
theorem pap_all {cs : List (List Int)} {c : List Int} {i : Nat} (hn : near cs c i) (c0 : 0 < cs.length) : PapOk cs.length c.length (allN cs.length, []) ∧ PapIn cs (allN cs.length, []) ∧ shwAll cs c (i : Int) (allN cs.length, []) = true := by
  have hi := hn.1
  have ok : PapOk cs.length c.length (allN cs.length, []) := ⟨someB_of (by rw [allN_length]; exact c0) (allN_pw _) (allN_nd _) fun x hx => mem_allN.mp hx, fun _ h => (nomatch h), by simp⟩
  exact ⟨ok, ⟨fun _ h => (nomatch h), fun _ h => (nomatch h)⟩, shw_yes ok (mem_allN.mpr ⟨by omega, by omega⟩) (fun o o0 o1 => near_rk hn o0 o1) fun _ h => (nomatch h)⟩
theorem ok_law (T : Tx K mg) {f : Addr} {fd : FuncData} (F : Fun K "law" "law" s_law f fd) {k : Nat} (hk : k ≤ 10) : FnG P w K mg base (k + 9) f fd ["_law_script"] (spLaw K) := by
  refine fn_g F sc_law (fun vs H Q E h => ?_) (fun cdv A outer s H vs Q E hA hr h => ?_)
  · obtain ⟨a, ns, rfl, _⟩ := h
    rfl
  · obtain ⟨a, ns, rfl, hS, hlen, q⟩ := h
    refine ⟨_, (pss_cons (ps_for PassesOwn.never rfl (pi_range1 (by rfl) T.z_range (pa_cons (pe_op op_add (pe_callB (call_min2 rfl) (by rfl) T.z_min (by decide +kernel) (pa_cons pe_int (pa_cons (pe_callB (len_K K) (by rfl) T.z_len PySem.boot_len (pa_cons (pv 0) pa_nil)) pa_nil))) pe_int) pa_nil)) (pg_name (i := 1) sc_law.nd rfl (.inl rfl)) (pss_cons (ps_set (i := 2) sc_law.nd rfl (.inl rfl) (pe_call (ok_l_left T (k := k + 7)) hr (by rfl) T.g_l_left T.F_l_left.kp T.b_l_left .nil pass0 (pa_cons (pv 0) (pa_cons (pv 1) pa_nil))))
      (pss_cons (ps_set (i := 3) sc_law.nd rfl (.inl rfl) (pe_call (okd_l_kind T (k := k + 5)) hr (by rfl) T.g_l_kind T.F_l_kind.kp T.b_l_kind .nil pass0 (pa_cons (pv 2) pa_nil)))
      (pss_cons (ps_set (i := 4) sc_law.nd rfl (.inl rfl) (pe_call (okn_l_palette T (k := k + 4)) hr (by rfl) T.g_l_palette T.F_l_palette.kp T.b_l_palette .nil pass0 (pa_cons (pv 2) (pa_cons (pv 3) pa_nil))))
      (pss_one (ps_for PassesOwn.never rfl (pi_range1 (by rfl) T.z_range (pa_cons pe_int pa_nil)) (pg_name (i := 5) sc_law.nd rfl (.inl rfl)) (pss_cons (ps_set (i := 6) sc_law.nd rfl (.inl rfl) (pe_call (okd_l_asked T (k := k + 4)) hr (by rfl) T.g_l_asked T.F_l_asked.kp T.b_l_asked .nil pass0 (pa_cons (pv 2) (pa_cons (pv 3) (pa_cons (pv 4) pa_nil)))))
      (pss_cons (ps_set (i := 7) sc_law.nd rfl (.inl rfl) (pe_call (okd_l_nearest T (k := k + 6)) hr (by rfl) T.g_l_nearest T.F_l_nearest.kp T.b_l_nearest .nil pass0 (pa_cons (pv 4) (pa_cons (pv 6) pa_nil))))
      (pss_cons (ps_set (i := 8) sc_law.nd rfl (.inl rfl) (pe_call (okd_l_paper_made T (k := k + 4)) hr (by rfl) T.g_l_paper_made T.F_l_paper_made.kp T.b_l_paper_made .nil pass0 (pa_cons (pv 2) (pa_cons (pv 4) (pa_cons (pv 6) (pa_cons (pv 7) pa_nil))))))
      (pss_cons (ps_set (i := 9) sc_law.nd rfl (.inl rfl) (pe_call (okd_l_pick T (k := k + 6)) hr (by rfl) T.g_l_pick T.F_l_pick.kp T.b_l_pick .nil pass0 (pa_cons (pv 2) (pa_cons (pe_callB (len_K K) (by rfl) T.z_len PySem.boot_len (pa_cons (pv 4) pa_nil)) pa_nil))))
      (pss_cons (ps_set (i := 10) sc_law.nd rfl (.inl rfl) (pe_call (okd_l_paper_made T (k := k + 4)) hr (by rfl) T.g_l_paper_made T.F_l_paper_made.kp T.b_l_paper_made .nil pass0 (pa_cons (pv 2) (pa_cons (pv 4) (pa_cons (pv 6) (pa_cons (pv 9) pa_nil))))))
      (pss_cons (ps_if (pt_not (pt_val (pe_callS (oks_l_as_due T (k := k + 1)) hA hr (by rfl) T.g_l_as_due T.F_l_as_due.kp T.b_l_as_due .nil (pa_cons (pv 4) (pa_cons (pv 6) (pa_cons (pv 7) (pa_cons (pv 8) (pa_cons pe_bl pa_nil)))))))) (pss_one (ps_ret pe_bl)) pss_nil)
      (pss_cons (ps_if (pt_not (pt_val (pe_callS (oks_l_as_due T (k := k + 1)) hA hr (by rfl) T.g_l_as_due T.F_l_as_due.kp T.b_l_as_due .nil (pa_cons (pv 4) (pa_cons (pv 6) (pa_cons (pv 9) (pa_cons (pv 10) (pa_cons (pe_cmpR op_eq (pv 9) (pv 7) (nomark _)) pa_nil)))))))) (pss_one (ps_ret pe_bl)) pss_nil)
      (pss_cons (ps_if (pt_not (pt_val (pe_callS (oks_l_as_due T (k := k + 1)) hA hr (by rfl) T.g_l_as_due T.F_l_as_due.kp T.b_l_as_due .nil (pa_cons (pv 4) (pa_cons (pv 6) (pa_cons (pv 7) (pa_cons (pe_tup (pa_cons (pe_call (okn_l_all_of T (k := k + 7)) hr (by rfl) T.g_l_all_of T.F_l_all_of.kp T.b_l_all_of .nil pass0 (pa_cons (pv 4) pa_nil)) (pa_cons (pe_lst pa_nil) pa_nil))) (pa_cons pe_bl pa_nil)))))))) (pss_one (ps_ret pe_bl)) pss_nil)
      (pss_one (ps_if (pt_not (pt_val (pe_callS (oks_l_ties_right T (k := k)) hA hr (by rfl) T.g_l_ties_right T.F_l_ties_right.kp T.b_l_ties_right .nil (pa_cons (pv 4) (pa_cons (pv 6) pa_nil))))) (pss_one (ps_ret pe_bl)) pss_nil))))))))))))))))
      (pss_one (ps_ret pe_bl))), ?_⟩
    have len8 : (if (ns.map V.int).length < 8 then ((ns.map V.int).length : Int) else 8) ≤ 8 := by split <;> omega
    refine ⟨_, rfl, a, _, rfl, .inl hS, _, _, rfl, _, _, rfl, rfl, ?_⟩
    obtain ⟨c, hc⟩ : ∃ c : Nat, (if ((ns.map V.int).length : Int) < 8 then ((ns.map V.int).length : Int) else 8) + 1 = (c : Int) ∧ c ≤ 9 := by
      refine ⟨((if ((ns.map V.int).length : Int) < 8 then ((ns.map V.int).length : Int) else 8) + 1).toNat, ?_, ?_⟩ <;> split <;> omega
    refine ⟨_, rfl, by rw [hc.1]; omega, by rw [hc.1]; omega, ?_⟩
    rw [hc.1]
    refine law_all (m := 8) ((ss_seq (ss_asg (se_call (sa_consL sa_nil)) sg_name)
      (ss_seq (ss_asg (SN.se (sn_call (sa_consL (sa_cons (sv 3) sa_nil)))) sg_name)
      (ss_for (si_r1 (sa_cons se_int sa_nil)) sg_name (ss_seq (ss_asg (se_call (sa_consL (sa_cons (sv 3) (sa_cons (sv 4) sa_nil)))) sg_name)
      (ss_seq (ss_asg (se_call (sa_cons (sv 4) (sa_cons (sv 6) sa_nil))) sg_name)
      (ss_seq (ss_asg (se_call (sa_consL (sa_cons (sv 4) (sa_cons (sv 6) (sa_cons (sv 7) sa_nil))))) sg_name)
      (ss_seq (ss_asg (se_call (sa_consL (sa_cons (se_cb sc_len (sa_cons (sv 4) sa_nil)) sa_nil))) sg_name)
      (ss_seq (ss_asg (se_call (sa_consL (sa_cons (sv 4) (sa_cons (sv 6) (sa_cons (sv 9) sa_nil))))) sg_name)
      (ss_seq (ss_if (st_not (st_B (se_call (sa_cons (sv 4) (sa_cons (sv 6) (sa_cons (sv 7) (sa_cons (sv 8) (sa_cons se_bl sa_nil)))))))) (ss_ret se_bl) ss_next)
      (ss_seq (ss_if (st_not (st_B (se_call (sa_cons (sv 4) (sa_cons (sv 6) (sa_cons (sv 9) (sa_cons (sv 10) (sa_cons (se_op sr_eqI (sv 9) (sv 7)) sa_nil)))))))) (ss_ret se_bl) ss_next)
      (ss_seq (ss_if (st_not (st_B (se_call (sa_cons (sv 4) (sa_cons (sv 6) (sa_cons (sv 7) (sa_cons (se_tup (sa_cons (SN.se (sn_call (sa_cons (sv 4) sa_nil))) (sa_cons (SN.se (sn_lst sa_nil)) sa_nil))) (sa_cons se_bl sa_nil)))))))) (ss_ret se_bl) ss_next)
      (ss_if (st_not (st_B (se_call (sa_cons (sv 4) (sa_cons (sv 6) sa_nil))))) (ss_ret se_bl) ss_next))))))))))))) hS rfl rfl (fun k hk => ?_) fun σ' H' => q H'
    refine ⟨rfl, rfl, by decide, fun wd sp w0 w1 s0 s1 => ?_⟩
    refine ⟨rfl, _, rfl, wd, sp, rfl, by decide, by omega, w1, by omega, s1, fun cs m hm c0 c1 ok => ?_⟩
    refine ⟨4, rfl, by decide, by decide, fun i δ j => ∃ x5 x6 x7 x8 x9 xa : Sl, δ = [.v (.ref a), .d (.int (k : Nat)), .l, .d (eC [wd, sp]), .d (eP cs), x5, x6, x7, x8, x9, xa] ∧ j ≤ 1002 + 4000 * i ∧ i ≤ 4, ⟨_, _, _, _, _, _, rfl, by omega, by omega⟩, fun i d δ j ed ⟨x5, x6, x7, x8, x9, xa, eδ, ej, i4⟩ => ?_, fun δ j ⟨x5, x6, x7, x8, x9, xa, eδ, ej, i4⟩ => ?_⟩
    · have hi : i < 4 := by have := (List.getElem?_eq_some_iff.mp ed).1; rwa [rgD_len] at this
      subst eδ
      refine ⟨rfl, _, rfl, _, rfl, wd, sp, cs, rfl, by omega, by omega, w1, by omega, s1, c0, by omega, ok, fun c m2 hm2 lc cc => ?_⟩
      have okl : ∀ x ∈ cs, x.length = c.length ∧ cIn 0 999 x := fun x hx => ⟨by have := (ok x hx).1; omega, (ok x hx).2⟩
      have po : pOk cs c := ⟨by omega, by omega, cc.mono (by decide) (by decide), fun x hx => ⟨(okl x hx).1, (okl x hx).2.mono (by decide) (by decide)⟩⟩
      refine ⟨_, rfl, _, rfl, cs, c, rfl, po, c0, fun num hn => ?_⟩
      have hnum := hn.1
      refine ⟨rfl, _, rfl, _, rfl, _, rfl, cs, c, (num : Int), rfl, by omega, by omega, cc, c1, okl, by omega, by omega, fun r m3 hm3 pt => ?_⟩
      refine ⟨rfl, _, rfl, _, rfl, _, .inl rfl, _, rfl, by omega, by rw [List.length_map]; omega, by rw [List.length_map]; omega, fun oth o0 o1 => ?_⟩
      rw [List.length_map] at o1
      refine ⟨rfl, _, rfl, _, rfl, _, rfl, cs, c, oth, rfl, by omega, by omega, cc, c1, okl, o0, o1, fun r2 m4 hm4 pt2 => ?_⟩
      obtain ⟨c0', e0'⟩ : ∃ c0', cs[0]? = some c0' := ⟨_, List.getElem?_eq_getElem c0⟩
      have wl : ∀ x ∈ cs, x.length = c.length := fun x hx => (okl x hx).1
      have q1 := pap_due hn pt wl
      have q2 := pap_due hn pt2 wl
      obtain ⟨a1, a2, a3⟩ := pap_all (c := c) hn c0
      refine ⟨_, rfl, _, rfl, _, rfl, _, rfl, cs, c, c0', (num : Int), r, true, rfl, e0', by omega, c1, cc, po, pt.ok, pt.io, ?_⟩
      rw [q1, show decide (decide ((num : Int) = (num : Int)) = true) = true by simp]
      refine ⟨_, rfl, ?_⟩
      refine ⟨_, rfl, _, rfl, _, rfl, _, rfl, _, rfl, _, rfl, _, _, rfl, rfl, cs, c, c0', oth, r2, decide (oth = (num : Int)), rfl, e0', by omega, c1, cc, po, pt2.ok, pt2.io, ?_⟩
      rw [q2, show decide (decide (oth = (num : Int)) = decide (oth = (num : Int))) = true by simp]
      refine ⟨_, rfl, ?_⟩
      refine ⟨_, rfl, _, rfl, _, rfl, _, rfl, cs, rfl, by omega, _, rfl, by simp, _, rfl, by simp, cs, c, c0', (num : Int), (allN cs.length, []), true, rfl, e0', by omega, c1, cc, po, a1, a2, ?_⟩
      rw [a3, show decide (true = true) = true by simp]
      refine ⟨_, rfl, ?_⟩
      refine ⟨_, rfl, _, rfl, cs, c, rfl, c0, by omega, c1, cc, okl, ?_⟩
      exact ⟨_, rfl, _, _, _, _, _, _, rfl, by omega, by omega⟩
    · subst eδ
      exact ⟨rfl, rfl⟩

end
theorem all_mk {l : PySem.W.OpenLaw} {w : World} {K : PySem.W.Frag} {h : Heap} {mg : Str → Option Value} {fa : Addr} (X : K.In h) (G : h.Ns mainGlobals mg) (hfa : mg "law" = some (.ref fa))
    {f0 : Addr} {od0 an0 : Option Addr} {sl0 : Array (Option Value)} {oc0 kV0 dc0 pm0 cd0 ct0 : Value}
    (a0 : PySem.W.nsIn K mainGlobals "is_number" = some (some (.ref f0))) (l0 : K.lookup f0 = some ⟨oc0, od0, .func (PySem.W.fnOf "is_number" "is_number" (defArgs s_is_number) (defBody s_is_number) (defScope s_is_number) .none kV0 dc0 pm0 an0 cd0 ct0), sl0⟩) (c0 : PySem.W.codeIn K cd0 "is_number" = true) (k0 : PySem.W.keepIn K (.ref f0) = true)
    {f1 : Addr} {od1 an1 : Option Addr} {sl1 : Array (Option Value)} {oc1 kV1 dc1 pm1 cd1 ct1 : Value}
    (a1 : PySem.W.nsIn K mainGlobals "are_rising" = some (some (.ref f1))) (l1 : K.lookup f1 = some ⟨oc1, od1, .func (PySem.W.fnOf "are_rising" "are_rising" (defArgs s_are_rising) (defBody s_are_rising) (defScope s_are_rising) .none kV1 dc1 pm1 an1 cd1 ct1), sl1⟩) (c1 : PySem.W.codeIn K cd1 "are_rising" = true) (k1 : PySem.W.keepIn K (.ref f1) = true)
    {f2 : Addr} {od2 an2 : Option Addr} {sl2 : Array (Option Value)} {oc2 kV2 dc2 pm2 cd2 ct2 : Value}
    (a2 : PySem.W.nsIn K mainGlobals "is_colour" = some (some (.ref f2))) (l2 : K.lookup f2 = some ⟨oc2, od2, .func (PySem.W.fnOf "is_colour" "is_colour" (defArgs s_is_colour) (defBody s_is_colour) (defScope s_is_colour) .none kV2 dc2 pm2 an2 cd2 ct2), sl2⟩) (c2 : PySem.W.codeIn K cd2 "is_colour" = true) (k2 : PySem.W.keepIn K (.ref f2) = true)
    {f3 : Addr} {od3 an3 : Option Addr} {sl3 : Array (Option Value)} {oc3 kV3 dc3 pm3 cd3 ct3 : Value}
    (a3 : PySem.W.nsIn K mainGlobals "apart" = some (some (.ref f3))) (l3 : K.lookup f3 = some ⟨oc3, od3, .func (PySem.W.fnOf "apart" "apart" (defArgs s_apart) (defBody s_apart) (defScope s_apart) .none kV3 dc3 pm3 an3 cd3 ct3), sl3⟩) (c3 : PySem.W.codeIn K cd3 "apart" = true) (k3 : PySem.W.keepIn K (.ref f3) = true)
    {f4 : Addr} {od4 an4 : Option Addr} {sl4 : Array (Option Value)} {oc4 kV4 dc4 pm4 cd4 ct4 : Value}
    (a4 : PySem.W.nsIn K mainGlobals "is_box" = some (some (.ref f4))) (l4 : K.lookup f4 = some ⟨oc4, od4, .func (PySem.W.fnOf "is_box" "is_box" (defArgs s_is_box) (defBody s_is_box) (defScope s_is_box) .none kV4 dc4 pm4 an4 cd4 ct4), sl4⟩) (c4 : PySem.W.codeIn K cd4 "is_box" = true) (k4 : PySem.W.keepIn K (.ref f4) = true)
    {f5 : Addr} {od5 an5 : Option Addr} {sl5 : Array (Option Value)} {oc5 kV5 dc5 pm5 cd5 ct5 : Value}
    (a5 : PySem.W.nsIn K mainGlobals "holds" = some (some (.ref f5))) (l5 : K.lookup f5 = some ⟨oc5, od5, .func (PySem.W.fnOf "holds" "holds" (defArgs s_holds) (defBody s_holds) (defScope s_holds) .none kV5 dc5 pm5 an5 cd5 ct5), sl5⟩) (c5 : PySem.W.codeIn K cd5 "holds" = true) (k5 : PySem.W.keepIn K (.ref f5) = true)
    {f6 : Addr} {od6 an6 : Option Addr} {sl6 : Array (Option Value)} {oc6 kV6 dc6 pm6 cd6 ct6 : Value}
    (a6 : PySem.W.nsIn K mainGlobals "near_box" = some (some (.ref f6))) (l6 : K.lookup f6 = some ⟨oc6, od6, .func (PySem.W.fnOf "near_box" "near_box" (defArgs s_near_box) (defBody s_near_box) (defScope s_near_box) .none kV6 dc6 pm6 an6 cd6 ct6), sl6⟩) (c6 : PySem.W.codeIn K cd6 "near_box" = true) (k6 : PySem.W.keepIn K (.ref f6) = true)
    {f7 : Addr} {od7 an7 : Option Addr} {sl7 : Array (Option Value)} {oc7 kV7 dc7 pm7 cd7 ct7 : Value}
    (a7 : PySem.W.nsIn K mainGlobals "rank_of" = some (some (.ref f7))) (l7 : K.lookup f7 = some ⟨oc7, od7, .func (PySem.W.fnOf "rank_of" "rank_of" (defArgs s_rank_of) (defBody s_rank_of) (defScope s_rank_of) .none kV7 dc7 pm7 an7 cd7 ct7), sl7⟩) (c7 : PySem.W.codeIn K cd7 "rank_of" = true) (k7 : PySem.W.keepIn K (.ref f7) = true)
    {f8 : Addr} {od8 an8 : Option Addr} {sl8 : Array (Option Value)} {oc8 kV8 dc8 pm8 cd8 ct8 : Value}
    (a8 : PySem.W.nsIn K mainGlobals "are_some" = some (some (.ref f8))) (l8 : K.lookup f8 = some ⟨oc8, od8, .func (PySem.W.fnOf "are_some" "are_some" (defArgs s_are_some) (defBody s_are_some) (defScope s_are_some) .none kV8 dc8 pm8 an8 cd8 ct8), sl8⟩) (c8 : PySem.W.codeIn K cd8 "are_some" = true) (k8 : PySem.W.keepIn K (.ref f8) = true)
    {f9 : Addr} {od9 an9 : Option Addr} {sl9 : Array (Option Value)} {oc9 kV9 dc9 pm9 cd9 ct9 : Value}
    (a9 : PySem.W.nsIn K mainGlobals "is_passed" = some (some (.ref f9))) (l9 : K.lookup f9 = some ⟨oc9, od9, .func (PySem.W.fnOf "is_passed" "is_passed" (defArgs s_is_passed) (defBody s_is_passed) (defScope s_is_passed) .none kV9 dc9 pm9 an9 cd9 ct9), sl9⟩) (c9 : PySem.W.codeIn K cd9 "is_passed" = true) (k9 : PySem.W.keepIn K (.ref f9) = true)
    {f10 : Addr} {od10 an10 : Option Addr} {sl10 : Array (Option Value)} {oc10 kV10 dc10 pm10 cd10 ct10 : Value}
    (a10 : PySem.W.nsIn K mainGlobals "is_paper" = some (some (.ref f10))) (l10 : K.lookup f10 = some ⟨oc10, od10, .func (PySem.W.fnOf "is_paper" "is_paper" (defArgs s_is_paper) (defBody s_is_paper) (defScope s_is_paper) .none kV10 dc10 pm10 an10 cd10 ct10), sl10⟩) (c10 : PySem.W.codeIn K cd10 "is_paper" = true) (k10 : PySem.W.keepIn K (.ref f10) = true)
    {f11 : Addr} {od11 an11 : Option Addr} {sl11 : Array (Option Value)} {oc11 kV11 dc11 pm11 cd11 ct11 : Value}
    (a11 : PySem.W.nsIn K mainGlobals "is_behind" = some (some (.ref f11))) (l11 : K.lookup f11 = some ⟨oc11, od11, .func (PySem.W.fnOf "is_behind" "is_behind" (defArgs s_is_behind) (defBody s_is_behind) (defScope s_is_behind) .none kV11 dc11 pm11 an11 cd11 ct11), sl11⟩) (c11 : PySem.W.codeIn K cd11 "is_behind" = true) (k11 : PySem.W.keepIn K (.ref f11) = true)
    {f12 : Addr} {od12 an12 : Option Addr} {sl12 : Array (Option Value)} {oc12 kV12 dc12 pm12 cd12 ct12 : Value}
    (a12 : PySem.W.nsIn K mainGlobals "shows_nearest" = some (some (.ref f12))) (l12 : K.lookup f12 = some ⟨oc12, od12, .func (PySem.W.fnOf "shows_nearest" "shows_nearest" (defArgs s_shows_nearest) (defBody s_shows_nearest) (defScope s_shows_nearest) .none kV12 dc12 pm12 an12 cd12 ct12), sl12⟩) (c12 : PySem.W.codeIn K cd12 "shows_nearest" = true) (k12 : PySem.W.keepIn K (.ref f12) = true)
    {f13 : Addr} {od13 an13 : Option Addr} {sl13 : Array (Option Value)} {oc13 kV13 dc13 pm13 cd13 ct13 : Value}
    (a13 : PySem.W.nsIn K mainGlobals "_law_mix" = some (some (.ref f13))) (l13 : K.lookup f13 = some ⟨oc13, od13, .func (PySem.W.fnOf "_law_mix" "_law_mix" (defArgs s_l_mix) (defBody s_l_mix) (defScope s_l_mix) .none kV13 dc13 pm13 an13 cd13 ct13), sl13⟩) (c13 : PySem.W.codeIn K cd13 "_law_mix" = true) (k13 : PySem.W.keepIn K (.ref f13) = true)
    {f14 : Addr} {od14 an14 : Option Addr} {sl14 : Array (Option Value)} {oc14 kV14 dc14 pm14 cd14 ct14 : Value}
    (a14 : PySem.W.nsIn K mainGlobals "_law_left" = some (some (.ref f14))) (l14 : K.lookup f14 = some ⟨oc14, od14, .func (PySem.W.fnOf "_law_left" "_law_left" (defArgs s_l_left) (defBody s_l_left) (defScope s_l_left) .none kV14 dc14 pm14 an14 cd14 ct14), sl14⟩) (c14 : PySem.W.codeIn K cd14 "_law_left" = true) (k14 : PySem.W.keepIn K (.ref f14) = true)
    {f15 : Addr} {od15 an15 : Option Addr} {sl15 : Array (Option Value)} {oc15 kV15 dc15 pm15 cd15 ct15 : Value}
    (a15 : PySem.W.nsIn K mainGlobals "_law_pick" = some (some (.ref f15))) (l15 : K.lookup f15 = some ⟨oc15, od15, .func (PySem.W.fnOf "_law_pick" "_law_pick" (defArgs s_l_pick) (defBody s_l_pick) (defScope s_l_pick) .none kV15 dc15 pm15 an15 cd15 ct15), sl15⟩) (c15 : PySem.W.codeIn K cd15 "_law_pick" = true) (k15 : PySem.W.keepIn K (.ref f15) = true)
    {f16 : Addr} {od16 an16 : Option Addr} {sl16 : Array (Option Value)} {oc16 kV16 dc16 pm16 cd16 ct16 : Value}
    (a16 : PySem.W.nsIn K mainGlobals "_law_kind" = some (some (.ref f16))) (l16 : K.lookup f16 = some ⟨oc16, od16, .func (PySem.W.fnOf "_law_kind" "_law_kind" (defArgs s_l_kind) (defBody s_l_kind) (defScope s_l_kind) .none kV16 dc16 pm16 an16 cd16 ct16), sl16⟩) (c16 : PySem.W.codeIn K cd16 "_law_kind" = true) (k16 : PySem.W.keepIn K (.ref f16) = true)
    {f17 : Addr} {od17 an17 : Option Addr} {sl17 : Array (Option Value)} {oc17 kV17 dc17 pm17 cd17 ct17 : Value}
    (a17 : PySem.W.nsIn K mainGlobals "_law_colour" = some (some (.ref f17))) (l17 : K.lookup f17 = some ⟨oc17, od17, .func (PySem.W.fnOf "_law_colour" "_law_colour" (defArgs s_l_colour) (defBody s_l_colour) (defScope s_l_colour) .none kV17 dc17 pm17 an17 cd17 ct17), sl17⟩) (c17 : PySem.W.codeIn K cd17 "_law_colour" = true) (k17 : PySem.W.keepIn K (.ref f17) = true)
    {f18 : Addr} {od18 an18 : Option Addr} {sl18 : Array (Option Value)} {oc18 kV18 dc18 pm18 cd18 ct18 : Value}
    (a18 : PySem.W.nsIn K mainGlobals "_law_palette" = some (some (.ref f18))) (l18 : K.lookup f18 = some ⟨oc18, od18, .func (PySem.W.fnOf "_law_palette" "_law_palette" (defArgs s_l_palette) (defBody s_l_palette) (defScope s_l_palette) .none kV18 dc18 pm18 an18 cd18 ct18), sl18⟩) (c18 : PySem.W.codeIn K cd18 "_law_palette" = true) (k18 : PySem.W.keepIn K (.ref f18) = true)
    {f19 : Addr} {od19 an19 : Option Addr} {sl19 : Array (Option Value)} {oc19 kV19 dc19 pm19 cd19 ct19 : Value}
    (a19 : PySem.W.nsIn K mainGlobals "_law_asked" = some (some (.ref f19))) (l19 : K.lookup f19 = some ⟨oc19, od19, .func (PySem.W.fnOf "_law_asked" "_law_asked" (defArgs s_l_asked) (defBody s_l_asked) (defScope s_l_asked) .none kV19 dc19 pm19 an19 cd19 ct19), sl19⟩) (c19 : PySem.W.codeIn K cd19 "_law_asked" = true) (k19 : PySem.W.keepIn K (.ref f19) = true)
    {f20 : Addr} {od20 an20 : Option Addr} {sl20 : Array (Option Value)} {oc20 kV20 dc20 pm20 cd20 ct20 : Value}
    (a20 : PySem.W.nsIn K mainGlobals "_law_apart" = some (some (.ref f20))) (l20 : K.lookup f20 = some ⟨oc20, od20, .func (PySem.W.fnOf "_law_apart" "_law_apart" (defArgs s_l_apart) (defBody s_l_apart) (defScope s_l_apart) .none kV20 dc20 pm20 an20 cd20 ct20), sl20⟩) (c20 : PySem.W.codeIn K cd20 "_law_apart" = true) (k20 : PySem.W.keepIn K (.ref f20) = true)
    {f21 : Addr} {od21 an21 : Option Addr} {sl21 : Array (Option Value)} {oc21 kV21 dc21 pm21 cd21 ct21 : Value}
    (a21 : PySem.W.nsIn K mainGlobals "_law_nearest" = some (some (.ref f21))) (l21 : K.lookup f21 = some ⟨oc21, od21, .func (PySem.W.fnOf "_law_nearest" "_law_nearest" (defArgs s_l_nearest) (defBody s_l_nearest) (defScope s_l_nearest) .none kV21 dc21 pm21 an21 cd21 ct21), sl21⟩) (c21 : PySem.W.codeIn K cd21 "_law_nearest" = true) (k21 : PySem.W.keepIn K (.ref f21) = true)
    {f22 : Addr} {od22 an22 : Option Addr} {sl22 : Array (Option Value)} {oc22 kV22 dc22 pm22 cd22 ct22 : Value}
    (a22 : PySem.W.nsIn K mainGlobals "_law_shuffled" = some (some (.ref f22))) (l22 : K.lookup f22 = some ⟨oc22, od22, .func (PySem.W.fnOf "_law_shuffled" "_law_shuffled" (defArgs s_l_shuffled) (defBody s_l_shuffled) (defScope s_l_shuffled) .none kV22 dc22 pm22 an22 cd22 ct22), sl22⟩) (c22 : PySem.W.codeIn K cd22 "_law_shuffled" = true) (k22 : PySem.W.keepIn K (.ref f22) = true)
    {f23 : Addr} {od23 an23 : Option Addr} {sl23 : Array (Option Value)} {oc23 kV23 dc23 pm23 cd23 ct23 : Value}
    (a23 : PySem.W.nsIn K mainGlobals "_law_box" = some (some (.ref f23))) (l23 : K.lookup f23 = some ⟨oc23, od23, .func (PySem.W.fnOf "_law_box" "_law_box" (defArgs s_l_box) (defBody s_l_box) (defScope s_l_box) .none kV23 dc23 pm23 an23 cd23 ct23), sl23⟩) (c23 : PySem.W.codeIn K cd23 "_law_box" = true) (k23 : PySem.W.keepIn K (.ref f23) = true)
    {f24 : Addr} {od24 an24 : Option Addr} {sl24 : Array (Option Value)} {oc24 kV24 dc24 pm24 cd24 ct24 : Value}
    (a24 : PySem.W.nsIn K mainGlobals "_law_near" = some (some (.ref f24))) (l24 : K.lookup f24 = some ⟨oc24, od24, .func (PySem.W.fnOf "_law_near" "_law_near" (defArgs s_l_near) (defBody s_l_near) (defScope s_l_near) .none kV24 dc24 pm24 an24 cd24 ct24), sl24⟩) (c24 : PySem.W.codeIn K cd24 "_law_near" = true) (k24 : PySem.W.keepIn K (.ref f24) = true)
    {f25 : Addr} {od25 an25 : Option Addr} {sl25 : Array (Option Value)} {oc25 kV25 dc25 pm25 cd25 ct25 : Value}
    (a25 : PySem.W.nsIn K mainGlobals "_law_all_of" = some (some (.ref f25))) (l25 : K.lookup f25 = some ⟨oc25, od25, .func (PySem.W.fnOf "_law_all_of" "_law_all_of" (defArgs s_l_all_of) (defBody s_l_all_of) (defScope s_l_all_of) .none kV25 dc25 pm25 an25 cd25 ct25), sl25⟩) (c25 : PySem.W.codeIn K cd25 "_law_all_of" = true) (k25 : PySem.W.keepIn K (.ref f25) = true)
    {f26 : Addr} {od26 an26 : Option Addr} {sl26 : Array (Option Value)} {oc26 kV26 dc26 pm26 cd26 ct26 : Value}
    (a26 : PySem.W.nsIn K mainGlobals "_law_turns" = some (some (.ref f26))) (l26 : K.lookup f26 = some ⟨oc26, od26, .func (PySem.W.fnOf "_law_turns" "_law_turns" (defArgs s_l_turns) (defBody s_l_turns) (defScope s_l_turns) .none kV26 dc26 pm26 an26 cd26 ct26), sl26⟩) (c26 : PySem.W.codeIn K cd26 "_law_turns" = true) (k26 : PySem.W.keepIn K (.ref f26) = true)
    {f27 : Addr} {od27 an27 : Option Addr} {sl27 : Array (Option Value)} {oc27 kV27 dc27 pm27 cd27 ct27 : Value}
    (a27 : PySem.W.nsIn K mainGlobals "_law_paper_made" = some (some (.ref f27))) (l27 : K.lookup f27 = some ⟨oc27, od27, .func (PySem.W.fnOf "_law_paper_made" "_law_paper_made" (defArgs s_l_paper_made) (defBody s_l_paper_made) (defScope s_l_paper_made) .none kV27 dc27 pm27 an27 cd27 ct27), sl27⟩) (c27 : PySem.W.codeIn K cd27 "_law_paper_made" = true) (k27 : PySem.W.keepIn K (.ref f27) = true)
    {f28 : Addr} {od28 an28 : Option Addr} {sl28 : Array (Option Value)} {oc28 kV28 dc28 pm28 cd28 ct28 : Value}
    (a28 : PySem.W.nsIn K mainGlobals "_law_as_due" = some (some (.ref f28))) (l28 : K.lookup f28 = some ⟨oc28, od28, .func (PySem.W.fnOf "_law_as_due" "_law_as_due" (defArgs s_l_as_due) (defBody s_l_as_due) (defScope s_l_as_due) .none kV28 dc28 pm28 an28 cd28 ct28), sl28⟩) (c28 : PySem.W.codeIn K cd28 "_law_as_due" = true) (k28 : PySem.W.keepIn K (.ref f28) = true)
    {f29 : Addr} {od29 an29 : Option Addr} {sl29 : Array (Option Value)} {oc29 kV29 dc29 pm29 cd29 ct29 : Value}
    (a29 : PySem.W.nsIn K mainGlobals "_law_ties_right" = some (some (.ref f29))) (l29 : K.lookup f29 = some ⟨oc29, od29, .func (PySem.W.fnOf "_law_ties_right" "_law_ties_right" (defArgs s_l_ties_right) (defBody s_l_ties_right) (defScope s_l_ties_right) .none kV29 dc29 pm29 an29 cd29 ct29), sl29⟩) (c29 : PySem.W.codeIn K cd29 "_law_ties_right" = true) (k29 : PySem.W.keepIn K (.ref f29) = true)
    {f30 : Addr} {od30 an30 : Option Addr} {sl30 : Array (Option Value)} {oc30 kV30 dc30 pm30 cd30 ct30 : Value}
    (a30 : PySem.W.nsIn K mainGlobals "law" = some (some (.ref f30))) (l30 : K.lookup f30 = some ⟨oc30, od30, .func (PySem.W.fnOf "law" "law" (defArgs s_law) (defBody s_law) (defScope s_law) .none kV30 dc30 pm30 an30 cd30 ct30), sl30⟩) (c30 : PySem.W.codeIn K cd30 "law" = true) (k30 : PySem.W.keepIn K (.ref f30) = true)
    (z_abs : PySem.W.nsIn K mainGlobals "abs" = some none)
    (z_all : PySem.W.nsIn K mainGlobals "all" = some none)
    (z_bool : PySem.W.nsIn K mainGlobals "bool" = some none)
    (z_enumerate : PySem.W.nsIn K mainGlobals "enumerate" = some none)
    (z_int : PySem.W.nsIn K mainGlobals "int" = some none)
    (z_isinstance : PySem.W.nsIn K mainGlobals "isinstance" = some none)
    (z_len : PySem.W.nsIn K mainGlobals "len" = some none)
    (z_list : PySem.W.nsIn K mainGlobals "list" = some none)
    (z_max : PySem.W.nsIn K mainGlobals "max" = some none)
    (z_min : PySem.W.nsIn K mainGlobals "min" = some none)
    (z_range : PySem.W.nsIn K mainGlobals "range" = some none)
    (z_sorted : PySem.W.nsIn K mainGlobals "sorted" = some none)
    (z_str : PySem.W.nsIn K mainGlobals "str" = some none)
    (z_sum : PySem.W.nsIn K mainGlobals "sum" = some none)
    (z_tuple : PySem.W.nsIn K mainGlobals "tuple" = some none)
    (z_zip : PySem.W.nsIn K mainGlobals "zip" = some none)
    : ∃ fd : FuncData, (∀ (s : Shared) (v : Value), BindsTo s fd ⟨[v], []⟩ [("_law_script", v)]) ∧ ∀ base : Heap, K.In base → base.Ns mainGlobals mg → FnG l.prog w K mg base 9 fa fd ["_law_script"] (spLaw K) := by
  have e := hfa.symm.trans (PySem.W.mg_of X G a30)
  cases e
  exact ⟨_, fun s v => .of_eq rfl, fun base _ _ => ok_law (k := 0) {
      f_is_number := f0, d_is_number := _, F_is_number := fun_mk (st := s_is_number) l0 c0 k0, b_is_number := (fun_mk (st := s_is_number) l0 c0 k0).binds (ps := ["thing"]) fun _ _ _ _ _ _ us hl => match us, hl with | [_], _ => rfl, g_is_number := PySem.W.mg_of X G a0,
      f_are_rising := f1, d_are_rising := _, F_are_rising := fun_mk (st := s_are_rising) l1 c1 k1, b_are_rising := (fun_mk (st := s_are_rising) l1 c1 k1).binds (ps := ["things"]) fun _ _ _ _ _ _ us hl => match us, hl with | [_], _ => rfl, g_are_rising := PySem.W.mg_of X G a1,
      f_is_colour := f2, d_is_colour := _, F_is_colour := fun_mk (st := s_is_colour) l2 c2 k2, b_is_colour := (fun_mk (st := s_is_colour) l2 c2 k2).binds (ps := ["thing", "wide"]) fun _ _ _ _ _ _ us hl => match us, hl with | [_, _], _ => rfl, g_is_colour := PySem.W.mg_of X G a2,
      f_apart := f3, d_apart := _, F_apart := fun_mk (st := s_apart) l3 c3 k3, b_apart := (fun_mk (st := s_apart) l3 c3 k3).binds (ps := ["one", "other"]) fun _ _ _ _ _ _ us hl => match us, hl with | [_, _], _ => rfl, g_apart := PySem.W.mg_of X G a3,
      f_is_box := f4, d_is_box := _, F_is_box := fun_mk (st := s_is_box) l4 c4 k4, b_is_box := (fun_mk (st := s_is_box) l4 c4 k4).binds (ps := ["thing", "wide"]) fun _ _ _ _ _ _ us hl => match us, hl with | [_, _], _ => rfl, g_is_box := PySem.W.mg_of X G a4,
      f_holds := f5, d_holds := _, F_holds := fun_mk (st := s_holds) l5 c5 k5, b_holds := (fun_mk (st := s_holds) l5 c5 k5).binds (ps := ["box", "colour"]) fun _ _ _ _ _ _ us hl => match us, hl with | [_, _], _ => rfl, g_holds := PySem.W.mg_of X G a5,
      f_near_box := f6, d_near_box := _, F_near_box := fun_mk (st := s_near_box) l6 c6 k6, b_near_box := (fun_mk (st := s_near_box) l6 c6 k6).binds (ps := ["colour", "box"]) fun _ _ _ _ _ _ us hl => match us, hl with | [_, _], _ => rfl, g_near_box := PySem.W.mg_of X G a6,
      f_rank_of := f7, d_rank_of := _, F_rank_of := fun_mk (st := s_rank_of) l7 c7 k7, b_rank_of := (fun_mk (st := s_rank_of) l7 c7 k7).binds (ps := ["palette", "colour", "number"]) fun _ _ _ _ _ _ us hl => match us, hl with | [_, _, _], _ => rfl, g_rank_of := PySem.W.mg_of X G a7,
      f_are_some := f8, d_are_some := _, F_are_some := fun_mk (st := s_are_some) l8 c8 k8, b_are_some := (fun_mk (st := s_are_some) l8 c8 k8).binds (ps := ["palette", "numbers"]) fun _ _ _ _ _ _ us hl => match us, hl with | [_, _], _ => rfl, g_are_some := PySem.W.mg_of X G a8,
      f_is_passed := f9, d_is_passed := _, F_is_passed := fun_mk (st := s_is_passed) l9 c9 k9, b_is_passed := (fun_mk (st := s_is_passed) l9 c9 k9).binds (ps := ["palette", "thing"]) fun _ _ _ _ _ _ us hl => match us, hl with | [_, _], _ => rfl, g_is_passed := PySem.W.mg_of X G a9,
      f_is_paper := f10, d_is_paper := _, F_is_paper := fun_mk (st := s_is_paper) l10 c10 k10, b_is_paper := (fun_mk (st := s_is_paper) l10 c10 k10).binds (ps := ["palette", "thing"]) fun _ _ _ _ _ _ us hl => match us, hl with | [_, _], _ => rfl, g_is_paper := PySem.W.mg_of X G a10,
      f_is_behind := f11, d_is_behind := _, F_is_behind := fun_mk (st := s_is_behind) l11 c11 k11, b_is_behind := (fun_mk (st := s_is_behind) l11 c11 k11).binds (ps := ["palette", "colour", "told", "box", "numbers"]) fun _ _ _ _ _ _ us hl => match us, hl with | [_, _, _, _, _], _ => rfl, g_is_behind := PySem.W.mg_of X G a11,
      f_shows_nearest := f12, d_shows_nearest := _, F_shows_nearest := fun_mk (st := s_shows_nearest) l12 c12 k12, b_shows_nearest := (fun_mk (st := s_shows_nearest) l12 c12 k12).binds (ps := ["palette", "colour", "number", "paper"]) fun _ _ _ _ _ _ us hl => match us, hl with | [_, _, _, _], _ => rfl, g_shows_nearest := PySem.W.mg_of X G a12,
      f_l_mix := f13, d_l_mix := _, F_l_mix := fun_mk (st := s_l_mix) l13 c13 k13, b_l_mix := (fun_mk (st := s_l_mix) l13 c13 k13).binds (ps := ["_law_cell", "_law_k"]) fun _ _ _ _ _ _ us hl => match us, hl with | [_, _], _ => rfl, g_l_mix := PySem.W.mg_of X G a13,
      f_l_left := f14, d_l_left := _, F_l_left := fun_mk (st := s_l_left) l14 c14 k14, b_l_left := (fun_mk (st := s_l_left) l14 c14 k14).binds (ps := ["_law_script", "_law_k"]) fun _ _ _ _ _ _ us hl => match us, hl with | [_, _], _ => rfl, g_l_left := PySem.W.mg_of X G a14,
      f_l_pick := f15, d_l_pick := _, F_l_pick := fun_mk (st := s_l_pick) l15 c15 k15, b_l_pick := (fun_mk (st := s_l_pick) l15 c15 k15).binds (ps := ["_law_left_here", "_law_many"]) fun _ _ _ _ _ _ us hl => match us, hl with | [_, _], _ => rfl, g_l_pick := PySem.W.mg_of X G a15,
      f_l_kind := f16, d_l_kind := _, F_l_kind := fun_mk (st := s_l_kind) l16 c16 k16, b_l_kind := (fun_mk (st := s_l_kind) l16 c16 k16).binds (ps := ["_law_left_here"]) fun _ _ _ _ _ _ us hl => match us, hl with | [_], _ => rfl, g_l_kind := PySem.W.mg_of X G a16,
      f_l_colour := f17, d_l_colour := _, F_l_colour := fun_mk (st := s_l_colour) l17 c17 k17, b_l_colour := (fun_mk (st := s_l_colour) l17 c17 k17).binds (ps := ["_law_left_here", "_law_kind_here"]) fun _ _ _ _ _ _ us hl => match us, hl with | [_, _], _ => rfl, g_l_colour := PySem.W.mg_of X G a17,
      f_l_palette := f18, d_l_palette := _, F_l_palette := fun_mk (st := s_l_palette) l18 c18 k18, b_l_palette := (fun_mk (st := s_l_palette) l18 c18 k18).binds (ps := ["_law_left_here", "_law_kind_here"]) fun _ _ _ _ _ _ us hl => match us, hl with | [_, _], _ => rfl, g_l_palette := PySem.W.mg_of X G a18,
      f_l_asked := f19, d_l_asked := _, F_l_asked := fun_mk (st := s_l_asked) l19 c19 k19, b_l_asked := (fun_mk (st := s_l_asked) l19 c19 k19).binds (ps := ["_law_left_here", "_law_kind_here", "_law_palette_here"]) fun _ _ _ _ _ _ us hl => match us, hl with | [_, _, _], _ => rfl, g_l_asked := PySem.W.mg_of X G a19,
      f_l_apart := f20, d_l_apart := _, F_l_apart := fun_mk (st := s_l_apart) l20 c20 k20, b_l_apart := (fun_mk (st := s_l_apart) l20 c20 k20).binds (ps := ["_law_one", "_law_other"]) fun _ _ _ _ _ _ us hl => match us, hl with | [_, _], _ => rfl, g_l_apart := PySem.W.mg_of X G a20,
      f_l_nearest := f21, d_l_nearest := _, F_l_nearest := fun_mk (st := s_l_nearest) l21 c21 k21, b_l_nearest := (fun_mk (st := s_l_nearest) l21 c21 k21).binds (ps := ["_law_palette_here", "_law_colour_here"]) fun _ _ _ _ _ _ us hl => match us, hl with | [_, _], _ => rfl, g_l_nearest := PySem.W.mg_of X G a21,
      f_l_shuffled := f22, d_l_shuffled := _, F_l_shuffled := fun_mk (st := s_l_shuffled) l22 c22 k22, b_l_shuffled := (fun_mk (st := s_l_shuffled) l22 c22 k22).binds (ps := ["_law_left_here", "_law_some"]) fun _ _ _ _ _ _ us hl => match us, hl with | [_, _], _ => rfl, g_l_shuffled := PySem.W.mg_of X G a22,
      f_l_box := f23, d_l_box := _, F_l_box := fun_mk (st := s_l_box) l23 c23 k23, b_l_box := (fun_mk (st := s_l_box) l23 c23 k23).binds (ps := ["_law_colours"]) fun _ _ _ _ _ _ us hl => match us, hl with | [_], _ => rfl, g_l_box := PySem.W.mg_of X G a23,
      f_l_near := f24, d_l_near := _, F_l_near := fun_mk (st := s_l_near) l24 c24 k24, b_l_near := (fun_mk (st := s_l_near) l24 c24 k24).binds (ps := ["_law_colour_here", "_law_box_here"]) fun _ _ _ _ _ _ us hl => match us, hl with | [_, _], _ => rfl, g_l_near := PySem.W.mg_of X G a24,
      f_l_all_of := f25, d_l_all_of := _, F_l_all_of := fun_mk (st := s_l_all_of) l25 c25 k25, b_l_all_of := (fun_mk (st := s_l_all_of) l25 c25 k25).binds (ps := ["_law_palette_here"]) fun _ _ _ _ _ _ us hl => match us, hl with | [_], _ => rfl, g_l_all_of := PySem.W.mg_of X G a25,
      f_l_turns := f26, d_l_turns := _, F_l_turns := fun_mk (st := s_l_turns) l26 c26 k26, b_l_turns := (fun_mk (st := s_l_turns) l26 c26 k26).binds (ps := ["_law_palette_here", "_law_colour_here"]) fun _ _ _ _ _ _ us hl => match us, hl with | [_, _], _ => rfl, g_l_turns := PySem.W.mg_of X G a26,
      f_l_paper_made := f27, d_l_paper_made := _, F_l_paper_made := fun_mk (st := s_l_paper_made) l27 c27 k27, b_l_paper_made := (fun_mk (st := s_l_paper_made) l27 c27 k27).binds (ps := ["_law_left_here", "_law_palette_here", "_law_colour_here", "_law_number"]) fun _ _ _ _ _ _ us hl => match us, hl with | [_, _, _, _], _ => rfl, g_l_paper_made := PySem.W.mg_of X G a27,
      f_l_as_due := f28, d_l_as_due := _, F_l_as_due := fun_mk (st := s_l_as_due) l28 c28 k28, b_l_as_due := (fun_mk (st := s_l_as_due) l28 c28 k28).binds (ps := ["_law_palette_here", "_law_colour_here", "_law_number", "_law_paper", "_law_due"]) fun _ _ _ _ _ _ us hl => match us, hl with | [_, _, _, _, _], _ => rfl, g_l_as_due := PySem.W.mg_of X G a28,
      f_l_ties_right := f29, d_l_ties_right := _, F_l_ties_right := fun_mk (st := s_l_ties_right) l29 c29 k29, b_l_ties_right := (fun_mk (st := s_l_ties_right) l29 c29 k29).binds (ps := ["_law_palette_here", "_law_colour_here"]) fun _ _ _ _ _ _ us hl => match us, hl with | [_, _], _ => rfl, g_l_ties_right := PySem.W.mg_of X G a29,
      z_abs := PySem.W.mg_none_of X G z_abs,
      z_all := PySem.W.mg_none_of X G z_all,
      z_bool := PySem.W.mg_none_of X G z_bool,
      z_enumerate := PySem.W.mg_none_of X G z_enumerate,
      z_int := PySem.W.mg_none_of X G z_int,
      z_isinstance := PySem.W.mg_none_of X G z_isinstance,
      z_len := PySem.W.mg_none_of X G z_len,
      z_list := PySem.W.mg_none_of X G z_list,
      z_max := PySem.W.mg_none_of X G z_max,
      z_min := PySem.W.mg_none_of X G z_min,
      z_range := PySem.W.mg_none_of X G z_range,
      z_sorted := PySem.W.mg_none_of X G z_sorted,
      z_str := PySem.W.mg_none_of X G z_str,
      z_sum := PySem.W.mg_none_of X G z_sum,
      z_tuple := PySem.W.mg_none_of X G z_tuple,
      z_zip := PySem.W.mg_none_of X G z_zip } (fun_mk (st := s_law) l30 c30 k30) (by decide)⟩
end Z
open PySem PySem.W PyProof.Rows
set_option maxHeartbeats 0 in
theorem PySem.Challenge.cw_fewcolours_k22_papers_of_the_nearest_holds : PySem.Challenge.rw_fewcolours_k22_papers_of_the_nearest.Holds := by
  w_on; o_law; k_head; (case hw => w_witness2)
  k_fill
  refine Z.walk_of2 (l := PySem.Challenge.rw_fewcolours_k22_papers_of_the_nearest) (n := 63) (k := 9) (x := "_law_script") (sp := fun w => Z.spLaw _) rfl (by decide) rfl ⟨rfl, by decide, by decide⟩ (fun w h Y => PySem.W.kIn_of Y) ?F (fun _ _ a ns hl _ hS => ⟨a, ns, rfl, hS, hl, fun _ => rfl⟩)
  case F =>
    intro w mg fa h KX G hmg
    refine' Z.all_mk KX G hmg ?a0 ?l0 ?c0 ?k0 ?a1 ?l1 ?c1 ?k1 ?a2 ?l2 ?c2 ?k2 ?a3 ?l3 ?c3 ?k3 ?a4 ?l4 ?c4 ?k4 ?a5 ?l5 ?c5 ?k5 ?a6 ?l6 ?c6 ?k6 ?a7 ?l7 ?c7 ?k7 ?a8 ?l8 ?c8 ?k8 ?a9 ?l9 ?c9 ?k9 ?a10 ?l10 ?c10 ?k10 ?a11 ?l11 ?c11 ?k11 ?a12 ?l12 ?c12 ?k12 ?a13 ?l13 ?c13 ?k13 ?a14 ?l14 ?c14 ?k14 ?a15 ?l15 ?c15 ?k15 ?a16 ?l16 ?c16 ?k16 ?a17 ?l17 ?c17 ?k17 ?a18 ?l18 ?c18 ?k18 ?a19 ?l19 ?c19 ?k19 ?a20 ?l20 ?c20 ?k20 ?a21 ?l21 ?c21 ?k21 ?a22 ?l22 ?c22 ?k22 ?a23 ?l23 ?c23 ?k23 ?a24 ?l24 ?c24 ?k24 ?a25 ?l25 ?c25 ?k25 ?a26 ?l26 ?c26 ?k26 ?a27 ?l27 ?c27 ?k27 ?a28 ?l28 ?c28 ?k28 ?a29 ?l29 ?c29 ?k29 ?a30 ?l30 ?c30 ?k30 ?z_abs ?z_all ?z_bool ?z_enumerate ?z_int ?z_isinstance ?z_len ?z_list ?z_max ?z_min ?z_range ?z_sorted ?z_str ?z_sum ?z_tuple ?z_zip
    case a0 => k_is
    case l0 => k_is
    case c0 => k_is
    case k0 => k_is
    case a1 => k_is
    case l1 => k_is
    case c1 => k_is
    case k1 => k_is
    case a2 => k_is
    case l2 => k_is
    case c2 => k_is
    case k2 => k_is
    case a3 => k_is
    case l3 => k_is
    case c3 => k_is
    case k3 => k_is
    case a4 => k_is
    case l4 => k_is
    case c4 => k_is
    case k4 => k_is
    case a5 => k_is
    case l5 => k_is
    case c5 => k_is
    case k5 => k_is
    case a6 => k_is
    case l6 => k_is
    case c6 => k_is
    case k6 => k_is
    case a7 => k_is
    case l7 => k_is
    case c7 => k_is
    case k7 => k_is
    case a8 => k_is
    case l8 => k_is
    case c8 => k_is
    case k8 => k_is
    case a9 => k_is
    case l9 => k_is
    case c9 => k_is
    case k9 => k_is
    case a10 => k_is
    case l10 => k_is
    case c10 => k_is
    case k10 => k_is
    case a11 => k_is
    case l11 => k_is
    case c11 => k_is
    case k11 => k_is
    case a12 => k_is
    case l12 => k_is
    case c12 => k_is
    case k12 => k_is
    case a13 => k_is
    case l13 => k_is
    case c13 => k_is
    case k13 => k_is
    case a14 => k_is
    case l14 => k_is
    case c14 => k_is
    case k14 => k_is
    case a15 => k_is
    case l15 => k_is
    case c15 => k_is
    case k15 => k_is
    case a16 => k_is
    case l16 => k_is
    case c16 => k_is
    case k16 => k_is
    case a17 => k_is
    case l17 => k_is
    case c17 => k_is
    case k17 => k_is
    case a18 => k_is
    case l18 => k_is
    case c18 => k_is
    case k18 => k_is
    case a19 => k_is
    case l19 => k_is
    case c19 => k_is
    case k19 => k_is
    case a20 => k_is
    case l20 => k_is
    case c20 => k_is
    case k20 => k_is
    case a21 => k_is
    case l21 => k_is
    case c21 => k_is
    case k21 => k_is
    case a22 => k_is
    case l22 => k_is
    case c22 => k_is
    case k22 => k_is
    case a23 => k_is
    case l23 => k_is
    case c23 => k_is
    case k23 => k_is
    case a24 => k_is
    case l24 => k_is
    case c24 => k_is
    case k24 => k_is
    case a25 => k_is
    case l25 => k_is
    case c25 => k_is
    case k25 => k_is
    case a26 => k_is
    case l26 => k_is
    case c26 => k_is
    case k26 => k_is
    case a27 => k_is
    case l27 => k_is
    case c27 => k_is
    case k27 => k_is
    case a28 => k_is
    case l28 => k_is
    case c28 => k_is
    case k28 => k_is
    case a29 => k_is
    case l29 => k_is
    case c29 => k_is
    case k29 => k_is
    case a30 => k_is
    case l30 => k_is
    case c30 => k_is
    case k30 => k_is
    case z_abs => k_is
    case z_all => k_is
    case z_bool => k_is
    case z_enumerate => k_is
    case z_int => k_is
    case z_isinstance => k_is
    case z_len => k_is
    case z_list => k_is
    case z_max => k_is
    case z_min => k_is
    case z_range => k_is
    case z_sorted => k_is
    case z_str => k_is
    case z_sum => k_is
    case z_tuple => k_is
    case z_zip => k_is

